import PyProof.Rows.All
import Wide.All
import OpenK.AllK
import Wide.FinOn
import Lean
import PyProof.EqAt
import PyProof.EqKinds
import PyProof.TupleCall
import PyProof.ZipIter
import PyProof.TupleIter
import PyProof.WalksMore
import PyProof.EnumMake
import PyProof.Draws
import PyProof.P3In
import KE.KSortTup
import PyProof.Rows.SortWalk
import KE.IntBitsLaws
import KE.KRevIter
import PyProof.TupleOfGen
import PySem.Challenge.RW_tokenmoor_k88_whole_never_wrongly_no
open PySem.W (Frag)
set_option Elab.async false
set_option linter.all false
def ox {p:Prop}(h:p:=by omega):p:=h
def Zo {p:Prop}(h:p:=by rfl):p:=h
def Zq {p:Prop}(h:p:=by trivial):p:=h
def Zz {p:Prop}(h:p:=by decide):p:=h
def Zy {p:Prop}(h:p:=by simp):p:=h
def Zj {p:Prop}(h:p:=by kernel_rfl):p:=h
def Zv {p:Prop}(h:p:=by decide +kernel):p:=h
abbrev JZ:=List (PySem.Addr×PySem.Obj)
abbrev JV:=PySem.Str->Option PySem.Value
abbrev JW:=List (Option Int)
abbrev JX:=Option Int
abbrev JY:=List PySem.Value
abbrev Vq:=List PySem.Str
abbrev Vz:=List PySem.Expr
abbrev Vj:=Array PySem.Value
abbrev Vv:=PySem.Value->PySem.Shared->Prop
abbrev Vw:=List (List Int)
abbrev Vk:=List Int
abbrev Vx:=Nat->Int
abbrev Vy:=List Nat
def qP9:=@PySem.wpAny_pure
def qQ0:=@decide_eq_true
def qQ1:=@decide_eq_false
def qQ2:=@if_true
def qQ3:=@of_decide_eq_true
def qQ4:=@if_false
def qQ5:=@PySem.wpAny_field
def qQ6:=@PySem.wpAny_Call_Name_kw
def qQ7:=@PySem.wpAny_callSpecial?_slot
def qQ8:=@PySem.wpAny_newObj_type
def qQ9:=@of_decide_eq_false
def qR0:=@PySem.wpAny_truthy_bool
def qR1:=@PySem.wpAny_holding
def qR2:=@PySem.wpAny_call_entry
def qR3:=@PySem.wpAny_seqItems
def qR4:=@PySem.wpAny_passesOwn
def qR5:=@List.pairwise_iff_getElem
def qR6:=@PySem.wpAny_rule
def qR7:=@PySem.wpAny_setField_rec
def qR8:=@or_false
def qR9:=@PySem.wpAny_pyIter_list
def qS0:=@List.mem_iff_getElem?
def qS1:=@PySem.wpAny_mono
def qS2:=@List.mem_flatMap
def qS3:=@Array.toList_setIfInBounds
def qS4:=@List.getElem?_take_eq_none
def qS5:=@List.findIdx?_eq_none_iff
def qS6:=@PySem.F.args_tuple_add_2
def qS7:=@List.pairwise_cons
def qS8:=@PySem.wpAny_pyIter_tuple
def qS9:=@decide_eq_true_iff
def qT0:=@Nat.succ_add_eq_add_succ
def qT1:=@PySem.F.entry_tuple_add
def qT2:=@PySem.F.plainAttrs_list
def qT3:=@List.getElem?_cons_succ
def qT4:=@PySem.sizeLine_eq
def qT5:=@PySem.F.slot_tuple_add
def qT6:=@PySem.Heap.get?_update_other
def qT7:=@beq_self_eq_true
def qT8:=@List.take_succ_eq_append_getElem
def qT9:=@List.getElem?_reverse
def qU0:=@List.Perm.append_left
def qU1:=@PySem.wpAny_execs_nil
def qU2:=@List.nodup_cons
def qU3:=@PySem.F.slot_zip_next
def qU4:=@PySem.wpAny_pyIter_revIter
def qU5:=@Nat.add_le_add_right
def qU6:=@Array.toList_extract
def qU7:=@Int.zero_add
def qU8:=@Int.add_zero
def qU9:=@Nat.pow_lt_pow_right
def qV0:=@Int.emod_nonneg
def qV1:=@List.take_append_of_le_length
def qV2:=@Nat.sub_le_sub_left
def qV3:=@List.replicate_succ
def qV4:=@Bool.false_and
def qV6:=@List.forIn_nil
def qV7:=@PySem.wpAny_newTuple
def qV8:=@Int.mul_nonneg
def qV9:=@Int.natAbs_pos
def qW0:=@Nat.one_mul
def qW1:=@Nat.add_mul
def qW3:=@Array.getD_eq_getD_getElem?
def qW4:=@List.length_mapIdx
def qW5:=@Nat.lt_of_le_of_ne
def qW6:=@Nat.one_le_two_pow
def qW7:=@Nat.eq_zero_or_pos
def qW9:=@List.any_cons
def qX0:=@Array.perm_iff_toList_perm
def qX1:=@Nat.mul_assoc
def qX2:=@Nat.sub_pos_of_lt
def qX3:=@List.reverse_perm
def qX4:=@Int.natAbs_add_le
def qX5:=@PySem.noFill_tuple_add
def qX6:=@PySem.wpAny_typeOf
def qX7:=@List.zipIdx_cons
def qX8:=@Array.size_setIfInBounds
def qY0:=@List.mem_reverse
def qY1:=@Array.toList_inj
def qY2:=@List.Pairwise.imp_of_mem
def qY3:=@decide_eq_decide
def qY4:=@List.filter_cons
def qY5:=@Nat.mul_comm
def qY6:=@List.length_eq_zero_iff
def qY7:=@PySem.F.slot_list_index
def qY8:=@Nat.add_sub_cancel_left
def qY9:=@List.of_mem_zip
def qZ1:=@List.range_succ
def qZ2:=@Int.mul_eq_zero
def xA6:=@List.drop_zero
def xA8:=@List.drop_drop
def xB1:=@Int.natAbs_neg
def xB7:=@Int.not_lt
def xC2:=@Bool.or_false
def xC3:=@Bool.false_or
def xC5:=@Bool.not_true
def qA0:=@List.getD_eq_getElem?_getD
def qA1:=@PySem.wpAny_bind
def qA2:=@if_pos
def qA3:=@Bool.false_ne_true
def qA4:=@if_neg
def qA5:=@Nat.le_trans
def qA6:=@PySem.Heap.get?_push_of_some
def qA7:=@List.length_map
def qA8:=@List.getElem?_eq_getElem
def qA9:=@List.getElem?_eq_some_iff
def qB0:=@List.mem_cons_of_mem
def qB1:=@List.mem_map
def qB2:=@Nat.le_refl
def qB3:=@Nat.lt_of_lt_of_le
def qB4:=@PySem.Heap.lt_size
def qB5:=@List.mem_cons
def qB6:=@List.size_toArray
def qB7:=@List.getElem?_set_ne
def qB8:=@List.mem_cons_self
def qB9:=@List.map_cons
def qC0:=@List.getElem?_map
def qC1:=@PySem.Heap.get?_push_size
def qC2:=@PySem.PassesOwn.never
def qC3:=@List.length_append
def qC4:=@List.mem_singleton
def qC5:=@List.map_map
def qC6:=@Nat.zero_le
def qC7:=@PySem.boot_len
def qC8:=@List.mem_append
def qC9:=@List.map_append
def qD0:=@List.getElem?_set
def qD1:=@List.length_cons
def qD2:=@Int.mul_assoc
def qD3:=@Nat.not_lt_zero
def qD4:=@Nat.lt_of_le_of_lt
def qD5:=@List.any_eq_true
def qD6:=@Nat.ne_of_lt
def qD7:=@Bool.false_eq_true
def qD8:=@List.not_mem_nil
def qD9:=@Int.mul_comm
def qE0:=@Nat.add_sub_cancel'
def qE1:=@List.mem_append_left
def qE2:=@List.mem_iff_getElem
def qE3:=@List.mem_append_right
def qE4:=@Nat.le_add_right
def qE5:=@Array.length_toList
def qE6:=@List.pairwise_append
def qE7:=@PyProof.Rows.boot_isinstance
def qE8:=@List.getElem?_append_left
def qE9:=@Nat.add_le_add_left
def qF0:=@List.drop_eq_nil_of_le
def qF1:=@Nat.lt_irrefl
def qF2:=@List.length_set
def qF3:=@List.append_assoc
def qF4:=@PyProof.Rows.callWith_type1
def qF5:=@List.length_range
def qF6:=@List.length_take
def qF7:=@Array.toList_append
def qF8:=@Int.toNat_natCast
def qF9:=@Option.some.injEq
def qG0:=@List.getElem?_replicate
def qG1:=@List.mem_range
def qG2:=@List.append_nil
def qG3:=@List.mem_of_getElem?
def qG4:=@List.getElem?_drop
def qG5:=@Bool.and_eq_true
def qG6:=@List.length_singleton
def qG7:=@Nat.mul_le_mul
def qG8:=@List.mem_filter
def qG9:=@PySem.W.kia_one
def qH0:=@Int.le_refl
def qH1:=@List.length_drop
def qH2:=@Nat.succ_le_succ
def qH3:=@List.getElem?_append_right
def qH4:=@Int.natAbs_mul
def qH5:=@Nat.lt_trichotomy
def qH6:=@Nat.mul_le_mul_left
def qH7:=@Bool.eq_iff_iff
def qH8:=@Nat.sub_le
def qH9:=@List.getElem?_take_of_lt
def qI0:=@Nat.min_le_right
def qI1:=@List.all_eq_true
def qI2:=@PySem.AutoSeq1.wpAny_loadPart'
def qI3:=@Nat.pow_le_pow_right
def qI4:=@List.pairwise_singleton
def qI5:=@Nat.add_sub_assoc
def qI6:=@List.filterMap_cons
def qI7:=@PySem.mem_of_lookup
def qI8:=@Nat.le_of_lt
def qI9:=@List.findIdx?_eq_some_iff_getElem
def qJ0:=@Int.zero_mul
def qJ1:=@Nat.sub_lt
def qJ2:=@Nat.add_assoc
def qJ3:=@List.getElem?_eq_none
def qJ4:=@List.take_append_drop
def qJ5:=@List.drop_eq_getElem_cons
def qJ6:=@List.extract_eq_take_drop
def qJ7:=@PyProof.Rows.slot_tuple_getitem
def qJ8:=@List.mem_of_mem_drop
def qJ9:=@List.pairwise_map
def qK0:=@Array.toList_push
def qK1:=@List.getElem_mem
def qK2:=@List.take_length
def qK3:=@List.ext_getElem
def qK4:=@List.getElem?_set_self
def qK5:=@List.take_of_length_le
def qK6:=@Int.neg_mul
def qK7:=@Nat.le_of_eq
def qK8:=@PySem.Heap.get?_update_self
def qK9:=@Nat.min_le_left
def qL0:=@List.getElem?_zipWith
def qL1:=@Nat.add_lt_of_lt_sub'
def qL2:=@PySem.F.slot_tuple_iterator_next
def qL3:=@Nat.lt_succ_of_lt
def qL4:=@Nat.le_pred_of_lt
def qL5:=@Nat.le_of_lt_succ
def qL6:=@Nat.sub_lt_left_of_lt_add
def qL7:=@Nat.mul_le_mul_right
def qL8:=@Int.mul_add
def qL9:=@List.take_succ
def qM0:=@List.lookup_cons
def qM1:=@Nat.lt_succ_self
def qM2:=@Int.mul_zero
def qM3:=@List.length_reverse
def qM4:=@List.map_congr_left
def qM5:=@List.getElem_of_mem
def qM6:=@Bool.true_and
def qM7:=@Bool.and_self
def qM8:=@List.find?_cons
def qM9:=@List.length_nil
def qN0:=@List.forIn_cons
def qN1:=@Int.lt_or_gt_of_ne
def qN2:=@Int.sub_mul
def qN3:=@Int.add_mul
def qN4:=@List.reverse_cons
def qN5:=@List.map_nil
def qN6:=@PySem.Heap.size_push
def qN7:=@Nat.add_comm
def qN8:=@Array.getElem?_toList
def qN9:=@Nat.zero_add
def qO0:=@List.length_filter_le
def qO1:=@List.cons_append
def qO2:=@Bool.and_true
def qO3:=@Nat.pow_add
def qO4:=@PySem.Heap.SameBut.update
def qO5:=@Nat.min_eq_left
def qO6:=@List.nil_append
def qO7:=@Nat.ne_of_gt
def qO8:=@Bool.or_true
def qO9:=@Nat.add_right_comm
def qP0:=@Nat.add_zero
def qP1:=@Nat.pos_of_ne_zero
def qP2:=@Int.emod_lt_of_pos
def qP3:=@List.any_eq_false
def qP4:=@List.ext_getElem?
def qP5:=@Nat.lt_of_succ_lt
def qP6:=@Int.mul_sub
def qP7:=@Nat.lt_of_not_le
def qP8:=@Nat.not_le_of_lt
set_option maxRecDepth 100000
theorem Z1 (a:p)(b:q):p/\q:=⟨a,b⟩
noncomputable section
namespace L2
open PySem PySem.Spec PyProof.Rows
def R3 (s:Stmt):Arguments:=match s with
 | .FunctionDef _ a _ _ _ _ _ _ _ _=>a
 |_=>{ posonlyargs:=[],args:=[],vararg:=none,kwonlyargs:=[],kw_defaults:=[],kwarg:=none,defaults:=[] }
def J9 (s:Stmt):List Stmt:=match s with
 | .FunctionDef _ _ b _ _ _ _ _ _ _=>b
 |_=>[]
def b9 (s:Stmt):Scope:=match s with
 | .FunctionDef _ _ _ _ _ _ sc _ _ _=>sc
 |_=>{ kind:=.function,names:=[],isGenerator:=false,isCoroutine:=false }
end L2
namespace K88
open PySem L2 PySem.W PyProof.Rows
def top (i:Nat):Stmt:=PySem.Challenge.pw_tokenmoor_k88_whole_never_wrongly_no.main.body.getD i (.Pass ⟨0,0,0,0⟩)
abbrev hxS (s:String)(t:Nat):Value:=.str (Str.ofString s) t
abbrev hxI (i:Int):Value:=.int i 0
abbrev hxO (c:String)(d:Data):Obj:=⟨.type c,none,d,#[]⟩
abbrev hxE (P:Params)(s:String)(t:Nat)(v:Value):DictEntry:=⟨PyData.keyHash P (Str.ofString s),.str (Str.ofString s) t,v⟩
abbrev hxF (n q:String)(st:Stmt)(I kV doc pm:Value)(an:Option Addr)(cd ct:Value):Data:=.func (PySem.W.fnOf (Str.ofString n) (Str.ofString q) (R3 st) (J9 st) (b9 st) I kV doc pm an cd ct)
abbrev hxG (n:String)(i:Nat)(pm:Value)(c:Nat):Obj:=hxO "function" (hxF n n (top i) .none .none .none pm none (.ref c) .none)
abbrev hxD (n:String)(t:Nat) (l a:Int)(r8:Nat)(a7:Nat)(I a6:Value)(a3:Nat) (a5:Int)(a4:Nat):Data:=.fields #[.str (Str.ofString n) t,.str (Str.ofString n) (t+1),.str (Str.ofString "/claim/cut.py") (t+2),hxI l,hxI a,hxI 0,hxI 0,hxI 3,.ref r8,.bool true,hxI 181,.ref a7,.none,I,a6,.ref a3,hxI a5,hxI l,.str (Str.ofString "/claim/cut.py") a4]
abbrev m9:Value:=hxS "law_tokenmoor_k88_whole_never_wrongly_no" 576
abbrev T7:Value:=hxS "tokenmoor.backs" 310
abbrev D9:Value:=hxS "tokenmoor.balances" 369
abbrev K1:Value:=hxS "tokenmoor.bases" 264
abbrev iR:Value:=hxS "tokenmoor.climbs" 437
abbrev xf:Value:=hxS "tokenmoor.crowns" 425
abbrev T6:Value:=hxS "tokenmoor.floods" 453
abbrev T4:Value:=hxS "tokenmoor.moors" 232
abbrev N1:Value:=hxS "tokenmoor.reasons" 527
abbrev N0:Value:=hxS "tokenmoor.sets" 489
abbrev qu:Value:=hxS "tokenmoor.walks" 353
abbrev qr:Value:=hxS "tokenmoor.weights" 361
@[irreducible] def uk:Params->Frag:=λP=>
 (nat_lit 2,⟨.none,none,(.dict #[] 0),#[]⟩) ::
 (nat_lit 3,hxO "dict" (.dict #[hxE P "__name__" 165 (hxS "law_tokenmoor_k88_whole_never_wrongly_no" 576),hxE P "__doc__" 166 .none,hxE P "__package__" 167 .none,hxE P "__loader__" 168 (.builtin "__main__.__loader__#opaque"),hxE P "__spec__" 169 .none,hxE P "__annotations__" 170 (.ref 6),hxE P "__builtins__" 171 (.ref 4),hxE P "__file__" 173 (hxS "/claim/cut.py" 172),hxE P "__cached__" 174 .none,hxE P "MoorError" 206 (.ref 24),hxE P "Stuck" 231 (.ref 44),hxE P "covers" 243 (.ref 53),hxE P "able" 251 (.ref 60),hxE P "after" 257 (.ref 65),hxE P "change" 263 (.ref 70),hxE P "least" 274 (.ref 77),hxE P "lifted" 283 (.ref 84),hxE P "source" 289 (.ref 89),hxE P "sources" 295 (.ref 94),hxE P "step_back" 303 (.ref 101),hxE P "is_shut" 309 (.ref 106),hxE P "cover" 322 (.ref 113),hxE P "ending" 334 (.ref 120),hxE P "row_inward" 346 (.ref 127),hxE P "moves_into" 352 (.ref 132),hxE P "shifted" 360 (.ref 137),hxE P "weigh" 368 (.ref 142),hxE P "balances" 376 (.ref 147),hxE P "unit" 382 (.ref 152),hxE P "neat" 388 (.ref 157),hxE P "gathered" 399 (.ref 164),hxE P "divided" 409 (.ref 171),hxE P "upright" 415 (.ref 176),hxE P "lowered" 424 (.ref 183),hxE P "way_back" 436 (.ref 190),hxE P "way" 446 (.ref 197),hxE P "row_between" 452 (.ref 202),hxE P "flood" 468 (.ref 209),hxE P "stands_behind" 474 (.ref 214),hxE P "stands_in" 480 (.ref 219),hxE P "row_to" 488 (.ref 226),hxE P "breaks_dry" 500 (.ref 233),hxE P "touches" 506 (.ref 238),hxE P "greatest_dry" 512 (.ref 243),hxE P "greatest_wet" 520 (.ref 250),hxE P "turned" 526 (.ref 255),hxE P "reached" 540 (.ref 262),hxE P "unlike_balance" 549 (.ref 269),hxE P "kept_out" 559 (.ref 276),hxE P "empty_places" 565 (.ref 281),hxE P "walled_off" 575 (.ref 288),hxE P "_law_cell" 586 (.ref 295),hxE P "_law_move" 592 (.ref 300),hxE P "_law_covers" 601 (.ref 307),hxE P "_law_behind" 607 (.ref 312),hxE P "_law_drawn" 613 (.ref 317),hxE P "_law_end" 623 (.ref 324),hxE P "_law_yes" 633 (.ref 331),hxE P "_law_weigh" 639 (.ref 336),hxE P "_law_all" 651 (.ref 343),hxE P "_law_balance" 662 (.ref 350),hxE P "_law_stays" 668 (.ref 355),hxE P "_law_lifted" 674 (.ref 360),hxE P "_law_fence" 680 (.ref 365),hxE P "_law_no" 690 (.ref 372),hxE P "_law_other" 700 (.ref 379),hxE P "law" 706 (.ref 384)] 67)) ::
 (nat_lit 15,hxO "tuple" (.seq #[(.type "ValueError")] 0)) ::
 (nat_lit 22,hxO "tuple" (.seq #[] 0)) ::
 (nat_lit 23,hxO "dict" (.dict #[hxE P "__module__" 196 (hxS "tokenmoor.errors" 187),hxE P "__firstlineno__" 200 (.int 2 199),hxE P "__static_attributes__" 201 (.ref 22),hxE P "__weakref__" 203 (.ref 25),hxE P "__doc__" 204 .none] 3)) ::
 (nat_lit 25,hxO "getset_descriptor" (.fields #[(hxS "__weakref__" 202),(.ref 24),(.builtin "ExceptionGroup.__weakref__"),.none])) ::
 (nat_lit 28,hxO "tuple" (.seq #[(.ref 24)] 0)) ::
 (nat_lit 40,hxO "code" (.fields #[(hxS "__init__" 219),(hxS "Stuck.__init__" 220),(hxS "/claim/cut.py" 221),(hxI 6),(hxI 2),(hxI 0),(hxI 0),(hxI 3),(.ref 35),(.bool true),(hxI 181),(.ref 36),.none,(.ref 37),(.ref 38),(.ref 39),(hxI 224),(hxI 6),(hxS "/claim/cut.py" 225)])) ::
 (nat_lit 42,hxO "tuple" (.seq #[(hxS "at" 227)] 0)) ::
 (nat_lit 43,hxO "dict" (.dict #[hxE P "__module__" 214 (hxS "tokenmoor.errors" 187),hxE P "__firstlineno__" 218 (.int 4 217),hxE P "__init__" 226 (.ref 41),hxE P "__static_attributes__" 228 (.ref 42),hxE P "__doc__" 229 .none] 2)) ::
 (nat_lit 52,hxO "code" (hxD "covers" 234 9 2 47 48 (.ref 49) (.ref 50) 51 241 242)) ::
 (nat_lit 53,hxG "covers" 4 T4 52) ::
 (nat_lit 59,hxO "code" (hxD "able" 244 14 2 54 55 (.ref 56) (.ref 57) 58 249 250)) ::
 (nat_lit 60,hxG "able" 5 T4 59) ::
 (nat_lit 64,hxO "code" (hxD "after" 252 16 2 61 62 .none .none 63 255 256)) ::
 (nat_lit 65,hxG "after" 6 T4 64) ::
 (nat_lit 69,hxO "code" (hxD "change" 258 20 1 66 67 .none .none 68 261 262)) ::
 (nat_lit 70,hxG "change" 7 T4 69) ::
 (nat_lit 76,hxO "code" (hxD "least" 266 23 1 71 72 (.ref 73) (.ref 74) 75 272 273)) ::
 (nat_lit 77,hxG "least" 9 K1 76) ::
 (nat_lit 83,hxO "code" (hxD "lifted" 275 29 2 78 79 (.ref 80) (.ref 81) 82 281 282)) ::
 (nat_lit 84,hxG "lifted" 10 K1 83) ::
 (nat_lit 88,hxO "code" (hxD "source" 284 34 2 85 86 .none .none 87 287 288)) ::
 (nat_lit 89,hxG "source" 11 K1 88) ::
 (nat_lit 93,hxO "code" (hxD "sources" 290 36 2 90 91 .none .none 92 293 294)) ::
 (nat_lit 94,hxG "sources" 12 K1 93) ::
 (nat_lit 100,hxO "code" (hxD "step_back" 296 41 2 95 96 (.ref 97) (.ref 98) 99 301 302)) ::
 (nat_lit 101,hxG "step_back" 13 K1 100) ::
 (nat_lit 105,hxO "code" (hxD "is_shut" 304 43 2 102 103 .none .none 104 307 308)) ::
 (nat_lit 106,hxG "is_shut" 14 K1 105) ::
 (nat_lit 112,hxO "code" (hxD "cover" 312 46 3 107 108 (.ref 109) (.ref 110) 111 320 321)) ::
 (nat_lit 113,hxG "cover" 16 T7 112) ::
 (nat_lit 119,hxO "code" (hxD "ending" 323 54 4 114 115 (.ref 116) (.ref 117) 118 332 333)) ::
 (nat_lit 120,hxG "ending" 17 T7 119) ::
 (nat_lit 126,hxO "code" (hxD "row_inward" 335 64 2 121 122 (.ref 123) (.ref 124) 125 344 345)) ::
 (nat_lit 127,hxG "row_inward" 18 T7 126) ::
 (nat_lit 131,hxO "code" (hxD "moves_into" 347 72 3 128 129 .none .none 130 350 351)) ::
 (nat_lit 132,hxG "moves_into" 19 T7 131) ::
 (nat_lit 136,hxO "code" (hxD "shifted" 355 75 3 133 134 .none .none 135 358 359)) ::
 (nat_lit 137,hxG "shifted" 21 qu 136) ::
 (nat_lit 141,hxO "code" (hxD "weigh" 363 78 2 138 139 .none .none 140 366 367)) ::
 (nat_lit 142,hxG "weigh" 23 qr 141) ::
 (nat_lit 146,hxO "code" (hxD "balances" 371 81 2 143 144 .none .none 145 374 375)) ::
 (nat_lit 147,hxG "balances" 25 D9 146) ::
 (nat_lit 151,hxO "code" (hxD "unit" 377 88 2 148 149 .none .none 150 380 381)) ::
 (nat_lit 152,hxG "unit" 26 D9 151) ::
 (nat_lit 156,hxO "code" (hxD "neat" 383 90 1 153 154 .none .none 155 386 387)) ::
 (nat_lit 157,hxG "neat" 27 D9 156) ::
 (nat_lit 163,hxO "code" (hxD "gathered" 389 102 2 158 159 (.ref 160) (.ref 161) 162 397 398)) ::
 (nat_lit 164,hxG "gathered" 28 D9 163) ::
 (nat_lit 170,hxO "code" (hxD "divided" 400 108 3 165 166 (.ref 167) (.ref 168) 169 407 408)) ::
 (nat_lit 171,hxG "divided" 29 D9 170) ::
 (nat_lit 175,hxO "code" (hxD "upright" 410 114 2 172 173 .none .none 174 413 414)) ::
 (nat_lit 176,hxG "upright" 30 D9 175) ::
 (nat_lit 182,hxO "code" (hxD "lowered" 416 116 3 177 178 (.ref 179) (.ref 180) 181 422 423)) ::
 (nat_lit 183,hxG "lowered" 31 D9 182) ::
 (nat_lit 189,hxO "code" (hxD "way_back" 427 119 2 184 185 (.ref 186) (.ref 187) 188 434 435)) ::
 (nat_lit 190,hxG "way_back" 33 xf 189) ::
 (nat_lit 196,hxO "code" (hxD "way" 439 127 2 191 192 (.ref 193) (.ref 194) 195 444 445)) ::
 (nat_lit 197,hxG "way" 35 iR 196) ::
 (nat_lit 201,hxO "code" (hxD "row_between" 447 129 3 198 199 .none .none 200 450 451)) ::
 (nat_lit 202,hxG "row_between" 36 iR 201) ::
 (nat_lit 208,hxO "code" (hxD "flood" 455 133 2 203 204 (.ref 205) (.ref 206) 207 466 467)) ::
 (nat_lit 209,hxG "flood" 38 T6 208) ::
 (nat_lit 213,hxO "code" (hxD "stands_behind" 469 148 2 210 211 .none .none 212 472 473)) ::
 (nat_lit 214,hxG "stands_behind" 39 T6 213) ::
 (nat_lit 218,hxO "code" (hxD "stands_in" 475 150 1 215 216 .none .none 217 478 479)) ::
 (nat_lit 219,hxG "stands_in" 40 T6 218) ::
 (nat_lit 225,hxO "code" (hxD "row_to" 481 152 2 220 221 (.ref 222) (.ref 223) 224 486 487)) ::
 (nat_lit 226,hxG "row_to" 41 T6 225) ::
 (nat_lit 232,hxO "code" (hxD "breaks_dry" 491 155 2 227 228 (.ref 229) (.ref 230) 231 498 499)) ::
 (nat_lit 233,hxG "breaks_dry" 43 N0 232) ::
 (nat_lit 237,hxO "code" (hxD "touches" 501 160 2 234 235 .none .none 236 504 505)) ::
 (nat_lit 238,hxG "touches" 44 N0 237) ::
 (nat_lit 242,hxO "code" (hxD "greatest_dry" 507 162 2 239 240 .none .none 241 510 511)) ::
 (nat_lit 243,hxG "greatest_dry" 45 N0 242) ::
 (nat_lit 249,hxO "code" (hxD "greatest_wet" 513 169 2 244 245 (.ref 246) (.ref 247) 248 518 519)) ::
 (nat_lit 250,hxG "greatest_wet" 46 N0 249) ::
 (nat_lit 254,hxO "code" (hxD "turned" 521 171 1 251 252 .none .none 253 524 525)) ::
 (nat_lit 255,hxG "turned" 47 N0 254) ::
 (nat_lit 261,hxO "code" (hxD "reached" 529 174 3 256 257 (.ref 258) (.ref 259) 260 538 539)) ::
 (nat_lit 262,hxG "reached" 49 N1 261) ::
 (nat_lit 268,hxO "code" (hxD "unlike_balance" 541 187 2 263 264 (.ref 265) (.ref 266) 267 547 548)) ::
 (nat_lit 269,hxG "unlike_balance" 50 N1 268) ::
 (nat_lit 275,hxO "code" (hxD "kept_out" 550 192 2 270 271 (.ref 272) (.ref 273) 274 557 558)) ::
 (nat_lit 276,hxG "kept_out" 51 N1 275) ::
 (nat_lit 280,hxO "code" (hxD "empty_places" 560 200 1 277 278 .none .none 279 563 564)) ::
 (nat_lit 281,hxG "empty_places" 52 N1 280) ::
 (nat_lit 287,hxO "code" (hxD "walled_off" 566 202 3 282 283 (.ref 284) (.ref 285) 286 573 574)) ::
 (nat_lit 288,hxG "walled_off" 53 N1 287) ::
 (nat_lit 294,hxO "code" (hxD "_law_cell" 578 206 2 289 290 (.ref 291) (.ref 292) 293 584 585)) ::
 (nat_lit 295,hxG "_law_cell" 55 m9 294) ::
 (nat_lit 299,hxO "code" (hxD "_law_move" 587 213 5 296 297 .none .none 298 590 591)) ::
 (nat_lit 300,hxG "_law_move" 56 m9 299) ::
 (nat_lit 306,hxO "code" (hxD "_law_covers" 593 226 2 301 302 (.ref 303) (.ref 304) 305 599 600)) ::
 (nat_lit 307,hxG "_law_covers" 57 m9 306) ::
 (nat_lit 311,hxO "code" (hxD "_law_behind" 602 231 2 308 309 .none .none 310 605 606)) ::
 (nat_lit 312,hxG "_law_behind" 58 m9 311) ::
 (nat_lit 316,hxO "code" (hxD "_law_drawn" 608 233 5 313 314 .none .none 315 611 612)) ::
 (nat_lit 317,hxG "_law_drawn" 59 m9 316) ::
 (nat_lit 323,hxO "code" (hxD "_law_end" 614 241 3 318 319 (.ref 320) (.ref 321) 322 621 622)) ::
 (nat_lit 324,hxG "_law_end" 60 m9 323) ::
 (nat_lit 330,hxO "code" (hxD "_law_yes" 624 251 4 325 326 (.ref 327) (.ref 328) 329 631 632)) ::
 (nat_lit 331,hxG "_law_yes" 61 m9 330) ::
 (nat_lit 335,hxO "code" (hxD "_law_weigh" 634 257 2 332 333 .none .none 334 637 638)) ::
 (nat_lit 336,hxG "_law_weigh" 62 m9 335) ::
 (nat_lit 342,hxO "code" (hxD "_law_all" 640 259 4 337 338 (.ref 339) (.ref 340) 341 649 650)) ::
 (nat_lit 343,hxG "_law_all" 63 m9 342) ::
 (nat_lit 349,hxO "code" (hxD "_law_balance" 652 267 4 344 345 (.ref 346) (.ref 347) 348 660 661)) ::
 (nat_lit 350,hxG "_law_balance" 64 m9 349) ::
 (nat_lit 354,hxO "code" (hxD "_law_stays" 663 274 5 351 352 .none .none 353 666 667)) ::
 (nat_lit 355,hxG "_law_stays" 65 m9 354) ::
 (nat_lit 359,hxO "code" (hxD "_law_lifted" 669 281 2 356 357 .none .none 358 672 673)) ::
 (nat_lit 360,hxG "_law_lifted" 66 m9 359) ::
 (nat_lit 364,hxO "code" (hxD "_law_fence" 675 283 4 361 362 .none .none 363 678 679)) ::
 (nat_lit 365,hxG "_law_fence" 67 m9 364) ::
 (nat_lit 371,hxO "code" (hxD "_law_no" 681 291 4 366 367 (.ref 368) (.ref 369) 370 688 689)) ::
 (nat_lit 372,hxG "_law_no" 68 m9 371) ::
 (nat_lit 378,hxO "code" (hxD "_law_other" 691 303 2 373 374 (.ref 375) (.ref 376) 377 698 699)) ::
 (nat_lit 379,hxG "_law_other" 69 m9 378) ::
 (nat_lit 383,hxO "code" (hxD "law" 701 308 1 380 381 .none .none 382 704 705)) ::
 (nat_lit 384,hxG "law" 70 m9 383) ::
 []
def hxas:List Addr:=[2,3,15,22,23,25,28,40,42,43,52,53,59,60,64,65,69,70,76,77,83,84,88,89,93,94,100,101,105,106,112,113,119,120,126,127,131,132,136,137,141,142,146,147,151,152,156,157,163,164,170,171,175,176,182,183,189,190,196,197,201,202,208,209,213,214,218,219,225,226,232,233,237,238,242,243,249,250,254,255,261,262,268,269,275,276,280,281,287,288,294,295,299,300,306,307,311,312,316,317,323,324,330,331,335,336,342,343,349,350,354,355,359,360,364,365,371,372,378,379,383,384]
def view:Program:={ PySem.Challenge.pw_tokenmoor_k88_whole_never_wrongly_no with main:={ PySem.Challenge.pw_tokenmoor_k88_whole_never_wrongly_no.main with body:=[1,2,4,5,6,7,9,10,11,12,13,14,16,17,18,19,21,23,25,26,27,28,29,30,31,33,35,36,38,39,40,41,43,44,45,46,47,49,50,51,52,53,55,56,57,58,59,60,61,62,63,64,65,66,67,68,69,70].map top } }
def hook:PySem.W.Hook:=PySem.W.kHook uk hxas (λ_=>by kernel_rfl)
theorem hl0:LeftO PySem.Challenge.rw_tokenmoor_k88_whole_never_wrongly_no.prog view [] (λs=>xlAt view [] s&&recOk [] s) hook.obs hook.val 4480:=by
  intro w;kernel_rfl
end K88
local macro_rules | `(tactic| omega)=>`(tactic| first | with_reducible assumption | decide | lia)
local macro_rules | `(tactic| show $e)=>`(tactic| exact $e)
set_option genSizeOf false
set_option genSizeOfSpec false
namespace L2
open PySem PySem.Spec PyProof.Rows
abbrev Key:=Sum Int Str
def dU:Key->Value->Bool
 | .inl k,v=>Value.isInt k v
 | .inr x,v=>Value.isStrOf x v
def keyH (w:World):Key->Int
 | .inl k=>hashInt k
 | .inr x=>hashStr w x
def y6:∀{k:Key}{v:Value},dU k v=true->(∃i t,k=Sum.inl i/\v=Value.int i t)\/(∃x t,k=Sum.inr x/\v=Value.str x t)
 | .inl i,v,h=>by
  obtain ⟨t,e⟩:=Value.isInt_shape (k:=i) (v:=v) h;show .inl ⟨i,t,rfl,e⟩
 | .inr x,v,h=>by
  obtain ⟨t,e⟩:=Value.isStrOf_shape (x:=x) (v:=v) h;show .inr ⟨x,t,rfl,e⟩
def tX (i:Int)(t:Tok):dU (.inl i) (.int i t)=true:=by simp [dU,Value.isInt]
def tW (x:Str)(t:Tok):dU (.inr x) (.str x t)=true:=by simp [dU,Value.isStrOf]
def Fi (a b:Int):decide ((Sum.inl a:Key)=Sum.inl b)=(a == b):=by
 by_cases e:a=b
 .subst e;simp
 .have h:¬ (Sum.inl a:Key)=Sum.inl b:=λq=>e (Sum.inl.inj q);rw[qQ1 h];show (beq_eq_false_iff_ne.mpr e).symm
def Ff (a b:Str):decide ((Sum.inr a:Key)=Sum.inr b)=decide (a=b):=by
 by_cases e:a=b
 .subst e;simp
 .have h:¬ (Sum.inr a:Key)=Sum.inr b:=λq=>e (Sum.inr.inj q);rw[qQ1 h,qQ1 e]
def Fh (a:Int)(b:Str):decide ((Sum.inl a:Key)=Sum.inr b)=false:=qQ1 (λq=>nomatch q)
def Fg (a:Str) (b:Int):decide ((Sum.inr a:Key)=Sum.inl b)=false:=qQ1 (λq=>nomatch q)
def x9 (prog:Program) (w:World):PySem.KeyKind prog w Key where
 is:=dU
 hash:=keyH w
 inj:=λv a b ha hb=>by
  rcases y6 ha with ⟨i,t,rfl,rfl⟩|⟨x,t,rfl,rfl⟩
  .rcases y6 hb with ⟨j,u,rfl,e⟩|⟨y,u,rfl,e⟩
   .injection e with e1 _;rw[e1]
   .show nomatch e
  .rcases y6 hb with ⟨j,u,rfl,e⟩|⟨y,u,rfl,e⟩
   .show nomatch e
   .injection e with e1 _;rw[e1]
 byValue:=λk v h=>by
  rcases y6 h with ⟨i,t,rfl,rfl⟩|⟨x,t,rfl,rfl⟩ <;> rfl
 pyHash:=λI h=>by
  rcases y6 I with ⟨i,t,rfl,rfl⟩|⟨x,t,rfl,rfl⟩
  .show wpAny_pyHash_int h
  .show wpAny_pyHash_str h
 eqBool:=λhu I h=>by
  rcases y6 hu with ⟨i,t,rfl,rfl⟩|⟨x,t,rfl,rfl⟩
  .rcases y6 I with ⟨j,u,rfl,rfl⟩|⟨y,u,rfl,rfl⟩
   .rw[Fi]at h;show wpAny_eqBool_int h
   .rw[Fh]at h;show SeqAt.EqAt.int_str i t y u _ _ _ _ h
  .rcases y6 I with ⟨j,u,rfl,rfl⟩|⟨y,u,rfl,rfl⟩
   .rw[Fg]at h;show SeqAt.EqAt.str_int x t j u _ _ _ _ h
   .rw[Ff]at h;show wpAny_eqBool_str h
 «strs»:=λk x t v h=>by
  rcases y6 h with ⟨i,u,rfl,e⟩|⟨y,u,rfl,e⟩
  .show nomatch e
  .injection e with e1 _
   subst e1;cases v <;> rfl
def nE (prog:Program)(w:World) (i:Int)(t:Tok):(x9 prog w).is (.inl i) (.int i t)=true:=tX i t
def nD (prog:Program)(w:World)(x:Str)(t:Tok):(x9 prog w).is (.inr x) (.str x t)=true:=tW x t
inductive V where
 |non|bl (b:Bool)|int (i:Int)|str (x:Str)|byt (b:Array UInt8)|flt (b:UInt64)|ref (a:Addr)|ty (n:String)
 deriving DecidableEq
def RelV:V->Value->Prop
 | .non,u=>u=Value.none
 | .bl b,u=>u=Value.bool b
 | .int i,u=>∃t,u=Value.int i t
 | .str x,u=>∃t,u=Value.str x t
 | .byt b,u=>∃t,u=Value.bytes b t
 | .flt b,u=>∃t,u=Value.float b t
 | .ref a,u=>u=Value.ref a
 | .ty n,u=>u=Value.type n
abbrev Vals:List V->List Value->Prop:=Paired RelV
def Vals.length (r:Vals xs us):xs.length=us.length:=Paired.length r
def Vals.get:∀{xs:List V}{us:JY}{i:Nat}{x:V},Vals xs us->xs[i]?=some x->∃u,us[i]?=some u/\RelV x u:=by
 intro xs us i x a
 induction a generalizing i with
 |nil=>intro e;cases e
 | cons r t I=>
  intro e;cases i with
  |zero=>cases e;show ⟨_,rfl,r⟩
  |succ i=>show I e
def Vals.set (r:RelV x u):∀{xs:List V}{us:JY}(i:Nat),Vals xs us->Vals (xs.set i x) (us.set i u):=by
 intro xs us i h
 induction h generalizing i with
 |nil=>show .nil
 | cons q t I=>
  cases i with
  |zero=>show .cons r t
  |succ i=>show .cons q (I i)
def Vals.append:∀{xs I:List V}{us ws:JY},Vals xs us->Vals I ws->Vals (xs++I) (us++ws):=by
 intro xs I us ws a s
 induction a with
 |nil=>show s
 |cons r t ih=>show .cons r ih
def Vals.take:∀{xs:List V}{us:JY}(n:Nat),Vals xs us->Vals (xs.take n) (us.take n):=by
 intro xs us n h
 induction h generalizing n with
 |nil=>cases n <;> show .nil
 | cons r t I=>
  cases n with
  |zero=>show .nil
  |succ n=>show .cons r (I n)
def Vals.drop:∀{xs:List V}{us:JY}(n:Nat),Vals xs us->Vals (xs.drop n) (us.drop n)
 |_,_,0,r=>r
 |_,_,_+1,.nil=>.nil
 |_,_,n+1,.cons _ t=>Vals.drop n t
def RelO:Option V->Option Value->Prop
 |some v,some u=>RelV v u
 |none,none=>True
 |_,_=>False
def KV {κ:Type}:List (κ×V)->List (κ×Value)->Prop:=Paired λ(p:κ×V)(q:κ×Value)=>p.1=q.1/\RelV p.2 q.2
def kV:Key->V
 | .inl i=>.int i
 | .inr x=>.str x
inductive HO where
 |lst (xs:List V)
 |tup (xs:List V)
 |dK (kvs:List (Key×V))|dT (kvs:List (List Key×V))
 |set (S:Int->Bool) (n:Nat)
 |ins (C dx:Addr) (fs:List (Str×V))
 |own (x:Addr)
 |xd (fs:List (Str×V))
 |met (f x:Addr)
 |rng (lo hi:Int)
 |frz (o:Obj) (u:HO)
 |tbl (ps:Vj)
 |ext (φ:Heap->Prop)
abbrev Hp:=Addr->Option HO
def upd (H:Hp)(a:Addr)(o:HO):Hp:=λb=>if b=a then some o else H b
def j9:upd H a o a=some o:=by unfold upd;rw[qA2 rfl]
def e7 (h:b≠a):upd H a o b=H b:=by unfold upd;rw[qA4 h]
def yt {H:Hp}(h:H a=some o) (h':H b=some u) (d:o≠u):a≠b:=by
 intro e;subst e;rw[h]at h';show d (Option.some.inj h')
def f7 {H:Hp}(h:H a=some o) (h':H b=none):a≠b:=by
 intro e;subst e;rw[h]at h';cases h'
section
variable (P:Program)(w:World)
def ObjOk (H:Hp) (h:Heap) (a:Addr):HO->Prop
 | .lst xs=>xs.length<=sizeLine/\∃(its:JY) (n:Nat),Vals xs its/\h.get? a=some { cls:=.type "list",data:=.seq its.toArray n }
 | .tup xs=>xs.length<=sizeLine/\∃its:List Value,Vals xs its/\IsTup h a its.toArray
 | .dK kvs=>kvs.length<=sizeLine/\(a == sysModules)=false/\∃vs,KV kvs vs/\h.DictOf (x9 P w) a vs
 | .dT kvs=>kvs.length<=sizeLine/\(a == sysModules)=false/\∃xs:List (List Key×Addr×Value),
   Paired (λ(p:List Key×V) (q:List Key×Addr×Value)=>p.1=q.1/\H q.2.1=some (.tup (p.1.map kV))/\RelV p.2 q.2.2) kvs xs /\
   ∃o es ep,h.get? a=some o/\o.ExactDict/\o.data=.dict es ep/\es.toList=xs.map (entryOfKey (tupleKind (x9 P w)))/\(xs.map (·.1)).Nodup
 | .set S n=>h.SetOf (intKind P w) a S n
 | .ins C dx fs=>H dx=some (.own a)/\fs.length<=1000/\dx≠a/\h.get? a=some (PySem.W.instObj C dx) /\
   ∃mA,h.Ns1 dx mA/\(∀f,RelO (fs.lookup f) (mA f))/\PySem.Within mA (fs.map (·.1))
 | .own _=>∃o,h.get? a=some o
 | .xd fs=>∃mA,h.Ns1 a mA/\∀f,RelO (fs.lookup f) (mA f)
 | .rng lo hi=>∃t u v,h.get? a=some { cls:=.type "range",data:=.fields #[.int lo t,.int hi u,.int 1 v] }
 | .frz o u=>h.get? a=some o/\ObjOk H h a u
 | .tbl ps=>h.get? a=some { cls:=.none,data:=.fields ps }
 | .met f x=>h.get? a=some (PySem.W.methodObj (.ref f) (.ref x))
 | .ext φ=>φ h/\(∃o,h.get? a=some o)/\∀h1 I:Heap,φ h1->(∀o,h1.get? a=some o->I.get? a=some o)->φ I
def HOk (H:Hp)(h:Heap):Prop:=∀a o,H a=some o->ObjOk P w H h a o
end
def ObjOk.lt (x:ObjOk P w H h a o):a<h.objs.size:=by
 cases o with
 |lst xs=>obtain ⟨_,_,_,_,e⟩:=x;show qB4 e
 |tup xs=>obtain ⟨_,_,_,p⟩:=x;show p.lt
 |dK kvs=>obtain ⟨_,_,_,_,o,_,_,e,_⟩:=x;show qB4 e
 |dT kvs=>obtain ⟨_,_,_,_,o,_,_,e,_⟩:=x;show qB4 e
 |set S n=>obtain ⟨o,_,_,_,e,_⟩:=x;show qB4 e
 |ins C dx fs=>obtain ⟨_,_,_,e,_⟩:=x;show qB4 e
 |own y=>obtain ⟨_,e⟩:=x;show qB4 e
 |xd fs=>obtain ⟨_,⟨_,_,_,e,_⟩,_⟩:=x;show qB4 e
 |rng lo hi=>obtain ⟨_,_,_,e⟩:=x;show qB4 e
 |frz ob u=>obtain ⟨e,_⟩:=x;show qB4 e
 |tbl ps=>show qB4 (show h.get? a=some _ from x)
 |met f y=>show qB4 (show h.get? a=some _ from x)
 |ext φ=>obtain ⟨_,⟨_,e⟩,_⟩:=x;show qB4 e
def Paired.mapP:∀{l₁:List α}{I:List β},Paired F l₁ I->(∀a b,F a b->G a b)->Paired G l₁ I:=by
 intro l₁ I h f
 induction h with
 |nil=>show .nil
 |cons r t ih=>show .cons (f _ _ r) ih
def ObjOk.stay (x:ObjOk P w H h a o) (k:∀b u,(b=a\/H b=some (.own a))->h.get? b=some u->h'.get? b=some u) (ho:∀b,H b=some (.own a)->H' b=some (.own a)) (ht:∀b xs,H b=some (.tup xs)->H' b=some (.tup xs)):ObjOk P w H' h' a o:=by
 induction o with
 |lst xs=>obtain ⟨z,its,n,r,e⟩:=x;show ⟨z,its,n,r,k _ _ (.inl rfl) e⟩
 |tup xs=>obtain ⟨z,its,r,ob,e,c⟩:=x;show ⟨z,its,r,ob,k _ _ (.inl rfl) e,c⟩
 |dK kvs=>obtain ⟨z,y,vs,r,ob,es,I,e,c⟩:=x;show ⟨z,y,vs,r,ob,es,I,k _ _ (.inl rfl) e,c⟩
 | dT kvs=>
  obtain ⟨z,y,xs,r,ob,es,I,e,c⟩:=x;show ⟨z,y,xs,Paired.mapP r λp q z=>⟨z.1,ht _ _ z.2.1,z.2.2⟩,ob,es,I,k _ _ (.inl rfl) e,c⟩
 |set S n=>obtain ⟨ob,es,I,t,e,c⟩:=x;show ⟨ob,es,I,t,k _ _ (.inl rfl) e,c⟩
 | ins C dx fs=>
  obtain ⟨d,z,ne,e,mA,⟨od,es,I,e2,c⟩,r⟩:=x;show ⟨ho _ d,z,ne,k _ _ (.inl rfl) e,mA,⟨od,es,I,k _ _ (.inr d) e2,c⟩,r⟩
 |own y=>obtain ⟨ob,e⟩:=x;show ⟨ob,k _ _ (.inl rfl) e⟩
 |xd fs=>obtain ⟨mA,⟨od,es,I,e,c⟩,r⟩:=x;show ⟨mA,⟨od,es,I,k _ _ (.inl rfl) e,c⟩,r⟩
 |rng lo hi=>obtain ⟨t,u,v,e⟩:=x;show ⟨t,u,v,k _ _ (.inl rfl) e⟩
 |frz ob u ih=>obtain ⟨e,q⟩:=x;show ⟨k _ _ (.inl rfl) e,ih q⟩
 | tbl ps=>
  have e:h.get? a=some { cls:=.none,data:=.fields ps }:=x
  change h'.get? a=some { cls:=.none,data:=.fields ps };show k a _ (.inl rfl) e
 | met f y=>
  have e:h.get? a=some (PySem.W.methodObj (.ref f) (.ref y)):=x
  change h'.get? a=some (PySem.W.methodObj (.ref f) (.ref y));show k a _ (.inl rfl) e
 |ext φ=>obtain ⟨p,⟨o,e⟩,st⟩:=x;show ⟨st _ _ p λo q=>k _ _ (.inl rfl) q,⟨o,k _ _ (.inl rfl) e⟩,st⟩
def HOk.lt (x:HOk P w H h)(e:H a=some o):a<h.objs.size:=(x a o e).lt
def HOk.fresh {a:Addr}(x:HOk P w H h) (e:h.objs.size<=a):H a=none:=by
 cases q:H a with
 |none=>rfl
 |some u=>show absurd (qB3 (x.lt q) e) (qF1 _)
def HOk.kept (x:HOk P w H h) (k:∀b u,h.get? b=some u->h'.get? b=some u):HOk P w H h':=λa o e=>
 (x a o e).stay (λb u _ q=>k b u q) (λ_ q=>q) λ_ _ q=>q
def HOk.laid {a:Addr}(x:HOk P w H h) (k:∀b u,h.get? b=some u->h'.get? b=some u) (hp:h.objs.size<=a) (I:ObjOk P w (upd H a o) h' a o):HOk P w (upd H a o) h':=λb u e=>by
 have hn:=x.fresh hp;by_cases hb:b=a
 .subst hb;rw[j9]at e;cases e;show I
 .rw [e7 hb]at e
  show (x b u e).stay (λc v _ q=>k c v q) (λc q=>by rw[e7 (f7 q hn)];show q) λc xs q=>by rw[e7 (f7 q hn)];show q
def Rd (H:Hp)(a:Addr)(u:HO):Prop:=H a=some u\/∃o,H a=some (.frz o u)
def Rd.ok (r:Rd H a u) (x:HOk P w H h):ObjOk P w H h a u:=by
 rcases r with r|⟨o,r⟩
 .show x a u r
 .obtain ⟨_,q⟩:=x a _ r;show q
def Mut:Option HO->Prop
 |some (.lst _)=>True
 |some (.dK _)=>True
 |some (.dT _)=>True
 |some (.set _ _)=>True
 |some (.ins _ _ _)=>True
 |some (.ext _)=>True
 |_=>False
def HOk.write (ok:HOk P w H h) (mu:Mut (H x)) (he:e=x\/H e=some (.own x)) (k:∀b u,b≠e->h.get? b=some u->h'.get? b=some u) (a6:∃u,h'.get? e=some u) (a5:ObjOk P w (upd H x o') h' x o'):HOk P w (upd H x o') h':=λb u q=>by
 have a3:∀c y,H c=some (.own y)->c≠x:=λc y r z=>by subst z;rw[r]at mu;show mu
 have a4:∀c xs,H c=some (.tup xs)->c≠x:=λc xs r z=>by subst z;rw[r]at mu;show mu
 by_cases hb:b=x
 .subst hb;rw[j9]at q;cases q;show a5
 .rw [e7 hb]at q
  by_cases I:b=e
  .have q':H b=some (.own x):=by
    rcases he with z|z
    .show absurd (I.trans z) hb
    .rw[I];show z
   rw[q]at q';cases q';obtain ⟨v,hv⟩:=a6;show ⟨v,by rw[I];show hv⟩
  .refine (ok b u q).stay (λc v hc r=>k c v ?_ r) (λc r=>by rw[e7 (a3 c b r)];show r) λc xs r=>by rw[e7 (a4 c xs r)];show r
   rcases hc with rfl|hc
   .show I
   .rintro rfl;rcases he with z|z
    .show a3 c b hc z
    .rw[hc]at z;cases z;show hb rfl
structure Un (fs ex:List Addr) (H H':Hp) (h h':Heap):Prop where
 keep:∀b o,h.get? b=some o->H b=none->b∉fs->b∉ex->h'.get? b=some o
 slot:∀b o,h.get? b=some o->H b=none->b∈fs->b∉ex->∃sl,h'.get? b=some { o with slots:=sl }
 free:∀b o,h.get? b=some o->H b=none->b∉ex->H' b=none
 there:∀b o,h.get? b=some o->b∉ex->∃o',h'.get? b=some o'
 tups:∀b xs,H b=some (.tup xs)->H' b=some (.tup xs)
 frzs:∀b o u,H b=some (.frz o u)->H' b=some (.frz o u)
 tbls:∀b ps,H b=some (.tbl ps)->∃more,H' b=some (.tbl (ps++more))
def Un.any (u:Un fs ex H H1 h h1) (q:h.get? b=some ob) (n:H b=none) (I:b∉ex):∃sl,h1.get? b=some { ob with slots:=sl }:=by
 by_cases hb:b∈fs
 .show u.slot b ob q n hb I
 .show ⟨ob.slots,u.keep b ob q n hb I⟩
def Un.kept (k:∀b u,h.get? b=some u->h'.get? b=some u):Un fs ex H H h h':=
 ⟨λb ob q _ _ _=>k b ob q,λb ob q _ _ _=>⟨ob.slots,k b ob q⟩,λ_ _ _ n _=>n,λb ob q _=>⟨ob,k b ob q⟩,λ_ _ q=>q,λ_ _ _ q=>q,λ_ ps q=>⟨#[],by rw[q];simp⟩⟩
def Un.refl:Un fs ex H H h h:=Un.kept λ_ _ q=>q
def Un.laid (k:∀b u,h.get? b=some u->h'.get? b=some u) (I:h.objs.size<=a) (hn:H a=none):Un fs ex H (upd H a o) h h' where
 keep:=λb u q _ _ _=>k b u q
 slot:=λb u q _ _ _=>⟨u.slots,k b u q⟩
 free:=λb u q n _=>by rw[e7 (qD6 (qB3 (qB4 q) I))];show n
 there:=λb u q _=>⟨u,k b u q⟩
 tups:=λb xs q=>by rw[e7 (f7 q hn)];show q
 frzs:=λb u xs q=>by rw[e7 (f7 q hn)];show q
 tbls:=λb ps q=>⟨#[],by rw[e7 (f7 q hn),q];simp⟩
def Un.write (mu:Mut (H x)) (he:e=x\/H e=some (.own x)) (k:∀b u,b≠e->h.get? b=some u->h'.get? b=some u) (a3:∃u,h'.get? e=some u):Un fs ex H (upd H x o) h h':=by
 have hx:∀b,H b=none->b≠x:=λb n z=>by subst z;rw[n]at mu;show mu
 have hb:∀b,H b=none->b≠e:=λb n z=>by
  subst z;rcases he with r|r
  .show hx b n r
  .rw[n]at r;cases r
 have hm:∀b u,H b=some u->¬ Mut (some u)->b≠x:=λb u q nm z=>by subst z;rw[q]at mu;show nm mu
 refine ⟨λb u q n _ _=>k b u (hb b n) q,λb u q n _ _=>⟨u.slots,k b u (hb b n) q⟩,λb u q n _=>by rw[e7 (hx b n)];show n,λb u q _=>?_,
  λb xs q=>by rw[e7 (hm b _ q λz=>z)];show q,λb u xs q=>by rw[e7 (hm b _ q λz=>z)];show q,λb ps q=>⟨#[],by rw[e7 (hm b _ q λz=>z),q];simp⟩⟩
 by_cases I:b=e
 .subst I;show a3
 .show ⟨u,k b u I q⟩
def trk (h:Heap)(H:Hp):List Addr:=(List.range h.objs.size).filter λa=>(H a).isSome
def bM (h:Heap)(H:Hp):Heap:=PySem.W.hideAll h (trk h H)
def ul (h:Heap)(H:Hp):(bM h H).objs.size=h.objs.size:=PySem.W.hideAll_size _ _
def xh (e:h.get? b=some o) (n:H b=none):(bM h H).get? b=some o:=
 PySem.W.hideAll_get _ e λhm=>by
  have q:(H b).isSome=true:=(qG8.mp hm).2;rw[n]at q;simp at q
def An (e:(bM h H).get? b=some o):h.get? b=some o/\H b=none:=by
 have I:h.get? b=some o:=PySem.W.of_hideAll (trk h H) e;refine ⟨I,?_⟩;cases q:H b with
 |none=>rfl
 | some x=>
  have hm:b∈trk h H:=qG8.mpr ⟨qG1.mpr (qB4 I),by simp [q]⟩;have z:(bM h H).get? b=none:=PySem.W.hideAll_none (trk h H) hm;rw[z]at e;cases e
def Ca (g h:Heap)(L:Addr):List (Addr×Obj):=(List.range h.objs.size).filterMap λa=>if a=L\/(g.get? a).isSome=true then none else (h.get? a).map λo=>(a,o)
def rest (g h:Heap)(L d:Addr):List (Addr×Obj):=(Ca g h L).filter λp=>decide (p.1≠d)
structure Mod (K:Frag) (mg:JV) (base:Heap):Prop where
 kin:K.In base
 glob:base.Ns mainGlobals mg
 blt:∃mb,base.Ns builtinsNs mb/\∀x:Str,x ≠ "__name__" -> mb x=bootBuiltins x
 nolimit:base.NoLimit
structure Cx where
 prog:Program
 w:World
 K:Frag
 mg:Str->Option Value
 base:Heap
 A:Around
 N:List Str
 s₀:Shared
 H₀:Hp
 env:Env
 outer:List Env
 stack:List Env
 ex:List Addr
 fn:Str->Bool
 calm:Bool
 pn:List (Addr×Obj)
 xe:Value->Shared->Prop
def frs (l:List Env):List Addr:=l.filterMap (·.frame)
abbrev Cx.fs (X:Cx):List Addr:=frs X.outer
def Vis (sc:Scope)(x:Str):Prop:=sc.names.lookup x=some .local\/sc.names.lookup x=some .cell\/sc.names.lookup x=some .free
def Loc (sc:Scope)(x:Str):Prop:=sc.names.lookup x=some .local\/sc.names.lookup x=some .cell
def Look (env:Env) (h:Heap) (m:JV) (x:Str) (u:Value):Prop:=
 (env.kindOf x=some .local/\m x=some u)\/((env.kindOf x=some .cell\/env.kindOf x=some .free)/\∃c,env.cells.lookup x=some c/\h.IsCell c (some u))
structure Cx.Ok (X:Cx):Prop where
 mod:Mod X.K X.mg X.base
 kind:X.env.scope.kind=.function
 glob:X.env.globals=mainGlobals
 blt:X.env.builtins=builtinsNs
 above:X.s₀.heap.objs.size<=X.env.locals
 inj:∀x y c,X.env.cells.lookup x=some c->X.env.cells.lookup y=some c->x=y
 has:∀x,(X.env.kindOf x=some .cell\/X.env.kindOf x=some .free)->∃c,X.env.cells.lookup x=some c
 cab:∀x c,X.fn x=true->X.env.cells.lookup x=some c->X.s₀.heap.objs.size<=c
 hd:X.calm=true->X.A.handled=none
 frames:X.A.frames=some X.stack
 stk:X.stack=X.outer\/(X.stack=X.env::X.outer/\X.env.frame=some X.env.locals)
 exf:∀b∈X.ex,b≠X.env.locals/\∀x c,X.env.cells.lookup x=some c->c≠b
 bs:∀b o,X.base.get? b=some o->X.s₀.heap.get? b=some o/\X.H₀ b=none
 bsz:X.base.objs.size<=X.s₀.heap.objs.size
 noex:∀b o,X.base.get? b=some o->b∉X.ex
 exfs:∀b∈X.ex,b∉X.fs
 funs:X.s₀.heap.FunFrames X.base X.outer
 frf:∀b∈X.fs,X.H₀ b=none
structure Inv (X:Cx) (pins:JZ) (σ:List (Option V)) (H:Hp) (s:Shared):Prop where
 ok:X.Ok
 os:s.os=X.s₀.os
 bare:AllBare s.gens
 base:Un X.fs X.ex X.H₀ H X.s₀.heap s.heap
 loc:∃m,s.heap.Ns X.env.locals m/\∀(i:Nat) (x:Str) (v:V),X.N[i]?=some x->σ[i]?=some (some v)->Vis X.env.scope x->∃u,RelV v u/\Look X.env s.heap m x u
 cell:∀x c,X.env.cells.lookup x=some c->∃v,s.heap.IsCell c v
 free:H X.env.locals=none
 freeC:∀x c,X.env.cells.lookup x=some c->H c=none
 pin:∀p∈X.pn++pins,s.heap.get? p.1=some p.2/\H p.1=none/\p.1≠X.env.locals/\p.1∉X.fs/\∀v,p.2.data≠.cell v
 hok:HOk X.prog X.w H s.heap
 len:σ.length=X.N.length
def Cx.Ok.nofr {X:Cx}(ok:X.Ok) (e:X.base.get? b=some o):b∉X.fs:=λhb=>by
 have:=(ok.funs.mem hb).1
 rw[e]at this;cases this
def Inv.bs (I:Inv X pins σ H s):∀b o,X.base.get? b=some o->s.heap.get? b=some o/\H b=none:=λb o e=>
 ⟨I.base.keep b o (I.ok.bs b o e).1 (I.ok.bs b o e).2 (I.ok.nofr e) (I.ok.noex b o e),I.base.free b o (I.ok.bs b o e).1 (I.ok.bs b o e).2 (I.ok.noex b o e)⟩
def Inv.bk (I:Inv X pins σ H s):∀b o,X.base.get? b=some o->s.heap.get? b=some o:=λb o e=>(I.bs b o e).1
def Inv.mod (I:Inv X pins σ H s):Mod X.K X.mg X.base:=I.ok.mod
def Inv.kIn (I:Inv X pins σ H s):X.K.In s.heap:=I.ok.mod.kin.keeps I.bk
def Inv.fr (I:Inv X pins σ H s):∃m,Fr X.base X.env.locals s.heap m:=
 let ⟨m,hn,_⟩:=I.loc
 ⟨m,hn,I.bk,qA5 I.ok.bsz I.ok.above⟩
def Inv.lt (I:Inv X pins σ H s):X.env.locals<s.heap.objs.size:=let ⟨_,hn,_⟩:=I.loc;hn.lt
def Inv.sz (I:Inv X pins σ H s):X.s₀.heap.objs.size<=s.heap.objs.size:=qA5 I.ok.above (qI8 I.lt)
def Inv.nofs (I:Inv X pins σ H s){a:Addr}(h:s.heap.objs.size<=a):a∉X.fs:=λhb=>by
 obtain ⟨_,o,ho,_⟩:=I.ok.funs.mem hb;show absurd (qB3 (qB4 ho) (qA5 I.sz h)) (qF1 _)
def Inv.cne (I:Inv X pins σ H s):∀x c,X.env.cells.lookup x=some c->c≠X.env.locals:=λx c e z=>by
 obtain ⟨v,o,ho,hd⟩:=I.cell x c e;obtain ⟨m,⟨o',es,ep,a3,a4,_⟩,_⟩:=I.loc;rw[z,a3]at ho;cases ho;rw[a4]at hd;cases hd
def Inv.funs (I:Inv X pins σ H s):s.heap.FunFrames X.base X.outer:=by
 have all:∀(l:List Env),(∀b∈frs l,b∈X.fs)->X.s₀.heap.FunFrames X.base l->s.heap.FunFrames X.base l:=by
  intro l
  induction l with
  |nil=>intro _ _;trivial
  | cons env r ih=>
   intro hs hl;obtain ⟨hk,⟨L,o,hf,hn,ho,hd⟩,hr⟩:=hl;have hL:L∈X.fs:=hs L (by unfold frs;rw[qI6,hf];show qB8);obtain ⟨sl,e⟩:=I.base.slot L o ho (I.ok.frf L hL) hL λz=>I.ok.exfs L z hL;show ⟨hk,⟨L,_,hf,hn,e,hd⟩,ih (λb hb=>hs b (by unfold frs;rw[qI6,hf];show qB0 _ hb)) hr⟩
 show all X.outer (λ_ hb=>hb) I.ok.funs
def Inv.stack (I:Inv X pins σ H s):s.heap.FunFrames X.base X.stack:=by
 rcases I.ok.stk with e|⟨e,hf⟩
 .rw[e];show I.funs
 .rw [e]
  obtain ⟨m,hn,_⟩:=I.loc;refine .cons (by rw[I.ok.kind];decide) hf hn ?_ I.funs;show Heap.get?_none_of_le (qA5 I.ok.bsz I.ok.above)
def Inv.stkSub (I:Inv X pins σ H s):∀b∈frs X.stack,b∈X.env.locals::X.fs:=λb hb=>by
 rcases I.ok.stk with e|⟨e,hf⟩
 .rw[e]at hb;show qB0 _ hb
 .rw [e]at hb
  unfold frs at hb;rw[qI6,hf]at hb;show hb
def Inv.stkFree (I:Inv X pins σ H s):∀b∈frs X.stack,H b=none:=λb hb=>by
 rcases qB5.mp (I.stkSub b hb) with e|hb
 .rw[e];show I.free
 .obtain ⟨_,o,ho,_⟩:=I.ok.funs.mem hb;show I.base.free b o ho (I.ok.frf b hb) λz=>I.ok.exfs b z hb
def Inv.step {ch:List Addr}(I:Inv X pins σ H s) (a4:∀b∈ch,(b∈X.ex\/X.s₀.heap.objs.size<=b)/\b≠X.env.locals/\(∀x c,X.env.cells.lookup x=some c->c≠b)/\∀p∈X.pn++pins,p.1≠b) (keep:∀b o,b≠X.env.locals->b∉X.fs->b∉ch->s.heap.get? b=some o->H b=none->h'.get? b=some o) (slot:∀b o,b≠X.env.locals->b∈X.fs->b∉ch->s.heap.get? b=some o->H b=none->∃sl,h'.get? b=some { o with slots:=sl }) (free:∀b o,b∉ch->s.heap.get? b=some o->H b=none->H' b=none) (there:∀b o,b∉ch->s.heap.get? b=some o->∃o',h'.get? b=some o') (tups:∀b xs,H b=some (.tup xs)->H' b=some (.tup xs)) (frzs:∀b o u,H b=some (.frz o u)->H' b=some (.frz o u)) (tbls:∀b ps,H b=some (.tbl ps)->∃more,H' b=some (.tbl (ps++more))) (ns:∀m,s.heap.Ns X.env.locals m->h'.Ns X.env.locals m) (hok:HOk X.prog X.w H' h') (hg:AllBare g'):
  Inv X pins σ H' { s with heap:=h',gens:=g',drawn:=d',toks:=t' }:=by
 have a6:∀b o,X.s₀.heap.get? b=some o->b≠X.env.locals:=λb o e=>qD6 (qB3 (qB4 e) I.ok.above);have a5:∀b o,X.s₀.heap.get? b=some o->b∉X.ex->b∉ch:=λb o e hx hb=>by
  rcases (a4 b hb).1 with z|z
  .show hx z
  .show absurd (qB3 (qB4 e) z) (qF1 _)
 have cellK:∀x c,X.env.cells.lookup x=some c->∀v,s.heap.IsCell c v->h'.IsCell c v:=λx c e v a7=>by
  obtain ⟨o,ho,hd⟩:=a7;have a3:c∉ch:=λz=>(a4 c z).2.2.1 x c e rfl;by_cases hc:c∈X.fs
  .obtain ⟨sl,q⟩:=slot c o (I.cne x c e) hc a3 ho (I.freeC x c e);show ⟨_,q,hd⟩
  .show ⟨o,keep c o (I.cne x c e) hc a3 ho (I.freeC x c e),hd⟩
 refine ⟨I.ok,I.os,hg,⟨λb o e n hb hx=>?_,λb o e n hb hx=>?_,λb o e n hx=>?_,λb o e hx=>?_,λb xs e=>tups b xs (I.base.tups b xs e),λb o xs e=>frzs b o xs (I.base.frzs b o xs e),λb ps e=>?_⟩,?_,λx c e=>?_,?_,λx c e=>?_,λp hp=>?_,hok,I.len⟩
 .show keep b o (a6 b o e) hb (a5 b o e hx) (I.base.keep b o e n hb hx) (I.base.free b o e n hx)
 .obtain ⟨sl,e1⟩:=I.base.slot b o e n hb hx;obtain ⟨a8,e2⟩:=slot b _ (a6 b o e) hb (a5 b o e hx) e1 (I.base.free b o e n hx);show ⟨a8,e2⟩
 .obtain ⟨o',e1⟩:=I.base.there b o e hx;show free b o' (a5 b o e hx) e1 (I.base.free b o e n hx)
 .obtain ⟨o',e1⟩:=I.base.there b o e hx;show there b o' (a5 b o e hx) e1
 .obtain ⟨m1,e1⟩:=I.base.tbls b ps e;obtain ⟨m2,e2⟩:=tbls b _ e1;show ⟨m1++m2,by rw[e2,Array.append_assoc]⟩
 .obtain ⟨m,hn,hl⟩:=I.loc;refine ⟨m,ns m hn,λi x v e1 e2 e3=>?_⟩;obtain ⟨u,r,l⟩:=hl i x v e1 e2 e3;refine ⟨u,r,?_⟩;rcases l with l|⟨k,c,e,z⟩
  .show .inl l
  .show .inr ⟨k,c,e,cellK x c e _ z⟩
 .obtain ⟨v,z⟩:=I.cell x c e;show ⟨v,cellK x c e v z⟩
 .obtain ⟨m,⟨o,_,_,ho,_⟩,_⟩:=I.loc;show free _ o (λz=>(a4 _ z).2.1 rfl) ho I.free
 .obtain ⟨v,o,ho,hd⟩:=I.cell x c e;show free c o (λz=>(a4 c z).2.2.1 x c e rfl) ho (I.freeC x c e)
 .obtain ⟨e,n,ne,nf,d⟩:=I.pin p hp;have a3:p.1∉ch:=λz=>(a4 p.1 z).2.2.2 p hp rfl;show ⟨keep p.1 p.2 ne nf a3 e n,free p.1 p.2 a3 e n,ne,nf,d⟩
def Inv.un (I:Inv X pins σ H s) (u:Un X.fs [] H H' s.heap h') (hok:HOk X.prog X.w H' h'):Inv X pins σ H' { s with heap:=h',toks:=t' }:=by
 obtain ⟨m,⟨o,es,ep,ho,r⟩,_⟩:=id I.loc;obtain ⟨sl,hL⟩:=u.any ho I.free Zy;show I.step (g':=s.gens) (d':=s.drawn) (ch:=[]) (λ_ z=>nomatch z) (λb o _ hb _ e n=>u.keep b o e n hb Zy) (λb o _ hb _ e n=>u.slot b o e n hb Zy) (λb o _ e n=>u.free b o e n Zy) (λb o _ e=>u.there b o e Zy) u.tups u.frzs u.tbls (λm' hm=>by
  obtain ⟨o',a5,a4,a3,r'⟩:=hm;rw[ho]at a3;cases a3;show ⟨_,a5,a4,hL,r'⟩) hok I.bare
def Inv.call (I:Inv X pins σ H s) (u:Un (frs X.stack) ch H H' s.heap h') (hok:HOk X.prog X.w H' h') (hg:AllBare g') (a4:∀b∈ch,(b∈X.ex\/X.s₀.heap.objs.size<=b)/\b≠X.env.locals/\(∀x c,X.env.cells.lookup x=some c->c≠b)/\∀p∈X.pn++pins,p.1≠b):
  Inv X pins σ H' { s with heap:=h',gens:=g',drawn:=d',toks:=t' }:=by
 obtain ⟨m,⟨o,es,ep,ho,r⟩,_⟩:=id I.loc;obtain ⟨sl,hL⟩:=u.any ho I.free λz=>(a4 _ z).2.1 rfl;show I.step (ch:=ch) a4 (λb o hL hb hc e n=>u.keep b o e n (λz=>(qB5.mp (I.stkSub b z)).elim hL hb) hc) (λb o _ _ hc e n=>u.any e n hc) (λb o hc e n=>u.free b o e n hc) (λb o hc e=>u.there b o e hc) u.tups u.frzs u.tbls (λm' hm=>by
  obtain ⟨o',a6,a5,a3,r'⟩:=hm;rw[ho]at a3;cases a3;show ⟨_,a6,a5,hL,r'⟩) hok hg
def Inv.turned (I:Inv X pins σ H s) (k:∀b o,b≠it->s.heap.get? b=some o->h'.get? b=some o) (hn:H it=none) (hL:it≠X.env.locals) (h1:it∈X.ex\/X.s₀.heap.objs.size<=it) (h2:∀x c,X.env.cells.lookup x=some c->c≠it) (h3:∀p∈X.pn++pins,p.1≠it):Inv X pins σ H { s with heap:=h',toks:=t' }:=by
 have a3:∀b u,H b=some u->b≠it:=λb u e z=>by rw[z,hn]at e;cases e
 refine I.step (g':=s.gens) (d':=s.drawn) (ch:=[it]) (λb hb=>?_) (λb o _ _ hc e _=>k b o (λz=>hc (by simp [z])) e) (λb o _ _ hc e _=>⟨o.slots,k b o (λz=>hc (by simp [z])) e⟩) (λ_ _ _ _ n=>n)
  (λb o hc e=>⟨o,k b o (λz=>hc (by simp [z])) e⟩) (λ_ _ e=>e) (λ_ _ _ e=>e) (λb ps e=>⟨#[],by rw[e];simp⟩) (λm hm=>?_) (λb u e=>?_) I.bare
 .have e:b=it:=by simpa using hb
  subst e;show ⟨h1,hL,h2,h3⟩
 .obtain ⟨o,es,ep,ho,r⟩:=hm;show ⟨o,es,ep,k _ o (Ne.symm hL) ho,r⟩
 .refine (I.hok b u e).stay (λc v hc q=>k c v ?_ q) (λ_ q=>q) λ_ _ q=>q;rcases hc with z|z
  .rw[z];show a3 b u e
  .show a3 c _ z
def Inv.tok (I:Inv X pins σ H s)(t:Nat):Inv X pins σ H { s with toks:=t }:=I.un (h':=s.heap) (t':=t) Un.refl I.hok
def Inv.kept (I:Inv X pins σ H s)(k:∀b u,s.heap.get? b=some u->h'.get? b=some u):Inv X pins σ H { s with heap:=h',toks:=t' }:=I.un (Un.kept k) (I.hok.kept k)
def Inv.laid {a:Addr}(I:Inv X pins σ H s) (k:∀b u,s.heap.get? b=some u->h'.get? b=some u) (hp:s.heap.objs.size<=a) (a3:ObjOk X.prog X.w (upd H a o) h' a o):
  Inv X pins σ (upd H a o) { s with heap:=h',toks:=t' }:=I.un (Un.laid k hp (I.hok.fresh hp)) (I.hok.laid k hp a3)
def Inv.write (I:Inv X pins σ H s)(mu:Mut (H x))(he:e=x\/H e=some (.own x))(k:∀b u,b≠e->s.heap.get? b=some u->h'.get? b=some u)(a3:∃u,h'.get? e=some u)(a4:ObjOk X.prog X.w (upd H x o) h' x o):Inv X pins σ (upd H x o) { s with heap:=h',toks:=t' }:=I.un (Un.write mu he k a3) (I.hok.write mu he k a3 a4)
def Inv.weak (I:Inv X pins σ H s) (hl:σ'.length=σ.length) (w:∀(i:Nat) v,σ'[i]?=some (some v)->σ[i]?=some (some v)):Inv X pins σ' H s:=
 ⟨I.ok,I.os,I.bare,I.base,let ⟨m,hn,hl'⟩:=I.loc;⟨m,hn,λi x v e1 e2 e3=>hl' i x v e1 (w i v e2) e3⟩,I.cell,I.free,I.freeC,I.pin,I.hok,hl.trans I.len⟩
def Inv.pins_of (I:Inv X pins σ H s) (h:∀p∈pins',s.heap.get? p.1=some p.2/\H p.1=none/\p.1≠X.env.locals/\p.1∉X.fs/\∀v,p.2.data≠.cell v):Inv X pins' σ H s:=
 ⟨I.ok,I.os,I.bare,I.base,I.loc,I.cell,I.free,I.freeC,λp hp=>(qC8.mp hp).elim (λz=>I.pin p (qE1 _ z)) (h p),I.hok,I.len⟩
def lR {N:Vq}(I:N.Nodup){i:Nat}(a:N[i]?=some x) (b:N[j]?=some x):i=j:=by
 obtain ⟨h1,e1⟩:=qA9.mp a;obtain ⟨h2,e2⟩:=qA9.mp b;show (List.getElem_inj I).mp (e1.trans e2.symm)
def jg (I:Inv X pins σ H s) (hN:X.N.Nodup) (hi:X.N[i]?=some x) (hx:Loc X.env.scope x) (r:RelV v u) (h:∀s',Inv X pins (σ.set i (some v)) H s'->(∃a,Heap.SameBut a s.heap s'.heap/\(a=X.env.locals\/X.env.cells.lookup x=some a))->Q () s') (hf:X.fn x=true\/X.env.scope.names.lookup x=some .local:=by first|show .inl rfl|show .inr rfl|assumption):wpAny M A (storeName X.env x u) Q E s:=by
 obtain ⟨m,hn,hl⟩:=id I.loc;have a7:(X.env.scope.kind == .class||(X.env.scope.kind == .module&&X.env.locals != X.env.globals))=false:=by rw[I.ok.kind];rfl
 have a4:i<σ.length:=by rw[I.len];show (qA9.mp hi).1
 have cne:=I.cne;have tracked:∀{a:Addr}{h':Heap},(∃o,s.heap.get? a=some o/\H a=none)->Heap.SameBut a s.heap h'->HOk X.prog X.w H h':=λ{a h'} ha hs b ob e=>by
  obtain ⟨_,_,a3⟩:=ha;refine (I.hok b ob e).stay (λc w' hc q=>(hs.2 c ?_).trans q) (λ_ q=>q) λ_ _ q=>q;rintro rfl;rcases hc with rfl|hc
  .rw[a3]at e;cases e
  .rw[a3]at hc;cases hc
 rcases hx with hk|hk
 .refine wpAny_storeName_local hk hn (λh' b0 hs=>?_) a7;obtain ⟨oL,_,_,b3,_⟩:=id hn;refine h _ ⟨I.ok,I.os,I.bare,⟨λb o e n hb hx=>?_,λb o e n hb hx=>?_,I.base.free,λb o e hx=>?_,I.base.tups,I.base.frzs,I.base.tbls⟩,⟨_,b0,λj y v' e1 e2 e3=>?_⟩,λy c e=>?_,I.free,I.freeC,λp hp=>?_,tracked ⟨oL,b3,I.free⟩ hs,by simpa using I.len⟩ ⟨_,hs,.inl rfl⟩
  .show (hs.2 b (qD6 (qB3 (qB4 e) I.ok.above))).trans (I.base.keep b o e n hb hx)
  .obtain ⟨sl,e1⟩:=I.base.slot b o e n hb hx;show ⟨sl,(hs.2 b (qD6 (qB3 (qB4 e) I.ok.above))).trans e1⟩
  .obtain ⟨o',e1⟩:=I.base.there b o e hx;show ⟨o',(hs.2 b (qD6 (qB3 (qB4 e) I.ok.above))).trans e1⟩
  .by_cases hj:j=i
   .subst hj;rw[hi]at e1;cases e1;rw[qK4 a4]at e2;cases e2;show ⟨u,r,.inl ⟨hk,Zy⟩⟩
   .rw [qB7 (Ne.symm hj)]at e2
    obtain ⟨u',r',q⟩:=hl j y v' e1 e2 e3;refine ⟨u',r',?_⟩;rcases q with ⟨k,e⟩|⟨k,c,e,z⟩
    .refine .inl ⟨k,?_⟩
     have:y≠x:=λe=>hj (lR hN e1 (e ▸ hi))
     simp [this,e]
    .show .inr ⟨k,c,e,z.sameBut hs (cne y c e)⟩
  .obtain ⟨w',z⟩:=I.cell y c e;show ⟨w',z.sameBut hs (cne y c e)⟩
  .obtain ⟨e,n,ne,nf,d⟩:=I.pin p hp;show ⟨(hs.2 p.1 ne).trans e,n,ne,nf,d⟩
 .have a5:X.fn x=true:=by
   rcases hf with z|z
   .show z
   .rw[z]at hk;cases hk
  obtain ⟨c,hc⟩:=I.ok.has x (.inl hk);obtain ⟨w',z⟩:=I.cell x c hc;refine wpAny_storeName_cell I.ok.kind hk hc z (λh' a8 hs=>?_);obtain ⟨oc,ab,a9⟩:=id z;refine h { s with heap:=h' } ⟨I.ok,I.os,I.bare,⟨λb o e n hb hx=>?_,λb o e n hb hx=>?_,I.base.free,λb o e hx=>?_,I.base.tups,I.base.frzs,I.base.tbls⟩,⟨m,hn.sameBut hs (Ne.symm (cne x c hc)),λj y v' e1 e2 e3=>?_⟩,λy c' e=>?_,I.free,I.freeC,λp hp=>?_,tracked ⟨oc,ab,I.freeC x c hc⟩ hs,by simpa using I.len⟩ ⟨c,hs,.inr hc⟩
  .show (hs.2 b (qD6 (qB3 (qB4 e) (I.ok.cab x c a5 hc)))).trans (I.base.keep b o e n hb hx)
  .obtain ⟨sl,e1⟩:=I.base.slot b o e n hb hx;show ⟨sl,(hs.2 b (qD6 (qB3 (qB4 e) (I.ok.cab x c a5 hc)))).trans e1⟩
  .obtain ⟨o',e1⟩:=I.base.there b o e hx;show ⟨o',(hs.2 b (qD6 (qB3 (qB4 e) (I.ok.cab x c a5 hc)))).trans e1⟩
  .by_cases hj:j=i
   .subst hj;rw[hi]at e1;cases e1;rw[qK4 a4]at e2;cases e2;show ⟨u,r,.inr ⟨.inl hk,c,hc,a8⟩⟩
   .rw [qB7 (Ne.symm hj)]at e2
    obtain ⟨u',r',q⟩:=hl j y v' e1 e2 e3;refine ⟨u',r',?_⟩;rcases q with q|⟨k,c',e,z'⟩
    .show .inl q
    .refine .inr ⟨k,c',e,z'.sameBut hs ?_⟩;rintro rfl;show hj (lR hN e1 (I.ok.inj _ _ _ e hc ▸ hi))
  .by_cases a6:c'=c
   .subst a6;show ⟨_,a8⟩
   .obtain ⟨w2,z2⟩:=I.cell y c' e;show ⟨w2,z2.sameBut hs a6⟩
  .obtain ⟨e,n,ne,nf,d⟩:=I.pin p hp;refine ⟨(hs.2 p.1 ?_).trans e,n,ne,nf,d⟩;intro q;rw[q,ab]at e;have q':oc=p.2:=Option.some.inj e;show d w' (by rw[<- q'];show a9)
def eZ (I:Inv X pins σ H s) (hN:X.N.Nodup) (hi:X.N[i]?=some x) (hx:Loc X.env.scope x) (r:RelV v u) (h:∀s',Inv X pins (σ.set i (some v)) H s'->Q () s') (hf:X.fn x=true\/X.env.scope.names.lookup x=some .local:=by first|show .inl rfl|show .inr rfl|assumption):wpAny M A (storeName X.env x u) Q E s:=
 jg I hN hi hx r (λs' I' _=>h s' I') hf
def Inv.call' (I:Inv X pins σ H s) (ho:s'.os=s.os) (u:Un (frs X.stack) ch H H' s.heap s'.heap) (hok:HOk X.prog X.w H' s'.heap) (hg:AllBare s'.gens) (a3:∀b∈ch,(b∈X.ex\/X.s₀.heap.objs.size<=b)/\b≠X.env.locals/\(∀x c,X.env.cells.lookup x=some c->c≠b)/\∀p∈X.pn++pins,p.1≠b):Inv X pins σ H' s':=by
 obtain ⟨h',g',d',t',o'⟩:=s';have e:o'=s.os:=ho;subst e;show I.call (g':=g') (t':=t') (d':=d') u hok hg a3
abbrev XK:=Value->Option Addr->Hp->Prop
abbrev St:=List (Option V)
abbrev VK:=V->Hp->Prop
abbrev TE:=St->Hp->VK->Prop
abbrev TT:=St->Hp->(Bool->Hp->Prop)->Prop
abbrev TA:=St->Hp->(List V->Hp->Prop)->Prop
structure Ends where
 nx:St->Hp->Prop
 rt:VK
 bk:St->Hp->Prop:=λ_ _=>False
 ct:St->Hp->Prop:=λ_ _=>False
abbrev TS:=Ends->St->Hp->Prop
def EP (X:Cx)(pins:JZ)(σ:St)(Q:VK)(u:Value)(s':Shared):Prop:=∃v H',Inv X pins σ H' s'/\RelV v u/\Q v H'
def TP (X:Cx)(pins:JZ)(σ:St)(Q:Bool->Hp->Prop)(b:Bool)(s':Shared):Prop:=∃H',Inv X pins σ H' s'/\Q b H'
def AP (X:Cx)(pins:JZ)(σ:St)(Q:List V->Hp->Prop)(us:JY)(s':Shared):Prop:=∃vs H',Inv X pins σ H' s'/\Vals vs us/\Q vs H'
def SP (X:Cx) (pins:JZ) (D:Ends) (f:Flow) (s':Shared):Prop:=
 match f with
 | .next=>∃I H',Inv X pins I H' s'/\D.nx I H'
 | .brk=>∃I H',Inv X pins I H' s'/\D.bk I H'
 | .cont=>∃I H',Inv X pins I H' s'/\D.ct I H'
 | .ret u=>∃v I H',Inv X pins I H' s'/\RelV v u/\D.rt v H'
def PE (X:Cx) (e:Expr) (t:TE):Prop:=
 ∀(pins:JZ) (s:Shared) (σ:St) (H:Hp) (Q:VK),Inv X pins σ H s->t σ H Q->wpAny (model X.prog X.w) X.A (eval e X.env) (EP X pins σ Q) X.xe s
def PT (X:Cx) (e:Expr) (t:TT):Prop:=
 ∀(pins:JZ) (s:Shared) (σ:St) (H:Hp) (Q:Bool->Hp->Prop),Inv X pins σ H s->t σ H Q->wpAny (model X.prog X.w) X.A (isTrue e X.env (eval e X.env)) (TP X pins σ Q) X.xe s
def PW (X:Cx) (e:Expr) (t:TT):Prop:=
 ∀(whole:Sem Value) (pins:JZ) (s:Shared) (σ:St) (H:Hp) (Q:Bool->Hp->Prop),Inv X pins σ H s->t σ H Q->wpAny (model X.prog X.w) X.A (isTrue e X.env whole) (TP X pins σ Q) X.xe s
def PW.pt (h:PW X e t):PT X e t:=h _
def PA (X:Cx) (es:Vz) (t:TA):Prop:=
 ∀(pos:Pos) (pins:JZ) (s:Shared) (σ:St) (H:Hp) (Q:List V->Hp->Prop),Inv X pins σ H s->t σ H Q->wpAny (model X.prog X.w) X.A (spliced (backTo pos (starEach es X.env))) (AP X pins σ Q) X.xe s
def PS (X:Cx) (st:Stmt) (t:TS):Prop:=
 ∀(pins:JZ) (s:Shared) (σ:St) (H:Hp) (D:Ends),Inv X pins σ H s->t D σ H->wpAny (model X.prog X.w) X.A (exec st X.env) (SP X pins D) X.xe s
def PSs (X:Cx) (st:List Stmt) (t:TS):Prop:=
 ∀(pins:JZ) (s:Shared) (σ:St) (H:Hp) (D:Ends),Inv X pins σ H s->t D σ H->wpAny (model X.prog X.w) X.A (execs st X.env) (SP X pins D) X.xe s
def thn {t:Sem α}(h:wpAny M A t Q E s)(I:∀a s,Q a s->Q' a s):wpAny M A t Q' E s:=qS1 h I λ_ _ x=>x
def aq (i:Nat):TE:=λσ H Q=>∃v,σ[i]?=some (some v)/\Q v H
def tC (v:V):TE:=λ_ H Q=>Q v H
def X6 {X:Cx}{i:Nat}{x:Str}{pos:Pos}(hN:X.N[i]?=some x) (hv:Vis X.env.scope x) (hd:(x == ("__debug__" : Str))=false:=by decide) (a3:(x == ("__classdict__" : Str))=false:=by decide):PE X (.Name x pos) (aq i):=by
 intro pins s σ H Q I h;obtain ⟨v,e,h⟩:=h;obtain ⟨m,hn,hl⟩:=I.loc;obtain ⟨u,r,l⟩:=hl i x v hN e hv;have fin:EP X pins σ Q u s:=⟨v,H,I,r,h⟩;rcases l with ⟨hk,hm⟩|⟨hk,c,hc,hcell⟩
 .show wpAny_Name (wpAny_loadName_local I.ok.kind hk hn hm fin) hd
 .rcases hk with hk|hk
  .show wpAny_Name (wpAny_loadName_cell I.ok.kind hk hc hcell fin) hd
  .show wpAny_Name (wpAny_loadName_free I.ok.kind hk hc hcell fin a3) hd
def pe_int {i j pos}:PE X (.Constant (.int i) j pos) (tC (.int i)):=λ_ _ _ H _ I h=>wpAny_Constant_int ⟨.int i,H,I.tok _,⟨_,rfl⟩,h⟩
def pe_bl {b j pos}:PE X (.Constant (.bool b) j pos) (tC (.bl b)):=λ_ _ _ H _ I h=>Constant_bool ⟨.bl b,H,I,rfl,h⟩
def pe_non {j pos}:PE X (.Constant .none j pos) (tC .non):=λ_ _ _ H _ I h=>Constant_none ⟨.non,H,I,rfl,h⟩
def pe_str {x j pos}:PE X (.Constant (.str x) j pos) (tC (.str x)):=λ_ _ _ H _ I h=>Calls.Constant_str ⟨.str x,H,I.tok _,⟨_,rfl⟩,h⟩
def Gl (X:Cx)(x:Str):Prop:=X.env.kindOf x=some .globalImplicit
def AQ {X:Cx}{E:Vv}{pins:JZ}{s:Shared}{σ:St}{H:Hp}{x:Str}{u:Value}{pos:Pos}{Q:Vv}(I:Inv X pins σ H s) (hg:Gl X x) (hm:X.mg x=some u) (h:Q u s) (hd:(x == ("__debug__" : Str))=false:=by decide):wpAny (model X.prog X.w) X.A (eval (.Name x pos) X.env) Q E s:=
 Calls.Name_function_global I.ok.kind hg (Calls.loadGlobal_global (by rw[I.ok.glob];show I.mod.glob.keeps I.bk) hm h) hd
def M5 {X:Cx}{E:Vv}{pins:JZ}{s:Shared}{σ:St}{H:Hp}{x:Str}{u:Value}{pos:Pos}{Q:Vv}(I:Inv X pins σ H s) (hg:Gl X x) (hm:X.mg x=none) (hv:bootBuiltins x=some u) (h:Q u s) (hn:x ≠ "__name__" := by decide) (hd:(x == ("__debug__" : Str))=false:=by decide):wpAny (model X.prog X.w) X.A (eval (.Name x pos) X.env) Q E s:=by
 obtain ⟨mb,h1,h2⟩:=I.mod.blt;show Calls.Name_function_global I.ok.kind hg (Calls.loadGlobal_builtin (by rw[I.ok.glob];show I.mod.glob.keeps I.bk) hm (by rw[I.ok.blt];show h1.keeps I.bk) ((h2 x hn).trans hv) h) hd
def Af {X:Cx}{x:Str}{v:V}{u:Value}{pos:Pos}(hg:Gl X x) (hm:X.mg x=none) (hv:bootBuiltins x=some u) (r:RelV v u) (hn:x ≠ "__name__" := by decide) (hd:(x == ("__debug__" : Str))=false:=by decide):PE X (.Name x pos) (tC v):=
 λ_ _ _ H _ I h=>M5 I hg hm hv ⟨v,H,I,r,h⟩ hn hd
def PC (X:Cx) (op:CmpOp) (a b:Expr) (t:TE):Prop:=
 ∀ (pins:JZ) (s:Shared) (σ:St) (H:Hp) (Q:VK),Inv X pins σ H s->t σ H Q ->
  wpAny (model X.prog X.w) X.A (eval a X.env) (λv a3=>wpAny (model X.prog X.w) X.A (eval b X.env) (λu I=>wpAny (model X.prog X.w) X.A (compareOp op v u) (EP X pins σ Q) X.xe I) X.xe a3) X.xe s
def wE (b:Expr) (h:op≠.In) (I:op≠.NotIn):behindInMarks op b=false:=by
 have e1:(op == CmpOp.In)=false:=by cases op <;> first|rfl|show absurd rfl h
 have e2:(op == CmpOp.NotIn)=false:=by cases op <;> first|rfl|show absurd rfl I
 cases b <;> simp [behindInMarks,e1,e2]
def tB (t:TE):TT:=λσ H Q=>t σ H λx H1=>∃c,x=.bl c/\Q c H1
def sC (h:PC X op a b t) (h1:behindInMarks op b=false:=by first|show wE _ Zz Zz|rfl):PT X (.Compare a [op] [b] pos) (tB t):=by
 intro pins s σ H Q I hw;refine wpAny_isTrue_Compare1 (thn (h pins s σ H _ I hw) λv s1 h1=>thn h1 λu s2 h2=>thn h2 λc s3 a3=>?_) h1;obtain ⟨x,H1,I1,r1,q1⟩:=a3;obtain ⟨d,rfl,q⟩:=q1;cases r1;show qR0 ⟨H1,I1,q⟩
def Eo (h:PE X e t) (he:∀whole,isTrue e X.env whole=(do let v <- whole;standAt e.pos;holding [v] (truthy v)):=by intro _;rfl):PT X e (tB t):=by
 intro pins s σ H Q I hw;refine isTrue_plain (thn (h pins s σ H _ I hw) λv s1 a3=>?_) (he _);obtain ⟨x,H1,I1,r1,q1⟩:=a3;obtain ⟨d,rfl,q⟩:=q1;cases r1;show qR0 ⟨H1,I1,q⟩
def CF (t u:TT):TT:=λσ H Q=>t σ H λc H1=>if c=true then u σ H1 Q else Q false H1
def tOr (t u:TT):TT:=λσ H Q=>t σ H λc H1=>if c=true then Q true H1 else u σ H1 Q
def Cu (t:TT):TT:=λσ H Q=>t σ H λc H1=>Q (!c) H1
def zT (ha:PT X a tA):PW X (.BoolOp .And [a] pos) tA:=by
 intro wh pins s σ H Q I h;refine isTrue_and (thn (ha pins s σ H Q I h) λc s1 e=>?_);cases c with
 |true=>show isTrue_and_nil e
 |false=>show e
def El (ha:PT X a tA):PW X (.BoolOp .Or [a] pos) tA:=by
 intro wh pins s σ H Q I h;refine isTrue_or (thn (ha pins s σ H Q I h) λc s1 e=>?_);cases c with
 |false=>show isTrue_or_nil e
 |true=>show e
def Em {rest:Vz}(ha:PT X a tA) (hb:PW X (.BoolOp .And (b::rest) pos) tB'):PW X (.BoolOp .And (a::b::rest) pos) (CF tA tB'):=by
 intro wh pins s σ H Q I h;refine isTrue_and (thn (ha pins s σ H _ I h) λc s1 a3=>?_);obtain ⟨H1,I1,q1⟩:=a3;cases c with
 |true=>show hb wh pins s1 σ H1 Q I1 q1
 |false=>show ⟨H1,I1,q1⟩
def Ip {rest:Vz}(ha:PT X a tA) (hb:PW X (.BoolOp .Or (b::rest) pos) tB'):PW X (.BoolOp .Or (a::b::rest) pos) (tOr tA tB'):=by
 intro wh pins s σ H Q I h;refine isTrue_or (thn (ha pins s σ H _ I h) λc s1 a3=>?_);obtain ⟨H1,I1,q1⟩:=a3;cases c with
 |true=>show ⟨H1,I1,q1⟩
 |false=>show hb wh pins s1 σ H1 Q I1 q1
def Ep (ha:PT X a tA):PT X (.UnaryOp .Not a pos) (Cu tA):=by
 intro pins s σ H Q I h;show isTrue_not (ha pins s σ H (λc H1=>Q (!c) H1) I h)
def yd (ta I:TE):TE:=λσ H Q=>ta σ H λx H1=>∃c,x=.bl c/\if c=true then I σ H1 Q else Q (.bl false) H1
def EB {op}(h:PE X a t):PE X (.BoolOp op [a] pos) t:=λpins s σ H Q I hw=>BoolOp_one (h pins s σ H Q I hw)
def ED {rest:Vz}(ha:PE X a ta) (hb:PE X (.BoolOp .And (b::rest) pos) tb):PE X (.BoolOp .And (a::b::rest) pos) (yd ta tb):=by
 intro pins s σ H Q I h;refine BoolOp_and (thn (ha pins s σ H _ I h) λv s1 a3=>?_);obtain ⟨x,H1,I1,r1,q1⟩:=a3;obtain ⟨c,rfl,q1⟩:=q1;cases r1;refine qR0 ?_;cases c with
 |true=>show hb pins s1 σ H1 Q I1 q1
 |false=>show ⟨.bl false,H1,I1,rfl,q1⟩
def tIf (t:TT)(ta I:TE):TE:=λσ H Q=>t σ H λc H1=>if c=true then ta σ H1 Q else I σ H1 Q
def wm (hc:PT X c tA) (ha:PE X a ta) (hb:PE X b tb):PE X (.IfExp c a b pos) (tIf tA ta tb):=by
 intro pins s σ H Q I h;refine wpAny_IfExp (thn (hc pins s σ H _ I h) λd s1 a3=>?_);obtain ⟨H1,I1,q1⟩:=a3;cases d with
 |true=>show ha pins s1 σ H1 Q I1 q1
 |false=>show hb pins s1 σ H1 Q I1 q1
def SqL (K:Frag) (H:Hp) (a:Addr) (xs:List V):Prop:=
 Rd H a (.lst xs) \/
  ∃(o:Obj) (its:Vj) (n:Nat),K.lookup a=some o/\o.cls=.type "list" /\ o.dict=none/\o.data=.seq its n/\its.size<=sizeLine/\Vals xs its.toList
def SqT (K:Frag) (H:Hp) (a:Addr) (xs:List V):Prop:=
 Rd H a (.tup xs) \/
  ∃(o:Obj) (its:Vj) (n:Nat),K.lookup a=some o/\o.cls=.type "tuple" /\ o.data=.seq its n/\its.size<=sizeLine/\Vals xs its.toList
def absV:Value->Option V
 | .none=>some .non
 | .bool b=>some (.bl b)
 | .int i _=>some (.int i)
 | .str x _=>some (.str x)
 | .bytes b _=>some (.byt b)
 | .float b _=>some (.flt b)
 | .ref a=>some (.ref a)
 | .type n=>some (.ty n)
 |_=>none
def RelV.abs (r:RelV x u):absV u=some x:=by
 cases x with
 |non=>cases r;rfl
 |bl _=>cases r;rfl
 |int _=>obtain ⟨t,rfl⟩:=r;rfl
 |str _=>obtain ⟨t,rfl⟩:=r;rfl
 |byt _=>obtain ⟨t,rfl⟩:=r;rfl
 |flt _=>obtain ⟨t,rfl⟩:=r;rfl
 |ref _=>cases r;rfl
 |ty _=>cases r;rfl
def RelV.inj (r:RelV x u)(q:RelV y u):x=y:=Option.some.inj (r.abs.symm.trans q.abs)
def Vals.inj:∀{xs I:List V}{us:JY},Vals xs us->Vals I us->xs=I:=by
 intro xs I us a
 induction a generalizing I with
 |nil=>intro b;cases b;rfl
 | cons r t ih=>
  intro b;cases b with
  |cons r' t'=>rw[r.inj r',ih t']
def SqL.of {K:Frag}(h:H a=some (.lst xs)):SqL K H a xs:=.inl (.inl h)
def SqT.of {K:Frag}(h:H a=some (.tup xs)):SqT K H a xs:=.inl (.inl h)
def Inv.list {σ:St}(I:Inv X pins σ H s) (h:SqL X.K H a xs):∃its:List Value,Vals xs its/\PlainL s.heap a its.toArray/\xs.length<=sizeLine:=by
 rcases h with h|⟨o,its,n,hk,hc,hd,hs,hz,r⟩
 .obtain ⟨z,its,n,r,e⟩:=h.ok I.hok;show ⟨its,r,⟨_,n,e,rfl,rfl,rfl⟩,z⟩
 .refine ⟨its.toList,r,⟨o,n,I.kIn a o hk,hc,hd,by simpa using hs⟩,?_⟩;have e:=r.length;simp only [qE5]at e;omega
def Inv.tuple {σ:St}(I:Inv X pins σ H s) (h:SqT X.K H a xs):∃its:List Value,Vals xs its/\IsTup s.heap a its.toArray/\xs.length<=sizeLine:=by
 rcases h with h|⟨o,its,n,hk,hc,hs,hz,r⟩
 .obtain ⟨z,its,r,p⟩:=h.ok I.hok;show ⟨its,r,p,z⟩
 .refine ⟨its.toList,r,⟨o,I.kIn a o hk,hc,n,by simpa using hs⟩,?_⟩;have e:=r.length;simp only [qE5]at e;omega
def Inv.list_inj {σ:St}(I:Inv X pins σ H s) (h:SqL X.K H a xs) (h':SqL X.K H a ys):xs=ys:=by
 obtain ⟨its,r,⟨o,n,e,_,_,d⟩,_⟩:=I.list h;obtain ⟨its',r',⟨o',n',e',_,_,d'⟩,_⟩:=I.list h';rw[e]at e';cases e';rw[d]at d';injection d' with d1 _
 have:its=its':=by simpa using congrArg Array.toList d1
 subst this;show r.inj r'
def Inv.tuple_inj {σ:St}(I:Inv X pins σ H s) (h:SqT X.K H a xs) (h':SqT X.K H a ys):xs=ys:=by
 obtain ⟨its,r,⟨o,e,_,n,d⟩,_⟩:=I.tuple h;obtain ⟨its',r',⟨o',e',_,n',d'⟩,_⟩:=I.tuple h';rw[e]at e';cases e';rw[d]at d';injection d' with d1 _
 have:its=its':=by simpa using congrArg Array.toList d1
 subst this;show r.inj r'
abbrev Cx.wish (X:Cx)(E:Vv):Cx:={ X with xe:=E }
abbrev Cx.nox (X:Cx):Cx:=X.wish λ_ _=>False
def Cx.Ok.wish {X:Cx}(ok:X.Ok) (E:Vv):(X.wish E).Ok:=
 ⟨ok.mod,ok.kind,ok.glob,ok.blt,ok.above,ok.inj,ok.has,ok.cab,ok.hd,ok.frames,ok.stk,ok.exf,ok.bs,ok.bsz,ok.noex,ok.exfs,ok.funs,ok.frf⟩
def Cx.Ok.unwish {X:Cx}(ok:(X.wish E).Ok):X.Ok:=
 ⟨ok.mod,ok.kind,ok.glob,ok.blt,ok.above,ok.inj,ok.has,ok.cab,ok.hd,ok.frames,ok.stk,ok.exf,ok.bs,ok.bsz,ok.noex,ok.exfs,ok.funs,ok.frf⟩
def Inv.wish {σ:St}(I:Inv X pins σ H s)(E:Vv):Inv (X.wish E) pins σ H s:=⟨I.ok.wish E,I.os,I.bare,I.base,I.loc,I.cell,I.free,I.freeC,I.pin,I.hok,I.len⟩
def Inv.unwish {σ:St}(I:Inv (X.wish E) pins σ H s):Inv X pins σ H s:=⟨I.ok.unwish,I.os,I.bare,I.base,I.loc,I.cell,I.free,I.freeC,I.pin,I.hok,I.len⟩
def SP.unwish (h:SP (X.wish E) pins D f s'):SP X pins D f s':=by
 cases f with
 |next=>obtain ⟨a3,H',I,q⟩:=h;show ⟨a3,H',I.unwish,q⟩
 |brk=>obtain ⟨a3,H',I,q⟩:=h;show ⟨a3,H',I.unwish,q⟩
 |cont=>obtain ⟨a3,H',I,q⟩:=h;show ⟨a3,H',I.unwish,q⟩
 |ret u=>obtain ⟨v,a3,H',I,r,q⟩:=h;show ⟨v,a3,H',I.unwish,r,q⟩
def PSs.nox {st:List Stmt}(h:PSs X.nox st t):PSs X st t:=λpins s σ H D I hw=>
 qS1 (h pins s σ H D (I.wish _) hw) (λ_ _ q=>q.unwish) λ_ _ z=>False.elim z
def tNext:TS:=λD σ H=>D.nx σ H
def Cs (t u:TS):TS:=λD σ H=>t { D with nx:=u D } σ H
def pss_nil:PSs X [] tNext:=λ_ _ σ H _ I h=>qU1 ⟨σ,H,I,h⟩
def we {st:Stmt}{rest:List Stmt}(h1:PS X st t) (h2:PSs X rest u):PSs X (st::rest) (Cs t u):=by
 intro pins s σ H D I h;refine wpAny_execs_cons (thn (h1 pins s σ H { D with nx:=u D } I h) λf s1 q=>?_);cases f with
 | next=>
  obtain ⟨a3,H',I',q⟩:=q;show h2 pins s1 a3 H' D I' q
 |ret v=>show q
 |brk=>show q
 |cont=>show q
def zV {st:Stmt}(h1:PS X st t):PSs X [st] t:=by
 intro pins s σ H D I h;refine wpAny_execs_cons (thn (h1 pins s σ H D I h) λf s1 q=>?_);cases f with
 |next=>show qU1 q
 |ret v=>show q
 |brk=>show q
 |cont=>show q
def tCont:TS:=λD σ H=>D.ct σ H
def ps_continue:PS X (.Continue pos) tCont:=λ_ _ σ H _ I h=>wpAny_Continue ⟨σ,H,I,h⟩
def Inv.quiet {σ:St}(I:Inv X pins σ H s):interactive X.env=false:=by simp [interactive,I.ok.kind]
def pA (I:TE):TS:=λD σ H=>I σ H λ_ H1=>D.nx σ H1
def og (he:PE X e te) (hs:swapsWith e none pos.line X.env=pure false:=by rfl):PS X (.Expr e pos) (pA te):=by
 intro pins s σ H D I h;show wpAny_Expr_any (thn (he pins s σ H _ I h) λv s1 a3=>by obtain ⟨x,H1,I1,r1,q1⟩:=a3;show ⟨σ,H1,I1,q1⟩) I.quiet hs
def pz (I:TE):TS:=λD σ H=>I σ H D.rt
def sD (he:PE X e te):PS X (.Return (some e) pos) (pz te):=by
 intro pins s σ H D I h;show wpAny_Return_some (thn (he pins s σ H _ I h) λv s1 a3=>by obtain ⟨x,H1,I1,r1,q1⟩:=a3;show ⟨x,σ,H1,I1,r1,q1⟩)
def Cw (c:TT)(t u:TS):TS:=λD σ H=>c σ H λb H1=>if b=true then t D σ H1 else u D σ H1
def Iq (hc:PT X c tc) (ha:PSs X a t) (hb:PSs X b u):PS X (.If c a b pos) (Cw tc t u):=by
 intro pins s σ H D I h;refine wpAny_If (thn (hc pins s σ H _ I h) λd s1 a3=>?_);obtain ⟨H1,I1,q1⟩:=a3;cases d with
 |true=>show ha pins s1 σ H1 D I1 q1
 |false=>show hb pins s1 σ H1 D I1 q1
def tNever:TS:=λ_ _ _=>False
def ps_never {st:Stmt}:PS X st tNever:=λ_ _ _ _ _ _ h=>h.elim
abbrev TG:=V->St->Hp->(St->Hp->Prop)->Prop
abbrev TGs:=List V->St->Hp->(St->Hp->Prop)->Prop
def PG (X:Cx) (target:Expr) (t:TG):Prop:=
 ∀ (pins:JZ) (s:Shared) (σ:St) (H:Hp) (v:V) (u:Value) (Q:St->Hp->Prop),Inv X pins σ H s->RelV v u->t v σ H Q ->
  wpAny (model X.prog X.w) X.A (assign target X.env u) (λ_ s'=>∃I H',Inv X pins I H' s'/\Q I H') X.xe s
def PGs (X:Cx) (ts:Vz) (t:TGs):Prop:=
 ∀ (pins:JZ) (s:Shared) (σ:St) (H:Hp) (vs:List V) (us:JY) (Q:St->Hp->Prop),Inv X pins σ H s->Vals vs us->t vs σ H Q ->
  wpAny (model X.prog X.w) X.A (assignInOrder ((assignEach ts X.env).map (·.2)) us) (λ_ s'=>∃I H',Inv X pins I H' s'/\Q I H') X.xe s
abbrev TSet:=V->V->V->Hp->(Hp->Prop)->Prop
def HU (X:Cx) (t:TSet):Prop:=
 ∀ (pins:JZ) (s:Shared) (σ:St) (H:Hp) (o i v:V) (I iv u:Value) (Q:Hp->Prop),Inv X pins σ H s->RelV o I->RelV i iv->RelV v u->t o i v H Q ->
  wpAny (model X.prog X.w) X.A (setItem I iv u) (λ_ s'=>∃H',Inv X pins σ H' s'/\Q H') X.xe s
abbrev TIp:=V->V->Hp->VK->Prop
def PIp (X:Cx) (I:Operator) (t:TIp):Prop:=
 ∀ (pins:JZ) (s:Shared) (σ:St) (H:Hp) (x y:V) (v u:Value) (Q:VK),Inv X pins σ H s->RelV x v->RelV y u->t x y H Q ->
  wpAny (model X.prog X.w) X.A (inplaceOp I v u) (EP X pins σ Q) X.xe s
def M8 (i:Nat):TG:=λv σ H Q=>Q (σ.set i (some v)) H
def d8 {X:Cx}{pos:Pos}{i:Nat}{x:Str}(hN:X.N.Nodup) (hi:X.N[i]?=some x) (hx:Loc X.env.scope x) (hf:X.fn x=true\/X.env.scope.names.lookup x=some .local:=by first|show .inl rfl|show .inr rfl|assumption):PG X (.Name x pos) (M8 i):=by
 intro pins s σ H v u Q I r h;show wpAny_assign_Name (eZ I hN hi hx r (λs' I'=>⟨_,H,I',h⟩) hf)
def gNil:TGs:=λvs σ H Q=>vs = []/\Q σ H
def qx (t:TG)(u:TGs):TGs:=λvs σ H Q=>∃v r,vs=v::r/\t v σ H λI H'=>u r I H' Q
def D0:PGs X [] gNil:=by
 intro pins s σ H vs us Q I r h;obtain ⟨e,h⟩:=h;subst e;cases r;show assignInOrder_nil ⟨σ,H,I,h⟩
def k9 (h1:PG X e t) (h2:PGs X es u) (hs:(assignEach (e::es) X.env).map (·.2)=assign e X.env::(assignEach es X.env).map (·.2):=by rfl):PGs X (e::es) (qx t u):=by
 intro pins s σ H vs us Q I r h;obtain ⟨v,vr,e1,h⟩:=h;subst e1;cases r with
 | cons r rr=>
  rw[hs];refine assignInOrder_cons (thn (h1 pins s σ H _ _ _ I r h) λ_ s1 a3=>?_);obtain ⟨a4,H1,I1,q1⟩:=a3;show h2 pins s1 a4 H1 _ _ Q I1 rr q1
def qw (K:Frag)(n:Nat)(t:TGs):TG:=λv σ H Q=>∃a xs,v=.ref a/\SqT K H a xs/\xs.length=n/\t xs σ H Q
def Ez {X:Cx}{pos:Pos}{es:Vz}{k:Nat}{t:TGs}{n:Nat}(hc:X.calm=true) (h:PGs X es t) (hn:(assignEach es X.env).length=n:=by rfl) (a3:(assignEach es X.env).findIdx? (·.1)=none:=by rfl):PG X (.Tuple es k pos) (qw X.K n t):=by
 intro pins s σ H v u Q I r hw;obtain ⟨a,xs,e1,hq,hl,hw⟩:=hw;subst e1;cases r;obtain ⟨its,rv,ht,hz⟩:=I.tuple hq;refine assign_Tuple_tuple (I.ok.hd hc) ht (by simp [hn,<- hl,rv.length]) a3 λh' hx=>?_;have I1:Inv X pins σ H { s with heap:=h' }:=I.kept (t':=s.toks) λb o e=>hx b o (qD6 (qB4 e)) e;show h pins _ σ H xs _ Q I1 (by simpa using rv) hw
def gSub (to ti:TE)(t:TSet):TG:=λv σ H Q=>to σ H λo H1=>ti σ H1 λi H2=>t o i v H2 λI=>Q σ I
def EA {X:Cx}{pos:Pos}{o i:Expr}{to ti:TE}{t:TSet}(ho:PE X o to) (hi:PE X i ti) (hs:HU X t) (ha:∀v,assign (.Subscript o i pos) X.env v=(do
   let ov <- holding [v] (eval o X.env)
   let iv <- holding [v,ov] (eval i X.env)
   standAt pos
   holding [v,ov,iv] (setItem ov iv v)
   release [v,ov,iv] []):=by intro _;rfl):PG X (.Subscript o i pos) (gSub to ti t):=by
 intro pins s σ H v u Q I r h;rw[ha];refine qA1 (qR1 (thn (ho pins s σ H _ I h) λov s1 a3=>?_));obtain ⟨x,H1,I1,r1,q1⟩:=a3;refine qA1 (qR1 (thn (hi pins s1 σ H1 _ I1 q1) λiv s2 a5=>?_));obtain ⟨y,H2,I2,r2,q2⟩:=a5;refine qA1 (wpAny_standAt (qA1 (qR1 (thn (hs pins s2 σ H2 x y v ov iv u _ I2 r1 r2 r q2) λ_ s3 a4=>?_))));obtain ⟨H3,I3,q3⟩:=a4;show wpAny_release ⟨σ,H3,I3,q3⟩
def bv (I:TE)(g:TG):TS:=λD σ H=>I σ H λx H1=>g x σ H1 D.nx
def Et {X:Cx}{pos:Pos}{tg e:Expr}{te:TE}{g:TG}(he:PE X e te) (hg:PG X tg g) (hs:swapsWithSole [tg] e pos.line X.env=pure false:=by rfl) (hw:swappedStores [tg] e X.env=pure none:=by rfl) (h1:(assignEach [tg] X.env).map (·.2) = [assign tg X.env]:=by rfl):PS X (.Assign [tg] e pos) (bv te g):=by
 intro pins s σ H D I h;refine wpAny_Assign_stores (thn (he pins s σ H _ I h) λv s1 a3=>?_) hs hw;obtain ⟨x,H1,I1,r1,q1⟩:=a3;rw[h1];show thn (hg pins s1 σ H1 x v _ I1 r1 q1) λ_ s2 q=>q
def cK {X:Cx}{pos:Pos}{i:Nat}{x:Str}{e:Expr}{te:TE}{pos':Pos}(hN:X.N.Nodup) (hi:X.N[i]?=some x) (hx:Loc X.env.scope x) (he:PE X e te) (hs:swapsWith e (some (.Name x pos')) pos.line X.env=pure false:=by rfl) (hf:X.fn x=true\/X.env.scope.names.lookup x=some .local:=by first|show .inl rfl|show .inr rfl|assumption):
  PS X (.Assign [.Name x pos'] e pos) (bv te (M8 i)):=by
 intro pins s σ H D I h;refine wpAny_Assign_Name (thn (he pins s σ H _ I h) λv s1 a3=>?_) hs;obtain ⟨y,H1,I1,r1,q1⟩:=a3;show eZ I1 hN hi hx r1 (λs2 I2=>⟨_,H1,I2,q1⟩) hf
def CC (i:Nat)(I:TE)(ti:TIp):TS:=λD σ H=>∃x,σ[i]?=some (some x)/\I σ H λy H1=>ti x y H1 λz H2=>D.nx (σ.set i (some z)) H2
def Es (hN:X.N.Nodup) (hi:X.N[i]?=some x) (hx:Loc X.env.scope x) (he:PE X e te) (ho:PIp X op ti) (hf:X.fn x=true\/X.env.scope.names.lookup x=some .local:=by first|show .inl rfl|show .inr rfl|assumption):
  PS X (.AugAssign (.Name x pos') op e pos) (CC i te ti):=by
 intro pins s σ H D I h;obtain ⟨v,e1,h⟩:=h;obtain ⟨m,hn,hl⟩:=I.loc;have a7:Vis X.env.scope x:=by rcases hx with k|k;show .inl k;show .inr (.inl k)
 obtain ⟨u,r,l⟩:=hl i x v hi e1 a7;refine wpAny_AugAssign_Name ?_;have go:wpAny (model X.prog X.w) X.A (eval e X.env) (λw a4=>wpAny (model X.prog X.w) X.A (inplaceOp op u w) (λr a6=>wpAny (model X.prog X.w) X.A (storeName X.env x r) (λ_=>SP X pins D .next) X.xe a6) X.xe a4) X.xe s:=by
  refine thn (he pins s σ H _ I h) λw s1 a5=>?_;obtain ⟨y,H1,I1,r1,q1⟩:=a5;refine thn (ho pins s1 σ H1 v y u w _ I1 r r1 q1) λz s2 a3=>?_;obtain ⟨zv,H2,I2,r2,q2⟩:=a3;show eZ I2 hN hi hx r2 (λs3 I3=>⟨_,H2,I3,q2⟩) hf
 rcases l with ⟨hk,hm⟩|⟨hk,c,hc,hcell⟩
 .show wpAny_loadName_local I.ok.kind hk hn hm go
 .rcases hk with hk|hk
  .show wpAny_loadName_cell I.ok.kind hk hc hcell go
  .rcases hx with k|k
   .have:X.env.scope.names.lookup x=some .free:=hk
    rw[k]at this;cases this
   .have:X.env.scope.names.lookup x=some .free:=hk
    rw[k]at this;cases this
def ipI (f:Int->Int->Int):TIp:=λx y H Q=>∃i j,x=.int i/\y=.int j/\Q (.int (f i j)) H
def ug:PIp X .Add (ipI λi j=>i+j):=by
 intro pins s σ H x y v u Q I r1 r2 h;obtain ⟨i,j,e1,e2,q⟩:=h;subst e1;subst e2;obtain ⟨t,rfl⟩:=r1;obtain ⟨t',rfl⟩:=r2;show iadd_int ⟨.int _,H,I.tok _,⟨_,rfl⟩,q⟩
def rJ (c:TT) (tb:TS):TS:=λD σ H=>∃W:Nat->St->Hp->Prop,(∃m,W m σ H)/\∀m σ H,W m σ H ->
 c σ H λb H1=>if b=true then ∃N:St->Hp->Prop,(∀I H',N I H'->∃m',m'<m/\W m' I H')/\tb { D with nx:=N,ct:=N,bk:=D.nx } σ H1 else D.nx σ H1
def wf (hp:PassesOwn (model X.prog X.w) X.A X.env X.xe) (hc:PT X c tc) (hb:PSs X body tb):PS X (.While c body [] pos) (rJ tc tb):=by
 intro pins s σ H D I h;obtain ⟨W,⟨m0,w0⟩,turn⟩:=h;refine wpAny_While (codeAny_whileLoop (λn s'=>∃a5 H',Inv X pins a5 H' s'/\W n a5 H') ?_ m0 ⟨σ,H,I,w0⟩);rintro n s1 ⟨a4,H1,I1,w1⟩;refine qR4 hp (thn (hc pins s1 a4 H1 _ I1 (turn n a4 H1 w1)) λb s2 a6=>?_);obtain ⟨H2,I2,q2⟩:=a6;cases b with
 | true=>
  obtain ⟨N,hN,q2⟩:=q2;rw[qA2 rfl];refine qR4 hp (thn (hb pins s2 a4 H2 _ I2 q2) λf s3 q3=>?_);cases f with
  | next=>
   obtain ⟨a3,H3,I3,n3⟩:=q3;obtain ⟨m',hm,w3⟩:=hN a3 H3 n3;show ⟨m',hm,a3,H3,I3,w3⟩
  | cont=>
   obtain ⟨a3,H3,I3,n3⟩:=q3;obtain ⟨m',hm,w3⟩:=hN a3 H3 n3;show ⟨m',hm,a3,H3,I3,w3⟩
  |brk=>show q3
  |ret v=>show q3
 | false=>
  rw[qA4 qA3];show qU1 ⟨a4,H2,I2,q2⟩
structure It where
 go:Nat->Hp->Prop
 yld:Nat->Hp->V->Hp->Prop
 stop:Nat->Hp->Prop
def K2 (X:Cx) (pins:JZ) (H:Hp) (b:Addr):Prop:=
 H b=none/\b≠X.env.locals/\b∉X.fs/\(b∈X.ex\/X.s₀.heap.objs.size<=b)/\(∀x c,X.env.cells.lookup x=some c->c≠b)/\∀p∈X.pn++pins,p.1≠b
def Inv.fpOk {σ:St}{b:Addr}(I:Inv X pins σ H s) (hb:s.heap.objs.size<=b) (hn:H' b=none):K2 X pins H' b:=by
 refine ⟨hn,qO7 (qB3 I.lt hb),I.nofs hb,.inr (qA5 I.sz hb),λx c e z=>?_,λp hp z=>?_⟩
 .obtain ⟨v,q⟩:=I.cell x c e;show absurd (qB3 q.lt (by rw[z];show hb)) (qF1 _)
 .show absurd (qB3 (qB4 (I.pin p hp).1) (by rw[z];show hb)) (qF1 _)
structure Turn (P:Program) (w:World) (K:Frag) (tg:Expr) (J:It) (fp:List Addr) (it:Addr) (tn:Nat->Heap->Prop):Prop where
 mem:it∈fp
 obj:∀i h,tn i h->∀b∈fp,∃o,h.get? b=some o/\∀v,o.data≠.cell v
 keep:∀i h h',tn i h->(∀b∈fp,∀o,h.get? b=some o->h'.get? b=some o)->tn i h'
 item:∀(X:Cx),X.prog=P->X.w=w->X.K=K->X.calm=true->∀(i:Nat) (pins:JZ) (s:Shared) (σ:St) (H:Hp) (E:Vv),Inv X pins σ H s->(∀b∈fp,K2 X pins H b)->tn i s.heap->J.go i H ->
  wpAny (model P w) X.A (pyNext (.ref it)) (λr s1=>∃u,r=some u /\
   wpAny (model P w) X.A (letOwnedTupleGo tg (.ref it) u) (λ_ s2=>∃x H',Inv X pins σ H' s2/\RelV x u/\J.yld i H x H'/\tn (i+1) s2.heap/\∀b∈fp,H' b=none) E s1) E s
 done:∀(X:Cx),X.prog=P->X.w=w->X.K=K->X.calm=true->∀(i:Nat) (pins:JZ) (s:Shared) (σ:St) (H:Hp) (E:Vv),Inv X pins σ H s->(∀b∈fp,K2 X pins H b)->tn i s.heap->J.stop i H ->
  wpAny (model P w) X.A (pyNext (.ref it)) (λr s1=>r=none/\Inv X pins σ H s1) E s
 self:∀(A:Around) (i:Nat) (s:Shared) (Q:Vv) (E:Vv),tn i s.heap->Q (.ref it) s->wpAny (model P w) A (pyIter (.ref it)) Q E s
abbrev TI:=St->Hp->(It->Hp->Prop)->Prop
def PIE (X:Cx) (pins:JZ) (σ:St) (tg:Expr) (R:It->Hp->Prop) (I:Value) (s2:Shared):Prop:=
 ∃(it:Addr) (fp:List Addr) (tn:Nat->Heap->Prop) (J:It) (H':Hp),I=.ref it/\Inv X pins σ H' s2/\Turn X.prog X.w X.K tg J fp it tn/\tn 0 s2.heap/\(∀b∈fp,K2 X pins H' b)/\R J H'
def PI (X:Cx) (tg iter:Expr) (I:TI):Prop:=
 ∀ (pins:JZ) (s:Shared) (σ:St) (H:Hp) (R:It->Hp->Prop),Inv X pins σ H s->I σ H R ->
  wpAny (model X.prog X.w) X.A (eval iter X.env) (λv s1=>wpAny (model X.prog X.w) X.A (pyIter v) (PIE X pins σ tg R) X.xe s1) X.xe s
def ki (ho:s.heap.get? it=some o) (hc:o.cls=.type n) (hd:o.data=.fields vs) (hn:["enumerate","zip","dict_itemiterator","dict_reverseitemiterator","odict_iterator","itertools.zip_longest","itertools.pairwise"].contains n=false) (I:Q () s):wpAny M A (letOwnedTupleGo tg (.ref it) u) Q E s:=by
  unfold letOwnedTupleGo;cases tg <;> first
    |show qP9 I
    | (cases u <;> first
        |show qP9 I
        | (refine qA1 (wpAny_load ho ?_)
           rw[hc,hd]
           change wpAny M A (if (["enumerate","zip","dict_itemiterator","dict_reverseitemiterator","odict_iterator","itertools.zip_longest","itertools.pairwise"].contains n&&vs[0]? == some (rawInt _))=true then _ else _) Q E s;rw[qA4 (by intro h;rw[hn,qV4]at h;cases h)];show qP9 I))
def Itl (K:Frag) (a:Addr):It:=
 ⟨λi H=>∃xs x,SqL K H a xs/\xs[i]?=some x,λi H x H'=>H'=H/\∀xs,SqL K H a xs->xs[i]?=some x,λi H=>∃xs,SqL K H a xs/\xs.length<=i⟩
def Itt (K:Frag) (a:Addr):It:=
 ⟨λi H=>∃xs x,SqT K H a xs/\xs[i]?=some x,λi H x H'=>H'=H/\∀xs,SqT K H a xs->xs[i]?=some x,λi H=>∃xs,SqT K H a xs/\xs.length<=i⟩
def Itr (lo:Int)(n:Nat):It:=⟨λi _=>i<n,λi H x H'=>H'=H/\x=.int (lo+i),λi _=>n<=i⟩
def rE {K:Frag}(a it:Addr):Turn P w K tg (Itl K a) [it] it (λi h=>h.IsListIter it a i) where
 mem:=Zy
 obj:=λi h st b hb=>by
  have e:b=it:=by simpa using hb
  subst e;obtain ⟨o,e,c,d⟩:=st;show ⟨o,e,λv z=>by rw[d]at z;cases z⟩
 keep:=λi h h' st k=>st.at λo e=>k it Zy o e
 item:=by
  intro X hP hw hK hc i pins s σ H E I hf st hg;subst hP hw hK;obtain ⟨xs,x,hq,hx⟩:=hg;obtain ⟨its,rv,p,hz⟩:=I.list hq;obtain ⟨u,hu,ru⟩:=rv.get hx;obtain ⟨f0,f1,f2,f3,f4,f5⟩:=hf it Zy;refine wpAny_pyNext_list_item st p.isList (x:=u) (by simpa using hu) λh' a3 sb=>?_;have I1:Inv X pins σ H { s with heap:=h' }:=I.turned (t':=s.toks) (λb o hb e=>(sb.2 b hb).trans e) f0 f1 f3 f4 f5;obtain ⟨o,e,c,d⟩:=id a3;show ⟨u,rfl,ki (s:={ s with heap:=h' }) e c d Zz ⟨x,H,I1,ru,⟨rfl,λys hy=>by rw[I.list_inj hy hq];show hx⟩,a3,λb hb=>(hf b hb).1⟩⟩
 done:=by
  intro X hP hw hK hc i pins s σ H E I hf st hg;subst hP hw hK;obtain ⟨xs,hq,hx⟩:=hg;obtain ⟨its,rv,p,hz⟩:=I.list hq;obtain ⟨f0,f1,f2,f3,f4,f5⟩:=hf it Zy;have hl:=rv.length;show wpAny_pyNext_list_end (I.ok.hd hc) st p.isList (by simp;omega) λh' eb=>⟨rfl,I.turned (t':=s.toks) (λb o hb e=>eb b o hb e) f0 f1 f3 f4 f5⟩
 self:=λ_ _ _ _ _ st h=>wpAny_pyIter_listiter st h
def pk {K:Frag}(a it:Addr):Turn P w K tg (Itt K a) [it] it (λi h=>h.IsTupleIter it a i) where
 mem:=Zy
 obj:=λi h st b hb=>by
  have e:b=it:=by simpa using hb
  subst e;obtain ⟨o,e,c,d⟩:=st;show ⟨o,e,λv z=>by rw[d]at z;cases z⟩
 keep:=λi h h' st k=>st.at λo e=>k it Zy o e
 item:=by
  intro X hP hw hK hc i pins s σ H E I hf st hg;subst hP hw hK;obtain ⟨xs,x,hq,hx⟩:=hg;obtain ⟨its,rv,p,hz⟩:=I.tuple hq;obtain ⟨u,hu,ru⟩:=rv.get hx;obtain ⟨f0,f1,f2,f3,f4,f5⟩:=hf it Zy;refine wpAny_pyNext_tuple_item st (show s.heap.IsTuple a its.toArray from p) (x:=u) (by simpa using hu) λh' a3 sb=>?_;have I1:Inv X pins σ H { s with heap:=h' }:=I.turned (t':=s.toks) (λb o hb e=>(sb.2 b hb).trans e) f0 f1 f3 f4 f5;obtain ⟨o,e,c,d⟩:=id a3;show ⟨u,rfl,ki (s:={ s with heap:=h' }) e c d Zz ⟨x,H,I1,ru,⟨rfl,λys hy=>by rw[I.tuple_inj hy hq];show hx⟩,a3,λb hb=>(hf b hb).1⟩⟩
 done:=by
  intro X hP hw hK hc i pins s σ H E I hf st hg;subst hP hw hK;obtain ⟨xs,hq,hx⟩:=hg;obtain ⟨its,rv,p,hz⟩:=I.tuple hq;obtain ⟨f0,f1,f2,f3,f4,f5⟩:=hf it Zy;have hl:=rv.length;show wpAny_pyNext_tuple_end (I.ok.hd hc) st (show s.heap.IsTuple a its.toArray from p) (by simp;omega) λh' eb=>⟨rfl,I.turned (t':=s.toks) (λb o hb e=>eb b o hb e) f0 f1 f3 f4 f5⟩
 self:=λ_ _ _ _ _ st h=>wpAny_pyIter_tupleiter st h
def pp {K:Frag}(it:Addr) (lo:Int) (n:Nat):Turn P w K tg (Itr lo n) [it] it (λi h=>IsRangeIter h it (lo+(i:Nat)*1) ((n:Int)-(i:Nat)) 1) where
 mem:=Zy
 obj:=λi h st b hb=>by
  have e:b=it:=by simpa using hb
  subst e;show ⟨_,st,λv z=>by
   have z':Data.fields _=Data.cell v:=z;cases z'⟩
 keep:=λi h h' st k=>k it Zy _ st
 item:=by
  intro X hP hw hK hc i pins s σ H E I hf st hg;subst hP hw hK;obtain ⟨f0,f1,f2,f3,f4,f5⟩:=hf it Zy;have W:=Walks.range (prog:=X.prog) (w:=X.w) (I.ok.hd hc) it lo 1 n;refine W.item i s _ _ hg st λv h' tk hv a3 kk=>?_;obtain ⟨t,rfl⟩:=hv;have I1:Inv X pins σ H { s with heap:=h',toks:=tk }:=I.turned (λb o hb e=>kk b o (by simpa using hb) e) f0 f1 f3 f4 f5;refine ⟨_,rfl,ki (s:={ s with heap:=h',toks:=tk }) (n := "range_iterator") a3 rfl rfl Zz ⟨.int (lo+i),H,I1,⟨t,?_⟩,⟨rfl,rfl⟩,a3,λb hb=>(hf b hb).1⟩⟩;rw[Int.mul_one]
 done:=by
  intro X hP hw hK hc i pins s σ H E I hf st hg;subst hP hw hK;obtain ⟨f0,f1,f2,f3,f4,f5⟩:=hf it Zy;show wpAny_pyNext_range_end (I.ok.hd hc) st (by have:n<=i:=hg;omega) λh' eb=>⟨rfl,I.turned (t':=s.toks) (λb o hb e=>eb b o hb e) f0 f1 f3 f4 f5⟩
 self:=λ_ _ _ _ _ st h=>wpAny_pyIter_rangeiter st h
def vT {σ:St}{lo:Int}(I:Inv X pins σ H s) (h1:-(2^62)<=lo) (h2:lo<2^62) (h3:-(2^62)<=hi) (h4:hi<2^62) (q:R (Itr lo (hi-lo).toNat) H):wpAny (model X.prog X.w) X.A (pyIter (.ref s.heap.objs.size)) (PIE X pins σ tg R) E { s with heap:=s.heap.push { cls:=.type "range",data:=.fields #[.int lo t,.int hi u,.int 1 v] },toks:=tk }:=by
 refine wpAny_pyIter_range (IsRange.new ..) (small_one h1 h2 h3 h4) ?_;have I1:Inv X pins σ H { s with heap:=s.heap.push { cls:=.type "range",data:=.fields #[.int lo t,.int hi u,.int 1 v] },toks:=tk }:=I.kept λb o e=>qA6 _ e;refine ⟨(s.heap.push { cls:=.type "range",data:=.fields #[.int lo t,.int hi u,.int 1 v] }).objs.size,[(s.heap.push { cls:=.type "range",data:=.fields #[.int lo t,.int hi u,.int 1 v] }).objs.size],_,_,H,rfl,
  I1.kept (t':=tk) λb o e=>qA6 _ e,pp _ lo (hi-lo).toNat,?_,λb hb=>?_,q⟩
 .have e1:lo+((0:Nat):Int)*1=lo:=Zy;have e2:(((hi-lo).toNat:Nat):Int)-((0:Nat):Int)=Builtin.Range.rangeSize lo hi 1:=by rw[rangeSize_one];split <;> omega
  change IsRangeIter _ _ (lo+((0:Nat):Int)*1) ((((hi-lo).toNat:Nat):Int)-((0:Nat):Int)) 1;rw[e1,e2];show qC1 _ rfl
 .have e:b=(s.heap.push { cls:=.type "range",data:=.fields #[.int lo t,.int hi u,.int 1 v] }).objs.size:=by simpa using hb
  subst e;show I1.fpOk (qB2 _) (I1.hok.fresh (qB2 _))
def yz (I:TA):TI:=λσ H R=>I σ H λvs H1=>∃j:Int,vs = [.int j] /\ -(2^62)<=j/\j<2^62/\R (Itr 0 j.toNat) H1
def sL (hg:Gl X "range") (hm:X.mg "range" = none) (ha:PA X [a] ta) (hs:starEach [a] X.env = [(false,eval a X.env)]:=by rfl):PI X tg (.Call (.Name "range" p) [a] [] pos) (yz ta):=by
 intro pins s σ H R I h;refine Call_ (M5 I hg hm boot_range (qF4 (thn (ha pos pins s σ H _ I h) λus s1 a3=>?_) hs rfl));obtain ⟨vs,H1,I1,r1,q1⟩:=a3;obtain ⟨j,e,q1,q2,q⟩:=q1;subst e;cases r1 with
 | cons r rr=>
  cases rr;obtain ⟨t,rfl⟩:=r;show call_range_1 (vT I1 ox ox q1 q2 (by simpa using q))
def Cy (wi:TI) (g:TG) (tb:TS):TS:=λD σ H=>wi σ H λJ H1=>∃W:Nat->Nat->St->Hp->Prop,(∃m,W 0 m σ H1)/\∀i m σ H,W i m σ H ->
 (J.stop i H/\D.nx σ H)\/(J.go i H/\∃N:St->Hp->Prop,(∀I H',N I H'->∃m',m'<m/\W (i+1) m' I H')/\∀x H',J.yld i H x H'->g x σ H' λa3 H2=>tb { D with nx:=N,ct:=N,bk:=D.nx } a3 H2)
def cL (fp:List Addr)(h:Heap):List (Addr×Obj):=fp.filterMap λb=>(h.get? b).map λo=>(b,o)
def V2 (hb:b∈fp)(e:h.get? b=some o):(b,o)∈cL fp h:=List.mem_filterMap.mpr ⟨b,hb,by rw[e];rfl⟩
def tq (I:p∈cL fp h):p.1∈fp/\h.get? p.1=some p.2:=by
 obtain ⟨b,hb,e⟩:=List.mem_filterMap.mp I;cases q:h.get? b with
 |none=>rw[q]at e;cases e
 | some o=>
  rw[q]at e;have e':(b,o)=p:=Option.some.inj e;subst e';show ⟨hb,q⟩
def Inv.pinned {σ:St}(I:Inv X pins σ H s) (hf:∀b∈fp,K2 X pins H b) (ho:∀b∈fp,∃o,s.heap.get? b=some o/\∀v,o.data≠.cell v):Inv X (pins++cL fp s.heap) σ H s:=
 I.pins_of λp hp=>(qC8.mp hp).elim (λz=>I.pin p (qE3 _ z)) λz=>by
  obtain ⟨hb,e⟩:=tq z;obtain ⟨f0,f1,f2,_⟩:=hf p.1 hb;obtain ⟨o,e',d⟩:=ho p.1 hb;rw[e]at e';cases e';show ⟨e,f0,f1,f2,d⟩
def Inv.unpinned {σ:St}(I:Inv X (pins++pl) σ H s):Inv X pins σ H s:=I.pins_of λp hp=>I.pin p (qE3 _ (qE1 _ hp))
def Er (hp:PassesOwn (model X.prog X.w) X.A X.env X.xe) (hc:X.calm=true) (hi:PI X tg iter wi) (hg:PG X tg g) (hb:PSs X body tb) (hs:∀x,foldedSetIterable iter X.env x=pure x:=by intro _;rfl):PS X (.For tg iter body [] pos) (Cy wi g tb):=by
 intro pins s σ H D I h;refine wpAny_For (thn (hi pins s σ H _ I h) λv s1 h1=>thn h1 λba s2 h2=>?_) hs;obtain ⟨it,fp,tn,J,H2,e,I2,T,b0,f2,W,⟨m0,w0⟩,turn⟩:=h2;subst e
 -- what stays true of the iterator's objects through the loop
 have stat:∀{H':Hp},(∀b∈fp,H' b=none)->∀b∈fp,K2 X pins H' b:=λhn b hb=>⟨hn b hb,(f2 b hb).2⟩;refine codeAny_forLoop_any (λn s'=>∃i a5 H',Inv X pins a5 H' s'/\tn i s'.heap/\(∀b∈fp,H' b=none)/\W i n a5 H') ?_ m0 ⟨0,σ,H2,I2,b0,λb hb=>(f2 b hb).1,w0⟩;rintro n s3 ⟨i,a4,H3,I3,a9,ab,w3⟩;rcases turn i n a4 H3 w3 with ⟨stop,qn⟩|⟨go,N,hN,step⟩
 .refine qR4 hp (thn (T.done X rfl rfl rfl hc i pins s3 a4 H3 X.xe I3 (stat ab) a9 stop) λr s4 ⟨hr,I4⟩=>?_);subst hr;show qU1 ⟨a4,H3,I4,qn⟩
 .refine qR4 hp (thn (T.item X rfl rfl rfl hc i pins s3 a4 H3 X.xe I3 (stat ab) a9 go) λr s4 ⟨u,hr,h4⟩=>?_);subst hr;refine qR4 hp (thn h4 λ_ s5 a8=>?_);obtain ⟨x,H5,I5,r5,y5,a6,b5⟩:=a8;have b3:=I5.pinned (stat b5) (T.obj _ _ a6);refine qR4 hp (thn (hg _ s5 a4 H5 x u _ b3 r5 (step x H5 y5)) λ_ s6 a7=>?_);obtain ⟨b4,H6,I6,q6⟩:=a7;refine qR4 hp (thn (hb _ s6 b4 H6 _ I6 q6) λf s7 q7=>?_);have again:∀{a3:St}{H7:Hp},Inv X (pins++cL fp s5.heap) a3 H7 s7->N a3 H7->∃m,m<n/\∃i a5 H',Inv X pins a5 H' s7/\tn i s7.heap/\(∀b∈fp,H' b=none)/\W i m a5 H':=λ{a3 H7} I7 n7=>by
   obtain ⟨m',hm,w7⟩:=hN a3 H7 n7;refine ⟨m',hm,i+1,a3,H7,I7.unpinned,T.keep _ _ _ a6 λb hb o e=>(I7.pin (b,o) (qE3 _ (qE3 _ (V2 hb e)))).1,λb hb=>?_,w7⟩;obtain ⟨o,e,d⟩:=T.obj _ _ a6 b hb;show (I7.pin (b,o) (qE3 _ (qE3 _ (V2 hb e)))).2.1
  cases f with
  |next=>obtain ⟨a3,H7,I7,n7⟩:=q7;show again I7 n7
  |cont=>obtain ⟨a3,H7,I7,n7⟩:=q7;show again I7 n7
  |brk=>obtain ⟨a3,H7,I7,q7⟩:=q7;show ⟨a3,H7,I7.unpinned,q7⟩
  |ret v=>obtain ⟨x7,a3,H7,I7,r7,q7⟩:=q7;show ⟨x7,a3,H7,I7.unpinned,r7,q7⟩
abbrev R2:=V->V->Hp->VK->Prop
def OpR (X:Cx) (f:Value->Value->Sem Value) (r:R2):Prop:=
 ∀ (pins:JZ) (s:Shared) (σ:St) (H:Hp) (x y:V) (v u:Value) (Q:VK),Inv X pins σ H s->RelV x v->RelV y u->r x y H Q ->
  wpAny (model X.prog X.w) X.A (f v u) (EP X pins σ Q) X.xe s
def UnR (X:Cx) (f:Value->Sem Value) (r:V->Hp->VK->Prop):Prop:=
 ∀ (pins:JZ) (s:Shared) (σ:St) (H:Hp) (x:V) (v:Value) (Q:VK),Inv X pins σ H s->RelV x v->r x H Q ->
  wpAny (model X.prog X.w) X.A (f v) (EP X pins σ Q) X.xe s
def C8 (X:Cx) (f:Value) (r:List V->Hp->VK->Prop):Prop:=
 ∀ (pins:JZ) (s:Shared) (σ:St) (H:Hp) (xs:List V) (us:JY) (Q:VK),Inv X pins σ H s->Vals xs us->r xs H Q ->
  wpAny (model X.prog X.w) X.A (call f us) (EP X pins σ Q) X.xe s
def tOp (r:R2)(ta I:TE):TE:=λσ H Q=>ta σ H λx H1=>I σ H1 λy H2=>r x y H2 Q
def tUn (r:V->Hp->VK->Prop)(I:TE):TE:=λσ H Q=>I σ H λx H1=>r x H1 Q
def rI (C:Int->Int->Prop)(g:Int->Int->V):R2:=λx y H Q=>∃i j,x=.int i/\y=.int j/\C i j/\Q (g i j) H
def rI0 (g:Int->Int->V):R2:=λx y H Q=>∃i j,x=.int i/\y=.int j/\Q (g i j) H
def rU (g:Int->V):V->Hp->VK->Prop:=λx H Q=>∃i,x=.int i/\Q (g i) H
def xR (ha:PE X a ta) (hb:PE X b tb){σ:St}{R:V->V->Hp->Prop}(I:Inv X pins σ H s) (h:ta σ H λx H1=>tb σ H1 λy H2=>R x y H2){f:Value->Value->Sem Value}(hf:∀v u s2 x y H2,Inv X pins σ H2 s2->RelV x v->RelV y u->R x y H2->wpAny (model X.prog X.w) X.A (f v u) Q X.xe s2):
  wpAny (model X.prog X.w) X.A (eval a X.env) (λv a6=>wpAny (model X.prog X.w) X.A (eval b X.env) (λu a4=>wpAny (model X.prog X.w) X.A (f v u) Q X.xe a4) X.xe a6) X.xe s:=by
 refine thn (ha pins s σ H _ I h) λv s1 a5=>?_;obtain ⟨x,H1,I1,r1,q1⟩:=a5;refine thn (hb pins s1 σ H1 _ I1 q1) λu s2 a3=>?_;obtain ⟨y,H2,I2,r2,q2⟩:=a3;show hf v u s2 x y H2 I2 r1 r2 q2
def Iz (ho:OpR X (binaryOp op) r) (ha:PE X a ta) (hb:PE X b tb):PE X (.BinOp a op b pos) (tOp r ta tb):=by
 intro pins s σ H Q I h;show wpAny_BinOp (xR ha hb I h λv u s2 x y H2 I2 rx ry q=>ho pins s2 σ H2 x y v u Q I2 rx ry q)
def Iy (ho:UnR X (unaryOp op) r) (ha:PE X a ta):PE X (.UnaryOp op a pos) (tUn r ta):=by
 intro pins s σ H Q I h;show UnaryOp_ (thn (ha pins s σ H _ I h) λv s1 a3=>by obtain ⟨x,H1,I1,r1,q1⟩:=a3;show ho pins s1 σ H1 x v Q I1 r1 q1)
def opI {g:Int->Int->Int}(rule:∀(i j:Int) (t u:Tok) (s:Shared) (Q:Vv) (E:Vv),C i j->Q (.int (g i j) s.toks) { s with toks:=s.toks+1 }->wpAny (model X.prog X.w) X.A (f (.int i t) (.int j u)) Q E s):
  OpR X f (rI C λi j=>.int (g i j)):=by
 intro pins s σ H x y v u Q I rx ry h;obtain ⟨i,j,rfl,rfl,hc,q⟩:=h;obtain ⟨t,rfl⟩:=rx;obtain ⟨t',rfl⟩:=ry;show rule i j t t' s _ _ hc ⟨.int (g i j),H,I.tok _,⟨_,rfl⟩,q⟩
def EH {g:Int->Int->Int}(rule:∀(i j:Int) (t u:Tok) (s:Shared) (Q:Vv) (E:Vv),Q (.int (g i j) s.toks) { s with toks:=s.toks+1 }->wpAny (model X.prog X.w) X.A (f (.int i t) (.int j u)) Q E s):
  OpR X f (rI0 λi j=>.int (g i j)):=by
 intro pins s σ H x y v u Q I rx ry h;obtain ⟨i,j,rfl,rfl,q⟩:=h;obtain ⟨t,rfl⟩:=rx;obtain ⟨t',rfl⟩:=ry;show rule i j t t' s _ _ ⟨.int (g i j),H,I.tok _,⟨_,rfl⟩,q⟩
def wv {g:Int->Int->Bool}(rule:∀(i j:Int) (t u:Tok) (s:Shared) (Q:Vv) (E:Vv),Q (.bool (g i j)) s->wpAny (model X.prog X.w) X.A (f (.int i t) (.int j u)) Q E s):
  OpR X f (rI0 λi j=>.bl (g i j)):=by
 intro pins s σ H x y v u Q I rx ry h;obtain ⟨i,j,rfl,rfl,q⟩:=h;obtain ⟨t,rfl⟩:=rx;obtain ⟨t',rfl⟩:=ry;show rule i j t t' s _ _ ⟨.bl (g i j),H,I,rfl,q⟩
def B4 (i j:Int):Prop:=0<j/\j<1073741824
def fO (i j:Int):Prop:=0<=j/\j<=1000000/\i.natAbs<2^64
def CMul (i j:Int):Prop:=(-(2^64)<i/\i<2^64)\/(-(2^64)<j/\j<2^64)
def CMul.ok (h:CMul i j):IntMulOk i j:=by
 rcases h with ⟨h1,h2⟩|⟨h1,h2⟩
 .show .of_left (intBits_le_64 h1 h2)
 .show .of_right (intBits_le_64 h1 h2)
def v6:OpR X (binaryOp .Add) (rI0 λi j=>.int (i+j)):=EH λ_ _ _ _ _ _ _ q=>add_int q
def X7:OpR X (binaryOp .Sub) (rI0 λi j=>.int (i-j)):=EH λ_ _ _ _ _ _ _ q=>sub_int q
def L7:OpR X (binaryOp .FloorDiv) (rI B4 λi j=>.int (i/j)):=opI λi j _ _ _ _ _ hc q=>by
 have h1:(0:Int)<j:=hc.1;have I:j<1073741824:=hc.2;show floordiv_int ox (by rw[Int.fdiv_eq_ediv_of_nonneg i ox];show q) (.inl (PyProof.noPylong_small ox))
def y8:OpR X (binaryOp .Mod) (rI (λ_ j=>0<j) λi j=>.int (i%j)):=opI λi j _ _ _ _ _ hc q=>by
 have I:(0:Int)<j:=hc;show mod_int' ox (by rw[Int.fmod_eq_emod_of_nonneg i ox];show q)
def EG:OpR X (binaryOp .Pow) (rI fO λi j=>.int (i^j.toNat)):=opI λ_ _ _ _ _ _ _ hc q=>pow_int_small hc.1 hc.2.1 hc.2.2 q
def unI {g:Int->Int}(rule:∀(i:Int) (t:Tok) (s:Shared) (Q:Vv) (E:Vv),Q (.int (g i) s.toks) { s with toks:=s.toks+1 }->wpAny (model X.prog X.w) X.A (f (.int i t)) Q E s):
  UnR X f (rU λi=>.int (g i)):=by
 intro pins s σ H x v Q I rx h;obtain ⟨i,rfl,q⟩:=h;obtain ⟨t,rfl⟩:=rx;show rule i t s _ _ ⟨.int (g i),H,I.tok _,⟨_,rfl⟩,q⟩
def K7:UnR X (unaryOp .USub) (rU λi=>.int (-i)):=unI λ_ _ _ _ _ q=>neg_int q
def kS:V->V->Bool
 | .non,.non=>true | .non,.int _=>true | .int _,.non=>true | .non,.bl _=>true | .bl _,.non=>true | .non,.str _=>true | .str _,.non=>true
 | .int _,.int _=>true | .bl _,.bl _=>true | .str _,.str _=>true | .byt _,.byt _=>true
 | .int _,.str _=>true | .str _,.int _=>true | .bl _,.str _=>true | .str _,.bl _=>true
 |_,_=>false
def rEq:R2:=λx y H Q=>kS x y=true/\Q (.bl (decide (x=y))) H
def rNe:R2:=λx y H Q=>kS x y=true/\Q (.bl (!decide (x=y))) H
def oS:decide (V.int i=V.int j)=(i == j):=by
 rw[qH7];simp
def uJ:decide (V.bl i=V.bl j)=(i == j):=by
 rw[qH7];simp
def oR:decide (V.str i=V.str j)=(i == j):=by
 rw[qH7];simp
def oT:decide (V.byt i=V.byt j)=(i.toList == j.toList):=by
 rw[qH7];cases i;cases j;simp
def n4 {σ:St}(I:Inv X pins σ H s) (q:Q (.bl k) H) (e:k=k'):EP X pins σ Q (.bool k') s:=by
 subst e;show ⟨.bl k,H,I,rfl,q⟩
def K3:OpR X (compareOp .Eq) rEq:=by
 intro pins s σ H x y v u Q I rx ry h;obtain ⟨hs,q⟩:=h;cases x with
 | non=>
  cases rx;cases y with
  |non=>cases ry;show PySem.EqNone.eq_none_none (n4 I q Zy)
  |bl j=>cases ry;show PySem.EqNone.eq_none_bool (n4 I q Zy)
  |int j=>obtain ⟨t',rfl⟩:=ry;show PySem.EqNone.eq_none_int (n4 I q Zy)
  |str j=>obtain ⟨t',rfl⟩:=ry;show PySem.EqNone.eq_none_str (n4 I q Zy)
  |_=>show absurd (show false=true from hs) qA3
 | bl i=>
  cases rx;cases y with
  |non=>cases ry;show PySem.EqNone.eq_bool_none (n4 I q Zy)
  |bl j=>cases ry;show eq_bool (n4 I q uJ)
  |str j=>obtain ⟨t',rfl⟩:=ry;show PySem.EqMixed.eq_bool_str (n4 I q Zy)
  |_=>show absurd (show false=true from hs) qA3
 | int i=>
  obtain ⟨t,rfl⟩:=rx;cases y with
  |non=>cases ry;show PySem.EqNone.eq_int_none (n4 I q Zy)
  |int j=>obtain ⟨t',rfl⟩:=ry;show eq_int (n4 I q oS)
  |str j=>obtain ⟨t',rfl⟩:=ry;show PySem.EqMixed.eq_int_str (n4 I q Zy)
  |_=>show absurd (show false=true from hs) qA3
 | str i=>
  obtain ⟨t,rfl⟩:=rx;cases y with
  |non=>cases ry;show PySem.EqNone.eq_str_none (n4 I q Zy)
  |bl j=>cases ry;show PySem.EqMixed.eq_str_bool (n4 I q Zy)
  |int j=>obtain ⟨t',rfl⟩:=ry;show PySem.EqMixed.eq_str_int (n4 I q Zy)
  |str j=>obtain ⟨t',rfl⟩:=ry;show eq_str (n4 I q oR)
  |_=>show absurd (show false=true from hs) qA3
 | byt i=>
  obtain ⟨t,rfl⟩:=rx;cases y with
  |byt j=>obtain ⟨t',rfl⟩:=ry;show PySem.W.eq_bytes (n4 I q oT)
  |_=>show absurd (show false=true from hs) qA3
 |_=>cases y <;> show absurd (show false=true from hs) qA3
def dI:OpR X (compareOp .NotEq) rNe:=by
 intro pins s σ H x y v u Q I rx ry h;obtain ⟨hs,q⟩:=h;cases x with
 | non=>
  cases rx;cases y with
  |non=>cases ry;show PySem.EqNone.ne_none_none (n4 I q Zy)
  |bl j=>cases ry;show PySem.EqNone.ne_none_bool (n4 I q Zy)
  |int j=>obtain ⟨t',rfl⟩:=ry;show PySem.EqNone.ne_none_int (n4 I q Zy)
  |str j=>obtain ⟨t',rfl⟩:=ry;show PySem.EqNone.ne_none_str (n4 I q Zy)
  |_=>show absurd (show false=true from hs) qA3
 | bl i=>
  cases rx;cases y with
  |non=>cases ry;show PySem.EqNone.ne_bool_none (n4 I q Zy)
  |bl j=>cases ry;show ne_bool (n4 I q (congrArg not uJ))
  |str j=>obtain ⟨t',rfl⟩:=ry;show PySem.EqMixed.ne_bool_str (n4 I q Zy)
  |_=>show absurd (show false=true from hs) qA3
 | int i=>
  obtain ⟨t,rfl⟩:=rx;cases y with
  |non=>cases ry;show PySem.EqNone.ne_int_none (n4 I q Zy)
  |int j=>obtain ⟨t',rfl⟩:=ry;show ne_int (n4 I q (congrArg not oS))
  |str j=>obtain ⟨t',rfl⟩:=ry;show PySem.EqMixed.ne_int_str (n4 I q Zy)
  |_=>show absurd (show false=true from hs) qA3
 | str i=>
  obtain ⟨t,rfl⟩:=rx;cases y with
  |non=>cases ry;show PySem.EqNone.ne_str_none (n4 I q Zy)
  |bl j=>cases ry;show PySem.EqMixed.ne_str_bool (n4 I q Zy)
  |int j=>obtain ⟨t',rfl⟩:=ry;show PySem.EqMixed.ne_str_int (n4 I q Zy)
  |str j=>obtain ⟨t',rfl⟩:=ry;show ne_str (n4 I q (congrArg not oR))
  |_=>show absurd (show false=true from hs) qA3
 | byt i=>
  obtain ⟨t,rfl⟩:=rx;cases y with
  |byt j=>obtain ⟨t',rfl⟩:=ry;show PySem.W.ne_bytes (n4 I q (congrArg not oT))
  |_=>show absurd (show false=true from hs) qA3
 |_=>cases y <;> show absurd (show false=true from hs) qA3
def ge:OpR X (compareOp .Lt) (rI0 λi j=>.bl (decide (i<j))):=wv λ_ _ _ _ _ _ _ q=>lt_int q
def IC:OpR X (compareOp .LtE) (rI0 λi j=>.bl (decide (i<=j))):=wv λ_ _ _ _ _ _ _ q=>le_int q
def V1:OpR X (compareOp .Gt) (rI0 λi j=>.bl (decide (j<i))):=wv λ_ _ _ _ _ _ _ q=>gt_int q
def lF:OpR X (compareOp .Is) (λx y H Q=>y=.non/\Q (.bl (decide (x=.non))) H):=by
 intro pins s σ H x y v u Q I rx ry h;obtain ⟨rfl,q⟩:=h;cases ry;refine is_none_gen (n4 I q ?_);cases x <;> first
  | (cases rx;rfl)
  | (obtain ⟨t,rfl⟩:=rx;rfl)
def iw:OpR X (compareOp .IsNot) (λx y H Q=>y=.non/\Q (.bl (!decide (x=.non))) H):=by
 intro pins s σ H x y v u Q I rx ry h;obtain ⟨rfl,q⟩:=h;cases ry;refine isnot_none_gen (n4 I q ?_);cases x <;> first
  | (cases rx;rfl)
  | (obtain ⟨t,rfl⟩:=rx;rfl)
def tu (b:Expr) (h:op≠.In:=by decide) (I:op≠.NotIn:=by decide):behindInMarks op b=false:=by
 have e1:(op == CmpOp.In)=false:=by cases op <;> first|rfl|show absurd rfl h
 have e2:(op == CmpOp.NotIn)=false:=by cases op <;> first|rfl|show absurd rfl I
 cases b <;> simp [behindInMarks,e1,e2]
def Ae (ho:OpR X (compareOp op) r) (ha:PE X a ta) (hb:PE X b tb) (hm:behindInMarks op b=false):PE X (.Compare a [op] [b] pos) (tOp r ta tb):=by
 intro pins s σ H Q I h;show wpAny_Compare1 (xR ha hb I h λv u s2 x y H2 I2 rx ry q=>ho pins s2 σ H2 x y v u Q I2 rx ry q) hm
def px (t:TE):TT:=λσ H Q=>t σ H λx H'=>∃k,x=.bl k/\Q k H'
def zU (ho:OpR X (compareOp op) r) (ha:PE X a ta) (hb:PE X b tb) (hm:behindInMarks op b=false):PT X (.Compare a [op] [b] pos) (px (tOp r ta tb)):=by
 intro pins s σ H Q I h;refine wpAny_isTrue_Compare1 (thn (ha pins s σ H _ I h) λv s1 ⟨x,H1,I1,r1,q1⟩=>thn (hb pins s1 σ H1 _ I1 q1) λu s2 ⟨y,H2,I2,r2,q2⟩=>
  thn (ho pins s2 σ H2 x y v u _ I2 r1 r2 q2) λc s3 ⟨z,H3,I3,r3,k,e,q3⟩=>?_) hm
 subst e;cases r3;show qR0 ⟨H3,I3,q3⟩
def CA (r r':R2) (ta tb tc:TE):TE:=λσ H Q=>ta σ H λx H1=>tb σ H1 λy H2=>r x y H2 λz I=>∃k,z=.bl k /\
 (if k=true then tc σ I λw' H4=>r' y w' H4 Q else Q (.bl false) I)
def wd (ho:OpR X (compareOp op) r) (a4:OpR X (compareOp op') r') (ha:PE X a ta) (hb:PE X b tb) (hc:PE X c tc) (hm:lastMarks [op,op'] [b,c]=false:=by with_unfolding_all rfl):PT X (.Compare a [op,op'] [b,c] pos) (px (CA r r' ta tb tc)):=by
 intro pins s σ H Q I h;refine isTrue_chain (thn (ha pins s σ H _ I h) λv s1 ⟨x,H1,I1,r1,q1⟩=>test_link (thn (hb pins s1 σ H1 _ I1 q1) λu s2 ⟨y,H2,I2,r2,q2⟩=>
  thn (ho pins s2 σ H2 x y v u _ I2 r1 r2 q2) λd s3 ⟨z,H3,I3,r3,k,e,q3⟩=>?_)) hm
 subst e;cases r3;refine qR0 ?_;cases k with
 | false=>
  obtain ⟨k',e',q'⟩:=q3;cases e';show ite_ff ⟨H3,I3,q'⟩
 | true=>
  refine ite_tt (test_last (thn (hc pins s3 σ H3 _ I3 q3) λw' s4 ⟨z',H4,I4,r4,q4⟩=>thn (a4 pins s4 σ H4 y z' u w' _ I4 r2 r4 q4) λd' s5 a3=>?_));obtain ⟨z2,H5,I5,r5,k2,e2,q5⟩:=a3;subst e2;cases r5;show qR0 ⟨H5,I5,q5⟩
def da:(sizeLine:Nat)<2^63:=by rw[qT4];decide
def vals1 (r:Vals [x] us):∃u,us = [u]/\RelV x u:=by
 cases r with
 |cons I r2=>cases r2;show ⟨_,rfl,I⟩
def vals2 (r:Vals [x,y] us):∃u I,us = [u,I]/\RelV x u/\RelV y I:=by
 cases r with
 | cons r1 r2=>
  cases r2 with
  |cons r3 r4=>cases r4;show ⟨_,_,rfl,r1,r3⟩
def du (hc:X.calm=true):C8 X (.builtin "max") (λxs H Q=>∃i j,xs = [.int i,.int j]/\Q (.int (if j>i then j else i)) H):=by
 intro pins s σ H xs us Q I r h;obtain ⟨i,j,rfl,q⟩:=h;obtain ⟨u,w',rfl,⟨t,rfl⟩,⟨t',rfl⟩⟩:=vals2 r;refine max_two_ints (I.ok.hd hc) λh' tk k=>⟨_,H,I.kept k,?_,q⟩;by_cases hj:j>i
 .rw[qA2 hj,qA2 hj];show ⟨_,rfl⟩
 .rw[qA4 hj,qA4 hj];show ⟨_,rfl⟩
def uQ (hc:X.calm=true):C8 X (.builtin "min") (λxs H Q=>∃i j,xs = [.int i,.int j]/\Q (.int (if j<i then j else i)) H):=by
 intro pins s σ H xs us Q I r h;obtain ⟨i,j,rfl,q⟩:=h;obtain ⟨u,w',rfl,⟨t,rfl⟩,⟨t',rfl⟩⟩:=vals2 r;refine min_two_ints (I.ok.hd hc) λh' tk k=>⟨_,H,I.kept k,?_,q⟩;by_cases hj:j<i
 .rw[qA2 hj,qA2 hj];show ⟨_,rfl⟩
 .rw[qA4 hj,qA4 hj];show ⟨_,rfl⟩
def jN:C8 X (.type "int") (λxs H Q=>(∃i,xs = [.int i]/\Q (.int i) H)\/∃k,xs = [.bl k]/\Q (.int (if k then 1 else 0)) H):=by
 intro pins s σ H xs us Q I r h;rcases h with ⟨i,rfl,q⟩|⟨k,rfl,q⟩
 .obtain ⟨u,rfl,t,rfl⟩:=vals1 r;show call_int_int ⟨.int i,H,I,⟨_,rfl⟩,q⟩
 .obtain ⟨u,rfl,r1⟩:=vals1 r;cases r1;show call_int_bool ⟨.int (if k then 1 else 0),H,I.tok _,⟨_,rfl⟩,q⟩
structure ObjM (h:Heap) (x dx C:Addr) (mA:JV):Prop where
 obj:h.get? x=some (PySem.W.instObj C dx)
 ns:h.Ns1 dx mA
 ne:dx≠x
def tQ {h:Heap}(n:h.Ns1 dx mA):∃od,h.get? dx=some od/\∀name,PySem.W.lookIn name od=some (mA name):=by
 obtain ⟨o,es,ep,ho,hd,hk,_,hm⟩:=n;refine ⟨o,ho,λname=>?_⟩;have e:=hm name;unfold nsFind findBy at e;rw[<- Array.find?_toList]at e;unfold PySem.W.lookIn;rw[hd];dsimp only
 split
 .rename_i y q
  rw[q]at e;show congrArg some e
 .rename_i q
  rw[q]at e;have a:es.toList.any (·.refKey)=false:=by
   rw[qP3];intro y hy;obtain ⟨z,t,I⟩:=hk y (Array.mem_toList_iff.mp hy);simp [DictEntry.refKey,I]
  have a':¬ es.toList.any (·.refKey)=true:=by rw[a];show qA3
  rw[qA4 a'];show congrArg some e
def ObjM.look (I:ObjM h x dx C mA):∃od,PySem.W.InstAt h x (PySem.W.instObj C dx) C (some od)/\∀name,PySem.W.lookIn name od=some (mA name):=
 let ⟨od,ho,hl⟩:=tQ I.ns
 ⟨od,⟨I.obj,rfl,rfl,ho⟩,hl⟩
def Bc (hok:HOk P w H h) (e:H a=some (.ins C dx fs)):∃mA,ObjM h a dx C mA/\(∀f,RelO (fs.lookup f) (mA f))/\PySem.Within mA (fs.map (·.1))/\fs.length<=1000/\H dx=some (.own a):=by
 obtain ⟨d,z,ne,ob,mA,n,r,q⟩:=(show ObjOk P w H h a (.ins C dx fs) from hok a _ e);show ⟨mA,⟨ob,n,ne⟩,r,q,z,d⟩
structure Cls (K:Frag) (C:Addr):Prop where
 pg:PySem.W.plainGet K C Str.empty=true
 hd:PySem.W.hasDictIn K C=true
 po:PySem.W.plainOver K C=true
 sa:PySem.W.findIn K (.ref C) "__setattr__" = some (some (.builtin "object.__setattr__"))
def Cls.get {K:Frag}(c:Cls K C)(f:Str):PySem.W.plainGet K C f=true:=c.pg
section
variable {X:Cx}{pins:JZ}{σ:St}{H:Hp}{s:Shared}{A:Around}{E:Vv}{Q:Vv}{c:Value}{b:Bool}
inductive R4 (K:Frag) (H:Hp):V->Value->Prop where
 |non:R4 K H .non (.type "NoneType")
 |bl (x:Bool):R4 K H (.bl x) (.type "bool")
 |int (i:Int):R4 K H (.int i) (.type "int")
 |str (x:Str):R4 K H (.str x) (.type "str")
 |flt (x:UInt64):R4 K H (.flt x) (.type "float")
 |lst {a:Addr}{xs:List V}(e:H a=some (.lst xs)):R4 K H (.ref a) (.type "list")
 |frz {a:Addr}{o:Obj}{xs:List V}(e:H a=some (.frz o (.lst xs))):R4 K H (.ref a) (.type "list")
 |tup {a:Addr}{xs:List V}(e:H a=some (.tup xs)):R4 K H (.ref a) (.type "tuple")
 |dK {a:Addr}{kvs:List (Key×V)}(e:H a=some (.dK kvs)):R4 K H (.ref a) (.type "dict")
 |dT {a:Addr}{kvs:List (List Key×V)}(e:H a=some (.dT kvs)):R4 K H (.ref a) (.type "dict")
 | ins {a C dx:Addr}{fs:List (Str×V)}(e:H a=some (.ins C dx fs)) (cl:Cls K C) (ha:PySem.W.findIn K (.ref C) "__class__" = some (some (.builtin "object.__class__")))
   (hn:PySem.W.specialIn K (.builtin "object.__class__") "__get__" = some (some (.builtin "getset_descriptor.__get__"))) (htk:PySem.W.takesIn K (.builtin "object.__class__")=some true)
   (hm:PySem.W.mroIn K C (.type "object")=some true):R4 K H (.ref a) (.ref C)
def ue (I:Inv X pins σ H s) (rx:RelV x u) (ty:R4 X.K H x t) (e:PySem.W.kitOne X.K t c=some b) (h:∀tk,Q (.bool b) { s with toks:=tk }):
  wpAny (model X.prog X.w) A (call (.builtin "isinstance") [u,c]) Q E s:=by
 cases ty with
 |non=>cases (show u=Value.none from rx);show qG9 PySem.W.kitx_none I.kIn True.intro e (λz=>nomatch z) h
 |bl y=>cases (show u=Value.bool y from rx);show qG9 PySem.W.kitx_bool I.kIn True.intro e (λz=>nomatch z) h
 |int i=>obtain ⟨t,q⟩:=(show ∃t,u=Value.int i t from rx);cases q;show qG9 PySem.W.kitx_int I.kIn True.intro e (λz=>nomatch z) h
 |str y=>obtain ⟨t,q⟩:=(show ∃t,u=Value.str y t from rx);cases q;show qG9 PySem.W.kitx_str I.kIn True.intro e (λz=>nomatch z) h
 |flt y=>obtain ⟨t,q⟩:=(show ∃t,u=Value.float y t from rx);cases q;show qG9 PySem.W.kitx_float I.kIn True.intro e (λz=>nomatch z) h
 | @lst a xs ea=>
  cases (show u=Value.ref a from rx);obtain ⟨_,_,n,_,h1⟩:=(show ObjOk X.prog X.w H s.heap a (.lst xs) from I.hok a _ ea);show qG9 PySem.W.kitx_list I.kIn ⟨_,h1,rfl⟩ e (λz=>nomatch z) h
 | @frz a ob xs ea=>
  cases (show u=Value.ref a from rx);obtain ⟨_,_,_,n,_,h1⟩:=(show ObjOk X.prog X.w H s.heap a (.frz ob (.lst xs)) from I.hok a _ ea);show qG9 PySem.W.kitx_list I.kIn ⟨_,h1,rfl⟩ e (λz=>nomatch z) h
 | @tup a xs ea=>
  cases (show u=Value.ref a from rx);obtain ⟨_,_,_,p⟩:=(show ObjOk X.prog X.w H s.heap a (.tup xs) from I.hok a _ ea);obtain ⟨o,h1,h2,_⟩:=p;show qG9 PySem.W.kitx_tuple I.kIn ⟨o,h1,h2⟩ e (λz=>nomatch z) h
 | @dK a kvs ea=>
  cases (show u=Value.ref a from rx);obtain ⟨_,_,vs,_,p⟩:=(show ObjOk X.prog X.w H s.heap a (.dK kvs) from I.hok a _ ea);obtain ⟨o,es,ep,h1,h2,_⟩:=p;show qG9 PySem.W.kitx_dict I.kIn ⟨o,h1,h2.1⟩ e (λz=>nomatch z) h
 | @dT a kvs ea=>
  cases (show u=Value.ref a from rx);obtain ⟨_,_,xs,_,o,es,ep,h1,h2,_⟩:=(show ObjOk X.prog X.w H s.heap a (.dT kvs) from I.hok a _ ea);show qG9 PySem.W.kitx_dict I.kIn ⟨o,h1,h2.1⟩ e (λz=>nomatch z) h
 | @ins a C dx fs ea cl ha hn htk hm=>
  cases (show u=Value.ref a from rx);obtain ⟨mA,O,_⟩:=Bc I.hok ea;obtain ⟨od,J,_⟩:=O.look;show qG9 (PySem.W.kitx_own (cl.get _) cl.hd ha hn htk hm) I.kIn J e (λz=>nomatch z) h
end
structure Room (k:Nat) (A:Around):Prop where
 hd:A.handled=none
 dp:A.depth+3*k+5<recursionLimit
 un:A.units+16*k+200<cLine
def Room.mono (r:Room k A)(h:j<=k):Room j A:=⟨r.hd,by have:=r.dp;omega,by have:=r.un;omega⟩
def Room.deeper (r:Room (k+1) A) (env:Env):Room k (A.deeper env):=
 ⟨r.hd,by have:=r.dp;change A.depth+1+3*k+5<_;omega,by have:=r.un;change A.units+3+16*k+200<_;omega⟩
def Room.depth (r:Room k A):A.depth<recursionLimit:=by have:=r.dp;omega
def Room.units (r:Room k A):A.units+64<cLine:=by have:=r.un;omega
def tNil:TA:=λ_ H Q=>Q [] H
def jV (I:TE)(tr:TA):TA:=λσ H Q=>I σ H λx H1=>tr σ H1 λxs H2=>Q (x::xs) H2
def pa_nil:PA X [] tNil:=λ_ _ _ _ H Q I h=>Calls.spliced_nil ⟨[],H,I,.nil,h⟩
def dH (ha:PE X e te) (hr:PA X es t) (hs:starEach (e::es) X.env=(false,eval e X.env)::starEach es X.env:=by rfl):PA X (e::es) (jV te t):=by
 intro pos pins s σ H Q I h;rw[hs]
 change wpAny _ _ (spliced ((false,eval e X.env)::backTo pos (starEach es X.env))) _ _ s;refine Calls.spliced_cons (thn (ha pins s σ H _ I h) λu s1 a4=>?_);obtain ⟨x,H1,I1,r1,q1⟩:=a4;show thn (hr pos pins s1 σ H1 _ I1 q1) λus s2 a3=>by obtain ⟨xs,H2,I2,r2,q2⟩:=a3;show ⟨x::xs,H2,I2,.cons r1 r2,q2⟩
def vA (t:TA):TE:=λσ H Q=>t σ H λxs H1=>xs.length<=sizeLine/\∀p,H1 p=none->Q (.ref p) (upd H1 p (.tup xs))
def Cv (t:TA):TE:=λσ H Q=>t σ H λxs H1=>xs.length<=sizeLine/\∀p,H1 p=none->Q (.ref p) (upd H1 p (.lst xs))
def sO {x1}(h:PA X es t):PE X (.Tuple es x1 pos) (vA t):=by
 intro pins s σ H Q I hq;refine wpAny_Tuple_spliced (thn (h pos pins s σ H _ I hq) λus s1 ⟨xs,H1,I1,r,z,q⟩=>⟨by rw[<- r.length];show z,?_⟩);have hf:H1 s1.heap.objs.size=none:=I1.hok.fresh (qB2 _);refine ⟨.ref s1.heap.objs.size,upd H1 s1.heap.objs.size (.tup xs),I1.laid (t':=s1.toks) (λb u e=>qA6 _ e) (qB2 _) ?_,rfl,q _ hf⟩;show ⟨z,us,r,⟨_,qC1 _ rfl,rfl,_,rfl⟩⟩
def EC (h:PA X es t):PE X (.List es pos) (Cv t):=by
 intro pins s σ H Q I hq;refine wpAny_List_spliced (thn (h pos pins s σ H _ I hq) λus s1 ⟨xs,H1,I1,r,z,q⟩=>⟨by rw[<- r.length];show z,?_⟩);have hf:H1 s1.heap.objs.size=none:=I1.hok.fresh (qB2 _);refine ⟨.ref s1.heap.objs.size,upd H1 s1.heap.objs.size (.lst xs),I1.laid (t':=s1.toks) (λb u e=>qA6 _ e) (qB2 _) ?_,rfl,q _ hf⟩;show ⟨z,us,0,r,qC1 _ rfl⟩
abbrev Sp:=List V->Hp->VK->XK->Prop
abbrev CXT:=List Env->Hp->Shared->XK->Value->Shared->Prop
structure qU (P:Program) (w:World) (K:Frag) (mg:JV) (base:Heap) (A:Around) (outer:List Env) (s:Shared) (H:Hp):Prop where
 frames:A.frames=some outer
 mod:Mod K mg base
 bs:∀b o,base.get? b=some o->s.heap.get? b=some o/\H b=none
 bsz:base.objs.size<=s.heap.objs.size
 funs:s.heap.FunFrames base outer
 frf:∀b∈frs outer,H b=none
 hok:HOk P w H s.heap
 bare:AllBare s.gens
def CE (outer:List Env) (P:Program) (w:World) (H:Hp) (s:Shared) (Q:VK) (u:Value) (s':Shared):Prop:=
 ∃v H',s'.os=s.os/\AllBare s'.gens/\Un (frs outer) [] H H' s.heap s'.heap/\HOk P w H' s'.heap/\RelV v u/\Q v H'
def CR (CX:CXT) (outer:List Env) (P:Program) (w:World) (H:Hp) (s:Shared) (Q:VK) (E:XK) (r:Result) (s':Shared):Prop:=
 match r with
 | .ok (.ret u)=>CE outer P w H s Q u s'
 | .ok _=>False
 | .error e=>CX outer H s E e s'
structure FnOk (P:Program) (w:World) (K:Frag) (mg:JV) (base:Heap) (CX:CXT) (k:Nat) (f:Addr) (fd:FuncData) (ps:Vq) (sp:Sp):Prop where
 len:∀vs H Q E,sp vs H Q E->vs.length=ps.length
 run:∀(A:Around) (outer:List Env) (s:Shared) (H:Hp) (args:Args) (us:JY) (vs:List V) (Q:VK) (E:XK),Room k A->qU P w K mg base A outer s H->BindsTo s fd args (ps.zip us)->Vals vs us->sp vs H Q E ->
  codeAny (model P w) A (.call (.ref f) args) (CR CX outer P w H s Q E) s
def FnOk.imp {K:Frag}(F:FnOk P w K mg base CX k f fd ps sp) (h:∀vs H Q E,sp' vs H Q E->sp vs H Q E):FnOk P w K mg base CX k f fd ps sp':=
 ⟨λvs H Q E q=>F.len vs H Q E (h _ _ _ _ q),λA outer s H args us vs Q E hr I hb hv hs=>F.run A outer s H args us vs Q E hr I hb hv (h _ _ _ _ hs)⟩
def Inv.env0 {σ:St}(I:Inv X pins σ H s):qU X.prog X.w X.K X.mg X.base X.A X.stack s H:=
 ⟨I.ok.frames,I.ok.mod,I.bs,qA5 I.ok.bsz I.sz,I.stack,I.stkFree,I.hok,I.bare⟩
def Inv.after {σ:St}(I:Inv X pins σ H s) (h:CE X.stack X.prog X.w H s Q u s'):EP X pins σ Q u s':=by
 obtain ⟨v,H',os,bare,un,hok,r,q⟩:=h;obtain ⟨hh,g,d,t,a3⟩:=s';obtain rfl:a3=s.os:=os;show ⟨v,H',I.call (h':=hh) (g':=g) (d':=d) (t':=t) (ch:=[]) un hok bare (λb z=>absurd z Zy),r,q⟩
def jW (sp:Sp)(I:List V)(E:XK)(t:TA):TE:=λσ H Q=>t σ H λvs H1=>sp (vs++I) H1 Q E
def Binds (K:Frag) (fd:FuncData) (ps:Vq) (I:JY):Prop:=
 ∀(s:Shared) (us:JY),K.In s.heap->(us++I).length=ps.length->BindsTo s fd ⟨us,[]⟩ (ps.zip (us++I))
def Binds.all {K:Frag}(h:∀us:List Value,us.length=ps.length->bindArgs fd ⟨us,[]⟩=pure (ps.zip us)):Binds K fd ps []:=λs us _ I=>by
 rw[qG2]at I ⊢;show .of_eq (h us I)
def nr (CX:CXT)(X:Cx)(E:XK):Prop:=∀(pins:JZ)(σ:St)(H:Hp)(s:Shared)(e:Value)(s':Shared),Inv X pins σ H s->CX X.stack H s E e s'->X.xe e s'
def Df {σ:St}(F:FnOk X.prog X.w X.K X.mg X.base CX k f fd ps sp) (hr:Room k X.A) (hb:Binds X.K fd ps ds) (hd:Vals dvs ds) (hx:nr CX X E) (I:Inv X pins σ H s) (r:Vals vs us) (h:sp (vs++dvs) H Q E):wpAny (model X.prog X.w) X.A (call (.ref f) us) (EP X pins σ Q) X.xe s:=by
 have r2:Vals (vs++dvs) (us++ds):=r.append hd;have hl:(us++ds).length=ps.length:=by rw[<- r2.length];show F.len _ _ _ _ h
 refine wpAny_call (codeAny_mono (F.run X.A X.stack s H ⟨us,[]⟩ (us++ds) (vs++dvs) Q E hr I.env0 (hb s us I.kIn hl) r2 h) λr s' hq=>?_);cases r with
 |error e=>show hx pins σ H s e s' I hq
 | ok fl=>
  cases fl with
  |ret u=>show I.after hq
  |next=>show False.elim hq
  |brk=>show False.elim hq
  |cont=>show False.elim hq
def iu {X:Cx}{CX:CXT}{k:Nat}{f:Addr}{fd:FuncData}{ps:Vq}{sp:Sp}{a3:List V}{ds:JY}{E:XK}{x:Str}{p pos:Pos}{e:Expr}{es:Vz}{t:TA}(F:FnOk X.prog X.w X.K X.mg X.base CX k f fd ps sp) (hr:Room k X.A) (hg:Gl X x) (hm:X.mg x=some (.ref f)) (hk:PySem.W.keepIn X.K (.ref f)=true) (hb:Binds X.K fd ps ds) (hd:Vals a3 ds) (hx:nr CX X E) (ha:PA X (e::es) t) (a4:(x == ("__debug__" : Str))=false:=by decide) (he:starEach (e::es) X.env=(false,eval e X.env)::starEach es X.env:=by rfl) (a5:(backTo pos (starEach es X.env)).any (·.1)=false:=by rfl):
  PE X (.Call (.Name x p) (e::es) [] pos) (jW sp a3 E t):=by
 intro pins s σ H Q I h;refine qQ6 (AQ I hg hm ?_ a4);refine PySem.W.callWith_K (h₀:=X.base) I.ok.mod.kin hk (thn (ha pos pins s σ H _ I h) λus s1 ⟨vs,H1,I1,r,q⟩=>⟨I1.kIn,?_⟩) he a5;show Df F hr hb hd hx I1 r q
structure e8 (N P:Vq) (sc:Scope):Prop where
 kind:sc.kind=.function
 co:sc.isCoroutine=false
 gen:sc.isGenerator=false
 nd:N.Nodup
 pre:N.take P.length=P
 par:∀x∈P,sc.names.lookup x=some .local\/sc.names.lookup x=some .cell
 nofree:∀y∈sc.names,y.2≠.free
def uY {kindOf:Str->Option NameKind}:∀{binds:List (Str×Value)}{m:JV},(∀v,(x,v)∉binds)->bindL kindOf binds m x=m x:=by
 intro binds
 induction binds with
 |nil=>intro m _;rfl
 | cons p r I=>
  intro m h;unfold bindL;rw[I λw hw=>h w (qB0 _ hw)]
  split
  .have:x≠p.1:=by rintro rfl;show h p.2 qB8
   simp [this]
  .rfl
def va {kindOf:Str->Option NameKind}:∀{binds:List (Str×Value)}{m:JV},(∀v,(x,v)∉binds)->bindC kindOf binds m x=m x:=by
 intro binds
 induction binds with
 |nil=>intro m _;rfl
 | cons p r I=>
  intro m h;unfold bindC;rw[I λw hw=>h w (qB0 _ hw)]
  split
  .rfl
  .have:x≠p.1:=by rintro rfl;show h p.2 qB8
   simp [this]
def uZ {kindOf:Str->Option NameKind}:∀{P:Vq}{vs:JY}{i:Nat}{m:JV},P.Nodup->P[i]?=some x->vs[i]?=some v->kindOf x=some .local ->
  bindL kindOf (P.zip vs) m x=some v:=by
 intro P
 induction P with
 |nil=>intro vs i m _ h _ _;cases h
 | cons p P ih=>
  intro vs i m nd h1 I hk;cases vs with
  |nil=>cases I
  | cons w vs=>
   change bindL kindOf ((p,w)::P.zip vs) m x=_;unfold bindL;cases i with
   | zero=>
    cases h1;cases I;rw[uY λv hv=>(qU2.mp nd).1 (qY9 hv).1,qA2 hk];simp
   |succ i=>show ih (qU2.mp nd).2 h1 I hk
def vb {kindOf:Str->Option NameKind}:∀{P:Vq}{vs:JY}{i:Nat}{m:JV},P.Nodup->P[i]?=some x->vs[i]?=some v->kindOf x≠some .local ->
  bindC kindOf (P.zip vs) m x=some v:=by
 intro P
 induction P with
 |nil=>intro vs i m _ h _ _;cases h
 | cons p P ih=>
  intro vs i m nd h1 I hk;cases vs with
  |nil=>cases I
  | cons w vs=>
   change bindC kindOf ((p,w)::P.zip vs) m x=_;unfold bindC;cases i with
   | zero=>
    cases h1;cases I;rw[va λv hv=>(qU2.mp nd).1 (qY9 hv).1,qA4 hk];simp
   |succ i=>show ih (qU2.mp nd).2 h1 I hk
def start (N:Vq)(vs:List V):St:=vs.map some++List.replicate (N.length-vs.length) none
def dm (CX:CXT) (P:Program) (w:World) (K:Frag) (mg:JV) (base:Heap) (N:Vq) (qual:Str) (scope:Scope) (f:Addr) (cd:Value) (A:Around) (outer:List Env) (s:Shared) (H:Hp) (E:XK):Cx where
 prog:=P
 w:=w
 K:=K
 mg:=mg
 base:=base
 A:=A.deeper (envOfC qual scope s.heap.objs.size f cd)
 N:=N
 s₀:=s
 H₀:=H
 env:=envOfC qual scope s.heap.objs.size f cd
 outer:=outer
 stack:=envOfC qual scope s.heap.objs.size f cd::outer
 ex:=[]
 calm:=true
 fn:=λ_=>true
 pn:=[]
 xe:=λe s'=>wpAny (model P w) (A.deeper (envOfC qual scope s.heap.objs.size f cd)) (leaving (envOfC qual scope s.heap.objs.size f cd) e) (λ_ I=>CX outer H s E e I) (λe' I=>CX outer H s E e' I) s'
def mY {sc:Scope}(h:sc.names.lookup x=some .cell):∃c,(cellsFrom n sc.names []).lookup x=some c:=by
 have q:=PySem.W.cellsFrom_some sc.names n [] (.inl h);show Option.isSome_iff_exists.mp q
def uh {K:Frag}(S:e8 N ps scope) (hd:A.handled=none) (e0:qU P w K mg base A outer s H) (hl:vs.length=ps.length) (r:Vals vs us) (x:InCallC s s.heap.objs.size (bindL (envOfC qual scope s.heap.objs.size f cd).kindOf (ps.zip us) λ_=>none) (cellsFrom (s.heap.objs.size+1) scope.names []) (bindC (envOfC qual scope s.heap.objs.size f cd).kindOf (ps.zip us) λ_=>none) s1):
  Inv (dm CX P w K mg base N qual scope f cd A outer s H E) [] (start N vs) H s1:=by
 have a5:ps.length<=N.length:=by have:=congrArg List.length S.pre;rw[qF6]at this;omega
 obtain ⟨h1,tk,rfl,hk⟩:=x.done;have a3:∀b:Addr,b∉(dm CX P w K mg base N qual scope f cd A outer s H E).ex:=λb z=>absurd (show b∈([]:List Addr) from z) Zy;refine ⟨⟨e0.mod,S.kind,rfl,rfl,qB2 _,λy z c h1 I=>?_,λy hy=>?_,λy c _ h=>?_,λ_=>hd,Around.frames_deeper e0.frames,.inr ⟨rfl,rfl⟩,λb z=>absurd z (a3 b),e0.bs,e0.bsz,λb _ _=>a3 b,λb z=>absurd z (a3 b),e0.funs,e0.frf⟩,
  rfl,e0.bare,Un.kept hk,⟨_,x.toInCall.ns,λi y v h1 I h3=>?_⟩,λy c h=>⟨_,x.cell y c h⟩,e0.hok.fresh (qB2 _),λy c h=>?_,λp hp=>absurd (show p∈([]:JZ) from hp) Zy,e0.hok.kept hk,?_⟩
 .show name_of_addr x.apart (qI7 h1) (qI7 I)
 .have hy:scope.names.lookup y=some .cell\/scope.names.lookup y=some .free:=hy;rcases hy with hy|hy
  .show mY hy
  .show absurd rfl (S.nofree _ (qI7 hy))
 .show qI8 (x.above y c (qI7 h))
 .have hi:i<vs.length:=by
   unfold start at I;by_cases hi:i<vs.length
   .show hi
   .rw [qH3 (by simpa using hi)]at I
    rw[qG0]at I
    split at I <;> cases I
  have ha:vs[i]?=some v:=by
   unfold start at I;rw[qE8 (by simpa using hi),qC0]at I;cases e:vs[i]? with
   |none=>rw[e]at I;cases I
   |some a=>rw[e]at I;cases I;rfl
  obtain ⟨u,hu,rv⟩:=r.get ha;have hp:ps[i]?=some y:=by
   rw[<- S.pre,qH9 ox];show h1
  have a4:ps.Nodup:=by rw[<- S.pre];show S.nd.sublist (List.take_sublist _ _)
  refine ⟨u,rv,?_⟩;rcases S.par y (qG3 hp) with k|k
  .show .inl ⟨k,uZ a4 hp hu k⟩
  .obtain ⟨c,e⟩:=mY (n:=s.heap.objs.size+1) k;refine .inr ⟨.inl k,c,e,?_⟩;have q:=x.cell y c e;rw[vb a4 hp hu (by change scope.names.lookup y≠_;rw[k];decide)]at q;show q
 .show e0.hok.fresh (qI8 (x.above y c (qI7 h)))
 .unfold start
  change _=N.length;rw[qC3,qA7,List.length_replicate];omega
def IQ {K:Frag}{kV:Value}(lk:K.lookup f=some ⟨oc,od,.func (PySem.W.fnOf name qual params body scope dV kV doc pm an cdv ct),osl⟩) (a8:PySem.W.codeIn K cdv qual=true) (S:e8 N ps scope) (len:∀vs H Q E,sp vs H Q E->vs.length=ps.length) (a4:∀(A:Around) (outer:List Env) (s:Shared) (H:Hp) (vs:List V) (Q:VK) (E:XK),Room k (A.deeper (envOfC qual scope s.heap.objs.size f cdv))->sp vs H Q E ->
   ∃t,PSs (dm CX P w K mg base N qual scope f cdv A outer s H E) body t/\t { nx:=λ_ H'=>Q .non H',rt:=Q } (start N vs) H):
  FnOk P w K mg base CX (k+1) f (PySem.W.fnOf name qual params body scope dV kV doc pm an cdv ct) ps sp:=by
 refine ⟨len,λA outer s H args us vs Q E hr e0 hb r a6=>?_⟩;have hl:=len _ _ _ _ a6;have KX:K.In s.heap:=e0.mod.kin.keeps λb o e=>(e0.bs b o e).1;have lim:s.heap.NoLimit:=e0.mod.nolimit.keeps λb o e=>(e0.bs b o e).1;have a5:∀y∈ps.zip us,scope.names.lookup y.1=some .local\/(scope.names.lookup y.1=some .cell/\((cellsFrom (s.heap.objs.size+1) scope.names []).lookup y.1).isSome=true):=λa7 hy=>by
  obtain ⟨n,v⟩:=a7;rcases S.par n (qY9 hy).1 with q|q
  .show .inl q
  .show .inr ⟨q,PySem.W.cellsFrom_some _ _ _ (.inl q)⟩
 refine codeAny_call_function hr.depth (KX _ _ lk) rfl S.co S.gen rfl (PySem.W.codeRec_of KX a8) (hb _ _ _ _ ?_);refine wpAny_newFunctionEnv_cells S.kind a5 λenv he s1 x=>?_;subst he;refine ⟨lim.keeps x.toInCall.keep,codeAny_func ?_⟩;obtain ⟨t,ht,hq⟩:=a4 A outer s H vs Q E (hr.deeper _) a6;have I:Inv (dm CX P w K mg base N qual scope f cdv A outer s H E) [] (start N vs) H s1:=uh S hr.hd e0 hl r x;refine qS1 (ht [] s1 (start N vs) H _ I hq) (λfl s' hs=>?_) λe s' hs=>hs;have fin:∀{a3:St}{H':Hp}{v:V}{u:Value},Inv (dm CX P w K mg base N qual scope f cdv A outer s H E) [] a3 H' s'->RelV v u->Q v H'->CE outer P w H s Q u s':=
  λ{a3 H' v u} J rv q=>⟨v,H',J.os,J.bare,J.base,J.hok,rv,q⟩
 cases fl with
 | ret u=>
  obtain ⟨v,a3,H',J,rv,q⟩:=hs;show fin J rv q
 | next=>
  obtain ⟨a3,H',J,q⟩:=hs;show fin (v:=V.non) (u:=Value.none) J rfl q
 | brk=>
  obtain ⟨_,_,_,q⟩:=hs;show False.elim q
 | cont=>
  obtain ⟨_,_,_,q⟩:=hs;show False.elim q
def tCB (r:List V->Hp->VK->Prop)(t:TA):TE:=λσ H Q=>t σ H λvs H1=>r vs H1 Q
def wn {X:Cx}{x:Str}{p pos:Pos}{e:Expr}{es:Vz}{t:TA}{id:String}{r:List V->Hp->VK->Prop}(hc:C8 X (.builtin id) r) (hg:Gl X x) (hm:X.mg x=none) (hv:bootBuiltins x=some (.builtin id)) (ha:PA X (e::es) t) (hn:x ≠ "__name__" := by decide) (a4:(x == ("__debug__" : Str))=false:=by decide) (he:starEach (e::es) X.env=(false,eval e X.env)::starEach es X.env:=by rfl) (a5:(backTo pos (starEach es X.env)).any (·.1)=false:=by rfl):PE X (.Call (.Name x p) (e::es) [] pos) (tCB r t):=by
 intro pins s σ H Q I h;refine qQ6 (M5 I hg hm hv ?_ hn a4);show PyProof.Rows.callWith_builtin1 (thn (ha pos pins s σ H _ I h) λus s1 a3=>by obtain ⟨vs,H1,I1,r1,q1⟩:=a3;show hc pins s1 σ H1 vs us Q I1 r1 q1) he a5
def sQ {X:Cx}{x:Str}{p pos:Pos}{e:Expr}{es:Vz}{t:TA}{T:String}{r:List V->Hp->VK->Prop}(hc:C8 X (.type T) r) (hg:Gl X x) (hm:X.mg x=none) (hv:bootBuiltins x=some (.type T)) (ha:PA X (e::es) t) (hn:x ≠ "__name__" := by decide) (a4:(x == ("__debug__" : Str))=false:=by decide) (he:starEach (e::es) X.env=(false,eval e X.env)::starEach es X.env:=by rfl) (a5:(backTo pos (starEach es X.env)).any (·.1)=false:=by rfl):PE X (.Call (.Name x p) (e::es) [] pos) (tCB r t):=by
 intro pins s σ H Q I h;refine qQ6 (M5 I hg hm hv ?_ hn a4);show qF4 (thn (ha pos pins s σ H _ I h) λus s1 a3=>by obtain ⟨vs,H1,I1,r1,q1⟩:=a3;show hc pins s1 σ H1 vs us Q I1 r1 q1) he a5
end L2
namespace HT
open PySem PyProof.Rows
def lexLt:List Int->List Int->Bool
 | [],[]=>false
 | [],_::_=>true
 |_::_,[]=>false
 |x::xs,y::ys=>if x=y then lexLt xs ys else decide (x<y)
section
open PySem.SeqAt
open PySem.AutoSeq1 (wpAny_loadPart')
open PySem.MeetsSeq PySem.MeetsSeq2 PySem.MeetsSeq3
end
def cat_tup (ht:IsTup s.heap t vs.toArray) (hb:IsTup s.heap b ws.toArray) (hv:vs ≠ []) (h1:ws = []->Q (.ref t) s) (h2:ws ≠ []->Q (.ref s.heap.objs.size) { s with heap:=s.heap.push { cls:=.type "tuple",data:=.seq (vs++ws).toArray } }) (hsz:vs.length+ws.length<=sizeLine):wpAny (model prog w) A (binaryOp .Add (.ref t) (.ref b)) Q E s:=by
 obtain ⟨⟨cls,dd,data,sl⟩,ho,hc,n,hd⟩:=id ht;obtain ⟨⟨a7,a4,data2,a6⟩,I,a3,n2,a5⟩:=id hb;simp only at hc hd a3 a5;subst hc hd a3 a5;have e:vs.toArray++ws.toArray=(vs++ws).toArray:=Zy;by_cases hw:ws = []
 .show concat_meets ⟨_,ho,rfl⟩ ⟨_,I,rfl⟩ qX5 seq_tuple_add qT5 qT1 (qS6 _ _)
   (tuple_addW1 t b vs.toArray ws.toArray n n2 dd a4 sl a6 (by simpa using hv) (by simp [hw])) ⟨ho,I,h1 hw⟩
 .refine concat_meets ⟨_,ho,rfl⟩ ⟨_,I,rfl⟩ qX5 seq_tuple_add qT5 qT1 (qS6 _ _)
   (tuple_addW2 t b vs.toArray ws.toArray n n2 dd a4 sl a6 (by simpa using hv) (by simpa using hw) (by rw[qB6,qB6];show hsz)) ⟨ho,I,?_⟩
  rw[e];show h2 hw
def sIx (n d:Nat):Option Int->Nat
 |none=>d
 |some v=>if v<0 then (v+(n:Int)).toNat else min v.toNat n
def sIx_none (n d:Nat):sIx n d none=d:=rfl
def sIx_nat (n d k:Nat):sIx n d (some (k:Int))=min k n:=by
 change (if (k:Int)<0 then ((k:Int)+(n:Int)).toNat else min (k:Int).toNat n)=min k n;rw[qA4 ox,qF8]
def sh (n d:Nat) (hd:d<=n) (o:JX):sIx n d o<=n:=by
 cases o with
 |none=>show hd
 | some v=>
  change (if v<0 then (v+(n:Int)).toNat else min v.toNat n)<=n;by_cases I:v<0
  .rw[qA2 I];omega
  .rw[qA4 I];show qI0 _ _
def oV (v:Int) (n d:Nat):(if v<0 then max (v+(n:Int)) 0 else min v (n:Int))=((sIx n d (some v):Nat):Int):=by
 change (if v<0 then max (v+(n:Int)) 0 else min v (n:Int))=(((if v<0 then (v+(n:Int)).toNat else min v.toNat n):Nat):Int);by_cases I:v<0
 .simp only [qA2 I];omega
 .simp only [qA4 I];omega
def qQ (lo hi:JX) (n:Nat):Builtin.Slice.sliceAdjust lo hi 1 (n:Int)=(((sIx n 0 lo:Nat):Int),((sIx n n hi:Nat):Int)):=by
 have I:¬ ((1:Int)<0):=ox;unfold Builtin.Slice.sliceAdjust;simp only [I,qQ4];refine Prod.ext ?_ ?_
 .cases lo with
  |none=>rfl
  |some v=>show oV v n 0
 .cases hi with
  |none=>rfl
  |some v=>show oV v n n
def pM (i j:Nat):Builtin.Slice.slicePlaces (i:Int) (j:Int) 1=j-i:=by
 unfold Builtin.Slice.slicePlaces;have I:(1:Int)>0:=ox;simp only [I,qQ2,Int.ediv_one]
 split <;> omega
def fV (p:IsPart v o) (h:Q o s):wpAny (model prog w) A (Builtin.Slice.slicePartIndex v) Q E s:=by
 cases p with
 |none=>show slicePart_none h
 |int i t=>show slicePart_int h
def W9 {lo:JX}{n:Nat}(hs:s.heap.IsSliceOf sl vl vu .none) (pl:IsPart vl lo) (pu:IsPart vu hi) (h:Q (((sIx n 0 lo:Nat):Int),1,sIx n n hi-sIx n 0 lo) s):wpAny (model prog w) A (Builtin.Slice.sliceApplied (.ref sl) (pure (n:Int))) Q E s:=by
 obtain ⟨os,I,a4,a3⟩:=id hs;unfold Builtin.Slice.sliceApplied Builtin.Slice.sliceFields;refine qA1 (qA1 (qQ5 I a3 (x:=vl) rfl (qA1 (qQ5 I a3 (x:=vu) rfl (qA1 (qQ5 I a3 (x:=.none) rfl (qP9 ?_)))))));refine qA1 (slicePart_none ?_)
 change wpAny _ _ (if ((1:Int) == 0)=true then _ else _) _ _ s;rw[qA4 Zz];refine qA1 (fV pl (qA1 (fV pu (qA1 (qP9 ?_)))))
 change wpAny _ _ (match Builtin.Slice.sliceAdjust lo hi 1 (n:Int) with | (lo,hi)=>pure (lo,(1:Int),Builtin.Slice.slicePlaces lo hi 1)) _ _ s;rw[qQ lo hi n]
 change wpAny _ _ (pure (((sIx n 0 lo:Nat):Int),(1:Int),Builtin.Slice.slicePlaces ((sIx n 0 lo:Nat):Int) ((sIx n n hi:Nat):Int) 1)) _ _ s;rw[pM];show qP9 h
def wj (xs:Vj) (i k:Nat):((List.range k).filterMap λ(m:Nat)=>xs[((i:Int)+(m:Int)*1).toNat]?).toArray=((xs.toList.drop i).take k).toArray:=by
 have e:(λ(m:Nat)=>xs[((i:Int)+(m:Int)*1).toNat]?)=λm=>xs[i+m]?:=by
  funext m
  have:((i:Int)+(m:Int)*1).toNat=i+m:=ox
  rw[this]
 rw[e]
 have:=pick_run xs i k
 rw[List.filterMap_map]at this;have e2:((λx=>xs[x]?)∘λx=>i+x)=λm=>xs[i+m]?:=rfl;rw[e2]at this;rw[this]
def getItem_tuple_cut {lo:JX}(ht:IsTup s.heap t items) (hs:s.heap.IsSliceOf sl vl vu .none) (pl:IsPart vl lo) (pu:IsPart vu hi) (hw:¬ (sIx items.size 0 lo=0/\sIx items.size items.size hi=items.size)) (h:Q (.ref s.heap.objs.size) { s with heap:=s.heap.push { cls:=.type "tuple",data:=.seq ((items.toList.drop (sIx items.size 0 lo)).take (sIx items.size items.size hi-sIx items.size 0 lo)).toArray } }) (hsz:items.size<=sizeLine):wpAny (model prog w) A (getItem (.ref t) (.ref sl)) Q E s:=by
 have I:sizeOk (.seq ((items.toList.drop (sIx items.size 0 lo)).take (sIx items.size items.size hi-sIx items.size 0 lo)).toArray):=by
  change ((items.toList.drop (sIx items.size 0 lo)).take (sIx items.size items.size hi-sIx items.size 0 lo)).toArray.size<=sizeLine;rw[qB6,qF6,qH1,qE5];omega
 have hj:sIx items.size items.size hi<=items.size:=sh _ _ (qB2 _) hi;obtain ⟨os,a3,a4,a7⟩:=id hs;have a6:s.TypeIs (.ref sl) "slice" := ⟨os,a3,a4⟩;unfold getItem
 try with_reducible refine qR1 ?_
 first|refine qA1 (qP9 ?_)|skip
 refine qA1 (wpAny_sequenceKey ht.typeIs Zz ?_);refine qA1 (qQ7 (name:=Str.ofString "__getitem__") ht.typeIs qJ7
  (qR2 qJ7 ht.typeIs entry_tuple_getitem ?_ (args_tuple_getitem _ _)))
 change wpAny _ _ (Builtin.Tuple.tupleItemsOf (.ref t)>>=_) _ _ s;refine qA1 (tupleItemsOf_ ht ?_);refine qA1 (qX6 a6 ?_);rw[qA2 Zz];refine qA1 (W9 hs pl pu ?_);have a5:¬ ((((sIx items.size 0 lo:Nat):Int) == 0&&(1:Int) == 1&&(sIx items.size items.size hi-sIx items.size 0 lo) == items.size)=true):=by
  intro q;rw[qG5,qG5]at q;have q1:((sIx items.size 0 lo:Nat):Int)=0:=eq_of_beq q.1.1;have q2:sIx items.size items.size hi-sIx items.size 0 lo=items.size:=eq_of_beq q.2;show hw ⟨ox,ox⟩
 change wpAny _ _ (if (((sIx items.size 0 lo:Nat):Int) == 0&&(1:Int) == 1&&(sIx items.size items.size hi-sIx items.size 0 lo) == items.size)=true then _ else _) _ _ s;rw[qA4 a5,wj]
 first
  |show qA1 (m:=Builtin.Tuple.tupleExact _) (qQ8 (qP9 ⟨_,rfl,qP9 h⟩) I)
  |show qA1 (m:=Builtin.Tuple.tupleExact _) (qQ8 (qA1 (qP9 (qP9 ⟨_,rfl,qP9 h⟩))) I)
  |show qA1 (qA1 (m:=Builtin.Tuple.tupleExact _) (qQ8 (qP9 (qP9 ⟨_,rfl,qP9 h⟩)) I))
  |show qA1 (qA1 (m:=Builtin.Tuple.tupleExact _) (qQ8 (qP9 ⟨_,rfl,qP9 h⟩) I))
end HT
namespace L2
open PySem PySem.Spec PyProof.Rows
abbrev TO:=St->Hp->(Option Int->Hp->Prop)->Prop
def PO (X:Cx) (e:Option Expr) (t:TO):Prop:=
 ∀ (pins:JZ) (s:Shared) (σ:St) (H:Hp) (Q:Option Int->Hp->Prop),Inv X pins σ H s->t σ H Q ->
  wpAny (model X.prog X.w) X.A (evalPart e X.env) (λu s'=>∃o H',Inv X pins σ H' s'/\IsPart u o/\Q o H') X.xe s
def tNoPart:TO:=λ_ H Q=>Q none H
def yb (t:TE):TO:=λσ H Q=>t σ H λx H1=>∃i,x=.int i/\Q (some i) H1
def po_none:PO X none tNoPart:=by
 intro pins s σ H Q I h;rw[evalPart_none];show qP9 ⟨none,H,I,.none,h⟩
def zY (h:PE X e te):PO X (some e) (yb te):=by
 intro pins s σ H Q I hw;rw[evalPart_some];refine thn (h pins s σ H _ I hw) λu s1 a3=>?_;obtain ⟨x,H1,I1,r1,q1⟩:=a3;obtain ⟨i,rfl,q⟩:=q1;obtain ⟨t,rfl⟩:=r1;show ⟨some i,H1,I1,.int i t,q⟩
def SlR (X:Cx) (r:V->Option Int->Option Int->Hp->VK->Prop):Prop:=
 ∀ (pins:JZ) (s:Shared) (σ:St) (H:Hp) (x:V) (v vl I:Value) (lo hi:JX) (sl:Addr) (Q:VK),Inv X pins σ H s->RelV x v->s.heap.IsSliceOf sl vl I .none->IsPart vl lo->IsPart I hi->r x lo hi H Q ->
  ∃T id,typeLookup (.type T) "__getitem__" = pure (some (.builtin id))/\s.TypeIs v T/\wpAny (model X.prog X.w) X.A (getItem v (.ref sl)) (EP X pins σ Q) X.xe s
def SlR.or (h:SlR X r) (h':SlR X r'):SlR X (λx lo hi H Q=>r x lo hi H Q\/r' x lo hi H Q):=by
 intro pins s σ H x v vl vu lo hi sl Q I rx hs pl pu q;rcases q with q|q
 .show h pins s σ H x v vl vu lo hi sl Q I rx hs pl pu q
 .show h' pins s σ H x v vl vu lo hi sl Q I rx hs pl pu q
def tSl (r:V->Option Int->Option Int->Hp->VK->Prop)(I:TE)(tl th:TO):TE:=λσ H Q=>I σ H λx H1=>tl σ H1 λl H2=>th σ H2 λu H3=>r x l u H3 Q
def lA {lo:Option Expr}(hr:SlR X r) (he:PE X e te) (hl:PO X lo tl) (hu:PO X hi th):PE X (.Subscript e (.Slice lo hi none p2) pos) (tSl r te tl th):=by
 intro pins s σ H Q I h;refine Subscript_ (thn (he pins s σ H _ I h) λv s1 a3=>?_);obtain ⟨x,H1,I1,r1,q1⟩:=a3;refine wpAny_Slice (thn (hl pins s1 σ H1 _ I1 q1) λvl s2 ⟨l,H2,I2,pl,q2⟩=>thn (hu pins s2 σ H2 _ I2 q2) λvu s3 a4=>?_);obtain ⟨u,H3,I3,pu,q3⟩:=a4;rw[evalPart_none];refine qP9 ?_;have I4:Inv X pins σ H3 { s3 with heap:=s3.heap.push { cls:=.type "slice",data:=.fields #[vl,vu,.none] } }:=I3.kept (t':=s3.toks) λb ob q=>qA6 _ q;obtain ⟨T,id,hT,ht,hg⟩:=hr pins { s3 with heap:=s3.heap.push { cls:=.type "slice",data:=.fields #[vl,vu,.none] } } σ H3 x v vl vu l u s3.heap.objs.size Q I4 r1 (Heap.IsSliceOf.new ..) pl pu q3
 change wpAny (model X.prog X.w) X.A (subscriptTail e (.Slice lo hi none p2) v (.ref s3.heap.objs.size)) (EP X pins σ Q) X.xe { s3 with heap:=s3.heap.push { cls:=.type "slice",data:=.fields #[vl,vu,.none] } };show tail_any (ops:=[.ref s3.heap.objs.size,v]) ht hT hg (by with_unfolding_all rfl)
def bR (xs:List V)(lo hi:JX):List V:=(xs.drop (HT.sIx xs.length 0 lo)).take (HT.sIx xs.length xs.length hi-HT.sIx xs.length 0 lo)
def eN (xs:List V) (lo hi:JX):(bR xs lo hi).length<=xs.length:=by
 unfold bR;rw[qF6,qH1];omega
def DQ (K:Frag):V->Option Int->Option Int->Hp->VK->Prop:=λx lo hi H Q=>∃a xs,x=.ref a/\SqT K H a xs /\
 ¬ (HT.sIx xs.length 0 lo=0/\HT.sIx xs.length xs.length hi=xs.length)/\∀p,H p=none->Q (.ref p) (upd H p (.tup (bR xs lo hi)))
def CH:SlR X (DQ X.K):=by
 intro pins s σ H x v vl vu lo hi sl Q I rx hs pl pu h;obtain ⟨a,xs,rfl,hx,hw,q⟩:=h;cases rx;obtain ⟨its,r,ht,hz⟩:=I.tuple hx;have hlen:its.toArray.size=xs.length:=by rw[qB6];show r.length.symm
 refine ⟨"tuple",_,PyProof.Rows.slot_tuple_getitem.lookup,ht.typeIs,?_⟩;refine HT.getItem_tuple_cut ht hs pl pu (by rw[hlen];show hw) ?_ (by rw[hlen];show hz);rw[hlen];refine ⟨.ref s.heap.objs.size,_,I.laid (t':=s.toks) (o:=.tup (bR xs lo hi)) (λb ob q=>qA6 _ q) (qB2 _) ?_,rfl,q _ (I.hok.fresh (qB2 _))⟩;show ⟨qA5 (eN xs lo hi) hz,_,(r.drop (HT.sIx xs.length 0 lo)).take (HT.sIx xs.length xs.length hi-HT.sIx xs.length 0 lo),IsTup.new _ _⟩
def yk (K:Frag):R2:=λx y H Q=>∃a b xs I,x=.ref a/\y=.ref b/\SqT K H a xs/\SqT K H b I/\xs ≠ []/\xs.length+I.length<=sizeLine /\
 (I = []->Q (.ref a) H)/\(I ≠ []->∀p,H p=none->Q (.ref p) (upd H p (.tup (xs++I))))
def Vals.nil_iff (r:Vals xs us):us = []↔xs = []:=by
 cases r with
 |nil=>simp
 |cons _ _=>simp
def Ah:OpR X (binaryOp .Add) (yk X.K):=by
 intro pins s σ H x y v u Q I rx ry h;obtain ⟨a,b,xs,ys,rfl,rfl,ha,hb,hx,hz,q1,q2⟩:=h;cases rx;cases ry;obtain ⟨its,r1,p1,_⟩:=I.tuple ha;obtain ⟨a3,r2,p2,_⟩:=I.tuple hb;refine HT.cat_tup p1 p2 (λz=>hx (r1.nil_iff.mp z)) (λz=>⟨.ref a,H,I,rfl,q1 (r2.nil_iff.mp z)⟩) (λz=>?_) (by rw[<- r1.length,<- r2.length];show hz);refine ⟨.ref s.heap.objs.size,_,I.laid (t':=s.toks) (o:=.tup (xs++ys)) (λb ob q=>qA6 _ q) (qB2 _) ?_,rfl,q2 (λw=>z (r2.nil_iff.mpr w)) _ (I.hok.fresh (qB2 _))⟩;show ⟨by rw[qC3];show hz,_,r1.append r2,IsTup.new _ _⟩
def ixN (n:Nat) (i:Int):Option Nat:=if 0<=i then (if i<n then some i.toNat else none) else if -(n:Int)<=i then some (i+n).toNat else none
def atI {α:Type}(xs:List α) (i:Int):Option α:=(ixN xs.length i).bind λj=>xs[j]?
def oG (h:ixN n i=some j):seqIndex? i n=some j/\j<n /\ -(n:Int)<=i/\i<n:=by
 unfold ixN at h;by_cases h0:0<=i
 .rw [qA2 h0]at h
  by_cases I:i<n
  .rw [qA2 I]at h
   have e:i.toNat=j:=Option.some.inj h;show ⟨by rw[seqIndex_of h0 I,e],ox,ox,I⟩
  .rw[qA4 I]at h;cases h
 .rw [qA4 h0]at h
  by_cases I:-(n:Int)<=i
  .rw [qA2 I]at h
   have e:(i+n).toNat=j:=Option.some.inj h;show ⟨by rw[seqIndex_neg ox I,e],ox,I,ox⟩
  .rw[qA4 I]at h;cases h
def jc {xs:List α}(h:atI xs i=some v):∃j,seqIndex? i xs.length=some j/\xs[j]?=some v/\j<xs.length /\ -(xs.length:Int)<=i/\i<xs.length:=by
 unfold atI at h;cases e:ixN xs.length i with
 |none=>rw[e]at h;cases h
 | some j=>
  rw[e]at h;obtain ⟨h1,I,h3,h4⟩:=oG e;show ⟨j,h1,h,I,h3,h4⟩
def je (b:Expr):Prop:=∀o i,subscripted b false o i=operate [o,i] (getItem o i)
def IxR (X:Cx) (r:R2):Prop:=
 ∀ (value slice:Expr) (pins:JZ) (s:Shared) (σ:St) (H:Hp) (x y:V) (v u:Value) (Q:VK),Inv X pins σ H s->RelV x v->RelV y u->r x y H Q ->
  subscripted slice false v u=operate [v,u] (getItem v u)->wpAny (model X.prog X.w) X.A (subscriptTail value slice v u) (EP X pins σ Q) X.xe s
def MtR (X:Cx) (id:String) (r:V->List V->Hp->VK->Prop):Prop:=
 ∀ (pins:JZ) (s:Shared) (σ:St) (H:Hp) (x:V) (xs:List V) (v:Value) (us:JY) (Q:VK),Inv X pins σ H s->RelV x v->Vals xs us->r x xs H Q ->
  wpAny (model X.prog X.w) X.A (call (.builtin id) (v::us)) (EP X pins σ Q) X.xe s
def IxR.or (h:IxR X r) (h':IxR X r'):IxR X (λx y H Q=>r x y H Q\/r' x y H Q):=by
 intro value slice pins s σ H x y v u Q I rx ry q hs;rcases q with q|q
 .show h value slice pins s σ H x y v u Q I rx ry q hs
 .show h' value slice pins s σ H x y v u Q I rx ry q hs
def yq (hr:IxR X r) (ha:PE X a ta) (hb:PE X b tb) (hs:je b):PE X (.Subscript a b pos) (tOp r ta tb):=by
 intro pins s σ H Q I h;show Subscript_ (xR ha hb I h λv u s2 x y H2 I2 rx ry q=>hr a b pins s2 σ H2 x y v u Q I2 rx ry q (hs _ _))
def DX (K:Frag):R2:=λx y H Q=>∃p xs i v,x=.ref p/\y=.int i/\SqL K H p xs/\atI xs i=some v/\Q v H
def DW (K:Frag):R2:=λx y H Q=>∃p xs i v,x=.ref p/\y=.int i/\SqT K H p xs/\atI xs i=some v/\Q v H
def rIxS:R2:=λx y H Q=>∃z i c,x=.str z/\y=.int i/\z.length<=sizeLine/\atI z.cps.toList i=some c/\Q (.str ⟨#[c]⟩) H
def ix_list:IxR X (DX X.K):=by
 intro value slice pins s σ H x y v u Q I rx ry h hs;obtain ⟨p,xs,i,z,rfl,rfl,hq,he,q⟩:=h;cases rx;obtain ⟨t,rfl⟩:=ry;obtain ⟨its,r,pl,hz⟩:=I.list hq;obtain ⟨j,h1,h2,h3,h4,h5⟩:=jc he;obtain ⟨w,ew,a3⟩:=r.get h2;have hl:=r.length;have hn:=da;have fin:EP X pins σ Q w s:=⟨z,H,I,a3,q⟩;by_cases h0:0<=i
 .have hj:i.toNat=j:=by
   rw[seqIndex_of h0 h5]at h1;show Option.some.inj h1
  show item_listR pl.isList h0 ox (by rw[hj];simpa using ew) fin hs
 .have hj:(i+(its.toArray.size:Int)).toNat=j:=by
   rw[seqIndex_neg ox h4]at h1;rw[qB6,<- hl];show Option.some.inj h1
  show subscriptTail_builtinR (x:=w) pl.isList.typeIs slot_list_getitem.lookup
   (wpAny_getItem_list_neg (Q:=λr s'=>r=w/\EP X pins σ Q r s') pl.isList ox (by rw[qB6] <;> omega) ox (by rw[hj];simpa using ew) ⟨rfl,fin⟩) hs
def ix_tup:IxR X (DW X.K):=by
 intro value slice pins s σ H x y v u Q I rx ry h hs;obtain ⟨p,xs,i,z,rfl,rfl,hq,he,q⟩:=h;cases rx;obtain ⟨t,rfl⟩:=ry;obtain ⟨its,r,pl,hz⟩:=I.tuple hq;obtain ⟨j,h1,h2,h3,h4,h5⟩:=jc he;obtain ⟨w,ew,a3⟩:=r.get h2;have hl:=r.length;have hn:=da;have fin:EP X pins σ Q w s:=⟨z,H,I,a3,q⟩;show subscriptTail_builtinR (x:=w) pl.typeIs slot_tuple_getitem.lookup
  (getItem_tuple (j:=j) (Q:=λr s'=>r=w/\EP X pins σ Q r s') pl ox ox (by rw[qB6,<- hl];show h1) (by simpa using ew) ⟨rfl,fin⟩) hs
def Fk:IxR X rIxS:=by
 intro value slice pins s σ H x y v u Q I rx ry h hs;obtain ⟨z,i,c,rfl,rfl,hz,he,q⟩:=h;obtain ⟨t,rfl⟩:=rx;obtain ⟨t',rfl⟩:=ry;obtain ⟨j,h1,h2,h3,h4,h5⟩:=jc he;have hl:z.cps.toList.length=z.length:=by simp [Str.length]
 rw[hl]at h1 h4 h5;have hn:=da;show tail_any (typeIs_str s z t) slot_str_getitem.lookup (getItem_str (c:=c) (by
  have e1:decide (i < -(2^63:Int))=false:=qQ1 ox;have e2:decide (i≥2^63)=false:=qQ1 ox;rw[e1,e2,xC2]) (by rw[h1];simpa using h2) ⟨.str ⟨#[c]⟩,H,I.tok _,⟨_,rfl⟩,q⟩) hs
def rIx (K:Frag):R2:=λx y H Q=>DX K x y H Q\/DW K x y H Q\/rIxS x y H Q
def tY:IxR X (rIx X.K):=ix_list.or (ix_tup.or Fk)
def qh (its:JY) (n j:Nat) (u:Value):Obj.mapSeq (·.setIfInBounds j u) { cls:=.type "list",data:=.seq its.toArray n }={ cls:=.type "list",data:=.seq (its.set j u).toArray n }:=by
 simp [Obj.mapSeq]
def Inv.lst {σ:St}(I:Inv X pins σ H s) (h:H p=some (.lst xs)):
  ∃(its:JY) (n:Nat),Vals xs its/\s.heap.get? p=some { cls:=.type "list",data:=.seq its.toArray n }/\xs.length<=sizeLine:=by
 obtain ⟨z,its,n,r,e⟩:=I.hok p _ h;show ⟨its,n,r,e,z⟩
def Inv.lstUpd {σ:St}{its:JY}(I:Inv X pins σ H s) (h:H p=some (.lst xs)) (ho:s.heap.get? p=some { cls:=.type "list",data:=.seq its.toArray n }) (hf:f { cls:=.type "list",data:=.seq its.toArray n }={ cls:=.type "list",data:=.seq its'.toArray n' }) (r:Vals ys its') (hz:ys.length<=sizeLine) (t:Nat):
  Inv X pins σ (upd H p (.lst ys)) { s with heap:=s.heap.update p f,toks:=t }:=by
 have e:(s.heap.update p f).get? p=some { cls:=.type "list",data:=.seq its'.toArray n' }:=by
  rw[qK8 f ho (by rw[hf] <;> rfl),hf]
 refine I.write (x:=p) (e:=p) (by rw[h];trivial) (.inl rfl) (λb u hb q=>(qT6 _ _ (Ne.symm hb)).trans q) ⟨_,e⟩ ?_;show ⟨hz,its',n',r,e⟩
def rSetL:V->V->V->Hp->(Hp->Prop)->Prop:=λo i v H Q=>∃p xs k j,o=.ref p/\i=.int k/\H p=some (.lst xs)/\ixN xs.length k=some j/\Q (upd H p (.lst (xs.set j v)))
def set_list:HU X rSetL:=by
 intro pins s σ H o i v ov iv u Q I ro ri rv h;obtain ⟨p,xs,k,j,rfl,rfl,hp,hj,q⟩:=h;cases ro;obtain ⟨t,rfl⟩:=ri;obtain ⟨its,n,r,ho,hz⟩:=I.lst hp;obtain ⟨h1,h2,h3,h4⟩:=oG hj;have hl:=r.length;have hn:=da;have I':Inv X pins σ (upd H p (.lst (xs.set j v))) { s with heap:=s.heap.update p (Obj.mapSeq (·.setIfInBounds j u)) }:=
  I.lstUpd hp ho (qh its n j u) (r.set rv j) (by rw[qF2];show hz) s.toks
 by_cases h0:0<=k
 .have hk:k.toNat=j:=by
   rw[seqIndex_of h0 h4]at h1;show Option.some.inj h1
  show PySem.W.ki_setAt ho h0 ox (by rw[qB6,<- hl];show h4) (by rw[hk];show ⟨_,I',q⟩)
 .have hk:(k+(its.toArray.size:Int)).toNat=j:=by
   rw[seqIndex_neg ox h3]at h1;rw[qB6,<- hl];show Option.some.inj h1
  show PySem.W.ki_setBack ho ox (by rw[qB6,<- hl];show h3) ox (by rw[hk];show ⟨_,I',q⟩)
def kP (lo hi:JX) (n:Nat):(sliceBounds lo hi none n).1=((HT.sIx n 0 lo:Nat):Int)/\(sliceBounds lo hi none n).2.1=((HT.sIx n n hi:Nat):Int)/\(sliceBounds lo hi none n).2.2=1:=by
 refine ⟨?_,?_,rfl⟩
 .cases lo with
  |none=>simp [sliceBounds,HT.sIx]
  | some i=>
   simp only [sliceBounds,HT.sIx,Option.getD_none,show (1:Int)>0 by decide,qQ2];by_cases h:i<0
   .simp only [h,qQ2] <;> omega
   .simp only [h,qQ4] <;> omega
 .cases hi with
  |none=>simp [sliceBounds,HT.sIx]
  | some i=>
   simp only [sliceBounds,HT.sIx,Option.getD_none,show (1:Int)>0 by decide,qQ2];by_cases h:i<0
   .simp only [h,qQ2] <;> omega
   .simp only [h,qQ4] <;> omega
def jP (its:JY) (lo hi:JX):slicePick its.toArray lo hi none=((its.drop (HT.sIx its.length 0 lo)).take (HT.sIx its.length its.length hi-HT.sIx its.length 0 lo)).toArray:=by
 obtain ⟨h1,I,h3⟩:=kP lo hi its.toArray.size;unfold slicePick;rw[h1,I,h3];simp only [sliceRange_one,pick_run,qB6] <;> rfl
def DR (K:Frag):V->Option Int->Option Int->Hp->VK->Prop:=λx lo hi H Q=>∃a xs,x=.ref a/\SqL K H a xs/\∀p,H p=none->Q (.ref p) (upd H p (.lst (bR xs lo hi)))
def zn:SlR X (DR X.K):=by
 intro pins s σ H x v vl vu lo hi sl Q I rx hs pl pu h;obtain ⟨a,xs,rfl,hx,q⟩:=h;cases rx;obtain ⟨its,r,ht,hz⟩:=I.list hx;have hlen:=r.length;refine ⟨"list",_,slot_list_getitem.lookup,ht.isList.typeIs,?_⟩;refine wpAny_getItem_list_slice ht.isList hs pl pu .none Zy ?_ (by rw[qB6] <;> omega)
 rw[jP,<- hlen];refine ⟨.ref s.heap.objs.size,_,I.laid (t':=s.toks) (o:=.lst (bR xs lo hi)) (λb ob q=>qA6 _ q) (qB2 _) ?_,rfl,q _ (I.hok.fresh (qB2 _))⟩;show ⟨qA5 (eN xs lo hi) hz,_,0,(r.drop (HT.sIx xs.length 0 lo)).take (HT.sIx xs.length xs.length hi-HT.sIx xs.length 0 lo),qC1 _ rfl⟩
def yB:V->Bool
 | .non=>true
 | .bl _=>true
 | .int _=>true
 | .str _=>true
 |_=>false
def eqV:V->V->Bool
 | .non,.non=>true
 | .bl a,.bl b=>a == b
 | .bl a,.int b=>(if a then 1 else 0) == b
 | .int a,.bl b=>a == (if b then 1 else 0)
 | .int a,.int b=>a == b
 | .str a,.str b=>a == b
 |_,_=>false
def inV (x:V)(xs:List V):Bool:=xs.any λy=>eqV y x
def rIn (K:Frag)(neg:Bool):R2:=λx y H Q=>∃p xs,y=.ref p/\(SqL K H p xs\/SqT K H p xs)/\yB x=true/\xs.all yB=true/\Q (.bl (if neg then !inV x xs else inV x xs)) H
def nc:C8 X (.builtin "len") (λxs H Q=>∃p ys,xs = [.ref p]/\(SqL X.K H p ys\/SqT X.K H p ys)/\Q (.int ys.length) H):=by
 intro pins s σ H xs us Q I r h;obtain ⟨p,ys,rfl,hq,q⟩:=h;obtain ⟨u,rfl,rx⟩:=vals1 r;cases rx;have hn:=da;rcases hq with hq|hq
 .obtain ⟨its,r',pl,hz⟩:=I.list hq;have hlen:=r'.length;show Calls.call_len_list pl.isList (by simp only [qB6] <;> omega) ⟨.int ys.length,H,I.tok _,⟨s.toks+1,by rw[qB6,hlen]⟩,q⟩
 .obtain ⟨its,r',pl,hz⟩:=I.tuple hq;have hlen:=r'.length;show len_tuple pl (by simp only [qB6] <;> omega) ⟨.int ys.length,H,I.tok _,⟨s.toks+1,by rw[qB6,hlen]⟩,q⟩
def mZ:C8 X (.type "list") (λxs H Q=>∃p ys,xs = [.ref p]/\(SqL X.K H p ys\/SqT X.K H p ys)/\∀l,H l=none->Q (.ref l) (upd H l (.lst ys))):=by
 intro pins s σ H xs us Q I r h;obtain ⟨p,ys,rfl,hq,q⟩:=h;obtain ⟨u,rfl,rx⟩:=vals1 r;cases rx;have fin:∀(its:JY),Vals ys its->ys.length<=sizeLine->∀(h':Heap) (c':Nat),(∀b o',s.heap.get? b=some o'->h'.get? b=some o') ->
   h'.get? s.heap.objs.size=some { cls:=.type "list",dict:=none,data:=.seq its.toArray c',slots:=#[] }->EP X pins σ Q (.ref s.heap.objs.size) { s with heap:=h' }:=λits r' hz h' c' kp e=>
  ⟨.ref s.heap.objs.size,_,I.laid (t':=s.toks) kp (qB2 _) (show ObjOk X.prog X.w _ h' _ (.lst ys) from ⟨hz,its,c',r',e⟩),rfl,q _ (I.hok.fresh (qB2 _))⟩
 rcases hq with hq|hq
 .obtain ⟨its,r',pl,hz⟩:=I.list hq;have hlen:=r'.length;obtain ⟨o,ho,hc,n,hd⟩:=pl.isList;show call_list_seq p (.inl rfl) ho hc hd (λh' c' kp e=>fin its r' hz h' c' kp e) (by simp only [qB6] <;> omega)
 .obtain ⟨its,r',pl,hz⟩:=I.tuple hq;have hlen:=r'.length;obtain ⟨o,ho,hc,n,hd⟩:=pl;show call_list_seq p (.inr rfl) ho hc hd (λh' c' kp e=>fin its r' hz h' c' kp e) (by simp only [qB6] <;> omega)
def jT:C8 X (.type "tuple") (λxs H Q=>∃p ys,xs = [.ref p]/\((SqL X.K H p ys/\∀l,H l=none->Q (.ref l) (upd H l (.tup ys)))\/(SqT X.K H p ys/\Q (.ref p) H))):=by
 intro pins s σ H xs us Q I r h;obtain ⟨p,ys,rfl,h⟩:=h;obtain ⟨u,rfl,rx⟩:=vals1 r;cases rx;rcases h with ⟨hq,q⟩|⟨hq,q⟩
 .obtain ⟨its,r',pl,hz⟩:=I.list hq;have hlen:=r'.length;refine call_tuple_list pl.isList (λh' kp=>?_) (by simp only [qB6] <;> omega)
  have I1:Inv X pins σ H { s with heap:=h' }:=I.kept (t':=s.toks) kp;have I2:Inv X pins σ (upd H h'.objs.size (.tup ys)) { s with heap:=h'.push { cls:=.type "tuple",data:=.seq its.toArray } }:=
   I1.laid (t':=s.toks) (λb o e=>qA6 _ e) (qB2 _) (show ObjOk X.prog X.w _ _ _ (.tup ys) from ⟨hz,its,r',IsTup.new _ _⟩)
  show ⟨.ref h'.objs.size,_,I2,rfl,q _ (I1.hok.fresh (qB2 _))⟩
 .obtain ⟨its,r',pl,hz⟩:=I.tuple hq;show call_tuple_same pl ⟨.ref p,H,I,rfl,q⟩
def tyV (K:Frag) (T:String) (x:V) (H:Hp):Prop:=match x with
 | .str _=>T = "str"
 | .int _=>T = "int"
 | .ref p=>(T = "list" /\ ∃xs,SqL K H p xs)\/(T = "tuple" /\ ∃o,K.lookup p=some o/\o.cls=.type "tuple" /\ o.dict=none) \/
   (T = "dict" /\ ((∃kvs,H p=some (.dK kvs))\/∃kvs,H p=some (.dT kvs)))\/(T = "set" /\ ∃S n,H p=some (.set S n))
 |_=>False
def rC {σ:St}(I:Inv X pins σ H s) (r:RelV x v) (ty:tyV X.K T x H):
  s.TypeIs v T/\∀a,v=.ref a->∃ob,s.heap.get? a=some ob/\ob.dict=none:=by
 cases x with
 | str z=>
  obtain ⟨t,rfl⟩:=r;cases (show T = "str" from ty);show ⟨typeIs_str s z t,λ_ e=>nomatch e⟩
 | int i=>
  obtain ⟨t,rfl⟩:=r;cases (show T = "int" from ty);show ⟨typeIs_int s i t,λ_ e=>nomatch e⟩
 | ref p=>
  cases r;rcases ty with ⟨rfl,xs,hq⟩|⟨rfl,o,hk,hc,hd⟩|⟨rfl,hk⟩|⟨rfl,S,n,hk⟩
  .obtain ⟨its,_,pl,_⟩:=I.list hq;refine ⟨pl.isList.typeIs,λa e=>?_⟩;cases e;obtain ⟨o,n,e,c,hd,_⟩:=pl;show ⟨o,e,hd⟩
  .refine ⟨⟨o,I.kIn p o hk,hc⟩,λa e=>?_⟩;cases e;show ⟨o,I.kIn _ o hk,hd⟩
  .have z:∃o,s.heap.get? p=some o/\o.ExactDict:=by
    rcases hk with ⟨kvs,hk⟩|⟨kvs,hk⟩
    .obtain ⟨_,_,_,_,o,_,_,e,ex,_⟩:=I.hok p _ hk;show ⟨o,e,ex⟩
    .obtain ⟨_,_,_,_,o,_,_,e,ex,_⟩:=I.hok p _ hk;show ⟨o,e,ex⟩
   obtain ⟨o,e,ex⟩:=z;refine ⟨⟨o,e,ex.1⟩,λa e2=>?_⟩;cases e2;show ⟨o,e,ex.2.1⟩
  .obtain ⟨o,_,_,_,e,ex,_⟩:=I.hok p _ hk;refine ⟨⟨o,e,ex.1⟩,λa e2=>?_⟩;cases e2;show ⟨o,e,ex.2.1⟩
 |_=>show False.elim ty
def tBM (K:Frag)(T:String)(r:V->List V->Hp->VK->Prop)(I:TE)(t:TA):TE:=λσ H Q=>I σ H λx H1=>tyV K T x H1/\t σ H1 λxs H2=>r x xs H2 Q
def yr {X:Cx}{o e:Expr}{es:Vz}{to:TE}{t:TA}{name:Str}{apos a3:Pos}{T id:String}{r:V->List V->Hp->VK->Prop}(pa:PlainAttrs T) (slot:Slot T name id) (ab:typeOf (.builtin id)=pure (.type "method_descriptor")) (hm:MtR X id r) (ho:PE X o to) (ha:PA X (e::es) t) (a6:attributeBase o name X.env (eval o X.env)=eval o X.env:=by rfl) (a7:((backTo a3 (starEach (e::es) X.env)).all (λx=>!x.1)&&(backToKw a3 (keywordEach [] X.env)).all (λx=>x.1.isSome)
   && decide ((e::es).length+([]:List Keyword).length+(if ([]:List Keyword).isEmpty then 0 else 1)<30))=true:=by rfl) (a5:(apos.endLine == a3.line)=true:=by rfl) (hs:starEach (e::es) X.env=(false,eval e X.env)::starEach es X.env:=by rfl) (a4:(backTo a3 (starEach es X.env)).any (·.1)=false:=by rfl):
  PE X (.Call (.Attribute o name apos) (e::es) [] a3) (tBM X.K T r to t):=by
 intro pins s σ H Q I h;refine wpAny_Call_method_late a6 a7 a5 rfl (thn (ho pins s σ H _ I h) λv s1 a8=>?_);obtain ⟨x,H1,I1,r1,ty,q1⟩:=a8;obtain ⟨h1,h2⟩:=rC I1 r1 ty;refine ⟨T,id,pa,slot,ab,h1,h2,?_⟩;have hA:=ha a3 pins s1 σ H1 _ I1 q1;rw[hs]at hA ⊢;refine Calls.callWith_builtin (by change (false||(backTo a3 (starEach es X.env)).any (·.1))=false;rw[a4] <;> rfl) (Calls.evalArgs_plain ?_)
 show thn hA λus s2 a9=>by obtain ⟨vs,H2,I2,r2,q2⟩:=a9;show hm pins s2 σ H2 x vs v us Q I2 r1 r2 q2
def MtM (X:Cx) (id:String) (r:V->List V->Hp->VK->Prop):Prop:=
 ∀ (pins:JZ) (s:Shared) (σ:St) (H:Hp) (x:V) (xs:List V) (v:Value) (us:JY) (Q:VK),Inv X pins σ H s->RelV x v->Vals xs us->r x xs H Q ->
  wpAny (model X.prog X.w) X.A (call (.builtin id) (v::us)) (EP X pins σ Q) X.xe s
def Vals.one:∀{x:V}{us:JY},Vals [x] us->∃u,us = [u]/\RelV x u:=by
 intro x us r;cases r with
 |cons r t=>cases t;show ⟨_,rfl,r⟩
def Vals.reverse (h:Vals xs us):Vals xs.reverse us.reverse:=by
 induction h with
 |nil=>show .nil
 |cons r t I=>rw[qN4,qN4];show Vals.append I (.cons r .nil)
def Inv.lset {σ:St}{its:JY}(I:Inv X pins σ H s) (hH:H l=some (.lst xs)) (e:s.heap.get? l=some { cls:=.type "list",data:=.seq its.toArray n }) (hf:f its.toArray=its'.toArray) (hv:Vals ys its') (hz:ys.length<=sizeLine):
  Inv X pins σ (upd H l (.lst ys)) { s with heap:=s.heap.update l (Obj.mapSeq f),toks:=t' }:=by
 have q:=PySem.IsL.update e f;rw[hf]at q;refine I.write (x:=l) (e:=l) (by rw[hH];show trivial) (.inl rfl) (λb' u hb hu=>(qT6 s.heap (Obj.mapSeq f) (Ne.symm hb)).trans hu) ⟨_,q⟩ ?_;show ⟨hz,its',_,hv,q⟩
def Inv.lnew {σ:St}(I:Inv X pins σ H s) (hv:Vals ys its) (hz:ys.length<=sizeLine):
  Inv X pins σ (upd H s.heap.objs.size (.lst ys)) { s with heap:=s.heap.push { cls:=.type "list",data:=.seq its.toArray },toks:=t' }:=
 I.laid (λ_ _ q=>qA6 _ q) (qB2 _) ⟨hz,its,0,hv,qC1 _ rfl⟩
def Inv.fresh {σ:St}(I:Inv X pins σ H s):H s.heap.objs.size=none:=I.hok.fresh (qB2 _)
def Inv.lstM {σ:St}(I:Inv X pins σ H s) (hH:H l=some (.lst xs)):xs.length<=sizeLine/\∃(its:JY) (n:Nat),Vals xs its/\xs.length=its.length/\s.heap.get? l=some { cls:=.type "list",data:=.seq its.toArray n }:=by
 obtain ⟨z,its,n,r,e⟩:=I.hok l _ hH;show ⟨z,its,n,r,r.length,e⟩
def wD (h:n<=sizeLine):Builtin.List.listTooLong n=false:=by
 unfold Builtin.List.listTooLong;show qQ1 ox
def rAppend:V->List V->Hp->VK->Prop:=λx vs H Q=>∃l xs y,x=.ref l/\vs = [y]/\H l=some (.lst xs)/\xs.length<sizeLine/\Q .non (upd H l (.lst (xs ++ [y])))
def jo:MtM X "list.append" rAppend:=by
 intro pins s σ H x vs v us Q I rx rv h;obtain ⟨l,xs,y,rfl,rfl,hH,hz,q⟩:=h;cases rx;obtain ⟨u,rfl,ru⟩:=rv.one;obtain ⟨z,its,n,r,hl,e⟩:=I.lstM hH;refine call_meets F.slot_list_append ⟨_,e,rfl⟩ F.entry_list_append (F.args_list_append_2 _ _) (PySem.list_append l its.toArray n u (by rw[qB6];omega)) ⟨e,?_⟩;refine ⟨.non,_,I.lset (its':=its ++ [u]) hH e Zy (r.append (.cons ru .nil)) ?_,rfl,q⟩;rw[qC3,qG6];omega
def rExtend:V->List V->Hp->VK->Prop:=λx vs H Q=>∃l b xs I,x=.ref l/\vs = [.ref b]/\H l=some (.lst xs)/\H b=some (.lst I)/\xs.length+I.length<=sizeLine/\Q .non (upd H l (.lst (xs++I)))
def tF:MtM X "list.extend" rExtend:=by
 intro pins s σ H x vs v us Q I rx rv h;obtain ⟨l,b,xs,zs,rfl,rfl,hH,hB,hz,q⟩:=h;cases rx;obtain ⟨u,rfl,ru⟩:=rv.one;cases ru;obtain ⟨z,its,n,r,hl,e⟩:=I.lstM hH;obtain ⟨z2,a3,n2,r2,a5,e2⟩:=I.lstM hB;have hsz:its.toArray.size+a3.toArray.size<=sizeLine:=by rw[qB6,qB6];omega
 have a4:¬ (!its.toArray.isEmpty&&Builtin.List.listTooLong (its.toArray.size+a3.toArray.size))=true:=by
  rw[wD hsz,Bool.and_false];show qA3
 refine call_meets F.slot_list_extend ⟨_,e,rfl⟩ F.entry_list_extend (F.args_list_extend_2 _ _)
  (AutoSeq1.list_extend_list_list_0 l its.toArray n b a3.toArray n2 a4 (by rw[qB6];omega) ox) ⟨e,e2,?_⟩
 refine ⟨.non,_,I.lset (its':=its++a3) hH e Zy (r.append r2) ?_,rfl,q⟩;rw[qC3];omega
def rCat:R2:=λx y H Q=>∃l b xs I,x=.ref l/\y=.ref b/\H l=some (.lst xs)/\H b=some (.lst I)/\xs.length+I.length<=sizeLine/\∀p,H p=none->Q (.ref p) (upd H p (.lst (xs++I)))
def gf:OpR X (binaryOp .Add) rCat:=by
 intro pins s σ H x y v u Q I rx ry h;obtain ⟨l,b,xs,zs,rfl,rfl,hH,hB,hz,q⟩:=h;cases rx;cases ry;obtain ⟨z,its,n,r,hl,e⟩:=I.lstM hH;obtain ⟨z2,a3,n2,r2,a4,e2⟩:=I.lstM hB;refine PySem.P.add_list e e2 ?_ (by rw[qB6,qB6];omega);have ea:its.toArray++a3.toArray=(its++a3).toArray:=Zy;rw[ea];show ⟨.ref _,_,I.lnew (t':=s.toks) (r.append r2) (by rw[qC3];omega),rfl,q _ I.fresh⟩
end L2
namespace Att
open PySem PySem.W PySem.Calls PyProof.Rows
def gK:∀(ns:Vk) (vs:JY),WellAll P h vs (ns.map WData.int)->IntsAre vs ns:=by
 intro ns
 induction ns with
 | nil=>
  intro vs w;rw[qN5]at w;cases w;show .nil
 | cons n ns I=>
  intro vs w;rw[qB9]at w;cases w with
  | cons a b=>
   cases a;show .cons _ _ (I _ b)
def rY {l:OpenLaw}(hn:l.most=some n) (I:l.row.toRowW.claim.pre args=true) (a5:WellAll P h vals args):
  ∃a vs ns,vals = [Value.ref a]/\args = [WData.list (ns.map WData.int)]/\h.get? a=some { cls:=.type "list",data:=.seq vs.toArray }/\IntsAre vs ns/\ns.length<=n:=by
 have a4:WShape.hasAll [] args [.list .int]=true:=(pre_splitW I).1;have hc:l.pre.holds [] { args:=args }=true:=(pre_splitW I).2;obtain ⟨d,r,rfl,h1,h2⟩:=hasAllW_cons a4;obtain rfl:=hasAllW_nil h2;obtain ⟨xs,rfl,h3⟩:=hasW_list h1;obtain ⟨ns,rfl⟩:=items_int h3;have hlen:ns.length<=n:=by
  unfold OpenLaw.pre at hc;have h4:(WTm.not (.lt (.lit (.int (n:Int))) (.len (.arg 0)))).holds [] { args:=[.list (ns.map .int)] }=true:=by
   have h4:=(holds_andW hc).1;rw[hn]at h4;show h4
  have h5:=condW_of h4 (w_not (w_lt w_lit (w_len_list (w_arg rfl))));rw[qA7]at h5;refine Nat.le_of_not_lt λq=>?_;have q':(n:Int)<((ns.length:Nat):Int):=ox
  first
   | (rw[qQ0 q']at h5;show absurd h5 Zz)
   | (simp at h5;omega)
 cases a5 with
 | cons w1 w2=>
  cases w2;cases w1 with
  |list ho a3=>show ⟨_,_,ns,rfl,rfl,ho,gK ns _ a3,hlen⟩
def sE (l:OpenLaw) (args:List WData):l.row.toRowW.claim.post args (.bool true) args=true:=
 postW_of (r:=l.row.toRowW) (X:=(true == true))
  (show WShape.has [] (.bool true) .bool=true by first|rfl|decide|simp [WShape.has,WShape.arms,WShape.armsAll])
  (show (WTm.eq .res (.lit (.bool true))).value [] { args:=args,res:=some (.bool true),after:=args }=some (.bool (true == true)) from w_eq_bool (w_res rfl) w_lit) rfl
end Att
namespace L2
open PySem PySem.Spec PyProof.Rows
def rg:∀{vs:JY}{ns:Vk},IntsAre vs ns->Vals (ns.map V.int) vs:=by
 intro vs ns h
 induction h with
 |nil=>show .nil
 |cons n t h I=>show .cons ⟨t,rfl⟩ I
def qS (H:Hp):Prop:=∀b,H b=none\/∃o xs,H b=some (.frz o (.lst xs))
def wU {K:Frag}(KX:K.In s₁.heap) (a9:s₁.heap.Ns mainGlobals mg) (hb:s₁.heap.Ns builtinsNs mb) (b3:∀x:Str,x ≠ "__name__" -> mb x=bootBuiltins x) (a5:s₁.heap.NoLimit) (hg:s₁.gens=#[]) (ha:s₁.heap.get? a=some { cls:=.type "list",data:=.seq vs.toArray }) (hi:IntsAre vs ns) (hl:ns.length<=sizeLine) (hr:Room k callerA) (F:∀base:Heap,K.In base->base.Ns mainGlobals mg->FnOk P w K mg base CX k fa fd [x] sp) (a4:∀(s:Shared) (u:Value),BindsTo s fd ⟨[u],[]⟩ [(x,u)]) (ab:∀H:Hp,qS H->SqL K H a (ns.map V.int)->sp [.ref a] H (λv _=>v=.bl true) λ_ _ _=>False) (b4:∀H e s',CX [] H s₁ (λ_ _ _=>False) e s'->False):
  codeAny (model P w) callerA (.call (.ref fa) ⟨[.ref a],[]⟩) (λr s'=>r=.ok (.ret (.bool true))/\OldK s₁.heap s'.heap/\s'.os=s₁.os/\AllBare s'.gens) s₁:=by
 have rv:=rg hi;have a8:=hi.length
 -- from an abstract heap in which nothing but the script may be tracked
 have core:∀H:Hp,qS H->SqL K H a (ns.map V.int)->HOk P w H s₁.heap->(∀b,H b≠none->b=a)->(H a≠none->K.lookup a=none) ->
   codeAny (model P w) callerA (.call (.ref fa) ⟨[.ref a],[]⟩) (λr s'=>r=.ok (.ret (.bool true))/\OldK s₁.heap s'.heap/\s'.os=s₁.os/\AllBare s'.gens) s₁:=by
  intro H hO hS hok hA hK;have I:∀{b:Addr}{o:Obj},s₁.heap.get? b=some o->H b=none->(bM s₁.heap H).get? b=some o:=λe n=>xh e n;have b0:∀{b:Addr}{o:Obj}{es:Array DictEntry}{ep:Nat},s₁.heap.get? b=some o->o.data=.dict es ep->H b=none:=λ{b o es ep} e d=>by
   cases q:H b with
   |none=>rfl
   | some u=>
    have e':b=a:=hA b (by rw[q];simp);subst e';rw[ha]at e;cases e;have d':Data.seq vs.toArray _=Data.dict es ep:=d;cases d'
  have a3:∀{b:Addr}{m:JV},s₁.heap.Ns b m->(bM s₁.heap H).Ns b m:=λ{b m} zz50=>by obtain ⟨o,es,ep,e,d,r⟩:=zz50;show ⟨o,es,ep,I e (b0 e d),d,r⟩
  have a6:K.In (bM s₁.heap H):=λb o e=>I (KX b o e) (by
   cases q:H b with
   |none=>rfl
   | some u=>
    have e':b=a:=hA b (by rw[q];simp);subst e';rw[hK (by rw[q];simp)]at e;cases e)
  have hM:Mod K mg (bM s₁.heap H):=⟨a6,a3 a9,⟨mb,a3 hb,b3⟩,let ⟨mc,h1,h2⟩:=a5;⟨mc,a3 h1,h2⟩⟩;have e0:qU P w K mg (bM s₁.heap H) callerA [] s₁ H:=⟨rfl,hM,λb o e=>An e,qK7 (ul _ _),trivial,λb hb=>absurd (show b∈([]:List Addr) from hb) Zy,hok,.of_eq hg⟩;refine codeAny_mono ((F _ a6 (a3 a9)).run callerA [] s₁ H ⟨[.ref a],[]⟩ [.ref a] [.ref a] _ _ hr e0 (a4 s₁ (.ref a)) (.cons rfl .nil) (ab H hO hS)) λr s' h=>?_;cases r with
  |error e=>show (b4 H e s' h).elim
  | ok fl=>
   cases fl with
   |next=>show False.elim h
   |brk=>show False.elim h
   |cont=>show False.elim h
   | ret u=>
    obtain ⟨v,H',os,bare,un,a7,r',q⟩:=h;have q':v=.bl true:=q;subst q';obtain rfl:u=Value.bool true:=r';refine ⟨rfl,OldK.of_keep λb o e=>?_,os,bare⟩;cases q:H b with
    |none=>show un.keep b o e q (by intro z;show absurd (show b∈([]:List Addr) from z) Zy) Zy
    | some u=>
     rcases hO b with z|⟨ob,xs,z⟩
     .rw[q]at z;cases z
     .have z2:=un.frzs b ob _ z;obtain ⟨e1,_⟩:=hok b _ z;obtain ⟨e2,_⟩:=a7 b _ z2;rw[e]at e1;cases e1;show e2
 cases hk:K.lookup a with
 | some o=>
  -- the script is one of the module's own objects
  have e:=KX a o hk;rw[ha]at e;cases e;refine core (λ_=>none) (λ_=>.inl rfl) (.inr ⟨_,vs.toArray,_,hk,rfl,rfl,rfl,by rw[qB6,a8];show hl,by simpa using rv⟩) (λb u z=>by have z':(none:Option HO)=some u:=z;cases z') (λb z=>absurd rfl z) λz=>absurd rfl z
 | none=>
  refine core (λb=>if b=a then some (.frz { cls:=.type "list",data:=.seq vs.toArray } (.lst (ns.map V.int))) else none) (λb=>?_) (.inl (.inr ⟨{ cls:=.type "list",data:=.seq vs.toArray },qA2 rfl⟩)) (λb u z=>?_) (λb z=>?_) λ_=>hk
  .by_cases hb:b=a
   .show .inr ⟨_,_,qA2 hb⟩
   .show .inl (qA4 hb)
  .by_cases hb:b=a
   .have z':=(qA2 hb).symm.trans z;cases z';subst hb;show ⟨ha,by rw[qA7];show hl,vs,_,rv,ha⟩
   .have z':=(qA4 hb).symm.trans z;cases z'
  .by_cases hb:b=a
   .show hb
   .show absurd (qA4 hb) z
abbrev CX0:CXT:=λ_ _ _ _ _ _=>False
abbrev E0:XK:=λ_ _ _=>False
def pO:nr CX0 X E0:=λ_ _ _ _ _ _ _ h=>h.elim
structure Fun (K:Frag) (x qual:Str) (st:Stmt) (f:Addr) (fd:FuncData):Prop where
 ex:∃(oc:Value) (od:Option Addr) (kV doc pm:Value) (an:Option Addr) (cdv ct:Value) (osl:Array (Option Value)),
  fd=PySem.W.fnOf x qual (R3 st) (J9 st) (b9 st) .none kV doc pm an cdv ct/\K.lookup f=some ⟨oc,od,.func fd,osl⟩/\PySem.W.codeIn K cdv qual=true
 kp:PySem.W.keepIn K (.ref f)=true
def Fun.ok {K:Frag}{st:Stmt}(F:Fun K x qual st f fd) (S:e8 N ps (b9 st)) (len:∀vs H Q E,sp vs H Q E->vs.length=ps.length) (I:∀(cdv:Value) (A:Around) (outer:List Env) (s:Shared) (H:Hp) (vs:List V) (Q:VK) (E:XK),Room k (A.deeper (envOfC qual (b9 st) s.heap.objs.size f cdv))->sp vs H Q E ->
   ∃t,PSs (dm CX0 P w K mg base N qual (b9 st) f cdv A outer s H E).nox (J9 st) t/\t { nx:=λ_ H'=>Q .non H',rt:=Q } (start N vs) H):FnOk P w K mg base CX0 (k+1) f fd ps sp:=by
 obtain ⟨oc,od,kV,doc,pm,an,cdv,ct,osl,rfl,lk,a4⟩:=F.ex;refine IQ lk a4 S len λA outer s H vs Q E hr a3=>?_;obtain ⟨t,h,q⟩:=I cdv A outer s H vs Q E hr a3;show ⟨t,h.nox,q⟩
def Fun.binds {K:Frag}{st:Stmt}(F:Fun K x qual st f fd) (h:∀(kV doc pm:Value) (an:Option Addr) (cdv ct:Value) (us:JY),us.length=ps.length->bindArgs (PySem.W.fnOf x qual (R3 st) (J9 st) (b9 st) .none kV doc pm an cdv ct) ⟨us,[]⟩=pure (ps.zip us)):Binds K fd ps []:=by
 obtain ⟨oc,od,kV,doc,pm,an,cdv,ct,osl,rfl,lk,I⟩:=F.ex;show .all (h kV doc pm an cdv ct)
def FZ {K:Frag}{st:Stmt}{kV:Value}(l:K.lookup f=some ⟨oc,od,.func (PySem.W.fnOf x qual (R3 st) (J9 st) (b9 st) .none kV doc pm an cdv ct),osl⟩)(c:PySem.W.codeIn K cdv qual=true)(k:PySem.W.keepIn K (.ref f)=true):Fun K x qual st f (PySem.W.fnOf x qual (R3 st) (J9 st) (b9 st) .none kV doc pm an cdv ct):=⟨⟨oc,od,kV,doc,pm,an,cdv,ct,osl,rfl,l,c⟩,k⟩
def pv {X:Cx}(i:Nat){x:Str}{pos:Pos}(hN:X.N[i]?=some x:=by rfl)(hv:Vis X.env.scope x:=by first|show Or.inl rfl|show Or.inr (Or.inl rfl)|show Or.inr (Or.inr rfl))(hd:(x == ("__debug__" : Str))=false:=by decide)(I:(x == ("__classdict__" : Str))=false:=by decide):PE X (.Name x pos) (aq i):=X6 hN hv hd I
def Same (H H':Hp):Prop:=∀b o,H b=some o->H' b=some o
def Same.refl (H:Hp):Same H H:=λ_ _ h=>h
def Same.trans (a:Same H H1)(b:Same H1 H2):Same H H2:=λc o h=>b c o (a c o h)
def Same.free (e:Same H H') (h:H' l=Option.none):H l=Option.none:=by
 cases q:H l with
 |none=>rfl
 | some o=>
  rw[e l o q]at h;cases h
def Same.seq {K:Frag}(e:Same H H') (h:SqL K H a xs):SqL K H' a xs:=by
 rcases h with (h|⟨o,h⟩)|h
 .show .inl (.inl (e _ _ h))
 .show .inl (.inr ⟨o,e _ _ h⟩)
 .show .inr h
def Dk (h h':Heap):Prop:=∀b o,h.get? b=some o->∃o',h'.get? b=some o'/\o'.cls=o.cls/\o'.dict=o.dict
structure KD {α:Type}(t:Sem α):Prop where
 out:∀(M:Model) (Γ:PySem.Ctx) (P:α->Pos->Shared->Prop) (Ee:Value->Pos->Shared->Prop) (p:Pos) (s:Shared),
  Sem.wp M Γ t P Ee p s->Sem.wp M Γ t (λa p' s'=>P a p' s'/\Dk s.heap s'.heap) Ee p s
def cut (h:Heap)(fs:List Addr):Heap:={ h with objs:=h.objs.mapIdx λi o=>if i∈fs then { o with data:=.freed } else o }
structure JH (P:Program) (w:World) (outer:List Env) (H:Hp) (s:Shared) (a:Addr) (B:Heap) (H':Hp) (cls:Value) (od:Option Addr) (s':Shared):Prop where
 fl:∃a0,B.FlyingW outer a cls a0 s'.heap
 dict:∃o,s'.heap.get? a=some o/\o.dict=od
 os:s'.os=s.os
 bare:AllBare s'.gens
 un:Un (frs outer) [] H H' s.heap s'.heap
 hok:HOk P w H' s'.heap
 inB:∀b o,H' b=some o->∃ob,B.get? b=some ob
 all:∀b o,s.heap.get? b=some o->b∉frs outer->∃o',B.get? b=some o'
def CXW (P:Program)(w:World):CXT:=λouter H s E e s'=>∃a B H' cls od,e=.ref a/\JH P w outer H s a B H' cls od s'/\E cls od H'
section
variable {X:Cx}{pins:JZ}{σ:St}{H H':Hp}{s s1:Shared}{a:Addr}{B:Heap}{cls:Value}{od:Option Addr}
structure Here (X:Cx) (pins:JZ) (σ:St) (H':Hp) (a:Addr) (B:Heap) (cls:Value) (od:Option Addr) (s:Shared):Prop where
 inv:Inv X pins σ H' s
 dict:∃o,s.heap.get? a=some o/\o.dict=od
end
def tCatch (X:Cx) (C:Addr) (jn:Nat) (tb:TS) (D:Ends) (σ:St):XK:=λcls od H'=>∃Dc,cls=.ref Dc/\PySem.W.exmOne X.K (.ref Dc) (.ref C)=some true /\
 ∀ (a:Addr) (o:Obj),H' a=none->o.cls=cls->o.dict=od->(∃vs:Array Value,o.data=.fields vs) ->
  tb { nx:=λI H'=>D.nx (I.set jn none) H',rt:=D.rt,bk:=λI H'=>D.bk (I.set jn none) H',ct:=λI H'=>D.ct (I.set jn none) H' } (σ.set jn (some (.ref a))) (upd H' a (.ext λh=>h.get? a=some o))
end L2
namespace L2
open PySem
structure Nx {α:Type}(t:Sem α):Prop where
 out:∀(M:Model) (Γ:PySem.Ctx) (P:α->Pos->Shared->Prop) (Ee Ef:Value->Pos->Shared->Prop) (p:Pos) (s:Shared),Sem.wp M Γ t P Ee p s->Sem.wp M Γ t P Ef p s
structure Po {α:Type}(t:Sem α) (pre:Shared->Prop) (post:α->Shared->Prop):Prop where
 out:∀(M:Model) (Γ:PySem.Ctx) (P:α->Pos->Shared->Prop) (Ee Ef:Value->Pos->Shared->Prop) (p:Pos) (s:Shared),
  pre s->Sem.wp M Γ t P Ee p s->Sem.wp M Γ t (λa p' s'=>P a p' s'/\post a s') Ef p s
def yR (v:Value)(i:Nat)(x:Value)(h:Heap):Prop:=∃(a:Addr)(o:Obj)(vs:Vj),v=.ref a/\h.get? a=some o/\o.data=.fields vs/\vs[i]?=some x
def Marked (e:Value)(f:Addr)(h:Heap):Prop:=∃t,yR e 1 t h/\yR t 3 (rawInt f) h/\t≠.none
structure Free {α:Type}(t:Sem α):Prop where
 out:∀(M:Model) (Γ Γ':PySem.Ctx) (P P':α->Pos->Shared->Prop) (E E':Value->Pos->Shared->Prop) (p p':Pos) (s:Shared),(∀a p p' s,P a p s->P' a p' s)->(∀a p p' s,E a p s->E' a p' s)->Sem.wp M Γ t P E p s->Sem.wp M Γ' t P' E' p' s
end L2
namespace L2
open PySem PySem.Spec PyProof.Rows
section
variable {κ:Type} [DecidableEq κ]
def W8 (kvs:List (κ×V))(k:κ):Option V:=(kvs.find? λI=>decide (I.1=k)).map (·.2)
def putK (kvs:List (κ×V)) (k:κ) (v:V):List (κ×V):=
 if (kvs.any λI=>decide (I.1=k))=true then kvs.map (λI=>if I.1=k then (I.1,v) else I) else kvs ++ [(k,v)]
def dropK (kvs:List (κ×V))(k:κ):List (κ×V):=kvs.filter λI=>decide (I.1≠k)
def eT {p:κ×V}(e:p.1=k):W8 (p::r) k=some p.2:=by simp [W8,qM8,e]
def eU {p:κ×V}(e:¬ p.1=k):W8 (p::r) k=W8 r k:=by simp [W8,qM8,e]
def eV (k:κ):∀kvs:List (κ×V),(kvs.any λI=>decide (I.1=k))=(W8 kvs k).isSome
 | []=>rfl
 | p::r=>by
  rw[qW9];by_cases e:p.1=k
  .simp only [eT e,qQ0 e,Bool.true_or,Option.isSome_some]
  .rw[eU e,qQ1 e,xC3];show eV k r
def eE (kvs:List (κ×V)) (k:κ) (v:V):(putK kvs k v).length<=kvs.length+1:=by
 unfold putK
 split
 .rw[qA7];omega
 .rw[qC3,qD1,qM9];omega
def RelO.isSome_eq (r:RelO o u):o.isSome=u.isSome:=by
 cases o with
 | none=>cases u with
  |none=>rfl
  |some _=>show (show False from r).elim
 | some _=>cases u with
  |none=>show (show False from r).elim
  |some _=>rfl
def KV.val (r:KV kvs vs) (k:κ):RelO (W8 kvs k) (valueAt vs k):=by
 unfold KV at r
 induction r with
 |nil=>show True.intro
 | @cons p q ps qs h t ih=>
  obtain ⟨h1,h2⟩:=h;by_cases e:p.1=k
  .have I:q.1=k:=h1.symm.trans e;have b:valueAt (q::qs) k=some q.2:=by simp [valueAt,qM8,I]
   rw[eT e,b];show h2
  .have I:¬ q.1=k:=λz=>e (h1.trans z);have b:valueAt (q::qs) k=valueAt qs k:=by simp [valueAt,qM8,I]
   rw[eU e,b];show ih
def KV.any (r:KV kvs vs) (k:κ):(kvs.any λI=>decide (I.1=k))=vs.any λI=>decide (I.1=k):=by
 unfold KV at r
 induction r with
 |nil=>rfl
 |cons h t ih=>rw[qW9,qW9,ih,h.1]
def KV.repl (r:KV kvs vs) (k:κ) (ry:RelV y u):
  KV (kvs.map λI=>if I.1=k then (I.1,y) else I) (vs.map λI=>if I.1=k then (I.1,u) else I):=by
 unfold KV at r ⊢
 induction r with
 |nil=>show .nil
 | @cons p q ps qs h t ih=>
  rw[qB9,qB9];refine .cons ?_ ih;obtain ⟨h1,h2⟩:=h;by_cases e:p.1=k
  .rw[qA2 e,qA2 (h1.symm.trans e)];show ⟨h1,ry⟩
  .rw[qA4 e,qA4 (λz=>e (h1.trans z))];show ⟨h1,h2⟩
def KV.put (r:KV kvs vs) (k:κ) (I:RelV y u):KV (putK kvs k y) (stored vs k u):=by
 unfold putK stored;rw[r.any k];by_cases e:(vs.any λkv=>decide (kv.1=k))=true
 .rw[qA2 e,qA2 e];show r.repl k I
 .rw[qA4 e,qA4 e];show Paired.snoc r ⟨rfl,I⟩
def KV.length {vs:List (κ×Value)}(r:KV kvs vs):kvs.length=vs.length:=Paired.length r
end
def qq (r:RelV (kV k) u):(x9 P w).is k u=true:=by
 cases k with
 |inl i=>obtain ⟨t,e⟩:=(show ∃t,u=Value.int i t from r);subst e;show nE P w i t
 |inr x=>obtain ⟨t,e⟩:=(show ∃t,u=Value.str x t from r);subst e;show nD P w x t
def jB:∀{ks:List Key}{us:JY},Vals (ks.map kV) us->ItemsAre (x9 P w) ks us
 | [],_,r=>by rw[qN5]at r;cases r;show .nil
 | k::ks,_,r=>by
  rw[qB9]at r;cases r with
  |cons h t=>show .cons (qq h) (jB t)
abbrev KT (H:Hp):List (List Key×V)->List (List Key×Addr×Value)->Prop:=Paired λp q=>p.1=q.1/\H q.2.1=some (.tup (p.1.map kV))/\RelV p.2 q.2.2
def KT.val (r:KT H kvs xs) (k:List Key):RelO (W8 kvs k) ((atKey xs k).map (·.2)):=by
 induction r with
 |nil=>show True.intro
 | @cons p q ps qs h t ih=>
  obtain ⟨h1,_,h2⟩:=h;by_cases e:p.1=k
  .have I:q.1=k:=h1.symm.trans e;have b:atKey (q::qs) k=some q.2:=by simp [atKey,qM8,I]
   rw[eT e,b];show h2
  .have I:¬ q.1=k:=λz=>e (h1.trans z);have b:atKey (q::qs) k=atKey qs k:=by simp [atKey,qM8,I]
   rw[eU e,b];show ih
def KT.repl (r:KT H kvs xs) (k:List Key) (ry:RelV y u):
  KT H (kvs.map λkv=>if kv.1=k then (kv.1,y) else kv) (xs.map (putAt k u)):=by
 induction r with
 |nil=>show .nil
 | @cons p q ps qs h t ih=>
  rw[qB9,qB9];refine .cons ?_ ih;obtain ⟨I,h2,h3⟩:=h;unfold putAt;by_cases e:p.1=k
  .rw[qA2 e,qA2 (I.symm.trans e)];show ⟨I,h2,ry⟩
  .rw[qA4 e,qA4 (λz=>e (I.trans z))];show ⟨I,h2,h3⟩
def KT.put (r:KT H kvs xs) (k:List Key) (hb:H b=some (.tup (k.map kV))) (I:RelV y u):
  KT H (putK kvs k y) (storedH xs k b u):=by
 have e:(kvs.any λkv=>decide (kv.1=k))=(atKey xs k).isSome:=by
  rw[eV,(r.val k).isSome_eq,Option.isSome_map]
 unfold putK storedH;rw[e];by_cases q:(atKey xs k).isSome=true
 .rw[qA2 q,qA2 q];show r.repl k I
 .rw[qA4 q,qA4 q];show Paired.snoc r ⟨rfl,hb,I⟩
def KT.keeps (r:KT H kvs xs) (ht:∀b I,H b=some (.tup I)->H' b=some (.tup I)):KT H' kvs xs:=
 Paired.mapP r λ_ _ z=>⟨z.1,ht _ _ z.2.1,z.2.2⟩
def yj (ok:HOk P w H h)(e:Rd H a u):ObjOk P w H h a u:=e.ok ok
def yI (ok:HOk P w H h) (e:Rd H a (.dK kvs)):kvs.length<=sizeLine/\(a == sysModules)=false/\∃vs,KV kvs vs/\h.DictOf (x9 P w) a vs:=
 show ObjOk P w H h a (.dK kvs) from yj ok e
def IW (ok:HOk P w H h)(e:H a=some (.dK kvs)):kvs.length<=sizeLine/\(a == sysModules)=false/\∃vs,KV kvs vs/\h.DictOf (x9 P w) a vs:=yI ok (.inl e)
def gJ (ok:HOk P w H h) (e:H a=some (.tup (ks.map kV))):(tupleKind (x9 P w)).is h ks a:=by
 obtain ⟨_,its,r,o,h1,I,n,h3⟩:=(show ObjOk P w H h a (.tup (ks.map kV)) from ok a _ e);show ⟨o,its.toArray,n,h1,I,h3,by simpa using jB r⟩
def yF (ok:HOk P w H h) (e:Rd H a (.dT kvs)):kvs.length<=sizeLine/\(a == sysModules)=false /\
  ∃xs,KT H kvs xs/\h.DictOfH (tupleKind (x9 P w)) a xs:=by
 obtain ⟨z,y,xs,r,o,es,ep,h1,h2,h3,h4,h5⟩:=(show ObjOk P w H h a (.dT kvs) from yj ok e);refine ⟨z,y,xs,r,o,es,ep,h1,h2,h3,h4,λx I=>?_,h5⟩;have all:∀{l:List (List Key×V)}{m:List (List Key×Addr×Value)},KT H l m->∀x∈m,(tupleKind (x9 P w)).is h x.1 x.2.1:=by
  intro l m q
  induction q with
  |nil=>intro x I;show nomatch I
  | @cons p q ps qs hq t ih=>
   intro x I;rcases qB5.mp I with e|I
   .subst e;show gJ ok (by rw[<- hq.1];show hq.2.1)
   .show ih x I
 show all r x I
def yG (ok:HOk P w H h) (e:H a=some (.dT kvs)):kvs.length<=sizeLine/\(a == sysModules)=false /\
  ∃xs,KT H kvs xs/\h.DictOfH (tupleKind (x9 P w)) a xs:=yF ok (.inl e)
def DGet (H:Hp) (a:Addr) (y:V) (r:Option V):Prop:=
 (∃kvs k,Rd H a (.dK kvs)/\y=kV k/\r=W8 kvs k)\/∃kvs k b,Rd H a (.dT kvs)/\y=.ref b/\H b=some (.tup (k.map kV))/\r=W8 kvs k
def DPut (H:Hp) (a:Addr) (y v:V) (H':Hp):Prop:=
 (∃kvs k,H a=some (.dK kvs)/\y=kV k/\kvs.length<sizeLine/\H'=upd H a (.dK (putK kvs k v))) \/
 ∃kvs k b,H a=some (.dT kvs)/\y=.ref b/\H b=some (.tup (k.map kV))/\kvs.length<sizeLine/\H'=upd H a (.dT (putK kvs k v))
def DGet.t (e:H a=some (.dT kvs))(I:H b=some (.tup (k.map kV))):DGet H a (.ref b) (W8 kvs k):=.inr ⟨kvs,k,b,.inl e,rfl,I,rfl⟩
def DPut.t (e:H a=some (.dT kvs)) (eb:H b=some (.tup (k.map kV))) (I:kvs.length<sizeLine):
  DPut H a (.ref b) v (upd H a (.dT (putK kvs k v))):=.inr ⟨kvs,k,b,e,rfl,eb,I,rfl⟩
def Inv.big {σ:St}(I:Inv X pins σ H s):sysModules<s.heap.objs.size:=by
 have h:mainGlobals<s.heap.objs.size:=(I.mod.glob.keeps I.bk).lt;show Nat.lt_trans Zz h
def d_in {σ:St}(hu:A.units+1<cLine) (I:Inv X pins σ H s) (g:DGet H a y o) (ry:RelV y u) (h:∀s',Inv X pins σ H s'->Q (.bool o.isSome) s'):
  wpAny (model X.prog X.w) A (compareOp .In u (.ref a)) Q E s:=by
 rcases g with ⟨kvs,k,e,ey,l⟩|⟨kvs,k,b,e,ey,eb,l⟩
 .subst ey;obtain ⟨z,hd,vs,rel,dd⟩:=yI I.hok e;refine wpAny_in_of (qq ry) hd dd.mapOf ?_;rw[<- (rel.val k).isSome_eq,<- l];show h _ (I.tok _)
 .subst ey;cases (show u=Value.ref b from ry);obtain ⟨z,hd,xs,rel,dd⟩:=yF I.hok e;refine wpAny_in_heap (tupleKind_room_in1 hu) (gJ I.hok eb) hd dd ?_;have q:=(rel.val k).isSome_eq;rw[Option.isSome_map]at q;rw[<- q,<- l];show h _ (I.tok _)
def iY {σ:St}(I:Inv X pins σ H s) (mu:Mut (H a)) (hs:Heap.SameBut a s.heap h') (he:∃q,h'.get? a=some q) (a3:ObjOk X.prog X.w (upd H a ob) h' a ob):
  Inv X pins σ (upd H a ob) { s with heap:=h',toks:=t' }:=
 I.write (x:=a) (e:=a) mu (.inl rfl) (λb q hb z=>(hs.2 b hb).trans z) he a3
def GH (z:kvs.length<=sizeLine) (hd:(a == sysModules)=false) (rel:KV kvs vs) (I:h'.DictOf (x9 P w) a vs):
  ObjOk P w H' h' a (.dK kvs):=⟨z,hd,vs,rel,I⟩
def uM {σ:St}(hu:A.units+1<cLine) (I:Inv X pins σ H s) (g:DPut H a y v H') (ry:RelV y u) (rv:RelV v r) (h:∀s',Inv X pins σ H' s'->Q () s'):
  wpAny (model X.prog X.w) A (setItem (.ref a) u r) Q E s:=by
 rcases g with ⟨kvs,k,e,ey,l,eH⟩|⟨kvs,k,b,e,ey,eb,l,eH⟩
 .subst ey eH;obtain ⟨z,hd,vs,rel,dd⟩:=IW I.hok e;have hz:vs.length<=sizeLine:=by rw[<- rel.length];show z
  have hl:(putK kvs k v).length<=sizeLine:=by have:=eE kvs k v;omega
  refine wpAny_setItem_pairs (hsz:=hz) (qq ry) dd λh' a3 hs=>h _ ?_;have he:∃q,h'.get? a=some q:=let ⟨q,_,_,hq,_⟩:=a3;⟨q,hq⟩;show iY I (by rw[e];show True.intro) hs he (GH hl hd (rel.put k rv) a3)
 .subst ey eH;cases (show u=Value.ref b from ry);obtain ⟨z,hd,xs,rel,dd⟩:=yG I.hok e;have hz:xs.length<=sizeLine:=by rw[<- Paired.length rel];show z
  have hl:(putK kvs k v).length<=sizeLine:=by have:=eE kvs k v;omega
  refine wpAny_setItem_heap (hsz:=hz) (tupleKind_room_in1 hu) (gJ I.hok eb) dd λh' a3 hs=>h _ ?_;obtain ⟨q,es,ep,hq,h2,h3,h4,_,h5⟩:=a3;refine iY I (by rw[e];show True.intro) hs ⟨q,hq⟩ ⟨hl,hd,_,(rel.put k eb rv).keeps λc ys ec=>?_,q,es,ep,hq,h2,h3,h4,h5⟩;rw[e7 (yt ec e (λz=>nomatch z))];show ec
def Cz (ty I:TE):TE:=λσ H Q=>ty σ H λy H1=>I σ H1 λx H2=>∃a o,x=.ref a/\DGet H2 a y o/\Q (.bl o.isSome) H2
def yf (td ty tv:TE):TS:=λD σ H=>tv σ H λv H1=>td σ H1 λx H2=>ty σ H2 λy H3=>∃a I,x=.ref a/\DPut H3 a y v I/\D.nx σ I
def EF (hu:X.A.units+1<cLine) (hi:PE X i ty) (ho:PE X o td):PC X .In i o (Cz ty td):=by
 intro pins s σ H Q I h;refine thn (hi pins s σ H _ I h) λiv s1 ⟨y,H1,I1,ry,q1⟩=>thn (ho pins s1 σ H1 _ I1 q1) λu s2 a3=>?_;obtain ⟨x,H2,I2,rx,a,ov,ex,g,q2⟩:=a3;subst ex;obtain rfl:u=Value.ref a:=rx;show d_in hu I2 g ry λs3 I3=>⟨.bl ov.isSome,H2,I3,rfl,q2⟩
def zX (hu:X.A.units+1<cLine) (ho:PE X o td) (hi:PE X i ty) (hv:PE X value tv) (hs:swapsWith value (some (.Subscript o i pos')) pos.line X.env=pure false):
  PS X (.Assign [.Subscript o i pos'] value pos) (yf td ty tv):=by
 intro pins s σ H D I h;refine wpAny_Assign_Subscript (thn (hv pins s σ H _ I h) λr s1 ⟨v,H1,I1,rv,q1⟩=>thn (ho pins s1 σ H1 _ I1 q1) λu s2 ⟨x,H2,I2,rx,q2⟩=>thn (hi pins s2 σ H2 _ I2 q2) λiv s3 a3=>?_) hs;obtain ⟨y,H3,I3,ry,a,H4,ex,g,q3⟩:=a3;subst ex;obtain rfl:u=Value.ref a:=rx;show uM hu I3 g ry rv λs4 I4=>⟨σ,H4,I4,q3⟩
def xF (h:Heap) (hb:sysModules<h.objs.size):ObjOk P w H (h.push { cls:=.type "dict",data:=.dict #[] }) h.objs.size (.dT []):=
 ⟨qC6 _,beq_eq_false_iff_ne.mpr (Ne.symm (qD6 hb)),[],.nil,_,#[],0,qC1 _ rfl,⟨rfl,rfl,rfl⟩,rfl,rfl,List.nodup_nil⟩
end L2
namespace L2
open PySem
structure Sub where
 t:Bool
 i:Addr
 l:Addr
def Sub.At (u:Sub)(h:Heap)(n:Nat):Prop:=if u.t=true then h.IsTupleIter u.i u.l n else h.IsListIter u.i u.l n
def Sub.Src (u:Sub)(h:Heap)(xs:Vj):Prop:=if u.t=true then h.IsTuple u.l xs else h.IsList u.l xs
def Sub.At.obj {u:Sub}(x:u.At h n):∃o,h.get? u.i=some o/\o.data=.fields #[.ref u.l,.int n 0]:=by
 unfold Sub.At at x
 split at x <;> (obtain ⟨o,e,_,d⟩:=x;show ⟨o,e,d⟩)
def Sub.At.keep {u:Sub}(x:u.At h n) (k:∀o,h.get? u.i=some o->h'.get? u.i=some o):u.At h' n:=by
 unfold Sub.At at x ⊢
 split at x <;> (rename_i ht;obtain ⟨o,e,r⟩:=x;simp only [ht,qQ2,qQ4,qD7];show ⟨o,k o e,r⟩)
def Sub.Src.keep {u:Sub}(x:u.Src h xs) (k:∀o,h.get? u.l=some o->h'.get? u.l=some o):u.Src h' xs:=by
 unfold Sub.Src at x ⊢
 split at x <;> (rename_i ht;obtain ⟨o,e,r⟩:=x;simp only [ht,qQ2,qQ4,qD7];show ⟨o,k o e,r⟩)
def gu (I:s.heap.IsTupleIter it t i) (ht:s.heap.IsTuple t items) (hx:items[i]?=some x) (hQ:∀h',h'.IsTupleIter it t (i+1)->Heap.SameBut it s.heap h'->Q x { s with heap:=h' }):wpAny (model prog w) A (Builtin.SmallTypes.nextOf (.ref it)) Q E s:=by
 obtain ⟨o,ho,hc,hd⟩:=id I;obtain ⟨ol,a4,_,nl,a3⟩:=ht;unfold Builtin.SmallTypes.nextOf;refine qA1 (qQ7 (name:=Str.ofString "__next__") I.typeIs qL2 (qR2 qL2 I.typeIs F.entry_tuple_iterator_next ?_ (F.args_tuple_iterator_next_1 _)))
 change wpAny _ _ (field (.ref it) 0>>=_) _ _ s;refine qA1 (qQ5 ho hd (x:=.ref t) rfl ?_)
 change wpAny _ _ (if (Value.ref t == Value.none)=true then _ else _) _ _ s;rw[qA4 (show ¬ ((Value.ref t == Value.none)=true) from qA3)]
 change wpAny _ _ (field (.ref it) 1>>=_) _ _ s;refine qA1 (qQ5 ho hd (x:=.int i 0) rfl ?_)
 change wpAny _ _ (seqItems? (.ref t)>>=_) _ _ s;refine qA1 (qR3 a4 a3 ?_);simp only [qF8,hx];refine qA1 (wpAny_setField ho hd Zy (qP9 ⟨x,rfl,qP9 (hQ _ ?_ (qO4 ..))⟩));show ⟨_,qK8 _ ho (Obj.isFreed_of_fields (Obj.data_mapFields hd _)),(Obj.cls_mapFields ..).trans hc,by rw[Obj.data_mapFields hd];simp [rawInt]⟩
def iF (hh:A.handled=none) (I:s.heap.IsTupleIter it t i) (ht:s.heap.IsTuple t items) (hx:items[i]?=none) (hE:∀h' e,Heap.ExtBut it s.heap h'->(∃o,h'.get? e=some o/\o.cls=.type "StopIteration")->E (.ref e) { s with heap:=h' }):wpAny (model prog w) A (Builtin.SmallTypes.nextOf (.ref it)) Q E s:=by
 obtain ⟨o,ho,hc,hd⟩:=id I;obtain ⟨ol,a4,_,nl,a3⟩:=ht;unfold Builtin.SmallTypes.nextOf;refine qA1 (qQ7 (name:=Str.ofString "__next__") I.typeIs qL2 (qR2 qL2 I.typeIs F.entry_tuple_iterator_next ?_ (F.args_tuple_iterator_next_1 _)))
 change wpAny _ _ (field (.ref it) 0>>=_) _ _ s;refine qA1 (qQ5 ho hd (x:=.ref t) rfl ?_)
 change wpAny _ _ (if (Value.ref t == Value.none)=true then _ else _) _ _ s;rw[qA4 (show ¬ ((Value.ref t == Value.none)=true) from qA3)]
 change wpAny _ _ (field (.ref it) 1>>=_) _ _ s;refine qA1 (qQ5 ho hd (x:=.int i 0) rfl ?_)
 change wpAny _ _ (seqItems? (.ref t)>>=_) _ _ s;refine qA1 (qR3 a4 a3 ?_);simp only [qF8,hx];refine qA1 (qR6 (qA1 (wpAny_setField ho hd Zy ?_)));change wpAny _ _ (newExc (.type "StopIteration") []>>=_) _ _ _;refine qA1 ?_;simp only [newExc,newTuple];refine qA1 (qQ8 ?_ (by size_fits));refine qA1 (m:=firstArgMember _ _) (wpAny_of_eq (a:=Value.none) (by first|rfl | (simp only [firstArgMember];rfl)) ?_);refine qQ8 ?_ (by size_fits);simp only [raiseNew];refine qA1 (wpAny_handled ?_);first|rw[show A.in1.handled=none from hh] |rw[hh]
 refine qA1 (qP9 (wpAny_throw ?_));show hE _ _ (((qO4 ..).extBut.push _).push _) ⟨_,qC1 _ rfl,rfl⟩
def Sub.item {u:Sub}(ha:u.At s.heap n) (hs:u.Src s.heap xs) (hx:xs[n]?=some x) (I:∀h',u.At h' (n+1)->Heap.SameBut u.i s.heap h'->Q x { s with heap:=h' }):wpAny (model prog w) A (Builtin.SmallTypes.nextOf (.ref u.i)) Q E s:=by
 unfold Sub.At at ha I;unfold Sub.Src at hs;cases ht:u.t with
 |true=>simp only [ht,qQ2]at ha hs I;show gu ha hs hx I
 |false=>simp only [ht,qQ4,qD7]at ha hs I;show wpAny_nextOf_list_item ha hs hx I
def Sub.ends {u:Sub}(hh:A.handled=none) (ha:u.At s.heap n) (hs:u.Src s.heap xs) (I:xs[n]?=none) (hE:∀h' e,Heap.ExtBut u.i s.heap h'->(∃o,h'.get? e=some o/\o.cls=.type "StopIteration")->E (.ref e) { s with heap:=h' }):wpAny (model prog w) A (Builtin.SmallTypes.nextOf (.ref u.i)) Q E s:=by
 unfold Sub.At at ha;unfold Sub.Src at hs;cases ht:u.t with
 |true=>simp only [ht,qQ2]at ha hs;show iF hh ha hs I hE
 |false=>simp only [ht,qQ4,qD7]at ha hs;show wpAny_nextOf_list_end hh ha hs I hE
abbrev F9 (h:Heap)(T:Addr)(arr:Vj):Prop:=h.get? T=some { cls:=.type "tuple",data:=.seq arr }
def drawn (n:Nat):List (Sub×Array Value)->Nat->Array Value->Array Value
 | [],_,arr=>arr
 |u::r,c,arr=>drawn n r (c+1) (arr.setIfInBounds c (u.2.getD n .none))
def yS (prog:Program) (w:World) (A:Around) (z TO:Addr) (E:Vv) (B:Value×Nat->Option Fin×Unit->Sem (ForInStep (Option Fin×Unit))):Prop:=
 ∀ (v:Value) (k:Nat) (s:Shared) (Q:ForInStep (Option Fin×Unit)->Shared->Prop),
  wpAny (model prog w) A (Builtin.SmallTypes.nextOf v) (λx s1=>∃arr,F9 s1.heap TO arr/\arr.size<=sizeLine/\∀h',F9 h' TO (arr.setIfInBounds k x)->Heap.SameBut TO s1.heap h'->Q (.yield (none,())) { s1 with heap:=h' })
   (λe s1=>wpAny (model prog w) A (setField (.ref z) 0 .none) (λ_ s2=>E e s2) E s1) s->wpAny (model prog w) A (B (v,k) (none,())) Q E s
structure Apart (z TO:Addr) (ss:List (Sub×Array Value)):Prop where
 zTO:z≠TO
 zi:∀u∈ss,u.1.i≠z
 ti:∀u∈ss,u.1.i≠TO
 nd:ss.Pairwise λu v=>u.1.i≠v.1.i
 lz:∀u∈ss,u.1.l≠z
 lt:∀u∈ss,u.1.l≠TO
 li:∀u∈ss,∀v∈ss,u.1.l≠v.1.i
def Apart.tail {TO:Addr}(D:Apart z TO (u::ss)):Apart z TO ss:=
 ⟨D.zTO,λv I=>D.zi v (qB0 _ I),λv I=>D.ti v (qB0 _ I),(qS7.mp D.nd).2,λv I=>D.lz v (qB0 _ I),λv I=>D.lt v (qB0 _ I),
  λv I x hx=>D.li v (qB0 _ I) x (qB0 _ hx)⟩
def draws {TI TO:Addr}(hB:yS prog w A z TO E B):
  ∀ (ss:List (Sub×Array Value)) (c:Nat) (arr:Vj) (s:Shared) (Q:Option Fin×Unit->Shared->Prop),Apart z TO ss->IsZip s.heap z TI TO .ellipsis->F9 s.heap TO arr->arr.size<=sizeLine ->
   (∀u∈ss,u.1.At s.heap n/\u.1.Src s.heap u.2/\∃x,u.2[n]?=some x) ->
   (∀ h',IsZip h' z TI TO .ellipsis->F9 h' TO (drawn n ss c arr)->(∀u∈ss,u.1.At h' (n+1))->h'.objs.size=s.heap.objs.size ->
    (∀b o,b≠TO->(∀u∈ss,b≠u.1.i)->s.heap.get? b=some o->h'.get? b=some o)->Q (none,()) { s with heap:=h' }) ->
   wpAny (model prog w) A (forIn ((ss.map λu=>Value.ref u.1.i).zipIdx c) (none,()) B) Q E s:=by
 intro ss
 induction ss with
 | nil=>
  intro c arr s Q D hz hT hl hu hQ;simp only [qN5,List.zipIdx_nil,qV6];show qP9 (hQ s.heap hz hT (λ_ h=>absurd h qD8) rfl λ_ _ _ _ e=>e)
 | cons u r ih=>
  intro c arr s Q D hz hT hl hu hQ;simp only [qB9,qX7,qN0];obtain ⟨ha,a5,x,hx⟩:=hu u qB8;refine qA1 (hB _ _ _ _ (Sub.item ha a5 hx λh1 a7 sb1=>⟨arr,sb1.extBut _ _ (D.ti u qB8).symm hT,hl,λh2 a8 sb2=>?_⟩));have uz:=D.zi u qB8;have ut:=D.ti u qB8;have kp:∀b o,b≠TO->b≠u.1.i->s.heap.get? b=some o->h2.get? b=some o:=λb o h1 h2 e=>sb2.extBut _ _ h1 (sb1.extBut _ _ h2 e);have a4:∀v∈r,v.1.i≠u.1.i:=λv I=>((qS7.mp D.nd).1 v I).symm;refine ih (c+1) (arr.setIfInBounds c x) { s with heap:=h2 } Q D.tail (kp _ _ D.zTO uz.symm hz) a8 (by simpa using hl) (λv I=>?_) λh3 z3 T3 a3 s3 k3=>?_
  .obtain ⟨a,b,y⟩:=hu v (qB0 _ I);show ⟨a.keep λo e=>kp _ o (D.ti v (qB0 _ I)) (a4 v I) e,b.keep λo e=>kp _ o (D.lt v (qB0 _ I)) (D.li v (qB0 _ I) u qB8) e,y⟩
  .refine hQ h3 z3 ?_ (λv I=>?_) (by rw[s3];change h2.objs.size=_;rw[sb2.1,sb1.1]) λb o h1 h2 e=>k3 b o h1 (λv I=>h2 v (qB0 _ I)) (kp b o h1 (h2 u qB8) e)
   .have e:u.2.getD n .none=x:=by simp [qW3,hx]
    change F9 h3 TO (drawn n r (c+1) (arr.setIfInBounds c (u.2.getD n .none)));rw[e];show T3
   .rcases qB5.mp I with rfl|I
    .show a7.keep λo e=>k3 _ o ut (λv' a6=>(a4 v' a6).symm) (sb2.extBut _ _ ut e)
    .show a3 v I
def uF {TI TO:Addr}(hh:A.handled=none) (hB:yS prog w A z TO E B):
  ∀ (ss:List (Sub×Array Value)) (c:Nat) (arr:Vj) (s:Shared) (Q:Option Fin×Unit->Shared->Prop),Apart z TO ss->IsZip s.heap z TI TO .ellipsis->F9 s.heap TO arr->arr.size<=sizeLine ->
   (∀u∈ss,u.1.At s.heap n/\u.1.Src s.heap u.2)->(∃u∈ss,u.2[n]?=none) ->
   (∀h' e,(∀b o,b≠z->b≠TO->(∀u∈ss,b≠u.1.i)->s.heap.get? b=some o->h'.get? b=some o)->(∃o,h'.get? e=some o/\o.cls=.type "StopIteration")->E (.ref e) { s with heap:=h' }) ->
   wpAny (model prog w) A (forIn ((ss.map λu=>Value.ref u.1.i).zipIdx c) (none,()) B) Q E s:=by
 intro ss
 induction ss with
 | nil=>
  intro c arr s Q D hz hT hl hu hx hQ;obtain ⟨_,h,_⟩:=hx;show absurd h qD8
 | cons u r ih=>
  intro c arr s Q D hz hT hl hu hx hQ;simp only [qB9,qX7,qN0];obtain ⟨ha,a3⟩:=hu u qB8;have uz:=D.zi u qB8;have ut:=D.ti u qB8;cases a4:u.2[n]? with
  | none=>
   refine qA1 (hB _ _ _ _ (Sub.ends hh ha a3 a4 λh1 e eb he=>?_));obtain ⟨oe,a5,a7⟩:=he;have a6:IsZip h1 z TI TO .ellipsis:=eb _ _ uz.symm hz;have a8:e≠z:=λx=>by subst x;rw[a6]at a5;cases a5;simp at a7
   show qR7 a6 Zy λh3 _ sb3=>hQ h3 e (λb o b1 b2 b3 q=>sb3.extBut _ _ b1 (eb _ _ (b3 u qB8) q)) ⟨oe,sb3.extBut _ _ a8 a5,a7⟩
  | some x=>
   refine qA1 (hB _ _ _ _ (Sub.item ha a3 a4 λh1 b0 sb1=>⟨arr,sb1.extBut _ _ ut.symm hT,hl,λh2 ab sb2=>?_⟩));have kp:∀b o,b≠TO->b≠u.1.i->s.heap.get? b=some o->h2.get? b=some o:=λb o h1 h2 e=>sb2.extBut _ _ h1 (sb1.extBut _ _ h2 e);have a9:∀v∈r,v.1.i≠u.1.i:=λv I=>((qS7.mp D.nd).1 v I).symm;refine ih (c+1) (arr.setIfInBounds c x) { s with heap:=h2 } Q D.tail (kp _ _ D.zTO uz.symm hz) ab (by simpa using hl) (λv I=>?_) ?_ λh3 e k3 he=>?_
   .obtain ⟨a,b⟩:=hu v (qB0 _ I);show ⟨a.keep λo e=>kp _ o (D.ti v (qB0 _ I)) (a9 v I) e,b.keep λo e=>kp _ o (D.lt v (qB0 _ I)) (D.li v (qB0 _ I) u qB8) e⟩
   .obtain ⟨v,I,e⟩:=hx;rcases qB5.mp I with rfl|I
    .rw[a4]at e;cases e
    .show ⟨v,I,e⟩
   .show hQ h3 e (λb o b1 b2 b3 q=>k3 b o b1 b2 (λv I=>b3 v (qB0 _ I)) (kp b o b2 (b3 u qB8) q)) he
def qB (n:Nat):∀(ss:List (Sub×Array Value)) (c:Nat) (arr:Vj),(drawn n ss c arr).size=arr.size:=by
 intro ss
 induction ss with
 |nil=>intro c arr;rfl
 |cons u r I=>intro c arr;unfold drawn;rw[I];simp
def uG (n:Nat):∀(ss:List (Sub×Array Value)) (c:Nat) (arr:Vj),c+ss.length=arr.size->(drawn n ss c arr).toList=arr.toList.take c++ss.map λu=>u.2.getD n .none:=by
 intro ss
 induction ss with
 | nil=>
  intro c arr h;unfold drawn;simp at h;subst h;rw[qN5,qG2];show (qK5 Zy).symm
 | cons u r I=>
  intro c arr h;unfold drawn;have hc:c<arr.size:=by simp at h;omega
  rw[I (c+1) _ (by simp at h ⊢;omega)];rw[qB9,qS3]
  have:(arr.toList.set c (u.2.getD n Value.none)).take (c+1)=arr.toList.take c ++ [u.2.getD n Value.none]:=by
   rw[List.take_add_one,List.take_set,qK4 (by simpa using hc)];rw[List.set_eq_of_length_le (by simp;omega)];rfl
  rw[this,qF3];rfl
def vj {TI TO:Addr}(D:Apart z TO ss) (a8:ss ≠ []) (hsz:arr.size=ss.length) (a3:ss.length<=sizeLine) (hz:IsZip s.heap z TI TO .none) (a6:F9 s.heap TI (ss.map λu=>Value.ref u.1.i).toArray) (a7:F9 s.heap TO arr) (hu:∀u∈ss,u.1.At s.heap n/\u.1.Src s.heap u.2/\∃x,u.2[n]?=some x) (hQ:∀h',IsZip h' z TI TO (rawInt s.heap.objs.size)->(∃arr',F9 h' TO arr'/\arr'.size=ss.length)->(∀u∈ss,u.1.At h' (n+1))->F9 h' s.heap.objs.size (ss.map λu=>u.2.getD n .none).toArray ->
   (∀b o,b≠z->b≠TO->(∀u∈ss,b≠u.1.i)->s.heap.get? b=some o->h'.get? b=some o)->Q (some (.ref s.heap.objs.size)) { s with heap:=h' }):
  wpAny (model prog w) A (pyNext (.ref z)) Q E s:=by
 have hT:s.TypeIs (.ref z) "zip" := ⟨_,hz,rfl⟩;unfold pyNext;refine qA1 (wpAny_attempt (qQ7 (name:=Str.ofString "__next__") hT qU3 (qR2 qU3 hT F.entry_zip_next ?_ (F.args_zip_next_1 _))))
 change wpAny _ _ (field (.ref z) 2>>=_) _ _ _;refine qA1 (qQ5 hz rfl (x:=.bool false) rfl ?_)
 change wpAny _ _ (field (.ref z) 3>>=_) _ _ _;refine qA1 (qQ5 hz rfl (x:=.ref TI) rfl ?_);refine qA1 (qR3 a6 rfl ?_);have e1:(ss.map λu=>Value.ref u.1.i).toArray.isEmpty=false:=by cases ss <;> simp_all
 simp only [e1];refine qA1 ?_;unfold Builtin.SmallTypes.ownedTupleIsFree;refine qA1 (qQ5 hz rfl (x:=.none) rfl (qP9 ?_));simp only [qQ2];refine qA1 (qR6 ?_);refine qA1 (qQ5 hz rfl (x:=.ref TO) rfl ?_);refine qA1 (qR7 hz Zy λh1 z1 sb1=>?_);replace z1:IsZip h1 z TI TO .ellipsis:=z1
 refine qA1 (draws (TI:=TI) (n:=n) (z:=z) (TO:=TO) ?_ ss 0 arr _ _ D z1 (sb1.extBut _ _ D.zTO.symm a7) ox (λu hm=>?_) λI z2 T2 a2 s2 k2=>?_)
 .intro v k s Q h;refine qA1 (wpAny_onRaise ?_)
  change wpAny _ _ (Builtin.SmallTypes.nextOf v>>=_) _ _ _;refine qA1 (qS1 h (λx s1 ⟨arr,hT1,hl,hq⟩=>qP9 ?_) λe s1 he=>he);refine qA1 (qR3 hT1 rfl ?_);refine qA1 (wpAny_updateSeq hT1 rfl ?_ hl (by rw[qX8];omega));refine qA1 (wpAny_letGo (qP9 (hq _ ?_ (qO4 ..))))
  change Heap.get? _ _=_;rw[qK8 _ hT1 rfl];simp [Obj.mapSeq]
 .obtain ⟨a,b,x⟩:=hu u hm;show ⟨a.keep λo e=>sb1.extBut _ _ (D.zi u hm) e,b.keep λo e=>sb1.extBut _ _ (D.lz u hm) e,x⟩
 .have ed:(drawn n ss 0 arr).toList=ss.map λu=>u.2.getD n .none:=by rw[uG n ss 0 arr ox];simp
  refine qA1 (qR3 T2 rfl ?_);have a5:I.objs.size=s.heap.objs.size:=by rw[s2];show sb1.1
  have a4:z<I.objs.size:=qB4 z2;refine qA1 (qV7 (qA1 ?_) (by rw[ed,qA7];show a3));unfold Builtin.SmallTypes.ownedTupleHandOut;have z3:IsZip (I.push { cls:=.type "tuple",data:=.seq (drawn n ss 0 arr).toList.toArray }) z TI TO .ellipsis:=qA6 _ z2;refine qA1 (qR7 z3 Zy λh4 z4 sb4=>?_);replace z4:IsZip h4 z TI TO (rawInt I.objs.size):=z4
  refine qR7 z4 Zy λh5 z5 sb5=>?_;replace z5:IsZip h5 z TI TO (rawInt I.objs.size):=z5
  have up:∀b o,b≠z->I.get? b=some o->h5.get? b=some o:=λb o hb e=>sb5.extBut _ _ hb (sb4.extBut _ _ hb (qA6 _ e));have T5:F9 h5 I.objs.size (drawn n ss 0 arr).toList.toArray:=sb5.extBut _ _ (qO7 a4) (sb4.extBut _ _ (qO7 a4) (qC1 _ rfl));rw[ed]at T5;rw[a5]at z5 T5;refine qP9 ⟨_,rfl,qP9 ?_⟩
  change Q (some (.ref I.objs.size)) _;rw[a5];show hQ h5 z5 ⟨_,up _ _ D.zTO.symm T2,by rw[qB,hsz]⟩ (λu hm=>(a2 u hm).keep λo e=>up _ o (D.zi u hm) e) T5 λb o b1 b2 b3 e=>up b o b1 (k2 b o b2 b3 (sb1.extBut _ _ b1 e))
def vi {TI TO:Addr}(hh:A.handled=none) (D:Apart z TO ss) (hsz:arr.size=ss.length) (a3:ss.length<=sizeLine) (hz:IsZip s.heap z TI TO .none) (a4:F9 s.heap TI (ss.map λu=>Value.ref u.1.i).toArray) (a5:F9 s.heap TO arr) (hu:∀u∈ss,u.1.At s.heap n/\u.1.Src s.heap u.2) (hx:∃u∈ss,u.2[n]?=none) (hQ:∀h',(∀b o,b≠z->b≠TO->(∀u∈ss,b≠u.1.i)->s.heap.get? b=some o->h'.get? b=some o)->Q none { s with heap:=h' }):
  wpAny (model prog w) A (pyNext (.ref z)) Q E s:=by
 have hT:s.TypeIs (.ref z) "zip" := ⟨_,hz,rfl⟩;unfold pyNext;refine qA1 (wpAny_attempt (qQ7 (name:=Str.ofString "__next__") hT qU3 (qR2 qU3 hT F.entry_zip_next ?_ (F.args_zip_next_1 _))))
 change wpAny _ _ (field (.ref z) 2>>=_) _ _ _;refine qA1 (qQ5 hz rfl (x:=.bool false) rfl ?_)
 change wpAny _ _ (field (.ref z) 3>>=_) _ _ _;refine qA1 (qQ5 hz rfl (x:=.ref TI) rfl ?_);refine qA1 (qR3 a4 rfl ?_);have e1:(ss.map λu=>Value.ref u.1.i).toArray.isEmpty=false:=by
  obtain ⟨u,hm,_⟩:=hx;cases ss with
  |nil=>show nomatch hm
  |cons a b=>simp
 simp only [e1];refine qA1 ?_;unfold Builtin.SmallTypes.ownedTupleIsFree;refine qA1 (qQ5 hz rfl (x:=.none) rfl (qP9 ?_));simp only [qQ2];refine qA1 (qR6 ?_);refine qA1 (qQ5 hz rfl (x:=.ref TO) rfl ?_);refine qA1 (qR7 hz Zy λh1 z1 sb1=>?_);replace z1:IsZip h1 z TI TO .ellipsis:=z1
 refine qA1 (uF (A:=A.in1) (TI:=TI) (n:=n) (z:=z) (TO:=TO) (show A.in1.handled=none from hh) ?_ ss 0 arr _ _ D z1 (sb1.extBut _ _ D.zTO.symm a5) ox (λu hm=>?_) hx λh2 e k2 I=>?_)
 .intro v k s Q h;refine qA1 (wpAny_onRaise ?_)
  change wpAny _ _ (Builtin.SmallTypes.nextOf v>>=_) _ _ _;refine qA1 (qS1 h (λx s1 ⟨arr,hT1,hl,hq⟩=>qP9 ?_) λe s1 I=>I);refine qA1 (qR3 hT1 rfl ?_);refine qA1 (wpAny_updateSeq hT1 rfl ?_ hl (by rw[qX8];omega));refine qA1 (wpAny_letGo (qP9 (hq _ ?_ (qO4 ..))))
  change Heap.get? _ _=_;rw[qK8 _ hT1 rfl];simp [Obj.mapSeq]
 .obtain ⟨a,b⟩:=hu u hm;show ⟨a.keep λo e=>sb1.extBut _ _ (D.zi u hm) e,b.keep λo e=>sb1.extBut _ _ (D.lz u hm) e⟩
 .obtain ⟨o,ho,hc⟩:=I;refine qA1 (wpAny_isInstance (T := "StopIteration") (b:=true) ⟨o,ho,hc⟩ isSubtype_stop ?_);show qP9 (hQ _ λb o b1 b2 b3 e=>k2 b o b1 b2 b3 (sb1.extBut _ _ b1 e))
def SrcAt (h:Heap)(u:Bool×Addr×Array Value):Prop:=if u.1=true then h.IsTuple u.2.1 u.2.2 else h.IsList u.2.1 u.2.2
def j6 (n:Nat):List (Bool×Addr×Array Value)->List (Sub×Array Value)
 | []=>[]
 |u::r=>(⟨u.1,n,u.2.1⟩,u.2.2)::j6 (n+1) r
def wZ (hs:SrcAt s.heap u) (I:∀h',(Sub.mk u.1 s.heap.objs.size u.2.1).At h' 0->h'.objs.size=s.heap.objs.size+1->(∀b o,s.heap.get? b=some o->h'.get? b=some o)->Q (.ref s.heap.objs.size) { s with heap:=h' }):
  wpAny (model prog w) A (pyIter (.ref u.2.1)) Q E s:=by
 unfold SrcAt at hs;cases ht:u.1 with
 | true=>
  simp only [ht,qQ2]at hs;refine qS8 hs (I _ ?_ (qN6 ..) λb o e=>qA6 _ e);unfold Sub.At;simp only [ht,qQ2];show ⟨_,qC1 _ rfl,rfl,rfl⟩
 | false=>
  simp only [ht,qD7,qQ4]at hs;refine qR9 hs (I _ ?_ (qN6 ..) λb o e=>qA6 _ e);unfold Sub.At;simp only [ht,qD7,qQ4];show ⟨_,qC1 _ rfl,rfl,rfl⟩
def SrcAt.keep (x:SrcAt h u) (k:∀b o,h.get? b=some o->h'.get? b=some o):SrcAt h' u:=by
 unfold SrcAt at x ⊢
 split at x <;> (rename_i ht;obtain ⟨o,e,r⟩:=x;simp only [ht,qQ2,qQ4,qD7];show ⟨o,k _ o e,r⟩)
def nH:∀(us:List (Bool×Addr×Array Value)) (I:Vj) (s:Shared) (Q:Array Value->Shared->Prop),(∀u∈us,SrcAt s.heap u) ->
  (∀ h',(∀v∈j6 s.heap.objs.size us,v.1.At h' 0)->h'.objs.size=s.heap.objs.size+us.length->(∀b o,s.heap.get? b=some o->h'.get? b=some o) ->
   Q (I++((j6 s.heap.objs.size us).map λv=>Value.ref v.1.i).toArray) { s with heap:=h' }) ->
  wpAny (model prog w) A (forIn (us.map λu=>Value.ref u.2.1) I λx r=>do let y <- holding r.toList (pyIter x);pure (ForInStep.yield (r.push y))) Q E s:=by
 intro us
 induction us with
 | nil=>
  intro I s Q _ hQ;simp only [qN5,qV6]
  have:=hQ s.heap (λ_ h=>absurd h qD8) rfl λ_ _ e=>e
  show qP9 (by simpa [j6]using this)
 | cons u r ih=>
  intro I s Q hs hQ;simp only [qB9,qN0];refine qA1 (qA1 (qR1 (wZ (hs u qB8) λh1 a1 s1 k1=>qP9 ?_)));refine ih (I.push (.ref s.heap.objs.size)) { s with heap:=h1 } Q (λv hv=>(hs v (qB0 _ hv)).keep k1) λh2 a2 s2 k2=>?_;have e0:j6 h1.objs.size r=j6 (s.heap.objs.size+1) r:=by rw[s1]
  have q:=hQ h2 (λv hv=>?_) (by rw[s2];change h1.objs.size+_=_;rw[s1,qD1];omega) λb o e=>k2 b o (k1 b o e)
  .have e:I.push (Value.ref s.heap.objs.size)++(List.map (λv=>Value.ref v.1.i) (j6 h1.objs.size r)).toArray=I++(List.map (λv=>Value.ref v.1.i) (j6 s.heap.objs.size (u::r))).toArray:=by
    rw[e0];simp [j6]
   change Q (I.push (Value.ref s.heap.objs.size)++(List.map (λv=>Value.ref v.1.i) (j6 h1.objs.size r)).toArray) _;rw[e];show q
  .rcases qB5.mp hv with rfl|hv
   .show a1.keep λo e=>k2 _ o e
   .show a2 v (by change v∈j6 h1.objs.size r;rw[e0];show hv)
def xa (hs:∀u∈us,SrcAt s.heap u) (hQ:∀h',(∀v∈j6 s.heap.objs.size us,v.1.At h' 0)->h'.objs.size=s.heap.objs.size+us.length->(∀b o,s.heap.get? b=some o->h'.get? b=some o) ->
   Q ((j6 s.heap.objs.size us).map λv=>Value.ref v.1.i) { s with heap:=h' }):wpAny (model prog w) A (Builtin.SmallTypes.iterAll (us.map λu=>Value.ref u.2.1)) Q E s:=by
 unfold Builtin.SmallTypes.iterAll;refine qA1 (nH us #[] s _ hs λh' a1 s1 I=>qP9 ?_)
 have:=hQ h' a1 s1 I
 simpa using this
def R5:∀(us:List (Bool×Addr×Array Value)) (n:Nat),(j6 n us).length=us.length:=by
 intro us
 induction us with
 |nil=>intro n;rfl
 |cons u r I=>intro n;unfold j6;rw[qD1,I,qD1]
def jq (us:List (Bool×Addr×Array Value)) (hl:us.length<=sizeLine) :
  Meets (Builtin.«zip.__new__» ⟨.type "zip" :: us.map λu=>Value.ref u.2.1,[]⟩) (λ_ R s=>(∀u∈us,SrcAt s.heap u) /\
   ∀ h',(∀v∈j6 s.heap.objs.size us,v.1.At h' 0)->F9 h' (s.heap.objs.size+us.length) ((j6 s.heap.objs.size us).map λv=>Value.ref v.1.i).toArray ->
    (∃arr,F9 h' (s.heap.objs.size+us.length+1) arr/\arr.size=us.length)->IsZip h' (s.heap.objs.size+us.length+2) (s.heap.objs.size+us.length) (s.heap.objs.size+us.length+1) .none ->
    (∀b o,s.heap.get? b=some o->h'.get? b=some o)->R (.ok (.ret (.ref (s.heap.objs.size+us.length+2)))) { s with heap:=h' }):=
 .of_wp λprog w A R s h=>by
  obtain ⟨hs,h⟩:=h
  change wpAny _ _ (Builtin.SmallTypes.newClass "zip" _>>=_) _ _ _;refine qA1 ?_;unfold Builtin.SmallTypes.newClass;refine qA1 (wpAny_of_eq (a:=true) rfl ?_);simp only [xC5,qD7,qQ4];refine qA1 (wpAny_of_eq (a:=true) sub_zip ?_);simp only [xC5,qD7,qQ4];refine qP9 ?_;simp only [qM9,show ¬ (0>1) by decide,qQ4];refine qA1 (xa hs λh1 a1 s1 k1=>?_);refine qA1 (qV7 ?_ (by simp [R5,hl]));refine qA1 (qV7 ?_ (by simp [R5,hl]));generalize hI:((j6 s.heap.objs.size us).map λv=>Value.ref v.1.i)=I at h ⊢
  have a3:I.length=us.length:=by rw[<- hI,qA7,R5]
  refine qA1 ?_
  change wpAny _ _ (newObj (.type "zip") (.fields #[.none,.bool false,.bool false,.ref h1.objs.size,.ref (h1.push { cls:=.type "tuple",data:=.seq I.toArray }).objs.size]) none) _ _ _;refine qQ8 (qP9 ?_) (by size_fits);have z0:h1.objs.size=s.heap.objs.size+us.length:=s1;have z1:(h1.push { cls:=.type "tuple",data:=.seq I.toArray }).objs.size=s.heap.objs.size+us.length+1:=by rw[qN6,s1]
  have z2:((h1.push { cls:=.type "tuple",data:=.seq I.toArray }).push { cls:=.type "tuple",data:=.seq (I.map λ_=>Value.none).toArray }).objs.size=s.heap.objs.size+us.length+2:=by rw[qN6,z1]
  refine ⟨_,rfl,?_⟩;have g:=h (((h1.push { cls:=.type "tuple",data:=.seq I.toArray }).push { cls:=.type "tuple",data:=.seq (I.map λ_=>Value.none).toArray }).push { cls:=.type "zip",data:=.fields #[.none,.bool false,.bool false,.ref h1.objs.size,.ref (h1.push { cls:=.type "tuple",data:=.seq I.toArray }).objs.size] })
   (λv hv=>(a1 v hv).keep λo e=>qA6 _ (qA6 _ (qA6 _ e))) ?_ ⟨(I.map λ_=>Value.none).toArray,?_,by simp [a3]⟩ ?_ λb o e=>qA6 _ (qA6 _ (qA6 _ (k1 b o e)))
  .rw [<- z2]at g
   show g
  .rw[<- z0];show qA6 _ (qA6 _ (qC1 _ rfl))
  .rw[<- z1];show qA6 _ (qC1 _ rfl)
  .rw[<- z2,<- z1,<- z0];show qC1 _ rfl
def pq (a b c:Value):checkTypeCall "zip" ⟨[a,b,c],[]⟩=pure ():=Zj
def qd (a b c:Value):checkBuiltinCall "zip.__new__" ⟨[.type "zip",a,b,c],[]⟩=pure ():=Zj
def qK (a b c d:Value):argsOk "object.__init__" ⟨[a,b,c,d],[]⟩:=by
 unfold argsOk;rw[signature?_of (id := "object.__init__") (n:=['_','_','t','i','n','i','_','_']) (o:=['t','c','e','j','b','o']) Zj F.owner_object];kernel_rfl
def xN (us:List (Bool×Addr×Array Value)) (I:us.length=2\/us.length=3) (hs:∀u∈us,SrcAt s.heap u) (h:∀h',(∀v∈j6 s.heap.objs.size us,v.1.At h' 0)->F9 h' (s.heap.objs.size+us.length) ((j6 s.heap.objs.size us).map λv=>Value.ref v.1.i).toArray ->
    (∃arr,F9 h' (s.heap.objs.size+us.length+1) arr/\arr.size=us.length)->IsZip h' (s.heap.objs.size+us.length+2) (s.heap.objs.size+us.length) (s.heap.objs.size+us.length+1) .none ->
    (∀b o,s.heap.get? b=some o->h'.get? b=some o)->Q (.ref (s.heap.objs.size+us.length+2)) { s with heap:=h' }):
  wpAny (model prog w) A (call (.type "zip") (us.map λu=>Value.ref u.2.1)) Q E s:=by
 have a3:us.length<=sizeLine:=qA5 (show us.length<=3 by omega) Zz;have k:∀h',_->_->_->_->_->({ s with heap:=h' }:Shared).TypeIs (.ref (s.heap.objs.size+us.length+2)) "zip" /\ Q (.ref (s.heap.objs.size+us.length+2)) { s with heap:=h' }:=λh' c1 c2 c3 c4 c5=>⟨⟨_,c4,rfl⟩,h h' c1 c2 c3 c4 c5⟩;cases us with
 |nil=>rcases I with I|I <;> cases I
 | cons a us=>
  cases us with
  |nil=>rcases I with I|I <;> cases I
  | cons b us=>
   cases us with
   |nil=>show callType_new F.called_zip Zz (F.typeCall_zip_2 _ _) (F.newCall_zip_2 _ _) (λobj=>F.args_object_init_3 obj _ _) F.entry_zip_new (jq [a,b] a3) ⟨hs,k⟩
   | cons c us=>
    cases us with
    |nil=>show callType_new F.called_zip Zz (pq _ _ _) (qd _ _ _) (λobj=>qK obj _ _ _) F.entry_zip_new (jq [a,b,c] a3) ⟨hs,k⟩
    |cons d us=>rcases I with I|I <;> (simp only [qD1]at I;omega)
end L2
namespace L2
open PySem PySem.Spec PyProof.Rows
def aG {α β:Type}{R:α->β->Prop}:∀{l:List α},(∀a∈l,∃b,R a b)->∃I:List (α×β),I.map (·.1)=l/\∀p∈I,R p.1 p.2:=by
 intro l
 induction l with
 |nil=>show λ_=>⟨[],rfl,λ_ h=>absurd h qD8⟩
 | cons a l ih=>
  intro h;obtain ⟨b,hb⟩:=h a qB8;obtain ⟨I,e,q⟩:=ih λx hx=>h x (qB0 _ hx);refine ⟨(a,b)::I,by rw[qB9,e],λp hp=>?_⟩;rcases qB5.mp hp with rfl|hp
  .show hb
  .show q p hp
def Sq (K:Frag)(H:Hp)(t:Bool)(a:Addr)(xs:List V):Prop:=if t=true then SqT K H a xs else SqL K H a xs
def kne {σ:St}(I:Inv X pins σ H s) (h:X.K.lookup a=some o) (f:K2 X pins H b):a≠b:=by
 intro e;subst e;have hb:X.base.get? a=some o:=I.mod.kin a o h;obtain ⟨f0,f1,f2,f3,f4,f5⟩:=f;rcases f3 with z|z
 .show I.ok.noex a o hb z
 .show absurd (qB3 (qB4 (I.ok.bs a o hb).1) z) (qF1 _)
def Sq.ne {σ:St}(I:Inv X pins σ H s) (h:Sq X.K H t a xs) (f:K2 X pins H b):a≠b:=by
 have tr:∀{u:HO},Rd H a u->a≠b:=λ{u} r e=>by
  subst e;have f0:=f.1;rcases r with r|⟨o,r⟩ <;> (rw[f0]at r;cases r)
 unfold Sq at h
 split at h
 .rcases h with h|⟨o,its,n,hk,_⟩
  .show tr h
  .show kne I hk f
 .rcases h with h|⟨o,its,n,hk,_⟩
  .show tr h
  .show kne I hk f
def Sq.src {σ:St}(I:Inv X pins σ H s) (h:Sq X.K H t a xs):∃its:List Value,Vals xs its/\(Sub.mk t 0 a).Src s.heap its.toArray:=by
 unfold Sq at h;unfold Sub.Src
 split at h
 .rename_i ht
  obtain ⟨its,r,p,_⟩:=I.tuple h;show ⟨its,r,by simp only [ht,qQ2];show p⟩
 .rename_i ht
  obtain ⟨its,r,p,_⟩:=I.list h;show ⟨its,r,by simp only [ht,qQ4];show p.isList⟩
def Sq.inj {σ:St}(I:Inv X pins σ H s) (h:Sq X.K H t a xs) (h':Sq X.K H t a ys):xs=ys:=by
 unfold Sq at h h'
 split at h
 .rename_i ht;simp only [ht,qQ2]at h';show I.tuple_inj h h'
 .rename_i ht;simp only [ht,qQ4]at h';show I.list_inj h h'
def ItZ (K:Frag) (us:List (Bool×Addr)):It:=
  ⟨fun i H=>∀u∈us,∃xs x,Sq K H u.1 u.2 xs/\xs[i]?=some x,
   λi H x H'=>∃p I,x=.ref p/\H p=none/\H'=upd H p (.tup I)/\Paired (λ(u:Bool×Addr) (y:V)=>∀xs,Sq K H u.1 u.2 xs->xs[i]?=some y) us I,
   λi H=>(∀u∈us,∃xs,Sq K H u.1 u.2 xs)/\∃u∈us,∃xs,Sq K H u.1 u.2 xs/\xs.length<=i⟩
structure ZSt (z TI TO:Addr) (subs:List Sub):Prop where
 zTO:z≠TO
 TIz:TI≠z
 TITO:TI≠TO
 zi:∀u∈subs,u.i≠z
 ti:∀u∈subs,u.i≠TO
 Ii:∀u∈subs,u.i≠TI
 nd:subs.Pairwise λu v=>u.i≠v.i
abbrev zTn (z TI TO:Addr) (subs:List Sub) (i:Nat) (h:Heap):Prop:=
 IsZip h z TI TO .none/\F9 h TI (subs.map λu=>Value.ref u.i).toArray/\(∃arr,F9 h TO arr/\arr.size=subs.length)/\∀u∈subs,u.At h i
def V0 {I:Type}{F:α->γ->Prop}{f:I->α}{g:I->γ}:∀{l:List I},(∀b∈l,F (f b) (g b))->Paired F (l.map f) (l.map g)
 | [],_=>.nil
 |_::_,h=>.cons (h _ qB8) (V0 λb hb=>h b (qB0 _ hb))
def vp {K:Frag}{TI TO:Addr}(D:ZSt z TI TO subs) (bt:subs ≠ []) (b0:subs.length<=sizeLine):
  Turn P w K (.Tuple elts k tp) (ItZ K (subs.map λu=>(u.t,u.l))) (z::TI::TO::subs.map (·.i)) z (zTn z TI TO subs) where
 mem:=Zy
 obj:=λi h st b hb=>by
  obtain ⟨hz,a7,⟨arr,a8,_⟩,hs⟩:=st;simp only [qB5,qB1]at hb;rcases hb with rfl|rfl|rfl|⟨u,hu,rfl⟩
  .show ⟨_,hz,λv q=>by cases q⟩
  .show ⟨_,a7,λv q=>by cases q⟩
  .show ⟨_,a8,λv q=>by cases q⟩
  .obtain ⟨o,e,d⟩:=(hs u hu).obj;show ⟨o,e,λv q=>by rw[d]at q;cases q⟩
 keep:=λi h h' st kp=>by
  obtain ⟨hz,a7,⟨arr,a8,ha⟩,hs⟩:=st;show ⟨kp z Zy _ hz,kp TI Zy _ a7,⟨arr,kp TO Zy _ a8,ha⟩,λu hu=>(hs u hu).keep λo e=>kp u.i (by simp only [qB5,qB1];show .inr (.inr (.inr ⟨u,hu,rfl⟩))) o e⟩
 item:=by
  intro X hP hw hK hc i pins s σ H E I hf st hg;subst hP hw hK;obtain ⟨hz,a7,⟨arr,a8,ha⟩,hs⟩:=st;have fz:=hf z Zy;have fT:=hf TO Zy;have fi:∀u∈subs,K2 X pins H u.i:=λu hu=>hf u.i (by simp only [qB5,qB1];show .inr (.inr (.inr ⟨u,hu,rfl⟩)));obtain ⟨ss,a4,a3⟩:=aG (R:=λ(u:Sub) (q:List Value×List V×V)=>Sq X.K H u.t u.l q.2.1/\Vals q.2.1 q.1/\u.Src s.heap q.1.toArray/\q.2.1[i]?=some q.2.2) (l:=subs) (λu hu=>by
   obtain ⟨xs,x,h1,h2⟩:=hg (u.t,u.l) (qB1.mpr ⟨u,hu,rfl⟩);obtain ⟨its,r,ab⟩:=Sq.src I h1;show ⟨(its,xs,x),h1,r,ab,h2⟩)
  have a5:∀v∈ss,v.1∈subs:=λv hv=>by rw[<- a4];show qB1.mpr ⟨v,hv,rfl⟩
  have ba:ss.Pairwise λu v=>u.1.i≠v.1.i:=by
   have:=D.nd
   rw[<- a4,qJ9]at this;show this
  have DA:Apart z TO (ss.map λv=>(v.1,v.2.1.toArray)):=by
   refine ⟨D.zTO,?_,?_,?_,?_,?_,?_⟩
   .rintro _ hu;obtain ⟨v,hv,rfl⟩:=qB1.mp hu;show D.zi _ (a5 v hv)
   .rintro _ hu;obtain ⟨v,hv,rfl⟩:=qB1.mp hu;show D.ti _ (a5 v hv)
   .rw[qJ9];show ba
   .rintro _ hu;obtain ⟨v,hv,rfl⟩:=qB1.mp hu;show Sq.ne I (a3 v hv).1 fz
   .rintro _ hu;obtain ⟨v,hv,rfl⟩:=qB1.mp hu;show Sq.ne I (a3 v hv).1 fT
   .rintro _ hu _ b4;obtain ⟨v,hv,rfl⟩:=qB1.mp hu;obtain ⟨v2,b5,rfl⟩:=qB1.mp b4;show Sq.ne I (a3 v hv).1 (fi _ (a5 v2 b5))
  have el:(ss.map λv=>(v.1,v.2.1.toArray)).length=subs.length:=by rw[qA7,<- a4,qA7]
  have eI:((ss.map λv=>(v.1,v.2.1.toArray)).map λu=>Value.ref u.1.i)=subs.map λu=>Value.ref u.i:=by rw[<- a4,qC5,qC5];rfl
  have ys:∀v∈ss,∃u,v.2.1.toArray[i]?=some u/\RelV v.2.2.2 u:=λv hv=>by
   obtain ⟨u,e,r⟩:=(a3 v hv).2.1.get (a3 v hv).2.2.2;show ⟨u,by simpa using e,r⟩
  refine vj (n:=i) DA (by intro q;apply bt;have:=congrArg List.length q;rw[el]at this;show qY6.mp this) (by rw[ha,el]) (by rw[el];show b0) hz (by rw[eI];show a7) a8 (λu hu=>?_) λh1 z1 T1 a1 p1 k1=>?_
  .obtain ⟨v,hv,rfl⟩:=qB1.mp hu;obtain ⟨u,e,_⟩:=ys v hv;show ⟨hs _ (a5 v hv),(a3 v hv).2.2.1,u,e⟩
  refine ⟨_,rfl,wpAny_letOwnedTupleGo_zip z1 λh2 z2 sb2=>?_⟩;have bq:z<s.heap.objs.size:=qB4 hz;have kp:∀b o,b≠z->b≠TO->(∀u∈subs,b≠u.i)->s.heap.get? b=some o->h2.get? b=some o:=λb o b1 b2 b3 e=>sb2.extBut _ _ b1 (k1 b o b1 b2 (λu hu=>by obtain ⟨v,hv,rfl⟩:=qB1.mp hu;show b3 _ (a5 v hv)) e);have a9:H s.heap.objs.size=none:=I.hok.fresh (qB2 _);have trk:∀b u,H b=some u->b≠z/\b≠TO/\∀v∈subs,b≠v.i:=λb u e=>⟨λq=>(by subst q;rw[fz.1]at e;cases e),λq=>(by subst q;rw[fT.1]at e;cases e),λv hv q=>(by subst q;rw[(fi v hv).1]at e;cases e)⟩;have c4:F9 h2 s.heap.objs.size (ss.map λv=>v.2.1.toArray.getD i .none).toArray:=by
   have:=sb2.extBut _ _ (qO7 bq) p1
   rw[qC5]at this;show this
  have rel:Vals (ss.map λv=>v.2.2.2) (ss.map λv=>v.2.1.toArray.getD i .none):=V0 λv hv=>by
   obtain ⟨u,e,r⟩:=ys v hv;rw[show v.2.1.toArray.getD i Value.none=u by simp only [qW3,e,Option.getD_some]];show r
  have len:(ss.map λv=>v.2.2.2).length<=sizeLine:=by rw[qA7,show ss.length=subs.length by rw[<- a4,qA7]];show b0
  refine ⟨.ref s.heap.objs.size,upd H s.heap.objs.size (.tup (ss.map λv=>v.2.2.2)),?_,rfl,⟨_,_,rfl,a9,rfl,?_⟩,⟨z2,?_,?_,λu hu=>?_⟩,λb hb=>?_⟩
  .change Inv X pins σ _ { s with heap:=h2 };refine I.step (g':=s.gens) (t':=s.toks) (d':=s.drawn) (ch:=z::TO::subs.map (·.i)) (λb hb=>?_) (λb o _ _ hc e _=>kp b o ?_ ?_ ?_ e) (λb o _ _ hc e _=>⟨o.slots,kp b o ?_ ?_ ?_ e⟩) (λb o hc e n=>?_) (λb o hc e=>⟨o,kp b o ?_ ?_ ?_ e⟩) (λb xs e=>?_) (λb o u e=>?_) (λb ps e=>?_) (λm hm=>?_) ?_ I.bare
   .simp only [qB5,qB1]at hb;rcases hb with rfl|rfl|⟨u,hu,rfl⟩
    .show ⟨fz.2.2.2.1,fz.2.1,fz.2.2.2.2.1,fz.2.2.2.2.2⟩
    .show ⟨fT.2.2.2.1,fT.2.1,fT.2.2.2.2.1,fT.2.2.2.2.2⟩
    .have f:=fi u hu;show ⟨f.2.2.2.1,f.2.1,f.2.2.2.2.1,f.2.2.2.2.2⟩
   all_goals first
    | (intro q;show hc (by simp [q];done))
    | (intro u hu q;show hc (by rw[q];show qB0 _ (qB0 _ (qB1.mpr ⟨u,hu,rfl⟩))))
    |skip
   .rw[e7 (qD6 (qB4 e))];show n
   .rw[e7 (f7 e a9)];show e
   .rw[e7 (f7 e a9)];show e
   .show ⟨#[],by rw[e7 (f7 e a9),e];simp⟩
   .obtain ⟨o,es,ep,ho,r⟩:=hm;show ⟨o,es,ep,kp _ o (Ne.symm fz.2.1) (Ne.symm fT.2.1) (λu hu=>Ne.symm (fi u hu).2.1) ho,r⟩
   .intro b u e;by_cases hb:b=s.heap.objs.size
    .subst hb;rw[j9]at e;cases e;show ⟨len,_,rel,⟨_,c4,rfl,_,rfl⟩⟩
    .rw [e7 hb]at e
     refine (I.hok b u e).stay (λc v a6 q=>?_) (λc q=>by rw[e7 (f7 q a9)];show q) λc xs q=>by rw[e7 (f7 q a9)];show q
     rcases a6 with rfl|a6
     .show kp _ v (trk _ _ e).1 (trk _ _ e).2.1 (trk _ _ e).2.2 q
     .show kp _ v (trk _ _ a6).1 (trk _ _ a6).2.1 (trk _ _ a6).2.2 q
  .rw [<- a4,qC5]
   show V0 λv hv xs hx=>by rw[Sq.inj I hx (a3 v hv).1];show (a3 v hv).2.2.2
  .show kp TI _ D.TIz D.TITO (λu hu=>Ne.symm (D.Ii u hu)) a7
  .obtain ⟨arr',c0,c3⟩:=T1;show ⟨arr',sb2.extBut _ _ D.zTO.symm c0,by rw[c3,el]⟩
  .have hv:∃v∈ss,v.1=u:=by rw[<- a4]at hu;show qB1.mp hu
   obtain ⟨v,hv,rfl⟩:=hv;show (a1 (v.1,v.2.1.toArray) (qB1.mpr ⟨v,hv,rfl⟩)).keep λo e=>sb2.extBut _ _ (D.zi _ (a5 v hv)) e
  .have:b≠s.heap.objs.size:=by
    simp only [qB5,qB1]at hb;rcases hb with rfl|rfl|rfl|⟨u,hu,rfl⟩
    .show qD6 bq
    .show qD6 (qB4 a7)
    .show qD6 (qB4 a8)
    .obtain ⟨o,e,_⟩:=(hs u hu).obj;show qD6 (qB4 e)
   rw[e7 this];show (hf b hb).1
 done:=by
  intro X hP hw hK hc i pins s σ H E I hf st hg;subst hP hw hK;obtain ⟨hz,a7,⟨arr,a8,ha⟩,hs⟩:=st;obtain ⟨bc,u0,c1,c5,c2,hl0⟩:=hg;have fz:=hf z Zy;have fT:=hf TO Zy;have fi:∀u∈subs,K2 X pins H u.i:=λu hu=>hf u.i (by simp only [qB5,qB1];show .inr (.inr (.inr ⟨u,hu,rfl⟩)));obtain ⟨ss,a4,a3⟩:=aG (R:=λ(u:Sub) (q:List Value×List V)=>Sq X.K H u.t u.l q.2/\Vals q.2 q.1/\u.Src s.heap q.1.toArray) (l:=subs) (λu hu=>by
   obtain ⟨xs,h1⟩:=bc (u.t,u.l) (qB1.mpr ⟨u,hu,rfl⟩);obtain ⟨its,r,ab⟩:=Sq.src I h1;show ⟨(its,xs),h1,r,ab⟩)
  have a5:∀v∈ss,v.1∈subs:=λv hv=>by rw[<- a4];show qB1.mpr ⟨v,hv,rfl⟩
  have ba:ss.Pairwise λu v=>u.1.i≠v.1.i:=by
   have:=D.nd
   rw[<- a4,qJ9]at this;show this
  have DA:Apart z TO (ss.map λv=>(v.1,v.2.1.toArray)):=by
   refine ⟨D.zTO,?_,?_,?_,?_,?_,?_⟩
   .rintro _ hu;obtain ⟨v,hv,rfl⟩:=qB1.mp hu;show D.zi _ (a5 v hv)
   .rintro _ hu;obtain ⟨v,hv,rfl⟩:=qB1.mp hu;show D.ti _ (a5 v hv)
   .rw[qJ9];show ba
   .rintro _ hu;obtain ⟨v,hv,rfl⟩:=qB1.mp hu;show Sq.ne I (a3 v hv).1 fz
   .rintro _ hu;obtain ⟨v,hv,rfl⟩:=qB1.mp hu;show Sq.ne I (a3 v hv).1 fT
   .rintro _ hu _ b4;obtain ⟨v,hv,rfl⟩:=qB1.mp hu;obtain ⟨v2,b5,rfl⟩:=qB1.mp b4;show Sq.ne I (a3 v hv).1 (fi _ (a5 v2 b5))
  have el:(ss.map λv=>(v.1,v.2.1.toArray)).length=subs.length:=by rw[qA7,<- a4,qA7]
  have eI:((ss.map λv=>(v.1,v.2.1.toArray)).map λu=>Value.ref u.1.i)=subs.map λu=>Value.ref u.i:=by rw[<- a4,qC5,qC5];rfl
  refine vi (n:=i) (I.ok.hd hc) DA (by rw[ha,el]) (by rw[el];show b0) hz (by rw[eI];show a7) a8 (λu hu=>?_) ?_ λh1 k1=>⟨rfl,?_⟩
  .obtain ⟨v,hv,rfl⟩:=qB1.mp hu;show ⟨hs _ (a5 v hv),(a3 v hv).2.2⟩
  .obtain ⟨u,hu,e0⟩:=qB1.mp c1;have hv:∃v∈ss,v.1=u:=by rw[<- a4]at hu;show qB1.mp hu
   obtain ⟨v,hv,rfl⟩:=hv;subst e0;refine ⟨(v.1,v.2.1.toArray),qB1.mpr ⟨v,hv,rfl⟩,?_⟩;have e1:=Sq.inj I (a3 v hv).1 c2;have e2:=(a3 v hv).2.1.length;rw[e1]at e2;simp only [List.getElem?_toArray];show qJ3 ox
  .have kp:∀b o,b≠z->b≠TO->(∀u∈subs,b≠u.i)->s.heap.get? b=some o->h1.get? b=some o:=λb o b1 b2 b3 e=>k1 b o b1 b2 (λu hu=>by obtain ⟨v,hv,rfl⟩:=qB1.mp hu;show b3 _ (a5 v hv)) e;have trk:∀b u,H b=some u->b≠z/\b≠TO/\∀v∈subs,b≠v.i:=λb u e=>⟨λq=>(by subst q;rw[fz.1]at e;cases e),λq=>(by subst q;rw[fT.1]at e;cases e),λv hv q=>(by subst q;rw[(fi v hv).1]at e;cases e)⟩;refine I.step (g':=s.gens) (t':=s.toks) (d':=s.drawn) (ch:=z::TO::subs.map (·.i)) (λb hb=>?_) (λb o _ _ hc e _=>kp b o ?_ ?_ ?_ e) (λb o _ _ hc e _=>⟨o.slots,kp b o ?_ ?_ ?_ e⟩) (λb o hc e n=>n) (λb o hc e=>⟨o,kp b o ?_ ?_ ?_ e⟩) (λb xs e=>e) (λb o u e=>e) (λb ps e=>⟨#[],by rw[e];simp⟩) (λm hm=>?_) (λb u e=>?_) I.bare
   .simp only [qB5,qB1]at hb;rcases hb with rfl|rfl|⟨u,hu,rfl⟩
    .show ⟨fz.2.2.2.1,fz.2.1,fz.2.2.2.2.1,fz.2.2.2.2.2⟩
    .show ⟨fT.2.2.2.1,fT.2.1,fT.2.2.2.2.1,fT.2.2.2.2.2⟩
    .have f:=fi u hu;show ⟨f.2.2.2.1,f.2.1,f.2.2.2.2.1,f.2.2.2.2.2⟩
   all_goals first
    | (intro q;show hc (by simp [q];done))
    | (intro u hu q;show hc (by rw[q];show qB0 _ (qB0 _ (qB1.mpr ⟨u,hu,rfl⟩))))
    |skip
   .obtain ⟨o,es,ep,ho,r⟩:=hm;show ⟨o,es,ep,kp _ o (Ne.symm fz.2.1) (Ne.symm fT.2.1) (λu hu=>Ne.symm (fi u hu).2.1) ho,r⟩
   .refine (I.hok b u e).stay (λc v a6 q=>?_) (λc q=>q) λc xs q=>q;rcases a6 with rfl|a6
    .show kp _ v (trk _ _ e).1 (trk _ _ e).2.1 (trk _ _ e).2.2 q
    .show kp _ v (trk _ _ a6).1 (trk _ _ a6).2.1 (trk _ _ a6).2.2 q
 self:=λ_ _ _ _ _ st h=>wpAny_pyIter_zip st.1 h
def FR (K:Frag)(I:TA):TI:=λσ H R=>I σ H λvs H1=>∃us:List (Bool×Addr),vs=us.map (λu=>V.ref u.2)/\(us.length=2\/us.length=3)/\(∀u∈us,∃xs,Sq K H1 u.1 u.2 xs)/\R (ItZ K us) H1
def neN {b:Nat}(h:a≠b):(a:Addr)≠b:=h
def rd:∀{us:List (Bool×Addr)}{vs:JY},Vals (us.map λu=>V.ref u.2) vs->vs=us.map λu=>Value.ref u.2:=by
 intro us
 induction us with
 |nil=>intro vs h;cases h;rfl
 | cons u us ih=>
  intro vs h;cases h with
  | cons r t=>
   have I:_=Value.ref _:=r;rw[I,ih t];rfl
def cv:∀(us:List (Bool×Addr×Array Value)) (n:Nat),∀v∈j6 n us,n<=v.1.i/\n+us.length>v.1.i:=by
 intro us
 induction us with
 |nil=>show λ_ _ h=>absurd h qD8
 | cons u r I=>
  intro n v h;rcases qB5.mp h with rfl|h
  .show ⟨qB2 _,by change n+(r.length+1)>n;omega⟩
  .have:=I (n+1) v h
   rw[qD1];omega
def nQ:∀(us:List (Bool×Addr×Array Value)) (n:Nat),(j6 n us).Pairwise λu v=>u.1.i≠v.1.i
 | [],_=>.nil
 | u::r,n=>by
  refine qS7.mpr ⟨λv I=>?_,nQ r (n+1)⟩
  have:=cv r (n+1) v I
  change (n:Nat)≠v.1.i;omega
def kM:∀(us:List (Bool×Addr×Array Value)) (n:Nat),(j6 n us).map (λu=>(u.1.t,u.1.l))=us.map λu=>(u.1,u.2.1)
 | [],_=>rfl
 |u::r,n=>by unfold j6;rw[qB9,kM r,qB9]
def Ex {X:Cx}{a:Expr}{es elts:Vz}{ta:TA}{p pos tp:Pos}{k:Nat}(hg:Gl X "zip") (hm:X.mg "zip" = none) (ha:PA X (a::es) ta) (hs:starEach (a::es) X.env=(false,eval a X.env)::starEach es X.env:=by rfl) (a7:(backTo pos (starEach es X.env)).any (·.1)=false:=by rfl):PI X (.Tuple elts k tp) (.Call (.Name "zip" p) (a::es) [] pos) (FR X.K ta):=by
 intro pins s σ H R I h;refine Call_ (M5 I hg hm boot_zip (qF4 (thn (ha pos pins s σ H _ I h) λvs s1 a4=>?_) hs a7));obtain ⟨xs,H1,I1,r1,us,e1,hl,a8,q⟩:=a4;subst e1;have e2:=rd r1;subst e2;obtain ⟨ws,ew,a6⟩:=aG (R:=λ(u:Bool×Addr) (its:Vj)=>SrcAt s1.heap (u.1,u.2,its)) (l:=us) (λu hu=>by
  obtain ⟨ys,hy⟩:=a8 u hu;obtain ⟨its,_,a3⟩:=Sq.src I1 hy;show ⟨its.toArray,by unfold SrcAt;unfold Sub.Src at a3;show a3⟩)
 have ev:us.map (λu=>Value.ref u.2)=(ws.map λw=>(w.1.1,w.1.2,w.2)).map λu=>Value.ref u.2.1:=by rw[<- ew,qC5,qC5];rfl
 have el:(ws.map λw=>(w.1.1,w.1.2,w.2)).length=us.length:=by rw[<- ew,qA7,qA7]
 rw[ev];generalize hW:(ws.map λw=>(w.1.1,w.1.2,w.2))=W at el ev
 have ab:∀u∈W,SrcAt s1.heap u:=λu hu=>by
  rw[<- hW]at hu;obtain ⟨w,hw,rfl⟩:=qB1.mp hu;show a6 w hw
 refine xN W (by rw[el];show hl) ab λh' hA a9 b0 hz hk=>wpAny_pyIter_zip hz ?_;have I2:Inv X pins σ H1 { s1 with heap:=h' }:=I1.kept (t':=s1.toks) hk;have eS:((j6 s1.heap.objs.size W).map (·.1)).map (λu=>(u.t,u.l))=us:=by
  rw[qC5]
  change (j6 s1.heap.objs.size W).map (λu=>(u.1.t,u.1.l))=us;rw[kM,<- hW,qC5,<- ew];rfl
 have D:ZSt (s1.heap.objs.size+W.length+2) (s1.heap.objs.size+W.length) (s1.heap.objs.size+W.length+1) ((j6 s1.heap.objs.size W).map (·.1)):=by
  refine ⟨neN ox,neN ox,neN ox,?_,?_,?_,?_⟩
  .rintro _ hu;obtain ⟨v,hv,rfl⟩:=qB1.mp hu;have:=cv W _ v hv;show neN ox
  .rintro _ hu;obtain ⟨v,hv,rfl⟩:=qB1.mp hu;have:=cv W _ v hv;show neN ox
  .rintro _ hu;obtain ⟨v,hv,rfl⟩:=qB1.mp hu;have:=cv W _ v hv;show neN ox
  .rw[qJ9];show nQ W _
 have ls:((j6 s1.heap.objs.size W).map (·.1)).length=W.length:=by rw[qA7,R5]
 have TZ:=vp (P:=X.prog) (w:=X.w) (K:=X.K) (elts:=elts) (k:=k) (tp:=tp) D (by intro q;have:=congrArg List.length q;rw[ls,el]at this;have h0:us.length=0:=this;omega) (by rw[ls,el];show qA5 (show us.length<=3 by omega) Zz);rw[eS]at TZ;refine ⟨_,_,_,_,H1,rfl,I2,TZ,⟨hz,?_,?_,λu hu=>?_⟩,λb hb=>?_,q⟩
 .rw[qC5];show a9
 .obtain ⟨arr,h1,h2⟩:=b0;show ⟨arr,h1,by rw[ls];show h2⟩
 .obtain ⟨v,hv,rfl⟩:=qB1.mp hu;show hA v hv
 .have a5:s1.heap.objs.size<=b:=by
   simp only [qB5,qB1]at hb;rcases hb with rfl|rfl|rfl|⟨_,⟨v,hv,rfl⟩,rfl⟩
   .omega
   .omega
   .omega
   .show (cv W _ v hv).1
  have f:=I1.fpOk (H':=H1) a5 (I1.hok.fresh a5);show f
def L5 (cs:Scope) (env:Env) (x:Str):(relabel cs env).names.lookup x=(cs.names.lookup x).map λk=>if (k == .free&&env.scope.kind == .function&&env.kindOf x == some .cell)=true then .cell else k:=by
 unfold relabel
 change List.lookup x (cs.names.map _)=_
 induction cs.names with
 |nil=>rfl
 | cons p r ih=>
  obtain ⟨n,k⟩:=p;by_cases I:x=n
  .subst I;rw[qB9];simp only [qM0]
   split <;> simp_all
  .have hb:(x == n)=false:=by simpa using I
   have er:List.lookup x ((n,k)::r)=List.lookup x r:=by rw[qM0,hb]
   rw[qB9,er];refine Eq.trans ?_ ih;dsimp only;by_cases hc:(k == NameKind.free&&env.scope.kind == ScopeKind.function&&env.kindOf n == some NameKind.cell)=true
   .rw[qA2 hc,qM0,hb]
   .rw[qA4 hc,qM0,hb]
def gZ: ∀ (names : List (Str × NameKind)) (a3 : List (Str × Addr)), (∀x ∈ names, x.2 = .free -> ∃c, env.cells.lookup x.1 = some c) -> (∀x c, a3.lookup x = some c -> env.cells.lookup x = some c) ->
    ∃ cl, (forIn (m := Sem) names a3 λx __s => if (x.snd == NameKind.free) = true then do
              let __do_lift <- cellOf env x.fst
              pure (ForInStep.yield ((x.fst, __do_lift) :: __s))
            else pure (ForInStep.yield __s)) = pure cl /\ (∀x c, cl.lookup x = some c -> env.cells.lookup x = some c) /\ (∀x, (x, NameKind.free) ∈ names -> ∃c, cl.lookup x = some c) /\ ∀x c, a3.lookup x = some c -> ∃c', cl.lookup x = some c' := by
  intro names
  induction names with
  | nil =>
    intro a3 _ h0;show ⟨a3, by simp only [qV6], h0, λ_ h => absurd h qD8, λ_ c h => ⟨c, h⟩⟩
  | cons p r ih =>
    intro a3 hf h0;obtain ⟨n, k⟩ := p;by_cases hk : k = .free
    · subst hk
      obtain ⟨c, hc⟩ := hf (n, .free) qB8 rfl;obtain ⟨cl, e, h1, h2, h3⟩ := ih ((n, c) :: a3) (λx I => hf x (qB0 _ I)) (λx c' I => by
        rw[qM0]at I
        split at I
        · rename_i hb
          have a4 : x = n := by simpa using hb
          cases I;rw[a4];show hc
        · show h0 x c' I)
      have hn : ∃c', cl.lookup n = some c' := h3 n c Zy;refine ⟨cl, ?_, h1, λx I => ?_, λx c' I => ?_⟩
      · rw [qN0]
        simp only [qT7, qQ2, cellOf, hc];show e
      · rcases qB5.mp I with q|I
        · cases q;show hn
        · show h2 x I
      · by_cases a4 : x = n
        · subst a4;show hn
        · show h3 x c' (by
            have hb : (x == n) = false := by simpa using a4
            rw[qM0, hb];show I)
    · have hb : (k == NameKind.free) = false := by simpa using hk
      obtain ⟨cl, e, h1, h2, h3⟩ := ih a3 (λx I => hf x (qB0 _ I)) h0;refine ⟨cl, ?_, h1, λx I => ?_, h3⟩
      · rw [qN0]
        simp only [hb, qD7, qQ4];show e
      · rcases qB5.mp I with q|I
        · cases q;show absurd rfl hk
        · show h2 x I
structure f8 (sc cs:Scope) (N N':Vq):Prop where
 kind:cs.kind=.function
 ncell:∀x∈cs.names,x.2≠.cell
 loc:∀x∈cs.names,x.2=.local->cs.names.lookup x.1=some .local
 free:∀x∈cs.names,x.2=.free->sc.names.lookup x.1=some .cell\/sc.names.lookup x.1=some .free
 nd:N'.Nodup
 len:N.length<=N'.length
 same:∀i∈List.range N.length,N'[i]?=N[i]?\/∀x∈N'[i]?,cs.names.lookup x=none
 out:∀x∈N'.take N.length,cs.names.lookup x≠some .local
abbrev k6 (X:Cx) (cs:Scope) (cl:List (Str×Addr)) (N':Vq) (ex:List Addr) (s:Shared) (H:Hp):Cx:=
 { X with N:=N',s₀:=s,H₀:=H,env:=compEnvC cs cl s.heap.objs.size X.env,outer:=X.stack,stack:=X.stack,ex:=ex,fn:=λ_=>false,pn:=[],xe:=λ_ _=>False }
def inner (N':Vq)(σ:St):St:=σ++List.replicate (N'.length-σ.length) none
def jC {i:Nat}(h:(inner N' σ)[i]?=some (some v)):σ[i]?=some (some v):=by
 unfold inner at h;by_cases hi:i<σ.length
 .rwa [qE8 hi]at h
 .rw [qH3 ox,qG0]at h
  split at h <;> cases h
def xM {σ:St}{fp:List Addr}(S:f8 X.env.scope cs X.N N') (I:Inv X pins σ H s3) (a3:∀x c,cl.lookup x=some c->X.env.cells.lookup x=some c) (a7:∀x,(x,NameKind.free)∈cs.names->∃c,cl.lookup x=some c) (hf:∀b∈fp,K2 X pins H b) (bt:∀b∈fp,b<s3.heap.objs.size) (kp:∀b o,s3.heap.get? b=some o->s4.heap.get? b=some o) (hn:s4.heap.Ns s3.heap.objs.size m) (ba:s4.os=s3.os) (hg:s4.gens=s3.gens):Inv (k6 X cs cl N' fp s3 H) [] (inner N' σ) H s4:=by
 have a6:∀{c:Addr}{v:Option Value},s3.heap.IsCell c v->s4.heap.IsCell c v:=λ{c v} z=>by obtain ⟨o,e,d⟩:=z;show ⟨o,kp c o e,d⟩
 refine ⟨⟨I.ok.mod,S.kind,I.ok.glob,I.ok.blt,qB2 _,λx y c h1 h2=>I.ok.inj x y c (a3 x c h1) (a3 y c h2),λx hx=>?_,λx c h _=>absurd (show false=true from h) Zz,I.ok.hd,I.ok.frames,.inl rfl,λb hb=>⟨?_,λx c e=>(hf b hb).2.2.2.2.1 x c (a3 x c e)⟩,I.bs,qA5 I.ok.bsz I.sz,λb o e hb=>?_,λb hb bc=>?_,I.stack,I.stkFree⟩,
  ba,by rw[hg];show I.bare,Un.kept kp,⟨m,hn,λi x v e1 e2 e3=>?_⟩,λx c e=>?_,I.hok.fresh (qB2 _),λx c e=>I.freeC x c (a3 x c e),λp hp=>absurd (show p∈([]:JZ) from hp) Zy,I.hok.kept kp,?_⟩
 .have a5:(relabel cs X.env).names.lookup x=some .cell\/(relabel cs X.env).names.lookup x=some .free:=hx;rw[L5]at a5;cases hl:cs.names.lookup x with
  |none=>rw[hl]at a5;rcases a5 with h|h <;> cases h
  | some k=>
   have hm:=qI7 hl;by_cases hk:k=.free
   .subst hk;show a7 x hm
   .exfalso;have hb:(k == NameKind.free)=false:=by simpa using hk
    rw[hl]at a5;simp only [Option.map_some,hb,qV4,qD7,qQ4]at a5;rcases a5 with h|h
    .cases h;show S.ncell _ hm rfl
    .cases h;show hk rfl
 .intro q;have c0:b=s3.heap.objs.size:=q;show absurd (bt b hb) (by rw[c0];show qF1 _)
 .obtain ⟨f0,f1,f2,f3,f4,f5⟩:=hf b hb;rcases f3 with z|z
  .show I.ok.noex b o e z
  .show absurd (qB3 (qB4 (I.ok.bs b o e).1) z) (qF1 _)
 .have b3:b∈frs X.stack:=bc;rcases qB5.mp (I.stkSub b b3) with z|z
  .show (hf b hb).2.1 z
  .show (hf b hb).2.2.1 z
 .have b4:=jC e2;have hi:i<X.N.length:=by rw[<- I.len];show (qA9.mp b4).1
  have a9:N'[i]?=some x:=e1;have a4:Vis (relabel cs X.env) x:=e3;have hv:∃k,cs.names.lookup x=some k:=by
   unfold Vis at a4;rw[L5]at a4;cases hl:cs.names.lookup x with
   |none=>rw[hl]at a4;rcases a4 with h|h|h <;> cases h
   |some k=>show ⟨k,rfl⟩
  obtain ⟨k,hk⟩:=hv;have hN:X.N[i]?=some x:=by
   rcases S.same i (qG1.mpr hi) with q|q
   .rw[<- q];show a9
   .have:=q x (by rw[a9];rfl)
    rw[hk]at this;cases this
  have b5:k≠.local:=λq=>by
   subst q;show S.out x (qG3 (i:=i) (by rw[qH9 hi];show a9)) hk
  have hm:=qI7 hk;have ab:k=.free:=by
   unfold Vis at a4;rw[L5,hk]at a4;by_cases a8:k=.free
   .show a8
   .exfalso;have hb:(k == NameKind.free)=false:=by simpa using a8
    simp only [Option.map_some,hb,qV4,qD7,qQ4]at a4;rcases a4 with h|h|h
    .show b5 (Option.some.inj h)
    .show S.ncell _ hm (Option.some.inj h)
    .show a8 (Option.some.inj h)
  subst ab;obtain ⟨m0,c1,hl0⟩:=I.loc;have b0:Vis X.env.scope x:=by
   rcases S.free _ hm rfl with h|h
   .show .inr (.inl h)
   .show .inr (.inr h)
  obtain ⟨u,r,l⟩:=hl0 i x v hN b4 b0;refine ⟨u,r,.inr ⟨?_,?_⟩⟩
  .change (relabel cs X.env).names.lookup x=some .cell\/(relabel cs X.env).names.lookup x=some .free;rw[L5,hk]
   change some (if _ then _ else _)=_\/some (if _ then _ else _)=_
   split
   .show .inl rfl
   .show .inr rfl
  .obtain ⟨c,hc⟩:=a7 x hm;have bq:=a3 x c hc;rcases l with ⟨q,_⟩|⟨_,c',e,z⟩
   .exfalso;have q':X.env.scope.names.lookup x=some .local:=q;rcases S.free _ hm rfl with h|h <;> (rw[q']at h;cases h)
   .rw [bq]at e;cases e
    show ⟨c,hc,a6 z⟩
 .obtain ⟨v,z⟩:=I.cell x c (a3 x c e);show ⟨v,a6 z⟩
 .unfold inner;rw[qC3,List.length_replicate,I.len]
  have:=S.len
  change _=N'.length;omega
def S1 (n:Nat)(g:TG):Prop:=∀(v:V)(σ:St)(H:Hp)(Q:St->Hp->Prop),g v σ H Q->g v σ H λI H2=>Q I H2/\I.length=σ.length/\∀j,j<n->I[j]?=σ[j]?
def ie (n:Nat)(g:TGs):Prop:=∀(vs:List V)(σ:St)(H:Hp)(Q:St->Hp->Prop),g vs σ H Q->g vs σ H λI H2=>Q I H2/\I.length=σ.length/\∀j,j<n->I[j]?=σ[j]?
def n8 (h:n<=i):S1 n (M8 i):=λv σ H Q q=>⟨q,Zy,λj I=>qB7 ox⟩
def P1:ie n gNil:=λvs σ H Q I=>by obtain ⟨e,q⟩:=I;show ⟨e,q,rfl,λ_ _=>rfl⟩
def u9 (h:n<=i) (hu:ie n u):ie n (qx (M8 i) u):=λvs σ H Q a5=>by
 obtain ⟨v,r,e,q⟩:=a5;refine ⟨v,r,e,?_⟩;have q':=hu r (σ.set i (some v)) H Q q
 change u r (σ.set i (some v)) H _;have e1:∀I:St,(I.length=(σ.set i (some v)).length/\∀j,j<n->I[j]?=(σ.set i (some v))[j]?)=(I.length=σ.length/\∀j,j<n->I[j]?=σ[j]?):=λI=>by
  have:∀j,j<n->(σ.set i (some v))[j]?=σ[j]?:=λj hj=>qB7 ox
  rw[qF2];show propext ⟨λa3=>by obtain ⟨a,b⟩:=a3;show ⟨a,λj hj=>(b j hj).trans (this j hj)⟩,λa4=>by obtain ⟨a,b⟩:=a4;show ⟨a,λj hj=>(b j hj).trans (this j hj).symm⟩⟩
 have e2:(λ(I:St) (H2:Hp)=>Q I H2/\I.length=σ.length/\∀j,j<n->I[j]?=σ[j]?)=λI H2=>Q I H2/\I.length=(σ.set i (some v)).length/\∀j,j<n->I[j]?=(σ.set i (some v))[j]?:=by
  funext I H2;rw[e1]
 rw[e2];show q'
def P0 {K:Frag}(hu:ie n u):S1 n (qw K k u):=λv σ H Q I=>by obtain ⟨a,xs,e,h1,h2,q⟩:=I;show ⟨a,xs,e,h1,h2,hu xs σ H Q q⟩
def PIf (X:Cx) (I:Vz) (t:TT):Prop:=
 ∀ (pins:JZ) (s:Shared) (σ:St) (H:Hp) (Q:Bool->Hp->Prop),Inv X pins σ H s->t σ H Q ->
  wpAny (model X.prog X.w) X.A (forIn I true λc r=>if r=true then do let ok <- isTrue c X.env (eval c X.env);pure (ForInStep.yield ok) else pure (ForInStep.yield r)) (TP X pins σ Q) X.xe s
def tYes:TT:=λ_ H Q=>Q true H
def Ab:PIf X [] tYes:=λ_ _ _ H _ I h=>wpAny_tests_nil ⟨H,I,h⟩
def Aa (h:PT X c t):PIf X [c] t:=λpins s σ H Q I q=>wpAny_tests_one (h pins s σ H Q I q)
def yT (J:It) (D:Addr) (g:TG) (tc:TT) (te:TE) (a4:St) (H1:Hp) (Q:Hp->Prop):Prop:=
 ∃ W:Nat->Nat->Hp->Prop,(∃m,W 0 m (upd H1 D (.lst [])))/\∀i m H2,W i m H2 ->
  (J.stop i H2/\Q H2)\/(J.go i H2/\∀x H3,J.yld i H2 x H3->g x a4 H3 λa3 H4=>tc a3 H4 λb H5=>
   if b=true then te a3 H5 λy H6=>∃ys,H6 D=some (.lst ys)/\ys.length<sizeLine/\∃I,I<m/\W (i+1) I (upd H6 D (.lst (ys ++ [y])))
   else ∃I,I<m/\W (i+1) I H5)
def pB (N':Vq)(I:TI)(g:TG)(tc:TT)(te:TE):TE:=λσ H Q=>I σ H λJ H1=>∀D,H1 D=none->yT J D g tc te (inner N' σ) H1 (Q (.ref D))
def IP (I:∀x c,cl.lookup x=some c->X.env.cells.lookup x=some c) (stk:∀b∈frs X.stack,b∈X.env.locals::X.fs) (a5:∀b∈fp,K2 X pins H3 b) (a6:∀b∈fp,b<s3.heap.objs.size) (hn:∀b∈fp,H' b=none):∀b∈fp,K2 (k6 X cs cl N' fp s3 H3) [] H' b:=λb hb=>by
 obtain ⟨f0,f1,f2,f3,f4,f5⟩:=a5 b hb;refine ⟨hn b hb,qD6 (a6 b hb),λa4=>?_,.inl hb,λx c e=>f4 x c (I x c e),λp hp=>absurd (show p∈([]:JZ) from hp) Zy⟩;have a3:b∈frs X.stack:=a4;rcases qB5.mp (stk b a3) with z|z
 .show f1 z
 .show f2 z
def uO {σ:St}{Q:Hp->Prop}{W:Nat->Nat->Hp->Prop}(hc:X.calm=true) (hg:PG (k6 X cs cl N' fp s3 I) tg g) (hk:S1 X.N.length g) (ht:PIf (k6 X cs cl N' fp s3 I) ifs tc) (he:PE (k6 X cs cl N' fp s3 I) elt te) (b3:∀x c,cl.lookup x=some c->X.env.cells.lookup x=some c) (I3:Inv X pins σ I s3) (I4:Inv (k6 X cs cl N' fp s3 I) [] (inner N' σ) I s4) (T:Turn X.prog X.w X.K tg J fp it tn) (st:tn 0 s4.heap) (a7:∀b∈fp,K2 X pins I b) (c3:∀b∈fp,b<s3.heap.objs.size) (w0:W 0 m0 I) (turn:∀i m H2,W i m H2->(J.stop i H2/\Q H2)\/(J.go i H2/\∀x I,J.yld i H2 x I->g x (inner N' σ) I λba H4=>tc ba H4 λb H5=>
   if b=true then te ba H5 λy H6=>∃ys,H6 D=some (.lst ys)/\ys.length<sizeLine/\∃m',m'<m/\W (i+1) m' (upd H6 D (.lst (ys ++ [y])))
   else ∃m',m'<m/\W (i+1) m' H5)) (hR:∀(H':Hp) (s':Shared),Inv X pins σ H' s'->Q H'->(∃m,s'.heap.Ns s3.heap.objs.size m)->K2 X pins H' s3.heap.objs.size->R (.ok .next) s'):
  codeAny (model X.prog X.w) X.A (.compLoop (.ListComp elt [⟨tg,iter,ifs,0⟩] cs pos) 0 (.ref it) (.ref D) (k6 X cs cl N' fp s3 I).env) R s4:=by
 have a6:∀{H':Hp},(∀b∈fp,H' b=none)->∀b∈fp,K2 (k6 X cs cl N' fp s3 I) [] H' b:=λhn=>IP b3 I3.stkSub a7 c3 hn;have cm:(inner N' σ).length=N'.length:=I4.len;refine codeAny_loop rfl (λn s'=>∃i H',Inv (k6 X cs cl N' fp s3 I) [] (inner N' σ) H' s'/\tn i s'.heap/\(∀b∈fp,H' b=none)/\W i n H') (λn s5 hI=>?_) m0 ⟨0,I,I4,st,λb hb=>(a7 b hb).1,w0⟩;obtain ⟨i,H5,I5,b5,bq,w5⟩:=hI
 change wpAny _ _ ((compTurn (.ListComp elt [⟨tg,iter,ifs,0⟩] cs pos) 0 (.ref it) (.ref D) (k6 X cs cl N' fp s3 I).env).onRaise _) _ _ s5;refine wpAny_noted ?_;rw[compTurn_list];refine qA1 (wpAny_standAt (qA1 ?_));have a4:∀{α:Type}{t:Sem α}{P:α->Shared->Prop}{E':Vv}{s:Shared},wpAny (model X.prog X.w) X.A t P (λ_ _=>False) s->wpAny (model X.prog X.w) X.A t P E' s:=λh=>qS1 h (λ_ _ q=>q) λ_ _ q=>q.elim;rcases turn i n H5 w5 with ⟨stop,q⟩|⟨go,step⟩
 .refine thn (T.done (k6 X cs cl N' fp s3 I) rfl rfl rfl hc i [] s5 _ H5 _ I5 (a6 bq) b5 stop) λr s6 ⟨hr,I6⟩=>?_;subst hr;refine qP9 ?_;have J6:Inv X pins σ H5 s6:=I3.call' (H':=H5) (ch:=fp) I6.os I6.base I6.hok I6.bare λb hb=>by
   obtain ⟨f0,f1,f2,f3,f4,f5⟩:=a7 b hb;show ⟨f3,f1,f4,f5⟩
  obtain ⟨m,hn,_⟩:=I6.loc;show hR H5 s6 J6 q ⟨m,hn⟩ (I3.fpOk (qB2 _) I6.free)
 .refine thn (T.item (k6 X cs cl N' fp s3 I) rfl rfl rfl hc i [] s5 _ H5 _ I5 (a6 bq) b5 go) λr s6 ⟨u,hr,h6⟩=>?_;subst hr;refine qA1 (thn h6 λ_ s7 a9=>?_);obtain ⟨x,H7,I7,r7,y7,a8,c1⟩:=a9;have c0:=I7.pinned (a6 c1) (T.obj _ _ a8);refine qA1 (a4 (thn (hg _ s7 _ H7 x u _ c0 r7 (hk x _ H7 _ (step x H7 y7))) λ_ s8 ab=>?_));obtain ⟨a3,H8,I8,q8,l8,k8⟩:=ab;refine qA1 (a4 (thn (ht _ s8 a3 H8 _ I8 q8) λb s9 b0=>?_));obtain ⟨H9,I9,q9⟩:=b0;have again:∀{s':Shared}{H':Hp},Inv (k6 X cs cl N' fp s3 I) ([]++cL fp s7.heap) a3 H' s'->(∃m',m'<n/\W (i+1) m' H') ->
    ∃m',m'<n/\∃i H',Inv (k6 X cs cl N' fp s3 I) [] (inner N' σ) H' s'/\tn i s'.heap/\(∀b∈fp,H' b=none)/\W i m' H':=λ{s' H'} I' zz69=>by
   obtain ⟨m',hm,w'⟩:=zz69;refine ⟨m',hm,i+1,H',(I'.unpinned).weak (by rw[l8]) (λj v e=>?_),T.keep _ _ _ a8 λb hb o e=>(I'.pin (b,o) (qE3 _ (qE3 _ (V2 hb e)))).1,λb hb=>?_,w'⟩
   .have hj:j<X.N.length:=by rw[<- I3.len];show (qA9.mp (jC e)).1
    rw[k8 j hj];show e
   .obtain ⟨o,e,d⟩:=T.obj _ _ a8 b hb;show (I'.pin (b,o) (qE3 _ (qE3 _ (V2 hb e)))).2.1
  cases b with
  | false=>
   have a5:∃m',m'<n/\W (i+1) m' H9:=q9;show qP9 ⟨rfl,again I9 a5⟩
  | true=>
   have a5:te a3 H9 _:=q9;refine qA1 (qA1 (a4 (thn (he _ s9 a3 H9 _ I9 a5) λv c4 bc=>?_)));obtain ⟨y,c5,cg,c6,ys,hD,hy,bt⟩:=bc;refine qA1 (a4 (thn (jo _ c4 a3 c5 (.ref D) [y] (.ref D) [v] (λ_ H'=>∃m',m'<n/\W (i+1) m' H') cg rfl (.cons c6 .nil) ⟨D,ys,y,rfl,rfl,hD,hy,bt⟩) λ_ ck b4=>?_));obtain ⟨_,cn,cj,_,c2⟩:=b4;show qP9 (qP9 ⟨rfl,again cj c2⟩)
def jL {R:Value->Addr->Result->Shared->Prop}{Q:V->Hp->Prop}(S:f8 X.env.scope cs X.N N') (hc:X.calm=true) (hg:∀cl ex s H,PG (k6 X cs cl N' ex s H) tg g) (hk:S1 X.N.length g) (ht:∀cl ex s H,PIf (k6 X cs cl N' ex s H) ifs tc) (he:∀cl ex s H,PE (k6 X cs cl N' ex s H) elt te) (a4:∀x c,cl.lookup x=some c->X.env.cells.lookup x=some c) (a7:∀x,(x,NameKind.free)∈cs.names->∃c,cl.lookup x=some c) (h:PIE X pins σ tg (λJ H1=>∀D,H1 D=none->yT J D g tc te (inner N' σ) H1 (Q (.ref D))) itv s2) (hR:∀(D C:Addr) (H':Hp) (s':Shared),Inv X pins σ H' s'->Q (.ref D) H'->(∃m,s'.heap.Ns C m)->K2 X pins H' C->R (.ref D) C (.ok .next) s'):
  wpAny (model X.prog X.w) X.A (newList []) (λa8 b5=>wpAny (model X.prog X.w) X.A (newFunctionEnv cs X.env.globals cl [] X.env.qual none .none (some X.env)) (λa6 a9=>
   codeAny (model X.prog X.w) X.A (.compStart (.ListComp elt [⟨tg,iter,ifs,0⟩] cs pos) 0 itv a8 { a6 with scope:=relabel cs X.env }) (R a8 a6.locals) a9) X.xe b5) X.xe s2:=by
 obtain ⟨it,fp,tn,J,H2,e,I2,T,ab,f2,hw⟩:=h;subst e;refine qQ8 (wpAny_newFunctionEnv S.ncell (by intro y hy;simp at hy) (λh1 I a3=>?_) S.kind);dsimp only at I a3 ⊢;have hD:=I2.hok.fresh (qB2 _);obtain ⟨W,⟨m0,w0⟩,turn⟩:=hw s2.heap.objs.size hD;have I3:Inv X pins σ (upd H2 s2.heap.objs.size (.lst [])) { s2 with heap:=s2.heap.push { cls:=.type "list",dict:=none,data:=.seq ([]:JY).toArray } }:=I2.lnew (t':=s2.toks) .nil (qC6 _);have a5:∀b∈fp,b<s2.heap.objs.size:=λb hb=>by
  obtain ⟨o,e,_⟩:=T.obj 0 _ ab b hb;show qB4 e
 have b0:∀b∈fp,K2 X pins (upd H2 s2.heap.objs.size (.lst [])) b:=λb hb=>by
  obtain ⟨f0,r⟩:=f2 b hb;show ⟨by rw[e7 (qD6 (a5 b hb))];show f0,r⟩
 have b4:∀b∈fp,b<(s2.heap.push { cls:=.type "list",dict:=none,data:=.seq ([]:JY).toArray }).objs.size:=λb hb=>by rw[qN6];show qL3 (a5 b hb)
 have kp:∀b o,(s2.heap.push { cls:=.type "list",dict:=none,data:=.seq ([]:JY).toArray }).get? b=some o->h1.get? b=some o:=λb o e=>a3.extBut b o (qD6 (qB4 e)) (qA6 _ e);have I4:=xM (cs:=cs) (cl:=cl) (N':=N') (fp:=fp) (s4:={ s2 with heap:=h1,toks:=s2.toks+([]:List (Str×Value)).length }) S I3 a4 a7 b0 b4 kp I rfl rfl;have b3:tn 0 h1:=T.keep 0 _ _ ab λb hb o e=>kp b o (qA6 _ e);have loop:=uO (R:=R (.ref s2.heap.objs.size) (s2.heap.push { cls:=.type "list",dict:=none,data:=.seq ([]:JY).toArray }).objs.size) (D:=s2.heap.objs.size) (iter:=iter) (pos:=pos) (it:=it) (Q:=Q (.ref s2.heap.objs.size)) hc (hg cl fp _ _) hk (ht cl fp _ _) (he cl fp _ _) a4 I3 I4 T b3 b0 b4 w0 turn λH' s' I' q n f=>hR _ _ H' s' I' q n f;show codeAny_compStart_list loop (T.self _ 0 _ _ _ b3 loop)
def Ad (S:f8 X.env.scope cs X.N N') (hc:X.calm=true) (hi:PI X tg iter wi) (hg:∀cl ex s H,PG (k6 X cs cl N' ex s H) tg g) (hk:S1 X.N.length g) (ht:∀cl ex s H,PIf (k6 X cs cl N' ex s H) ifs tc) (he:∀cl ex s H,PE (k6 X cs cl N' ex s H) elt te) (hs:∀x,foldedSetIterable iter X.env x=pure x:=by intro _;rfl):PE X (.ListComp elt [⟨tg,iter,ifs,0⟩] cs pos) (pB N' wi g tc te):=by
 intro pins s σ H Q I h;obtain ⟨cl,e,h1,h2,_⟩:=gZ (env:=X.env) cs.names [] (λx hx hk=>I.ok.has x.1 (S.free x hx hk)) (λ_ _ z=>nomatch z);have a3:closureFor cs X.env=pure cl:=by
  simp only [closureFor];rw[e];rfl
 rw[eval_ListComp];refine wpAny_comprehension_free (use:=none) rfl hs a3 S.kind S.loc (thn (hi pins s σ H _ I h) λv s1 q1=>thn q1 λa5 s2 q2=>?_);refine jL (R:=λa4 C=>compPost (model X.prog X.w) X.A X.xe none (EP X pins σ Q) a4 C) (Q:=Q) S hc hg hk ht he h1 h2 q2 λD C H' s' I' q n f=>?_;obtain ⟨m,hn⟩:=n;obtain ⟨f0,f1,f2,f3,f4,f5⟩:=f;show ⟨m,hn,λh' sb=>⟨.ref D,H',I'.turned (t':=s'.toks) (λb o hb e=>sb.extBut b o hb e) f0 f1 f3 f4 f5,rfl,q⟩⟩
def zW {X:Cx}{cs:Scope}{N':Vq}{tg iter a3:Expr}{a4:Vz}{wi:TI}{g:TG}{tc:TT}{te:TE}{pos:Pos}{i:Nat}{y:Str}{py a5:Pos}(S:f8 X.env.scope cs X.N N') (hc:X.calm=true) (hi:PI X tg iter wi) (hg:∀cl ex s H,PG (k6 X cs cl N' ex s H) tg g) (hk:S1 X.N.length g) (ht:∀cl ex s H,PIf (k6 X cs cl N' ex s H) a4 tc) (he:∀cl ex s H,PE (k6 X cs cl N' ex s H) a3 te) (hN:X.N.Nodup) (hy:X.N[i]?=some y) (hl:Loc X.env.scope y) (b0:swapsWith (.ListComp a3 [⟨tg,iter,a4,0⟩] cs pos) (some (.Name y py)) a5.line X.env=pure true:=by rfl) (hf:X.fn y=true\/X.env.scope.names.lookup y=some .local:=by first|show .inl rfl|show .inr rfl|assumption) (hs:∀x,foldedSetIterable iter X.env x=pure x:=by intro _;rfl):PS X (.Assign [.Name y py] (.ListComp a3 [⟨tg,iter,a4,0⟩] cs pos) a5) (bv (pB N' wi g tc te) (M8 i)):=by
 intro pins s σ H Q I h;obtain ⟨cl,e,h1,h2,_⟩:=gZ (env:=X.env) cs.names [] (λx hx hk=>I.ok.has x.1 (S.free x hx hk)) (λ_ _ z=>nomatch z);have a6:closureFor cs X.env=pure cl:=by
  simp only [closureFor];rw[e];rfl
 rw[exec_Assign_Name_used _ _ _ _ b0];refine qA1 (wpAny_standAt (qA1 ?_))
 change wpAny _ _ (comprehension (.ListComp a3 [⟨tg,iter,a4,0⟩] cs pos) cs X.env _ (newList []) false (eval iter X.env) (some (assign (.Name y py) X.env))>>=_) _ _ s;refine qA1 (thn (wpAny_comprehension_free (use:=some (assign (.Name y py) X.env)) (Q:=λ_ s'=>SP X pins Q .next s') rfl hs a6 S.kind S.loc (thn (hi pins s σ H _ I h) λv s1 q1=>thn q1 λb5 s2 q2=>?_)) λ_ s' q=>qP9 (qP9 q));refine jL (R:=λab C=>compPost (model X.prog X.w) X.A X.xe (some (assign (.Name y py) X.env)) (λ_ s'=>SP X pins Q .next s') ab C) (Q:=λx H1=>M8 i x σ H1 Q.nx) S hc hg hk ht he h1 h2 q2 λD C H' s' I' q n f=>?_;obtain ⟨m,hn⟩:=n;obtain ⟨f0,f1,f2,f3,f4,f5⟩:=f
 change wpAny _ _ (assign (.Name y py) X.env (.ref D)) _ _ _;refine wpAny_assign_Name (jg (v:=.ref D) (u:=.ref D) I' hN hy hl rfl (λa9 b3 a7=>?_) hf);obtain ⟨a,sb,ha⟩:=a7;have b4:C≠a:=by
  rcases ha with rfl|ha
  .show f1
  .show λq=>f4 _ _ ha q.symm
 refine ⟨m,hn.sameBut sb b4,λh' a8=>?_⟩;show ⟨_,H',b3.turned (t':=a9.toks) (λb o hb e=>a8.extBut b o hb e) f0 f1 f3 f4 f5,q⟩
def Sq.same {K:Frag}(e:Same H H') (h:Sq K H t a xs):Sq K H' t a xs:=by
 unfold Sq at h ⊢
 split
 .rename_i ht;rw[qA2 ht]at h
  rcases h with (h|⟨o,h⟩)|h
  .show .inl (.inl (e _ _ h))
  .show .inl (.inr ⟨o,e _ _ h⟩)
  .show .inr h
 .rename_i ht;rw[qA4 ht]at h
  show e.seq h
def seqAt (K:Frag) (H:Hp) (p:Addr) (R:List V->Prop):Prop:=match H p with
 |some (.tup xs)=>R xs
 |some (.lst xs)=>R xs
 |_=>∃t xs,Sq K H t p xs/\R xs
def ItQ (K:Frag)(t:Bool)(a:Addr):It:=if t=true then Itt K a else Itl K a
def iSq (K:Frag)(I:TE):TI:=λσ H R=>I σ H λx H1=>∃a,x=.ref a/\∃t xs,Sq K H1 t a xs/\R (ItQ K t a) H1
def Ix (hl:PE X l tl):PI X tg l (iSq X.K tl):=by
 intro pins s σ H R I h;refine thn (hl pins s σ H _ I h) λv s1 a4=>?_;obtain ⟨x,H1,I1,r1,q1⟩:=a4;obtain ⟨a,e,t,xs,hq,q⟩:=q1;subst e;cases r1;cases t with
 | true=>
  have a3:SqT X.K H1 a xs:=by unfold Sq at hq;rw[qA2 rfl]at hq;show hq
  obtain ⟨its,rv,p,hz⟩:=I1.tuple a3;refine qS8 (show s1.heap.IsTuple a its.toArray from p) ?_;refine ⟨s1.heap.objs.size,[s1.heap.objs.size],_,Itt X.K a,H1,rfl,I1.kept (t':=s1.toks) λb o e=>qA6 _ e,pk a _,⟨_,qC1 _ rfl,rfl,rfl⟩,λb hb=>?_,q⟩;have e:b=s1.heap.objs.size:=by simpa using hb
  subst e;show I1.fpOk (qB2 _) (I1.hok.fresh (qB2 _))
 | false=>
  have a3:SqL X.K H1 a xs:=by unfold Sq at hq;rw[qA4 qA3]at hq;show hq
  obtain ⟨its,rv,p,hz⟩:=I1.list a3;refine qR9 p.isList ?_;refine ⟨s1.heap.objs.size,[s1.heap.objs.size],_,Itl X.K a,H1,rfl,I1.kept (t':=s1.toks) λb o e=>qA6 _ e,rE a _,⟨_,qC1 _ rfl,rfl,rfl⟩,λb hb=>?_,q⟩;have e:b=s1.heap.objs.size:=by simpa using hb
  subst e;show I1.fpOk (qB2 _) (I1.hok.fresh (qB2 _))
def BT:bootBuiltins "bool" = some (.type "bool"):=Zv
def nh:bootBuiltins "int" = some (.type "int"):=Zv
def W6:bootBuiltins "list" = some (.type "list"):=Zv
def p8:bootBuiltins "tuple" = some (.type "tuple"):=Zv
def ng:bootBuiltins "max" = some (.builtin "max"):=Zv
def HC:bootBuiltins "min" = some (.builtin "min"):=Zv
def tyO:Option HO->Option String
 |some (.lst _)=>some "list"
 |some (.tup _)=>some "tuple"
 |some (.dK _)=>some "dict"
 |_=>none
def tyB (H:Hp):V->Option String
 | .non=>some "NoneType"
 | .bl _=>some "bool"
 | .int _=>some "int"
 | .str _=>some "str"
 | .ref a=>tyO (H a)
 |_=>none
def z7 (A T:String):Option Bool:=
 if A=T then some true else if A = "bool" /\ T = "int" then some true
 else if (A = "NoneType" \/ A = "bool" \/ A = "int" \/ A = "str" \/ A = "list" \/ A = "tuple" \/ A = "dict")/\(T = "bool" \/ T = "int" \/ T = "list" \/ T = "tuple") then some false else none
def Cp {K:Frag}(h:tyB H x=some A):R4 K H x (.type A):=by
 cases x with
 |non=>cases h;show .non
 |bl _=>cases h;show .bl _
 |int _=>cases h;show .int _
 |str _=>cases h;show .str _
 | ref a=>
  have h:tyO (H a)=some A:=h;cases e:H a with
  |none=>rw[e]at h;cases h
  | some o=>
   rw[e]at h;cases o <;> first | (cases h;show .lst e) | (cases h;show .tup e) | (cases h;show .dK e)|cases h
 |_=>cases h
def AZ {K:Frag}(h:z7 A T=some b):PySem.W.kitOne K (.type A) (.type T)=some b:=by
 unfold z7 at h
 split at h
 .rename_i e;subst e;cases h
  unfold PySem.W.kitOne;rw[qA2 Zy]
 .split at h
  .rename_i e;obtain ⟨rfl,rfl⟩:=e;cases h;with_unfolding_all rfl
  .split at h
   .rename_i h1 h2 e
    obtain ⟨e1,e2⟩:=e;cases h;rcases e1 with rfl|rfl|rfl|rfl|rfl|rfl|rfl <;> rcases e2 with rfl|rfl|rfl|rfl <;>
     first|show absurd rfl h1|show absurd ⟨rfl,rfl⟩ h2|with_unfolding_all rfl
   .cases h
def rIsi:List V->Hp->VK->Prop:=λxs H Q=>∃x T,xs = [x,.ty T]/\∃A,tyB H x=some A/\∃b,z7 A T=some b/\Q (.bl b) H
def J1:C8 X (.builtin "isinstance") rIsi:=by
 intro pins s σ H xs us Q I r h;obtain ⟨x,T,rfl,A,ty,b,e,q⟩:=h;obtain ⟨u,w',rfl,r1,r2⟩:=vals2 r;have e2:w'=Value.type T:=r2;subst e2;show ue I r1 (Cp ty) (AZ e) λtk=>⟨.bl b,H,I.tok tk,rfl,q⟩
def FF:z7 "bool" "bool" = some true:=Zz
def FE:z7 "bool" "int" = some true:=Zz
def FC:z7 "int" "bool" = some false:=Zz
def FB:z7 "int" "int" = some true:=Zz
def Fm:z7 "tuple" "tuple" = some true:=Zz
def Fy:z7 "list" "list" = some true:=Zz
def Fv:z7 "NoneType" "int" = some false:=Zz
def Fw:z7 "NoneType" "bool" = some false:=Zz
def Fq:z7 "str" "int" = some false:=Zz
def Fs:z7 "str" "bool" = some false:=Zz
def Fz:z7 "list" "int" = some false:=Zz
def FA:z7 "list" "bool" = some false:=Zz
def Fo:z7 "tuple" "int" = some false:=Zz
def Fp:z7 "tuple" "bool" = some false:=Zz
def aU {n:Nat}{i:Int}(h0:0<=i)(I:i<n):ixN n i=some i.toNat:=by unfold ixN;rw[qA2 h0,qA2 I]
def mem_getD {ms:Vk}{P:Int->Prop}(h:∀x∈ms,P x) (hi:i<ms.length):P (ms.getD i 0):=by
 have:ms.getD i 0=ms[i]:=by simp [hi]
 rw[this];show h _ (qK1 hi)
structure Runs (J:It) (n:Nat) (H1:Hp) (Y:Nat->V->Hp->Hp->Prop):Prop where
 go:∀i H,i<n->Same H1 H->J.go i H
 stop:∀H,Same H1 H->J.stop n H
 yld:∀i H x H',i<n->Same H1 H->J.yld i H x H'->Y i x H H'
def sj {K:Frag}(h:Sq K H1 t a xs) (h':Sq K H1 u b ys):
  Runs (ItZ K [(t,a),(u,b)]) (min xs.length ys.length) H1 λi x H H'=>∃p y z,x=.ref p/\H p=none/\H'=upd H p (.tup [y,z])/\xs[i]?=some y/\ys[i]?=some z:=by
 refine ⟨λi H hi s v I=>?_,λH s=>⟨λv I=>?_,?_⟩,λi H x H' hi s hy=>?_⟩
 .simp only [qB5,qD8,qR8]at I;rcases I with rfl|rfl
  .show ⟨xs,xs[i]'(qB3 hi (qK9 _ _)),Sq.same s h,Zy⟩
  .show ⟨ys,ys[i]'(qB3 hi (qI0 _ _)),Sq.same s h',Zy⟩
 .simp only [qB5,qD8,qR8]at I;rcases I with rfl|rfl
  .show ⟨xs,Sq.same s h⟩
  .show ⟨ys,Sq.same s h'⟩
 .rcases Nat.le_total xs.length ys.length with q|q
  .show ⟨(t,a),Zy,xs,Sq.same s h,ox⟩
  .show ⟨(u,b),Zy,ys,Sq.same s h',ox⟩
 .obtain ⟨p,zs,e1,e2,e3,pr⟩:=hy;cases pr with
  | cons r1 pr=>
   cases pr with
   | cons r2 pr=>
    cases pr;show ⟨p,_,_,e1,e2,e3,r1 xs (Sq.same s h),r2 ys (Sq.same s h')⟩
def si {K:Frag}(h:Sq K H1 t a xs) (h':Sq K H1 u b ys) (I:Sq K H1 w c zs):
  Runs (ItZ K [(t,a),(u,b),(w,c)]) (min xs.length (min ys.length zs.length)) H1 λi x H H'=>∃p y z v,x=.ref p/\H p=none/\H'=upd H p (.tup [y,z,v])/\xs[i]?=some y/\ys[i]?=some z/\zs[i]?=some v:=by
 refine ⟨λi H hi s v hv=>?_,λH s=>⟨λv hv=>?_,?_⟩,λi H x H' hi s hy=>?_⟩
 .simp only [qB5,qD8,qR8]at hv;rcases hv with rfl|rfl|rfl
  .show ⟨xs,xs[i]'(qB3 hi (qK9 _ _)),Sq.same s h,Zy⟩
  .show ⟨ys,ys[i]'(qB3 hi (qA5 (qI0 _ _) (qK9 _ _))),Sq.same s h',Zy⟩
  .show ⟨zs,zs[i]'(qB3 hi (qA5 (qI0 _ _) (qI0 _ _))),Sq.same s I,Zy⟩
 .simp only [qB5,qD8,qR8]at hv;rcases hv with rfl|rfl|rfl
  .show ⟨xs,Sq.same s h⟩
  .show ⟨ys,Sq.same s h'⟩
  .show ⟨zs,Sq.same s I⟩
 .have:min xs.length (min ys.length zs.length)=xs.length\/min xs.length (min ys.length zs.length)=ys.length\/min xs.length (min ys.length zs.length)=zs.length:=ox
  rcases this with q|q|q
  .show ⟨(t,a),Zy,xs,Sq.same s h,ox⟩
  .show ⟨(u,b),Zy,ys,Sq.same s h',ox⟩
  .show ⟨(w,c),Zy,zs,Sq.same s I,ox⟩
 .obtain ⟨p,vs,e1,e2,e3,pr⟩:=hy;cases pr with
  | cons r1 pr=>
   cases pr with
   | cons r2 pr=>
    cases pr with
    | cons r3 pr=>
     cases pr;show ⟨p,_,_,_,e1,e2,e3,r1 xs (Sq.same s h),r2 ys (Sq.same s h'),r3 zs (Sq.same s I)⟩
structure Def (K:Frag) (mg:JV) (x:Str) (st:Stmt) (ps:Vq) (f:Addr) (fd:FuncData):Prop where
 F:Fun K x x st f fd
 m:mg x=some (.ref f)
 b:Binds K fd ps []
def D1 {X:Cx}(K:Frag){es:Vz}{pos:Pos}{k:Nat}{t:TGs}(n:Nat)(hc:X.calm=true)(h:PGs X es t)(hK:X.K=K:=by rfl)(hn:(assignEach es X.env).length=n:=by rfl)(I:(assignEach es X.env).findIdx? (·.1)=none:=by rfl):PG X (.Tuple es k pos) (qw K n t):=by subst hK;show Ez hc h hn I
def CD (to:TE) (I:TE):TE:=λσ H Q=>to σ H λx H1=>∃p,x=.ref p/\(∃xs,H1 p=some (.lst xs))/\I σ H1 λy H2=>match H2 p with
 |some (.lst xs)=>xs.length<sizeLine/\Q .non (upd H2 p (.lst (xs ++ [y])))
 |_=>False
def sR {X:Cx}{o e:Expr}{to te:TE}{apos a3:Pos}(ho:PE X o to) (ha:PE X e te) (a5:attributeBase o "append" X.env (eval o X.env)=eval o X.env:=by rfl) (a8:((backTo a3 (starEach [e] X.env)).all (λx=>!x.1)&&(backToKw a3 (keywordEach [] X.env)).all (λx=>x.1.isSome)
   && decide (([e]:Vz).length+([]:List Keyword).length+(if ([]:List Keyword).isEmpty then 0 else 1)<30))=true:=by rfl) (a4:(apos.endLine == a3.line)=true:=by rfl) (hs:starEach [e] X.env=(false,eval e X.env)::starEach [] X.env:=by rfl):PE X (.Call (.Attribute o "append" apos) [e] [] a3) (CD to te):=by
 intro pins s σ H Q I h;refine wpAny_Call_method_late a5 a8 a4 rfl (thn (ho pins s σ H _ I h) λv s1 a6=>?_);obtain ⟨x,H1,I1,r1,p,ex,⟨xs,e1⟩,q1⟩:=a6;subst ex;obtain ⟨h1,h2⟩:=rC (T := "list") I1 r1 (.inl ⟨rfl,xs,SqL.of e1⟩);refine ⟨"list","list.append",qT2,PySem.F.slot_list_append,PySem.F.type_list_append,h1,h2,?_⟩;have hA:=dH ha pa_nil hs a3 pins s1 σ H1 (λvs H2=>∃y,vs = [y]/\match H2 p with
  |some (.lst xs)=>xs.length<sizeLine/\Q .non (upd H2 p (.lst (xs ++ [y])))
  | _=>False) I1 (by
   have e:(λ(y:V) (H2:Hp)=>match H2 p with
     |some (.lst xs)=>xs.length<sizeLine/\Q .non (upd H2 p (.lst (xs ++ [y])))
     |_=>False)=λ(y:V) (H2:Hp)=>∃y',[y] = [y']/\match H2 p with
     |some (.lst xs)=>xs.length<sizeLine/\Q .non (upd H2 p (.lst (xs ++ [y'])))
     |_=>False:=by
    funext y H2
    show propext ⟨λq=>⟨y,rfl,q⟩,λa7=>by obtain ⟨y',e,q⟩:=a7;cases e;show q⟩
   rw[e]at q1;show q1)
 rw[hs]at hA ⊢;refine Calls.callWith_builtin rfl (Calls.evalArgs_plain ?_);refine thn hA λus s2 a9=>?_;obtain ⟨vs,H2,I2,r2,y,ev,q2⟩:=a9;subst ev;refine jo pins s2 σ H2 (.ref p) [y] v us Q I2 r1 r2 ?_
 split at q2
 .rename_i ys e2;show ⟨p,ys,y,rfl,rfl,e2,q2.1,q2.2⟩
 .show q2.elim
def vV (K:Frag):V->Option Int->Option Int->Hp->VK->Prop:=λx lo hi H Q=>∃p,x=.ref p/\∃xs,SqL K H p xs/\∀l,H l=none->Q (.ref l) (upd H l (.lst (bR xs lo hi)))
def yU (i j:Int):Prop:=0<=j/\(Builtin.Int.intBits i:Int)*j<=2^27
def Bh {ns:Vk}(h:ns[i]?=some z):ns.getD i 0=z:=by rw[qA0,h];rfl
def N4 {ns:Vk}(h:i<ns.length):ns[i]?=some (ns.getD i 0):=by rw[qA0];simp [h]
end L2
namespace TP
open PySem L2
inductive W where
 |non|bl (b:Bool)|int (i:Int)|str (x:Str)|ty (n:String)|tup (ws:List W)|lst (ws:List W)|scr (ws:List W)
 |exc (c:Str) (i:JX)|cls (c:Str)
abbrev Vp:=List W
def XD (F:Hp) (od:Option Addr):Option Int->Prop
 |none=>od=none
 |some i=>∃d,od=some d/\F d=some (.xd [("at",.int i)])
mutual
inductive Rep (K:Frag) (F:Hp):V->W->Prop where
 |non:Rep K F .non .non
 |bl {b:Bool}:Rep K F (.bl b) (.bl b)
 |int {i:Int}:Rep K F (.int i) (.int i)
 |str {x:Str}:Rep K F (.str x) (.str x)
 |ty {n:String}:Rep K F (.ty n) (.ty n)
 |tup {a:Addr}{vs:List V}{ws:Vp}:F a=some (.tup vs)->Reps K F vs ws->Rep K F (.ref a) (.tup ws)
 |lst {a:Addr}{vs:List V}{ws:Vp}:F a=some (.lst vs)->Reps K F vs ws->Rep K F (.ref a) (.lst ws)
 |scr {a:Addr}{vs:List V}{ws:Vp}:SqL K F a vs->Reps K F vs ws->Rep K F (.ref a) (.scr ws)
 |exc {a C:Addr}{o:Obj}{vs:Vj}{c:Str}{i:JX}:F a=some (.ext λh=>h.get? a=some o)->o.cls=.ref C->o.data=.fields vs->PySem.W.nsIn K mainGlobals c=some (some (.ref C))->XD F o.dict i->Rep K F (.ref a) (.exc c i)
 |cls {C:Addr}{c:Str}:PySem.W.nsIn K mainGlobals c=some (some (.ref C))->Rep K F (.ref C) (.cls c)
inductive Reps (K:Frag) (F:Hp):List V->List W->Prop where
 |nil:Reps K F [] []
 |cons {v:V}{w:W}{vs:List V}{ws:Vp}:Rep K F v w->Reps K F vs ws->Reps K F (v::vs) (w::ws)
end
def vB (e:Same F F') (h:SqT K F a xs):SqT K F' a xs:=by
 rcases h with (h|⟨o,h⟩)|h
 .show .inl (.inl (e _ _ h))
 .show .inl (.inr ⟨o,e _ _ h⟩)
 .show .inr h
def XD.same (e:Same F F'):∀{i:JX},XD F od i->XD F' od i:=by
 intro i h;cases i with
 |none=>show h
 |some _=>obtain ⟨d,h1,I⟩:=h;show ⟨d,h1,e _ _ I⟩
def Rep.same (e:Same F F') (r:Rep K F v w):Rep K F' v w:=
 @Rep.rec K F (λv w _=>Rep K F' v w) (λvs ws _=>Reps K F' vs ws) .non .bl .int .str .ty (λh _ r=>.tup (e _ _ h) r) (λh _ r=>.lst (e _ _ h) r) (λh _ r=>.scr (Same.seq e h) r) (λh1 h2 h3 h4 I=>.exc (e _ _ h1) h2 h3 h4 (XD.same e I)) (λh=>.cls h) .nil (λ_ _ a b=>.cons a b) v w r
def Reps.same (e:Same F F') (r:Reps K F vs ws):Reps K F' vs ws:=
 @Reps.rec K F (λ_ _ _=>True) (λvs ws _=>Reps K F' vs ws) trivial trivial trivial trivial trivial (λ_ _ _=>trivial) (λ_ _ _=>trivial) (λ_ _ _=>trivial) (λ_ _ _ _ _=>trivial) (λ_=>trivial) .nil (λh _ _ b=>.cons (Rep.same e h) b) vs ws r
def Reps.ind {P:List V->List W->Prop}(h0:P [] []) (I:∀{v:V}{w:W}{vs:List V}{ws:Vp},Rep K F v w->Reps K F vs ws->P vs ws->P (v::vs) (w::ws)) (r:Reps K F vs ws):P vs ws:=
 @Reps.rec K F (λ_ _ _=>True) (λvs ws _=>P vs ws) trivial trivial trivial trivial trivial (λ_ _ _=>trivial) (λ_ _ _=>trivial) (λ_ _ _=>trivial) (λ_ _ _ _ _=>trivial) (λ_=>trivial) h0 (λh r _ b=>I h r b) vs ws r
def HN (K:Frag) (F:Hp) (v:V):W->Prop
 | .non=>v=.non
 | .bl b=>v=.bl b
 | .int i=>v=.int i
 | .str x=>v=.str x
 | .ty n=>v=.ty n
 | .tup ws=>∃a vs,v=.ref a/\F a=some (.tup vs)/\Reps K F vs ws
 | .lst ws=>∃a vs,v=.ref a/\F a=some (.lst vs)/\Reps K F vs ws
 | .scr ws=>∃a vs,v=.ref a/\SqL K F a vs/\Reps K F vs ws
 | .exc _ _=>True
 | .cls _=>True
def Rep.inv (r:Rep K F v w):HN K F v w:=
 @Rep.rec K F (λv w _=>HN K F v w) (λ_ _ _=>True) rfl rfl rfl rfl rfl (λh r _=>⟨_,_,rfl,h,r⟩) (λh r _=>⟨_,_,rfl,h,r⟩) (λh r _=>⟨_,_,rfl,h,r⟩) (λ_ _ _ _ _=>trivial) (λ_=>trivial) trivial (λ_ _ _ _=>trivial) v w r
def RepsI (K:Frag) (F:Hp) (vs:List V):List W->Prop
 | []=>vs = []
 |w::ws=>∃v us,vs=v::us/\Rep K F v w/\Reps K F us ws
def Reps.length (r:Reps K F vs ws):vs.length=ws.length:=
 Reps.ind (P:=λvs ws=>vs.length=ws.length) rfl (λ_ _ h=>congrArg (·+1) h) r
def Reps.get {i:Nat}(r:Reps K F vs ws):ws[i]?=some w->∃v,vs[i]?=some v/\Rep K F v w:=
 Reps.ind (P:=λvs ws=>∀(i:Nat) (w:W),ws[i]?=some w->∃v,vs[i]?=some v/\Rep K F v w) (λi w e=>by cases e) (λh _ b i w e=>by
  cases i with
  |zero=>cases e;show ⟨_,rfl,h⟩
  |succ i=>show b i w e) r i w
def Reps.get' {i:Nat}(r:Reps K F vs ws):vs[i]?=some v->∃w,ws[i]?=some w/\Rep K F v w:=
 Reps.ind (P:=λvs ws=>∀(i:Nat) (v:V),vs[i]?=some v->∃w,ws[i]?=some w/\Rep K F v w) (λi w e=>by cases e) (λh _ b i w e=>by
  cases i with
  |zero=>cases e;show ⟨_,rfl,h⟩
  |succ i=>show b i w e) r i v
def Reps.append (r:Reps K F vs ws) (s:Reps K F us xs):Reps K F (vs++us) (ws++xs):=
 Reps.ind (P:=λvs ws=>Reps K F (vs++us) (ws++xs)) s (λh _ b=>.cons h b) r
def Reps.take (n:Nat) (r:Reps K F vs ws):Reps K F (vs.take n) (ws.take n):=
 Reps.ind (P:=λvs ws=>∀n,Reps K F (vs.take n) (ws.take n)) (λn=>by simpa using .nil) (λh _ b n=>by
  cases n with
  |zero=>show .nil
  |succ n=>show .cons h (b n)) r n
def Reps.drop (n:Nat) (r:Reps K F vs ws):Reps K F (vs.drop n) (ws.drop n):=
 Reps.ind (P:=λvs ws=>∀n,Reps K F (vs.drop n) (ws.drop n)) (λn=>by simpa using .nil) (λh r b n=>by
  cases n with
  |zero=>show .cons h r
  |succ n=>show b n) r n
def Reps.reverse (r:Reps K F vs ws):Reps K F vs.reverse ws.reverse:=by
 induction r using Reps.rec (motive_1:=λ_ _ _=>True) with
 |nil=>show .nil
 |cons h _ _ I=>rw[qN4,qN4];show Reps.append I (.cons h .nil)
 |_=>trivial
def Reps.set (h:Rep K F v w) (i:Nat) (r:Reps K F vs ws):Reps K F (vs.set i v) (ws.set i w):=
 Reps.ind (P:=λvs ws=>∀i,Reps K F (vs.set i v) (ws.set i w)) (λ_=>.nil) (λq t b i=>by
  cases i with
  |zero=>show .cons h t
  |succ i=>show .cons q (b i)) r i
def Reps.snoc (r:Reps K F vs ws)(h:Rep K F v w):Reps K F (vs ++ [v]) (ws ++ [w]):=r.append (.cons h .nil)
mutual
def noL:W->Bool
 | .lst _=>false
 | .scr _=>false
 | .tup ws=>m8 ws
 |_=>true
def m8:List W->Bool
 | []=>true
 |w::ws=>noL w&&m8 ws
end
def isL:HO->Bool
 | .lst _=>true
 | .dT _=>true
 | .dK _=>true
 | .frz _ (.lst _)=>true
 |_=>false
def join (H0 G:Hp):Hp:=λa=>match H0 a with
 |some o=>if isL o then some o else G a
 |none=>G a
inductive Sl where
 |un|val (w:W)|par (w:W)|own (ws:Vp)|dic (ks:Vw)|dik (ks:Vk)|iop (p:Addr) (ws:Vp)|hz (w:W)
abbrev Rho:=List Sl
def iE (G:Hp):Hp:=λa=>match G a with
 |some o=>if isL o then none else some o
 |none=>none
def cQ (h:Same G G'):Same (iE G) (iE G'):=λa o e=>by
 unfold iE at e ⊢;cases q:G a with
 |none=>rw[q]at e;cases e
 |some u=>rw[q]at e;rw[h a u q];show e
def wF:Same (iE G) G:=λa o e=>by
 unfold iE at e;cases q:G a with
 |none=>rw[q]at e;cases e
 | some u=>
  rw[q]at e;dsimp only at e;cases I:isL u
  .rw[I]at e;show e
  .rw[I]at e;cases e
def SlR (K:Frag) (H0 G H:Hp):Sl->Option V->Prop
 | .un,_=>True
 | .val w,o=>∃v,o=some v/\Rep K G v w
 | .par w,o=>∃v,o=some v/\Rep K (join H0 G) v w
 | .own ws,o=>∃a vs,o=some (.ref a)/\H a=some (.lst vs)/\G a=none/\H0 a=none/\Reps K G vs ws
 | .dic ks,o=>∃(a:Addr) (kvs:List (List Key×V)),o=some (.ref a)/\H a=some (.dT kvs)/\G a=none/\H0 a=none/\kvs.map (·.1)=ks.map λk=>k.map Sum.inl
 | .dik ks,o=>∃(a:Addr) (kvs:List (Key×V)),o=some (.ref a)/\H a=some (.dK kvs)/\G a=none/\H0 a=none/\kvs.map (·.1)=ks.map Sum.inl
 | .iop p ws,o=>o=some (.ref p)/\∃vs,H0 p=some (.lst vs)/\Reps K G vs ws
 | .hz w,o=>∃v,o=some v/\Rep K (join H0 (iE G)) v w
structure PIv (K:Frag) (H0 G:Hp) (ρ:Rho) (σ:St) (H:Hp):Prop where
 g0:∀a o,H0 a=some o->isL o=false->G a=some o
 gl:∀a o,H0 a=some o->isL o=true->G a=none
 gh:Same G H
 hh:Same H0 H
 len:ρ.length=σ.length
 sl:∀(i:Nat) (x:Sl) (o:Option V),ρ[i]?=some x->σ[i]?=some o->SlR K H0 G H x o
 ne:∀(i j:Nat) (ws us:Vp) (a:Addr),i≠j->ρ[i]?=some (.own ws)->ρ[j]?=some (.own us)->σ[i]?=some (some (.ref a))->σ[j]?≠some (some (.ref a))
structure Ext (G H G' H':Hp):Prop where
 gg:Same G G'
 hh:Same H H'
 gh:Same G' H'
 keep:∀a o,H a=some o->isL o=true->G a=none->G' a=none
def Ext.refl (h:Same G H):Ext G H G H:=⟨Same.refl G,Same.refl H,h,λ_ _ _ _ e=>e⟩
def Ext.trans (a:Ext G H G1 H1) (b:Ext G1 H1 G2 H2):Ext G H G2 H2:=
 ⟨a.gg.trans b.gg,a.hh.trans b.hh,b.gh,λx o h l e=>b.keep x o (a.hh x o h) l (a.keep x o h l e)⟩
def z6 (h:Same G G'):Same (join H0 G) (join H0 G'):=λa o e=>by
 unfold join at e ⊢;cases q:H0 a with
 |none=>rw[q]at e;show h a o e
 | some u=>
  rw[q]at e;dsimp only at e ⊢;by_cases I:isL u=true
  .rw[qA2 I]at e ⊢;show e
  .rw[qA4 I]at e ⊢;show h a o e
def PIv.G_join (I:PIv K H0 G ρ σ H):Same G (join H0 G):=λa o e=>by
 unfold join;cases q:H0 a with
 |none=>show e
 | some u=>
  dsimp only;by_cases hl:isL u=true
  .rw[I.gl a u q hl]at e;cases e
  .rw[qA4 hl];show e
def PIv.join_H (I:PIv K H0 G ρ σ H):Same (join H0 G) H:=λa o e=>by
 unfold join at e;cases q:H0 a with
 |none=>rw[q]at e;show I.gh a o e
 | some u=>
  rw[q]at e;dsimp only at e;by_cases hl:isL u=true
  .rw[qA2 hl]at e;cases e;show I.hh a _ q
  .rw[qA4 hl]at e;show I.gh a o e
def PIv.ext (I:PIv K H0 G ρ σ H) (x:Ext G H G' H'):PIv K H0 G' ρ σ H' where
 g0 a o e l:=x.gg a o (I.g0 a o e l)
 gl a o e l:=x.keep a o (I.hh a o e) l (I.gl a o e l)
 gh:=x.gh
 hh:=I.hh.trans x.hh
 len:=I.len
 sl i s o h1 h2:=by
  have:=I.sl i s o h1 h2
  cases s with
  |un=>trivial
  |val w=>obtain ⟨v,e,r⟩:=this;show ⟨v,e,r.same x.gg⟩
  |par w=>obtain ⟨v,e,r⟩:=this;show ⟨v,e,r.same (z6 x.gg)⟩
  | own ws=>
   obtain ⟨a,vs,e,h,g,h0,r⟩:=this;show ⟨a,vs,e,x.hh a _ h,x.keep a _ h rfl g,h0,r.same x.gg⟩
  | dic ks=>
   obtain ⟨a,kvs,e,h,g,h0,r⟩:=this;show ⟨a,kvs,e,x.hh a _ h,x.keep a _ h rfl g,h0,r⟩
  | dik ks=>
   obtain ⟨a,kvs,e,h,g,h0,r⟩:=this;show ⟨a,kvs,e,x.hh a _ h,x.keep a _ h rfl g,h0,r⟩
  | iop p ws=>
   obtain ⟨e,vs,h,r⟩:=this;show ⟨e,vs,h,r.same x.gg⟩
  |hz w=>obtain ⟨v,e,r⟩:=this;show ⟨v,e,r.same (z6 (cQ x.gg))⟩
 ne:=I.ne
def fD (h:join H0 G a=some o) (l:isL o=false):G a=some o:=by
 unfold join at h;cases q:H0 a with
 |none=>rw[q]at h;show h
 | some u=>
  rw[q]at h;dsimp only at h;by_cases I:isL u=true
  .rw[qA2 I]at h;cases h;rw[I]at l;cases l
  .rw[qA4 I]at h;show h
def XD.clean:∀{i:JX},XD (join H0 G) od i->XD G od i
 |none,h=>h
 |some _,⟨d,h1,h2⟩=>⟨d,h1,fD h2 rfl⟩
def Rep.clean (I:PIv K H0 G ρ σ H) (r:Rep K (join H0 G) v w):noL w=true->Rep K G v w:=
 @Rep.rec K (join H0 G) (λv w _=>noL w=true->Rep K G v w) (λvs ws _=>m8 ws=true->Reps K G vs ws) (λ_=>.non) (λ_=>.bl) (λ_=>.int) (λ_=>.str) (λ_=>.ty)
  (λh _ r n=>.tup (fD h rfl) (r n)) (λ_ _ _ n=>by cases n) (λ_ _ _ n=>by cases n) (λh1 h2 h3 h4 h5 _=>.exc (fD h1 rfl) h2 h3 h4 (XD.clean h5)) (λh _=>.cls h) (λ_=>.nil)
  (λ_ _ a b n=>by rw[m8,qG5]at n;show .cons (a n.1) (b n.2)) v w r
def Reps.clean (I:PIv K H0 G ρ σ H) (r:Reps K (join H0 G) vs ws):m8 ws=true->Reps K G vs ws:=
 @Reps.rec K (join H0 G) (λ_ _ _=>True) (λvs ws _=>m8 ws=true->Reps K G vs ws) trivial trivial trivial trivial trivial (λ_ _ _=>trivial) (λ_ _ _=>trivial) (λ_ _ _=>trivial) (λ_ _ _ _ _=>trivial) (λ_=>trivial) (λ_=>.nil)
  (λh _ _ b n=>by rw[m8,qG5]at n;show .cons (Rep.clean I h n.1) (b n.2)) vs ws r
structure XW where
 cls:Str
 at_:Option Int
inductive R (α:Type) where
 |ok (a:α)|ex (e:XW)|stuck
def R.bind {α I:Type}(x:R α) (f:α->R I):R I:=match x with
 | .ok a=>f a
 | .ex e=>.ex e
 | .stuck=>.stuck
instance:Monad R where
 pure:=R.ok
 bind:=R.bind
@[simp] theorem R.ok_bind {α I:Type}(a:α) (f:α->R I):((R.ok a:R α)>>=f)=f a:=rfl
@[simp] theorem R.stuck_bind {α I:Type}(f:α->R I):((R.stuck:R α)>>=f)=.stuck:=rfl
@[simp] theorem R.ex_bind {α I:Type}(e:XW) (f:α->R I):((R.ex e:R α)>>=f)=.ex e:=rfl
@[simp] theorem R.pure_eq (a:α):(pure a:R α)=.ok a:=rfl
inductive Mode where
 |F|V|U|C|B
def Md (K:Frag) (H0 H G' H':Hp) (v:V) (w:W):Mode->Prop
 | .V=>Rep K G' v w
 | .U=>Rep K (join H0 G') v w
 | .F=>match w with
  | .lst ws=>∃a vs,v=.ref a/\H' a=some (.lst vs)/\G' a=none/\H a=none/\Reps K G' vs ws
  |w=>Rep K G' v w
 | .C=>Rep K G' v w\/∃a vs ws,v=.ref a/\w=.lst ws/\H' a=some (.lst vs)/\Reps K G' vs ws
 | .B=>Rep K (join H0 G') v w\/∃a vs ws,v=.ref a/\w=.lst ws/\H' a=some (.lst vs)/\Reps K G' vs ws
abbrev EXT:=XW->Hp->Prop
def Out {α I:Type}(EX:EXT) (G H:Hp) (md:α->I->Hp->Hp->Prop) (r:R α) (Q:I->Hp->Prop):Prop:=match r with
 | .ok w=>∀v G' H',Ext G H G' H'->md w v G' H'->Q v H'
 | .ex e=>∀H',Same H H'->EX e H'
 | .stuck=>False
abbrev mdW (K:Frag)(d:Mode)(H0 H:Hp):W->V->Hp->Hp->Prop:=λw v G' H'=>Md K H0 H G' H' v w d
abbrev mdB:Bool->Bool->Hp->Hp->Prop:=λb c _ _=>c=b
inductive MdA (K:Frag) (d:Mode) (H0 H G' H':Hp):List W->List V->Prop where
 |nil:MdA K d H0 H G' H' [] []
 |cons {w:W}{v:V}{ws:Vp}{vs:List V}:Md K H0 H G' H' v w d->MdA K d H0 H G' H' ws vs->MdA K d H0 H G' H' (w::ws) (v::vs)
def MdAI (K:Frag) (d:Mode) (H0 H G' H':Hp) (vs:List V):List W->Prop
 | []=>vs = []
 |w::ws=>∃v us,vs=v::us/\Md K H0 H G' H' v w d/\MdA K d H0 H G' H' ws us
abbrev mdA (K:Frag)(d:Mode)(H0 H:Hp):List W->List V->Hp->Hp->Prop:=λws vs G' H'=>MdA K d H0 H G' H' ws vs
def tM (K:Frag)(EX:EXT)(d:Mode)(m:Rho->R W):TE:=λσ H Q=>∃H0 G ρ,PIv K H0 G ρ σ H/\Out EX G H (mdW K d H0 H) (m ρ) Q
def tT (K:Frag)(EX:EXT)(m:Rho->R Bool):TT:=λσ H Q=>∃H0 G ρ,PIv K H0 G ρ σ H/\Out EX G H mdB (m ρ) Q
def tA (K:Frag)(EX:EXT)(d:Mode)(m:Rho->R Vp):TA:=λσ H Q=>∃H0 G ρ,PIv K H0 G ρ σ H/\Out EX G H (mdA K d H0 H) (m ρ) Q
def Out.bind {md:α->β->Hp->Hp->Prop}{I:γ->δ->Hp->Hp->Prop}{m:R α}{k:α->R γ}{Q:δ->Hp->Prop}{Q1:β->Hp->Prop}(o:Out EX G H I (m>>=k) Q) (h:∀x G1 H1 w,Ext G H G1 H1->md w x G1 H1->Out EX G1 H1 I (k w) Q->Q1 x H1):Out EX G H md m Q1:=by
 cases m with
 | ok w=>
  intro v G' H' e d;refine h v G' H' w e d ?_;rw[R.ok_bind]at o
  revert o
  cases k w with
  |ok u=>show λo v2 G2 H2 e2 d2=>o v2 G2 H2 (e.trans e2) d2
  |ex x=>show λo H2 s2=>o H2 (e.hh.trans s2)
  |stuck=>show λo=>o
 |ex x=>show o
 |stuck=>show o
def Md.start (s:Same H H1) (h:Md K H0 H1 G2 H2 v w d):Md K H0 H G2 H2 v w d:=by
 cases d with
 | F=>
  cases w with
  |lst ws=>obtain ⟨a,vs,e,h1,I,h3,r⟩:=h;show ⟨a,vs,e,h1,I,s.free h3,r⟩
  |_=>show h
 |_=>show h
def Md.move (x:Ext G1 H1 G2 H2) (h:Md K H0 H G1 H1 v w d):Md K H0 H G2 H2 v w d:=by
 cases d with
 |V=>show Rep.same x.gg h
 |U=>show Rep.same (z6 x.gg) h
 | F=>
  cases w with
  |lst ws=>obtain ⟨a,vs,e,I,h2,h3,r⟩:=h;show ⟨a,vs,e,x.hh _ _ I,x.keep _ _ I rfl h2,h3,r.same x.gg⟩
  |non=>show Rep.same x.gg h
  |bl _=>show Rep.same x.gg h
  |int _=>show Rep.same x.gg h
  |str _=>show Rep.same x.gg h
  |ty _=>show Rep.same x.gg h
  |tup _=>show Rep.same x.gg h
  |scr _=>show Rep.same x.gg h
  |exc _ _=>show Rep.same x.gg h
  |cls _=>show Rep.same x.gg h
 | C=>
  rcases h with h|⟨a,vs,ws,e,e2,I,r⟩
  .show .inl (h.same x.gg)
  .show .inr ⟨a,vs,ws,e,e2,x.hh _ _ I,r.same x.gg⟩
 | B=>
  rcases h with h|⟨a,vs,ws,e,e2,I,r⟩
  .show .inl (h.same (z6 x.gg))
  .show .inr ⟨a,vs,ws,e,e2,x.hh _ _ I,r.same x.gg⟩
def Md.CB (I:PIv K H0 G1 ρ σ H1) (h:Md K H0 H G1 H1 v w .C):Md K H0 H G1 H1 v w .B:=by
 rcases h with h|h
 .show .inl (h.same I.G_join)
 .show .inr h
def sca:W->Bool
 | .tup _=>false
 | .scr _=>false
 | .lst _=>false
 |_=>true
def Md.sca (hs:sca w=true) (r:∀F,Rep K F v w) (d:Mode):Md K H0 H G1 H1 v w d:=by
 cases d with
 |V=>show r _
 |U=>show r _
 |C=>show .inl (r _)
 |B=>show .inl (r _)
 |F=>cases w <;> first|show r _|cases hs
def Md.repB (h:Md K H0 H G1 H1 v w .B)(n:∀us,w≠.lst us):Rep K (join H0 G1) v w:=Or.elim h id λI=>by obtain ⟨_,_,us,_,e,_⟩:=I;show absurd e (n us)
def Md.repC (h:Md K H0 H G1 H1 v w .C)(n:∀us,w≠.lst us):Rep K G1 v w:=Or.elim h id λI=>by obtain ⟨_,_,us,_,e,_⟩:=I;show absurd e (n us)
def Md.lstB (I:PIv K H0 G1 ρ σ H1) (h:Md K H0 H G1 H1 v (.lst ws) .B):∃a vs,v=.ref a/\H1 a=some (.lst vs)/\Reps K (join H0 G1) vs ws:=by
 rcases h with h|⟨a,vs,us,e,e2,h1,r⟩
 .obtain ⟨a,vs,e,s,r⟩:=h.inv;show ⟨a,vs,e,I.join_H _ _ s,r⟩
 .rw[W.lst.inj e2];show ⟨a,vs,e,h1,r.same I.G_join⟩
def Md.scrB (I:PIv K H0 G1 ρ σ H1) (h:Md K H0 H G1 H1 v (.scr ws) .B):∃a vs,v=.ref a/\SqL K H1 a vs/\Reps K (join H0 G1) vs ws:=by
 obtain ⟨a,vs,e,s,r⟩:=(h.repB λ_=>W.noConfusion).inv;show ⟨a,vs,e,Same.seq I.join_H s,r⟩
def Md.lstC (I:PIv K H0 G1 ρ σ H1) (h:Md K H0 H G1 H1 v (.lst ws) .C):∃a vs,v=.ref a/\H1 a=some (.lst vs)/\Reps K G1 vs ws:=by
 rcases h with h|⟨a,vs,us,e,e2,h1,r⟩
 .obtain ⟨a,vs,e,s,r⟩:=h.inv;show ⟨a,vs,e,I.gh _ _ s,r⟩
 .rw[W.lst.inj e2];show ⟨a,vs,e,h1,r⟩
def Md.tupB (I:PIv K H0 G1 ρ σ H1) (h:Md K H0 H G1 H1 v (.tup ws) .B):∃a vs,v=.ref a/\H1 a=some (.tup vs)/\Reps K (join H0 G1) vs ws:=by
 obtain ⟨a,vs,e,s,r⟩:=(h.repB λ_=>W.noConfusion).inv;show ⟨a,vs,e,I.join_H _ _ s,r⟩
def Md.tupC (I:PIv K H0 G1 ρ σ H1) (h:Md K H0 H G1 H1 v (.tup ws) .C):∃a vs,v=.ref a/\H1 a=some (.tup vs)/\Reps K G1 vs ws:=by
 obtain ⟨a,vs,e,s,r⟩:=(h.repC λ_=>W.noConfusion).inv;show ⟨a,vs,e,I.gh _ _ s,r⟩
def Md.intB (h:Md K H0 H G1 H1 v (.int i) .B):v=.int i:=(h.repB λ_=>W.noConfusion).inv
def Md.blB (h:Md K H0 H G1 H1 v (.bl i) .B):v=.bl i:=(h.repB λ_=>W.noConfusion).inv
def Md.strB (h:Md K H0 H G1 H1 v (.str i) .B):v=.str i:=(h.repB λ_=>W.noConfusion).inv
def Md.nonB (h:Md K H0 H G1 H1 v .non .B):v=.non:=(h.repB λ_=>W.noConfusion).inv
def Md.tyB (h:Md K H0 H G1 H1 v (.ty n) .B):v=.ty n:=(h.repB λ_=>W.noConfusion).inv
def Az (h:tM K EX .V m σ H Q):tM K EX .F m σ H Q:=by
 obtain ⟨H0,G,ρ,I,o⟩:=h;refine ⟨H0,G,ρ,I,?_⟩
 revert o
 cases m ρ with
 |ex e=>show id
 |stuck=>show id
 | ok w=>
  intro o v G' H' e d;cases w with
  | lst ws=>
   obtain ⟨a,vs,rfl,h1,h2,h3,r⟩:=d;have s1:Same G' (upd G' a (.lst vs)):=λb o q=>by rw[e7 (f7 q h2)];show q
   refine o _ (upd G' a (.lst vs)) H' ⟨e.gg.trans s1,e.hh,λb o q=>?_,λb o q l g=>?_⟩ (.lst j9 (r.same s1))
   .by_cases hb:b=a
    .subst hb;rw[j9]at q;cases q;show h1
    .rw[e7 hb]at q;show e.gh b o q
   .rw[e7 (f7 q h3)];show e.keep b o q l g
  |_=>show o v G' H' e d
def Aw (h:tM K EX .U m σ H Q):tM K EX .V m σ H Q:=by
 obtain ⟨H0,G,ρ,I,o⟩:=h;refine ⟨H0,G,ρ,I,?_⟩
 revert o
 cases m ρ with
 |ex e=>show id
 |stuck=>show id
 |ok w=>show λo v G' H' e d=>o v G' H' e (Rep.same (I.ext e).G_join d)
def Ax (h:tM K EX .C m σ H Q):tM K EX .V m σ H Q:=by
 obtain ⟨H0,G,ρ,I,o⟩:=h;refine ⟨H0,G,ρ,I,?_⟩
 revert o
 cases m ρ with
 |ex e=>show id
 |stuck=>show id
 |ok w=>show λo v G' H' e d=>o v G' H' e (.inl d)
def Ay (h:tM K EX .B m σ H Q):tM K EX .U m σ H Q:=by
 obtain ⟨H0,G,ρ,I,o⟩:=h;refine ⟨H0,G,ρ,I,?_⟩
 revert o
 cases m ρ with
 |ex e=>show id
 |stuck=>show id
 |ok w=>show λo v G' H' e d=>o v G' H' e (.inl d)
def AB (h:tM K EX .B m σ H Q):tM K EX .C m σ H Q:=by
 obtain ⟨H0,G,ρ,I,o⟩:=h;refine ⟨H0,G,ρ,I,?_⟩
 revert o
 cases m ρ with
 |ex e=>show id
 |stuck=>show id
 |ok w=>show λo v G' H' e d=>o v G' H' e (Md.CB (H:=H) (I.ext e) d)
def AA (h:tM K EX .C m σ H Q):tM K EX .F m σ H Q:=by
 obtain ⟨H0,G,ρ,I,o⟩:=h;refine ⟨H0,G,ρ,I,?_⟩
 revert o
 cases m ρ with
 |ex e=>show id
 |stuck=>show id
 | ok w=>
  intro o v G' H' e d;cases w with
  |lst ws=>obtain ⟨a,vs,rfl,h1,h2,h3,r⟩:=d;show o _ G' H' e (.inr ⟨a,vs,ws,rfl,rfl,h1,r⟩)
  |_=>show o v G' H' e (.inl d)
def chk (w:W):R W:=if noL w then .ok w else .stuck
def pZ (n:noL w=true) (r:Rep K G1 v w):Md K H0 H G1 H1 v w .F:=by
 cases w with
 |lst ws=>cases n
 |_=>show r
def lV (hd:d=.F\/d=.V) (h:tM K EX d (λρ=>m ρ>>=chk) σ H Q):tM K EX .U m σ H Q:=by
 obtain ⟨H0,G,ρ,I,o⟩:=h;refine ⟨H0,G,ρ,I,Out.bind o λx G1 H1 w e m1 o1=>?_⟩;unfold chk at o1;by_cases n:noL w=true
 .rw [qA2 n]at o1
  have r:=Rep.clean (I.ext e) m1 n;refine o1 x G1 H1 (Ext.refl e.gh) ?_;rcases hd with rfl|rfl
  .show pZ n r
  .show r
 .rw[qA4 n]at o1;show o1.elim
def bi (hs:sca w=true) (r:∀F,Rep K F v w) (h:tM K EX d (λ_=>.ok w) σ H Q):tC v σ H Q:=by
 obtain ⟨H0,G,ρ,I,o⟩:=h;show o v G H (Ext.refl I.gh) (Md.sca hs r d)
def b7 (d:Mode) (i:Nat):Rho->R W:=λρ=>match ρ[i]? with
 |some (.val w)=>(match d with | .F=>chk w|_=>.ok w)
 |some (.par w)=>(match d with | .F=>chk w | .V=>chk w | .C=>chk w|_=>.ok w)
 |some (.own ws)=>(match d with | .C=>.ok (.lst ws) | .B=>.ok (.lst ws)|_=>.stuck)
 |some (.iop _ ws)=>(match d with | .B=>.ok (.lst ws) | .U=>.ok (.lst ws)|_=>.stuck)
 |some (.hz w)=>(match d with | .B=>.ok w | .U=>.ok w|_=>.stuck)
 |_=>.stuck
def Out.chk {v:V}{md:W->α->Hp->Hp->Prop}(o:Out EX G H md (chk w) Q):noL w=true/\Out EX G H md (.ok w) Q:=by
 unfold TP.chk at o;by_cases n:noL w=true
 .rw[qA2 n]at o;show ⟨n,o⟩
 .rw[qA4 n]at o;show o.elim
def qI (h:tM K EX d (b7 d i) σ H Q):aq i σ H Q:=by
 obtain ⟨H0,G,ρ,I,o⟩:=h;unfold b7 at o;cases e:ρ[i]? with
 |none=>rw[e]at o;show o.elim
 | some s=>
  rw[e]at o;have hi:i<σ.length:=by rw[<- I.len];show (qA9.mp e).1
  have es:σ[i]?=some σ[i]:=Zy;have r:=I.sl i s _ e es;cases s with
  |un=>show o.elim
  | val w=>
   obtain ⟨v,ev,r⟩:=r;refine ⟨v,by rw[es,ev],?_⟩;cases d with
   |F=>obtain ⟨n,o⟩:=Out.chk (v:=v) o;show o v G H (Ext.refl I.gh) (pZ n r)
   |V=>show o v G H (Ext.refl I.gh) r
   |U=>show o v G H (Ext.refl I.gh) (r.same I.G_join)
   |C=>show o v G H (Ext.refl I.gh) (.inl r)
   |B=>show o v G H (Ext.refl I.gh) (.inl (r.same I.G_join))
  | par w=>
   obtain ⟨v,ev,r⟩:=r;refine ⟨v,by rw[es,ev],?_⟩;cases d with
   |F=>obtain ⟨n,o⟩:=Out.chk (v:=v) o;show o v G H (Ext.refl I.gh) (pZ n (Rep.clean I r n))
   |V=>obtain ⟨n,o⟩:=Out.chk (v:=v) o;show o v G H (Ext.refl I.gh) (Rep.clean I r n)
   |U=>show o v G H (Ext.refl I.gh) r
   |C=>obtain ⟨n,o⟩:=Out.chk (v:=v) o;show o v G H (Ext.refl I.gh) (.inl (Rep.clean I r n))
   |B=>show o v G H (Ext.refl I.gh) (.inl r)
  | own ws=>
   obtain ⟨a,vs,ev,ha,hg,h0,r⟩:=r;refine ⟨.ref a,by rw[es,ev],?_⟩;cases d with
   |F=>show o.elim
   |V=>show o.elim
   |U=>show o.elim
   |C=>show o _ G H (Ext.refl I.gh) (.inr ⟨a,vs,ws,rfl,rfl,ha,r⟩)
   |B=>show o _ G H (Ext.refl I.gh) (.inr ⟨a,vs,ws,rfl,rfl,ha,r⟩)
  |dic ks=>show o.elim
  |dik ks=>show o.elim
  | hz w=>
   obtain ⟨v,ev,r⟩:=r;refine ⟨v,by rw[es,ev],?_⟩;have rj:=r.same (z6 (H0:=H0) (wF (G:=G)));cases d with
   |F=>show o.elim
   |V=>show o.elim
   |C=>show o.elim
   |U=>show o v G H (Ext.refl I.gh) rj
   |B=>show o v G H (Ext.refl I.gh) (.inl rj)
  | iop p ws=>
   obtain ⟨ev,vs,h0,r⟩:=r;refine ⟨.ref p,by rw[es,ev],?_⟩;have rj:Rep K (join H0 G) (.ref p) (.lst ws):=by
    refine .lst (vs:=vs) ?_ (r.same I.G_join);unfold join;rw[h0];rfl
   cases d with
   |F=>show o.elim
   |V=>show o.elim
   |U=>show o _ G H (Ext.refl I.gh) rj
   |C=>show o.elim
   |B=>show o _ G H (Ext.refl I.gh) (.inl rj)
def Op2 (K:Frag) (b d:Mode) (r:R2) (f:W->W->R W):Prop:=∀(EX:EXT) (H0 Hs G H:Hp) (ρ:Rho) (σ:St) (I Hb:Hp) (x y:V) (u v:W) (Q:VK),PIv K H0 G ρ σ H->Same Hs H->Md K H0 I G H x u b->Md K H0 Hb G H y v b ->
 Out EX G H (mdW K d H0 Hs) (f u v) Q->r x y H Q
def jb (hr:Op2 K b d r f) (h:tM K EX d (λρ=>ma ρ>>=λx=>mb ρ>>=λy=>f x y) σ H Q):tOp r (tM K EX b ma) (tM K EX b mb) σ H Q:=by
 obtain ⟨H0,G,ρ,I,o⟩:=h;refine ⟨H0,G,ρ,I,Out.bind o λx G1 H1 u e1 m1 o1=>⟨H0,G1,ρ,I.ext e1,Out.bind o1 λy G2 H2 v e2 m2 o2=>?_⟩⟩;show hr EX H0 H G2 H2 ρ σ H H1 x y u v Q ((I.ext e1).ext e2) (e1.hh.trans e2.hh) (m1.move e2) m2 o2
def Op1 (K:Frag) (b d:Mode) (r:V->Hp->VK->Prop) (f:W->R W):Prop:=∀(EX:EXT) (H0 Hs G H:Hp) (ρ:Rho) (σ:St) (I:Hp) (x:V) (u:W) (Q:VK),PIv K H0 G ρ σ H->Same Hs H->Md K H0 I G H x u b ->
 Out EX G H (mdW K d H0 Hs) (f u) Q->r x H Q
def c_un (hr:Op1 K b d r f) (h:tM K EX d (λρ=>ma ρ>>=λx=>f x) σ H Q):tUn r (tM K EX b ma) σ H Q:=by
 obtain ⟨H0,G,ρ,I,o⟩:=h;show ⟨H0,G,ρ,I,Out.bind o λx G1 H1 u e1 m1 o1=>hr EX H0 H G1 H1 ρ σ H x u Q (I.ext e1) e1.hh m1 o1⟩
def fI (C:Int->Int->Prop) [∀i j,Decidable (C i j)] (g:Int->Int->W):W->W->R W
 | .int i,.int j=>if C i j then .ok (g i j) else .stuck
 |_,_=>.stuck
def fI0 (g:Int->Int->W):W->W->R W
 | .int i,.int j=>.ok (g i j)
 |_,_=>.stuck
def n6 [∀i j,Decidable (C i j)](hs:∀i j,sca (g i j)=true) (hg:∀i j F,Rep K F (gv i j) (g i j)):Op2 K .B d (rI C gv) (fI C g):=by
 intro EX H0 Hs G H ρ σ Ha Hb x y u v Q I s mx my o;cases u <;> first|show o.elim|skip
 all_goals (cases v <;> first|show o.elim|skip)
 rename_i i j
 have o':Out EX G H (mdW K d H0 Hs) (if C i j then R.ok (g i j) else .stuck) Q:=o;by_cases c:C i j
 .rw [qA2 c]at o'
  show ⟨i,j,mx.intB,my.intB,c,o' _ G H (Ext.refl I.gh) (Md.sca (hs i j) (hg i j) d)⟩
 .rw[qA4 c]at o';show o'.elim
def dL (hs:∀i j,sca (g i j)=true) (hg:∀i j F,Rep K F (gv i j) (g i j)):Op2 K .B d (rI0 gv) (fI0 g):=by
 intro EX H0 Hs G H ρ σ Ha Hb x y u v Q I s mx my o;cases u <;> first|show o.elim|skip
 all_goals (cases v <;> first|show o.elim|skip)
 rename_i i j
 show ⟨i,j,mx.intB,my.intB,o _ G H (Ext.refl I.gh) (Md.sca (hs i j) (hg i j) d)⟩
def fU (g:Int->W):W->R W
 | .int i=>.ok (g i)
 |_=>.stuck
def X9 (hs:∀i,sca (g i)=true) (hg:∀i F,Rep K F (gv i) (g i)):Op1 K .B d (rU gv) (fU g):=by
 intro EX H0 Hs G H ρ σ Ha x u Q I s mx o;cases u <;> first|show o.elim|skip
 rename_i i
 show ⟨i,mx.intB,o _ G H (Ext.refl I.gh) (Md.sca (hs i) (hg i) d)⟩
def isN:W->Bool
 | .non=>true
 |_=>false
def bP (neg:Bool):W->W->R W
 |u,.non=>.ok (.bl (if neg then !isN u else isN u))
 |_,_=>.stuck
def uf (hb:b=.B\/b=.U\/b=.V\/b=.C) (h:Md K H0 Hs G1 H1 v w b):decide (v=.non)=isN w:=by
 have key:∀F,Rep K F v w->decide (v=.non)=isN w:=λF r=>by
  cases r <;> first|rfl | (apply qQ1;intro z;cases z)
 rcases hb with rfl|rfl|rfl|rfl
 .rcases h with h|⟨a,vs,ws,rfl,rfl,_⟩
  .show key _ h
  .apply qQ1;intro z;cases z
 .show key _ h
 .show key _ h
 .rcases h with h|⟨a,vs,ws,rfl,rfl,_⟩
  .show key _ h
  .apply qQ1;intro z;cases z
def lQ:Op2 K .B d (λx y H Q=>y=.non/\Q (.bl (decide (x=.non))) H) (bP false):=by
 intro EX H0 Hs G H ρ σ Ha Hb x y u v Q I s mx my o;cases v <;> first|show o.elim|skip
 refine ⟨my.nonB,?_⟩;rw[uf (.inl rfl) mx];show o _ G H (Ext.refl I.gh) (Md.sca rfl (λ_=>.bl) d)
def iC:Op2 K .B d (λx y H Q=>y=.non/\Q (.bl (!decide (x=.non))) H) (bP true):=by
 intro EX H0 Hs G H ρ σ Ha Hb x y u v Q I s mx my o;cases v <;> first|show o.elim|skip
 refine ⟨my.nonB,?_⟩;rw[uf (.inl rfl) mx];show o _ G H (Ext.refl I.gh) (Md.sca rfl (λ_=>.bl) d)
def toB:W->R Bool
 | .bl b=>.ok b
 |_=>.stuck
def hJ (h:tT K EX (λρ=>ma ρ>>=toB) σ H Q):px (tM K EX .B ma) σ H Q:=by
 obtain ⟨H0,G,ρ,I,o⟩:=h;refine ⟨H0,G,ρ,I,Out.bind o λx G1 H1 u e1 m1 o1=>?_⟩;cases u <;> first|show o1.elim|skip
 rename_i b
 show ⟨b,m1.blB,o1 b G1 H1 (Ext.refl e1.gh) rfl⟩
def c_tB (h:tT K EX (λρ=>ma ρ>>=toB) σ H Q):tB (tM K EX .B ma) σ H Q:=hJ h
def rAnd (a b:R Bool):R Bool:=a>>=λc=>if c then b else .ok false
def rOr (a b:R Bool):R Bool:=a>>=λc=>if c then .ok true else b
def pH (a:R Bool):R Bool:=a>>=λc=>.ok (!c)
def Ju (h:tT K EX (λρ=>rAnd (ma ρ) (mb ρ)) σ H Q):CF (tT K EX ma) (tT K EX mb) σ H Q:=by
 obtain ⟨H0,G,ρ,I,o⟩:=h;refine ⟨H0,G,ρ,I,Out.bind o λx G1 H1 u e1 m1 o1=>?_⟩;cases m1;cases x with
 |true=>show ⟨H0,G1,ρ,I.ext e1,o1⟩
 |false=>show o1 false G1 H1 (Ext.refl e1.gh) rfl
def c_or (h:tT K EX (λρ=>rOr (ma ρ) (mb ρ)) σ H Q):tOr (tT K EX ma) (tT K EX mb) σ H Q:=by
 obtain ⟨H0,G,ρ,I,o⟩:=h;refine ⟨H0,G,ρ,I,Out.bind o λx G1 H1 u e1 m1 o1=>?_⟩;cases m1;cases x with
 |true=>show o1 true G1 H1 (Ext.refl e1.gh) rfl
 |false=>show ⟨H0,G1,ρ,I.ext e1,o1⟩
def Jf (h:tT K EX (λρ=>pH (ma ρ)) σ H Q):Cu (tT K EX ma) σ H Q:=by
 obtain ⟨H0,G,ρ,I,o⟩:=h;refine ⟨H0,G,ρ,I,Out.bind o λx G1 H1 u e1 m1 o1=>?_⟩;cases m1;show o1 _ G1 H1 (Ext.refl e1.gh) rfl
def dF (a b:R W):R W:=a>>=λx=>toB x>>=λc=>if c then b else .ok (.bl false)
def ll (a b:R W):R W:=a>>=λx=>toB x>>=λc=>if c then .ok (.bl true) else b
def pG (a:R W):R W:=a>>=λx=>toB x>>=λc=>.ok (.bl (!c))
def HA (h:tM K EX d (λρ=>dF (ma ρ) (mb ρ)) σ H Q):yd (tM K EX .B ma) (tM K EX d mb) σ H Q:=by
 obtain ⟨H0,G,ρ,I,o⟩:=h;refine ⟨H0,G,ρ,I,Out.bind o λx G1 H1 u e1 m1 o1=>?_⟩;cases u <;> first|show o1.elim|skip
 rename_i b
 refine ⟨b,m1.blB,?_⟩;cases b with
 | true=>
  rw[qA2 rfl];refine ⟨H0,G1,ρ,I.ext e1,?_⟩;have o2:Out EX G1 H1 (mdW K d H0 H) (mb ρ) Q:=o1
  revert o2
  cases mb ρ with
  |ok w=>show λo2 v G2 H2 e2 m2=>o2 v G2 H2 e2 (m2.start e1.hh)
  |ex _=>show id
  |stuck=>show id
 | false=>
  rw[qA4 qA3];show o1 _ G1 H1 (Ext.refl e1.gh) (Md.sca rfl (λ_=>.bl) d)
def Out.restart {Q:VK}(s:Same H H1) (o:Out EX G1 H1 (mdW K d H0 H) r Q):Out EX G1 H1 (mdW K d H0 H1) r Q:=by
 revert o
 cases r with
 |ok w=>show λo v G2 H2 e2 I=>o v G2 H2 e2 (I.start s)
 |ex _=>show id
 |stuck=>show id
def c_if (h:tM K EX d (λρ=>mc ρ>>=λc=>if c then ma ρ else mb ρ) σ H Q):tIf (tT K EX mc) (tM K EX d ma) (tM K EX d mb) σ H Q:=by
 obtain ⟨H0,G,ρ,I,o⟩:=h;refine ⟨H0,G,ρ,I,Out.bind o λx G1 H1 u e1 m1 o1=>?_⟩;cases m1;cases x with
 |true=>show ⟨H0,G1,ρ,I.ext e1,Out.restart e1.hh o1⟩
 |false=>show ⟨H0,G1,ρ,I.ext e1,Out.restart e1.hh o1⟩
def BQ (hr:Op2 K b .B r f) (a3:Op2 K b d r' f') (h:tM K EX d (λρ=>ma ρ>>=λx=>mb ρ>>=λy=>f x y>>=λz=>toB z>>=λc=>if c then mc ρ>>=λu=>f' y u else .ok (.bl false)) σ H Q):
  (λσ H Q=>tM K EX b ma σ H λx H1=>tM K EX b mb σ H1 λy H2=>r x y H2 λz H3=>∃k,z=.bl k/\if k=true then tM K EX b mc σ H3 λu H4=>r' y u H4 Q else Q (.bl false) H3) σ H Q:=by
 obtain ⟨H0,G,ρ,I,o⟩:=h;refine ⟨H0,G,ρ,I,Out.bind o λx G1 H1 u e1 m1 o1=>⟨H0,G1,ρ,I.ext e1,Out.bind o1 λy G2 H2 v e2 m2 o2=>?_⟩⟩;have I2:=(I.ext e1).ext e2;refine hr EX H0 H G2 H2 ρ σ H H1 x y u v _ I2 (e1.hh.trans e2.hh) (m1.move e2) m2 (Out.bind o2 λz G3 H3 wz e3 m3 o3=>?_);cases wz <;> first|show o3.elim|skip
 rename_i k
 refine ⟨k,m3.blB,?_⟩;cases k with
 | true=>
  rw[qA2 rfl];refine ⟨H0,G3,ρ,I2.ext e3,Out.bind (k:=λu=>f' v u) o3 λt G4 H4 wt e4 m4 o4=>?_⟩;show a3 EX H0 H G4 H4 ρ σ H1 H3 y t v wt Q ((I2.ext e3).ext e4) (((e1.hh.trans e2.hh).trans e3.hh).trans e4.hh) ((m2.move e3).move e4) m4 o4
 | false=>
  rw[qA4 qA3];show o3 _ G3 H3 (Ext.refl e3.gh) (Md.sca rfl (λ_=>.bl) d)
def Jg (h:tA K EX d (λ_=>.ok []) σ H QA):tNil σ H QA:=by
 obtain ⟨H0,G,ρ,I,o⟩:=h;show o [] G H (Ext.refl I.gh) .nil
def Hv (h:tA K EX d (λρ=>ma ρ>>=λx=>mr ρ>>=λxs=>.ok (x::xs)) σ H QA):jV (tM K EX d ma) (tA K EX d mr) σ H QA:=by
 obtain ⟨H0,G,ρ,I,o⟩:=h;refine ⟨H0,G,ρ,I,Out.bind o λx G1 H1 u e1 m1 o1=>⟨H0,G1,ρ,I.ext e1,Out.bind o1 λxs G2 H2 us e2 m2 o2=>?_⟩⟩;refine o2 (x::xs) G2 H2 (Ext.refl e2.gh) (.cons (m1.move e2) ?_);have go:∀{ws:Vp}{vs:List V},MdA K d H0 H1 G2 H2 ws vs->MdA K d H0 H G2 H2 ws vs:=λ{ws vs} q=>by
  induction q with
  |nil=>show .nil
  |cons a _ ih=>show .cons (a.start e1.hh) ih
 show go m2
def MdA.reps (h:MdA K .V H0 H G1 H1 ws vs):Reps K G1 vs ws:=
 @MdA.rec K .V H0 H G1 H1 (λws vs _=>Reps K G1 vs ws) .nil (λh _ b=>.cons h b) ws vs h
def MdA.repsU (h:MdA K .U H0 H G1 H1 ws vs):Reps K (join H0 G1) vs ws:=
 @MdA.rec K .U H0 H G1 H1 (λws vs _=>Reps K (join H0 G1) vs ws) .nil (λh _ b=>.cons h b) ws vs h
def As (hG:Same G H) (I:H p=none):Ext G H G (upd H p o):=
 ⟨Same.refl G,λb u q=>by rw[e7 (f7 q I)];show q,λb u q=>by rw[e7 (f7 (hG b u q) I)];show hG b u q,λ_ _ _ _ e=>e⟩
def fw (hG:Same G H) (I:H p=none):Ext G H (upd G p o) (upd H p o):=by
 have gp:G p=none:=hG.free I;refine ⟨λb u q=>by rw[e7 (f7 q gp)];show q,λb u q=>by rw[e7 (f7 q I)];show q,λb u q=>?_,λb u q l g=>?_⟩
 .by_cases hb:b=p
  .subst hb;rw[j9]at q ⊢;show q
  .rw[e7 hb]at q ⊢;show hG b u q
 .rw[e7 (f7 q I)];show g
def Out.newL {Q:VK}(I:PIv K H0 G ρ σ H) (s:Same Hs H) (r:Reps K G vs ws) (hp:H p=none) (o:Out EX G H (mdW K .F H0 Hs) (.ok (.lst ws)) Q):Q (.ref p) (upd H p (.lst vs)):=
 o _ G _ (As I.gh hp) ⟨p,vs,rfl,j9,I.gh.free hp,s.free hp,r⟩
def Out.newTF {Q:VK}(I:PIv K H0 G ρ σ H) (r:Reps K G vs ws) (hp:H p=none) (o:Out EX G H (mdW K .F H0 Hs) (.ok (.tup ws)) Q):Q (.ref p) (upd H p (.tup vs)):=
 o _ (upd G p (.tup vs)) _ (fw I.gh hp) (.tup j9 (r.same λb u q=>by rw[e7 (f7 q (I.gh.free hp))];show q))
def lim (n:Nat)(w:W):R W:=if n<=1000 then .ok w else .stuck
def Out.lim {md:W->α->Hp->Hp->Prop}(o:Out EX G H md (lim n w) Q):n<=1000/\Out EX G H md (.ok w) Q:=by
 unfold TP.lim at o;by_cases n:n<=1000
 .rw[qA2 n]at o;show ⟨n,o⟩
 .rw[qA4 n]at o;show o.elim
def W4 (h:n<=1000):n<=sizeLine:=qA5 h Zz
def Ja (h:tM K EX .F (λρ=>ma ρ>>=λws=>lim ws.length (.tup ws)) σ H Q):vA (tA K EX .V ma) σ H Q:=by
 obtain ⟨H0,G,ρ,I,o⟩:=h;refine ⟨H0,G,ρ,I,Out.bind o λxs G1 H1 ws e1 m1 o1=>?_⟩;obtain ⟨hl,o2⟩:=Out.lim o1;have r:=MdA.reps m1;show ⟨by rw[r.length];show W4 hl,λp hp=>Out.newTF (I.ext e1) r hp o2⟩
def Ji (h:tM K EX .F (λρ=>ma ρ>>=λws=>lim ws.length (.lst ws)) σ H Q):Cv (tA K EX .V ma) σ H Q:=by
 obtain ⟨H0,G,ρ,I,o⟩:=h;refine ⟨H0,G,ρ,I,Out.bind o λxs G1 H1 ws e1 m1 o1=>?_⟩;obtain ⟨hl,o2⟩:=Out.lim o1;have r:=MdA.reps m1;show ⟨by rw[r.length];show W4 hl,λp hp=>Out.newL (I.ext e1) e1.hh r hp o2⟩
def mH (h:H0 p=none):join H0 (upd G p o)=upd (join H0 G) p o:=by
 funext b
 by_cases hb:b=p
 .subst hb;unfold join;rw[h];dsimp only;rw[j9,j9]
 .rw [e7 hb];unfold join;cases H0 b with
  |none=>dsimp only;rw[e7 hb]
  |some u=>dsimp only;rw[e7 hb]
def Hj (h:tM K EX .U (λρ=>ma ρ>>=λws=>lim ws.length (.tup ws)) σ H Q):vA (tA K EX .U ma) σ H Q:=by
 obtain ⟨H0,G,ρ,I,o⟩:=h;refine ⟨H0,G,ρ,I,Out.bind o λxs G1 H1 ws e1 m1 o1=>?_⟩;obtain ⟨hl,o2⟩:=Out.lim o1;have r:=MdA.repsU m1;have I1:=I.ext e1;refine ⟨by rw[r.length];show W4 hl,λp hp=>o2 _ (upd G1 p (.tup xs)) _ (fw I1.gh hp) ?_⟩
 change Rep K (join H0 (upd G1 p (.tup xs))) _ _;rw[mH (I1.hh.free hp)];show .tup j9 (r.same λb u q=>by rw[e7 (f7 (I1.join_H b u q) hp)];show q)
inductive Fl where
 |nx (ρ:Rho)|rt (w:W)|bk (ρ:Rho)|ct (ρ:Rho)
abbrev VJ:=W->Rho->Option Rho
abbrev VZ:=Rho->R Bool
abbrev VQ:=Rho->R Vp
abbrev Vg:=Rho->R Fl
abbrev Vo:=Rho->R W
def OutS (K:Frag) (EX:EXT) (d:Mode) (H0 G:Hp) (r:R Fl) (D:Ends):Prop:=match r with
 | .ok (.nx ρ)=>∀G' I H',Same G G'->PIv K H0 G' ρ I H'->D.nx I H'
 | .ok (.bk ρ)=>∀G' I H',Same G G'->PIv K H0 G' ρ I H'->D.bk I H'
 | .ok (.ct ρ)=>∀G' I H',Same G G'->PIv K H0 G' ρ I H'->D.ct I H'
 | .ok (.rt w)=>∀v G' H',Same G G'->Same G' H'->Same H0 H'->(∀a o,H0 a=some o->isL o=true->G' a=none)->Md K H0 H0 G' H' v w d->D.rt v H'
 | .ex e=>∀H',Same H0 H'->EX e H'
 | .stuck=>False
def tSt (K:Frag)(EX:EXT)(d:Mode)(m:Vg):TS:=λD σ H=>∃H0 G ρ,PIv K H0 G ρ σ H/\OutS K EX d H0 G (m ρ) D
def OutS.move (s:Same G G1) (o:OutS K EX d H0 G r D):OutS K EX d H0 G1 r D:=by
 cases r with
 |stuck=>show o
 |ex e=>show o
 | ok f=>
  cases f with
  |nx a3=>show λG' I H' s' I'=>o G' I H' (s.trans s') I'
  |bk a3=>show λG' I H' s' I'=>o G' I H' (s.trans s') I'
  |ct a3=>show λG' I H' s' I'=>o G' I H' (s.trans s') I'
  |rt w=>show λv G' H' s0 s1 s2 c md=>o v G' H' (s.trans s0) s1 s2 c md
def OutS.bind {md:α->β->Hp->Hp->Prop}(I:PIv K H0 G ρ σ H) (o:OutS K EX d H0 G (m>>=k) D) (h:∀x G1 H1 w,Ext G H G1 H1->md w x G1 H1->OutS K EX d H0 G1 (k w) D->Q1 x H1):Out EX G H md m Q1:=by
 cases m with
 |ok w=>show λv G' H' e q=>h v G' H' w e q (OutS.move e.gg o)
 |ex e=>show λH' s=>o H' (I.hh.trans s)
 |stuck=>show o
def d4 (m n:Vg):Vg:=λρ=>m ρ>>=λf=>match f with
 | .nx I=>n I
 | .rt w=>.ok (.rt w)
 | .bk I=>.ok (.bk I)
 | .ct I=>.ok (.ct I)
def Ho (h:tSt K EX d (λρ=>.ok (.nx ρ)) D σ H):tNext D σ H:=by
 obtain ⟨H0,G,ρ,I,o⟩:=h;show o G σ H (Same.refl G) I
def Jd (h:tSt K EX d (d4 m n) D σ H):Cs (tSt K EX d m) (tSt K EX d n) D σ H:=by
 obtain ⟨H0,G,ρ,I,o⟩:=h;refine ⟨H0,G,ρ,I,?_⟩;unfold d4 at o
 revert o
 cases m ρ with
 |stuck=>show id
 |ex e=>show id
 | ok f=>
  cases f with
  |nx a3=>show λo G' a4 H' s' I'=>⟨H0,G',a3,I',OutS.move s' o⟩
  |_=>show id
def Hu (h:tSt K EX d (λρ=>.ok (.ct ρ)) D σ H):tCont D σ H:=by
 obtain ⟨H0,G,ρ,I,o⟩:=h;show o G σ H (Same.refl G) I
def BO (h:tSt K EX d (λ_=>.stuck) D σ H):tNever D σ H:=by
 obtain ⟨H0,G,ρ,I,o⟩:=h;show o
def yK (h:tSt K EX d (λρ=>m ρ>>=λw=>.ok (.rt w)) D σ H):pz (tM K EX d m) D σ H:=by
 obtain ⟨H0,G,ρ,I,o⟩:=h;refine ⟨H0,G,ρ,I,OutS.bind I o λx G1 H1 w e1 m1 o1=>?_⟩;have I1:=I.ext e1;show o1 x G1 H1 (Same.refl _) e1.gh I1.hh I1.gl (m1.start I.hh)
def v5 (d:Mode) (i:Nat):Vg:=λρ=>match ρ[i]? with
 |some (.own ws)=>.ok (.rt (.lst ws))
 |_=>b7 d i ρ>>=λw=>.ok (.rt w)
def xO (hd:d=.F\/d=.V) (h:tSt K EX d (v5 d i) D σ H):pz (aq i) D σ H:=by
 obtain ⟨H0,G,ρ,I,o⟩:=h;unfold v5 at o;by_cases ho:∃ws,ρ[i]?=some (.own ws)
 .obtain ⟨ws,e⟩:=ho;rw[e]at o;have hi:i<σ.length:=by rw[<- I.len];show (qA9.mp e).1
  have es:σ[i]?=some σ[i]:=Zy;obtain ⟨a,vs,ev,ha,hg,h0,r⟩:=I.sl i _ _ e es;refine ⟨.ref a,by rw[es,ev],?_⟩;rcases hd with rfl|rfl
  .show o _ G H (Same.refl _) I.gh I.hh I.gl ⟨a,vs,rfl,ha,hg,h0,r⟩
  .have s1:Same G (upd G a (.lst vs)):=λb o q=>by rw[e7 (f7 q hg)];show q
   refine o _ (upd G a (.lst vs)) H s1 (λb o q=>?_) I.hh (λb u q l=>?_) (.lst j9 (r.same s1))
   .by_cases hb:b=a
    .subst hb;rw[j9]at q;cases q;show ha
    .rw[e7 hb]at q;show I.gh b o q
   .rw[e7 (f7 q h0)];show I.gl b u q l
 .have o':OutS K EX d H0 G (b7 d i ρ>>=λw=>.ok (.rt w)) D:=by
   revert o
   split
   .rename_i ws e;show absurd ⟨ws,e⟩ ho
   .show id
  have c:pz (tM K EX d (b7 d i)) D σ H:=yK (m:=b7 d i) ⟨H0,G,ρ,I,o'⟩;show qI c
def PIv.setV (I:PIv K H0 G ρ σ H) (r:Rep K G v w):PIv K H0 G (ρ.set i (.val w)) (σ.set i (some v)) H where
 g0:=I.g0
 gl:=I.gl
 gh:=I.gh
 hh:=I.hh
 len:=by rw[qF2,qF2];show I.len
 sl j x o h1 h2:=by
  by_cases hj:i=j
  .subst hj;rw[qD0]at h1 h2;simp only [qQ2]at h1 h2
   split at h1 <;> split at h2 <;> simp only [qF9,reduceCtorEq]at h1 h2
   subst h1;subst h2;show ⟨v,rfl,r⟩
  .rw[qB7 hj]at h1 h2;show I.sl j x o h1 h2
 ne a b ws us c hab h1 h2 h3 h4:=by
  have na:i≠a:=by
   rintro rfl;rw[qD0]at h1;simp only [qQ2]at h1
   split at h1 <;> simp at h1
  have nb:i≠b:=by
   rintro rfl;rw[qD0]at h2;simp only [qQ2]at h2
   split at h2 <;> simp at h2
  rw[qB7 na]at h1 h3;rw[qB7 nb]at h2 h4;show I.ne a b ws us c hab h1 h2 h3 h4
def PIv.setU (I:PIv K H0 G ρ σ H) (r:Rep K (join H0 G) v w):PIv K H0 G (ρ.set i (.par w)) (σ.set i (some v)) H where
 g0:=I.g0
 gl:=I.gl
 gh:=I.gh
 hh:=I.hh
 len:=by rw[qF2,qF2];show I.len
 sl j x o h1 h2:=by
  by_cases hj:i=j
  .subst hj;rw[qD0]at h1 h2;simp only [qQ2]at h1 h2
   split at h1 <;> split at h2 <;> simp only [qF9,reduceCtorEq]at h1 h2
   subst h1;subst h2;show ⟨v,rfl,r⟩
  .rw[qB7 hj]at h1 h2;show I.sl j x o h1 h2
 ne a b ws us c hab h1 h2 h3 h4:=by
  have na:i≠a:=by
   rintro rfl;rw[qD0]at h1;simp only [qQ2]at h1
   split at h1 <;> simp at h1
  have nb:i≠b:=by
   rintro rfl;rw[qD0]at h2;simp only [qQ2]at h2
   split at h2 <;> simp at h2
  rw[qB7 na]at h1 h3;rw[qB7 nb]at h2 h4;show I.ne a b ws us c hab h1 h2 h3 h4
def PIv.setO (I:PIv K H0 G ρ σ H) (ha:H a=some (.lst vs)) (hg:G a=none) (h0:H0 a=none) (r:Reps K G vs ws) (nw:∀(j:Nat) (us:Vp),ρ[j]?=some (Sl.own us)->σ[j]?≠some (some (V.ref a))):PIv K H0 G (ρ.set i (.own ws)) (σ.set i (some (.ref a))) H where
 g0:=I.g0
 gl:=I.gl
 gh:=I.gh
 hh:=I.hh
 len:=by rw[qF2,qF2];show I.len
 sl j x o h1 h2:=by
  by_cases hj:i=j
  .subst hj;rw[qD0]at h1 h2;simp only [qQ2]at h1 h2
   split at h1 <;> split at h2 <;> simp only [qF9,reduceCtorEq]at h1 h2
   subst h1;subst h2;show ⟨a,vs,rfl,ha,hg,h0,r⟩
  .rw[qB7 hj]at h1 h2;show I.sl j x o h1 h2
 ne p q ws' us c hab h1 h2 h3 h4:=by
  by_cases hp:i=p
  .subst hp;rw[qB7 hab]at h2 h4;rw[qD0]at h3;simp only [qQ2]at h3
   split at h3 <;> simp only [qF9,reduceCtorEq,V.ref.injEq]at h3
   subst h3;show nw q us h2 h4
  .rw [qB7 hp]at h1 h3
   by_cases hq:i=q
   .subst hq;rw[qD0]at h4;simp only [qQ2]at h4
    split at h4 <;> simp only [qF9,reduceCtorEq,V.ref.injEq]at h4
    subst h4;show nw p ws' h1 h3
   .rw [qB7 hq]at h2 h4
    show I.ne p q ws' us c hab h1 h2 h3 h4
def O0:W->Sl
 | .lst ws=>.own ws
 |w=>.val w
def Hk (h:tSt K EX d (λρ=>m ρ>>=λw=>.ok (.nx (ρ.set i (.val w)))) D σ H):bv (tM K EX .V m) (M8 i) D σ H:=by
 obtain ⟨H0,G,ρ,I,o⟩:=h;show ⟨H0,G,ρ,I,OutS.bind I o λx G1 H1 w e1 m1 o1=>o1 G1 _ H1 (Same.refl _) ((I.ext e1).setV m1)⟩
def Hl (h:tSt K EX d (λρ=>m ρ>>=λw=>.ok (.nx (ρ.set i (.par w)))) D σ H):bv (tM K EX .U m) (M8 i) D σ H:=by
 obtain ⟨H0,G,ρ,I,o⟩:=h;show ⟨H0,G,ρ,I,OutS.bind I o λx G1 H1 w e1 m1 o1=>o1 G1 _ H1 (Same.refl _) ((I.ext e1).setU m1)⟩
def uU (h:tSt K EX d (λρ=>m ρ>>=λw=>.ok (.nx (ρ.set i (O0 w)))) D σ H):bv (tM K EX .F m) (M8 i) D σ H:=by
 obtain ⟨H0,G,ρ,I,o⟩:=h;refine ⟨H0,G,ρ,I,OutS.bind I o λx G1 H1 w e1 m1 o1=>?_⟩;have I1:=I.ext e1;cases w with
 | lst ws=>
  obtain ⟨a,vs,rfl,h1,h2,h3,r⟩:=m1;refine o1 G1 _ H1 (Same.refl _) (I1.setO h1 h2 (I.hh.free h3) r λj us q z=>?_);obtain ⟨b,a3,eb,hb,_⟩:=I.sl j _ _ q z;cases eb;rw[h3]at hb;cases hb
 |non=>show o1 G1 _ H1 (Same.refl _) (I1.setV m1)
 |bl _=>show o1 G1 _ H1 (Same.refl _) (I1.setV m1)
 |int _=>show o1 G1 _ H1 (Same.refl _) (I1.setV m1)
 |str _=>show o1 G1 _ H1 (Same.refl _) (I1.setV m1)
 |ty _=>show o1 G1 _ H1 (Same.refl _) (I1.setV m1)
 |tup _=>show o1 G1 _ H1 (Same.refl _) (I1.setV m1)
 |scr _=>show o1 G1 _ H1 (Same.refl _) (I1.setV m1)
 |exc _ _=>show o1 G1 _ H1 (Same.refl _) (I1.setV m1)
 |cls _=>show o1 G1 _ H1 (Same.refl _) (I1.setV m1)
instance:DecidableEq Mode:=λa b=>by cases a <;> cases b <;> first|show isTrue rfl|show isFalse (by intro h;cases h)
def Gt (K:Frag) (e:Mode) (g:TG) (mg:VJ):Prop:=∀(H0 Hs G:Hp) (ρ:Rho) (σ:St) (H:Hp) (v:V) (w:W) (I:Rho) (Q:St->Hp->Prop),PIv K H0 G ρ σ H->Md K H0 Hs G H v w e->mg w ρ=some I ->
 (∀a3,PIv K H0 G I a3 H->Q a3 H)->g v σ H Q
def Gts (K:Frag) (e:Mode) (g:TGs) (mg:List W->Rho->Option Rho):Prop:=∀(H0 G:Hp) (ρ:Rho) (σ:St) (H:Hp) (vs:List V) (ws:Vp) (I:Rho) (Q:St->Hp->Prop),PIv K H0 G ρ σ H->Reps K (if e=.V then G else join H0 G) vs ws->mg ws ρ=some I ->
 (∀a3,PIv K H0 G I a3 H->Q a3 H)->g vs σ H Q
def gN (e:Mode)(i:Nat):VJ:=λw ρ=>some (ρ.set i (if e=.V then .val w else .par w))
def i6:Gt K .U (M8 i) (gN .U i):=λH0 Hs G ρ σ H v w a3 Q I m e h=>by
 cases e;show h _ (I.setU m)
def gsNil:List W->Rho->Option Rho
 | [],ρ=>some ρ
 |_,_=>none
def o6 (f:VJ) (g:List W->Rho->Option Rho):List W->Rho->Option Rho
 |w::ws,ρ=>(f w ρ).bind (g ws)
 | [],_=>none
def D2:Gts K e gNil gsNil:=λH0 G ρ σ H vs ws a3 Q I r e h=>by
 cases r with
 |nil=>cases e;show ⟨rfl,h _ I⟩
 |cons _ _=>cases e
def l4 (he:e=.V\/e=.U) (h1:Gt K e t f) (h2:Gts K e u g):Gts K e (qx t u) (o6 f g):=λH0 G ρ σ H vs ws a5 Q I r q h=>by
 cases r with
 |nil=>cases q
 | cons a b=>
  unfold o6 at q;obtain ⟨a3,q1,q2⟩:=Option.bind_eq_some_iff.mp q;refine ⟨_,_,rfl,h1 H0 H G ρ σ H _ _ a3 _ I ?_ q1 λa4 I1=>h2 H0 G a3 a4 H _ _ a5 Q I1 b q2 h⟩;rcases he with rfl|rfl
  .show a
  .show a
def gT (n:Nat) (g:List W->Rho->Option Rho):W->Rho->Option Rho
 | .tup ws,ρ=>if ws.length=n then g ws ρ else none
 |_,_=>none
def J4 (he:e=.V\/e=.U) (h:Gts K e u g):Gt K e (qw K n u) (gT n g):=λH0 Hs G ρ σ H v w a3 Q I m q k=>by
 cases w <;> first|cases q|skip
 rename_i ws
 have q':(if ws.length=n then g ws ρ else none)=some a3:=q;by_cases hn:ws.length=n
 .rw [qA2 hn]at q'
  rcases he with rfl|rfl
  .obtain ⟨a,vs,e,s,r⟩:=Rep.inv m;show ⟨a,vs,e,SqT.of (I.gh _ _ s),by rw[r.length];show hn,h H0 G ρ σ H _ ws a3 Q I (by rw[qA2 rfl];show r) q' k⟩
  .obtain ⟨a,vs,e,s,r⟩:=Rep.inv m;show ⟨a,vs,e,SqT.of (I.join_H _ _ s),by rw[r.length];show hn,h H0 G ρ σ H _ ws a3 Q I (by rw[qA4 (by intro z;cases z)];show r) q' k⟩
 .rw[qA4 hn]at q';cases q'
def toR {α:Type}:Option α->R α
 |some a=>.ok a
 |none=>.stuck
def PIv.own_upd (I:PIv K H0 G ρ σ H) (e:ρ[i]?=some (.own ws)) (es:σ[i]?=some (some (.ref a))) (r:Reps K G vs' ws'):PIv K H0 G (ρ.set i (.own ws')) σ (upd H a (.lst vs')):=by
 obtain ⟨a',vs,ev,ha,hg,h0,_⟩:=I.sl i _ _ e es;cases ev;refine ⟨I.g0,I.gl,λb o q=>by rw[e7 (f7 q hg)];show I.gh b o q,λb o q=>by rw[e7 (f7 q h0)];show I.hh b o q,by rw[qF2];show I.len,λj x o h1 h2=>?_,λp q a9 us c a8 h1 h2 h3 h4=>?_⟩
 .by_cases hj:i=j
  .subst hj;rw[qD0]at h1;simp only [qQ2]at h1
   split at h1 <;> simp only [qF9,reduceCtorEq]at h1
   subst h1;rw[es]at h2;cases h2;show ⟨a,vs',rfl,j9,hg,h0,r⟩
  .rw [qB7 hj]at h1
   have:=I.sl j x o h1 h2
   cases x with
   | own us=>
    obtain ⟨b,a3,eb,hb,a6,a4,rb⟩:=this;subst eb;have a5:b≠a:=by
     rintro rfl;show I.ne i j ws us b hj e h1 es h2
    show ⟨b,a3,rfl,by rw[e7 a5];show hb,a6,a4,rb⟩
   | dic ks=>
    obtain ⟨b,a3,eb,hb,a6,a4,rb⟩:=this;have a5:b≠a:=by
     rintro rfl;rw[ha]at hb;cases hb
    show ⟨b,a3,eb,by rw[e7 a5];show hb,a6,a4,rb⟩
   | dik ks=>
    obtain ⟨b,a3,eb,hb,a6,a4,rb⟩:=this;have a5:b≠a:=by
     rintro rfl;rw[ha]at hb;cases hb
    show ⟨b,a3,eb,by rw[e7 a5];show hb,a6,a4,rb⟩
   |un=>show this
   |val _=>show this
   |par _=>show this
   |iop _ _=>show this
   |hz _=>show this
 .have key:∀{k:Nat}{us:Vp},(ρ.set i (.own ws'))[k]?=some (.own us)->∃a3,ρ[k]?=some (.own a3):=λ{k us} hk=>by
   by_cases a7:i=k
   .subst a7;show ⟨ws,e⟩
   .rw[qB7 a7]at hk;show ⟨us,hk⟩
  obtain ⟨w1,k1⟩:=key h1;obtain ⟨w2,k2⟩:=key h2;show I.ne p q w1 w2 c a8 k1 k2 h3 h4
def PIv.own_at {i:Nat}(I:PIv K H0 G ρ σ H) (e:ρ[i]?=some (.own ws)):∃a vs,σ[i]?=some (some (.ref a))/\H a=some (.lst vs)/\G a=none/\H0 a=none/\Reps K G vs ws:=by
 have hi:i<σ.length:=by rw[<- I.len];show (qA9.mp e).1
 have es:σ[i]?=some σ[i]:=Zy;obtain ⟨a,vs,ev,r⟩:=I.sl i _ _ e es;show ⟨a,vs,by rw[es,ev],r⟩
def Q7 (i:Nat) (m:Vo):Vg:=λρ=>match ρ[i]? with
 |some (.own ws)=>m ρ>>=λw=>if ws.length<1000 then .ok (.nx (ρ.set i (.own (ws ++ [w])))) else .stuck
 |_=>.stuck
def Jt (h:tSt K EX d (Q7 i m) D σ H):pA (CD (aq i) (tM K EX .V m)) D σ H:=by
 obtain ⟨H0,G,ρ,I,o⟩:=h;unfold Q7 at o
 split at o
 .rename_i ws e
  obtain ⟨a,vs,es,ha,hg,h0,r⟩:=I.own_at e;refine ⟨.ref a,es,a,rfl,⟨vs,ha⟩,H0,G,ρ,I,OutS.bind I o λx G1 H1 w e1 m1 o1=>?_⟩;by_cases hl:ws.length<1000
  .rw [qA2 hl]at o1
   have h1:=e1.hh a _ ha;dsimp only;rw[h1];dsimp only;have hlen:vs.length=ws.length:=r.length;show ⟨qB3 (by omega:vs.length<1000) Zz,o1 G1 σ _ (Same.refl _) ((I.ext e1).own_upd e es ((r.same e1.gg).snoc m1))⟩
  .rw[qA4 hl]at o1;show o1.elim
 .show o.elim
def mn (i:Nat) (I me:Vo):Vg:=λρ=>match ρ[i]? with
 | some (.own ws)=>me ρ>>=λw=>I ρ>>=λk=>(match k with
  | .int k=>(match ixN ws.length k with
   |some j=>.ok (.nx (ρ.set i (.own (ws.set j w))))
   |none=>.stuck)
  |_=>.stuck)
 |_=>.stuck
def Jc (h:tSt K EX d (mn i mk me) D σ H):bv (tM K EX .V me) (gSub (aq i) (tM K EX .B mk) rSetL) D σ H:=by
 obtain ⟨H0,G,ρ,I,o⟩:=h;unfold mn at o
 split at o
 .rename_i ws e
  obtain ⟨a,vs,es,ha,hg,h0,r⟩:=I.own_at e;refine ⟨H0,G,ρ,I,OutS.bind I o λx G1 H1 w e1 m1 o1=>⟨.ref a,es,H0,G1,ρ,I.ext e1,OutS.bind (I.ext e1) o1 λy G2 H2 k e2 m2 o2=>?_⟩⟩;cases k <;> first|show o2.elim|skip
  rename_i k
  dsimp only at o2;cases q:ixN ws.length k with
  |none=>rw[q]at o2;show o2.elim
  | some j=>
   rw[q]at o2;refine ⟨a,vs,k,j,rfl,m2.intB,e2.hh _ _ (e1.hh _ _ ha),by rw[r.length];show q,?_⟩;show o2 G2 σ _ (Same.refl _) (((I.ext e1).ext e2).own_upd e es (Reps.set (Rep.same e2.gg m1) j ((r.same e1.gg).same e2.gg)))
 .show o.elim
def iJ (i:Nat) (f:Int->Int->Int) (m:Vo):Vg:=λρ=>b7 .B i ρ>>=λx=>m ρ>>=λy=>match x,y with
 | .int a,.int b=>.ok (.nx (ρ.set i (.val (.int (f a b)))))
 |_,_=>.stuck
def Jq (h:tSt K EX d (iJ i f m) D σ H):CC i (tM K EX .B m) (ipI f) D σ H:=by
 obtain ⟨H0,G,ρ,I,o⟩:=h;unfold iJ at o;have c:tM K EX .B (b7 .B i) σ H (λx H1=>∃G1 w,Ext G H G1 H1/\Md K H0 H G1 H1 x w .B/\OutS K EX d H0 G1 (m ρ>>=λy=>match w,y with
   | .int a,.int b=>.ok (.nx (ρ.set i (.val (.int (f a b)))))
   |_,_=>.stuck) D):=⟨H0,G,ρ,I,OutS.bind I o λx G1 H1 w e1 m1 o1=>⟨G1,w,e1,m1,o1⟩⟩
 obtain ⟨v,es,G1,w,e1,m1,o1⟩:=qI c;have I1:=I.ext e1;refine ⟨v,es,H0,G1,ρ,I1,OutS.bind I1 o1 λy G2 H2 u e2 m2 o2=>?_⟩;cases w <;> first|show o2.elim|skip
 cases u <;> first|show o2.elim|skip
 rename_i a b
 show ⟨a,b,m1.intB,m2.intB,o2 G2 _ H2 (Same.refl _) ((I1.ext e2).setV .int)⟩
def mIf (c:VZ)(m n:Vg):Vg:=λρ=>c ρ>>=λb=>if b then m ρ else n ρ
def Jj (h:tSt K EX d (mIf c m n) D σ H):Cw (tT K EX c) (tSt K EX d m) (tSt K EX d n) D σ H:=by
 obtain ⟨H0,G,ρ,I,o⟩:=h;refine ⟨H0,G,ρ,I,OutS.bind I o λx G1 H1 w e1 m1 o1=>?_⟩;cases m1;cases x with
 |true=>show ⟨H0,G1,ρ,I.ext e1,o1⟩
 |false=>show ⟨H0,G1,ρ,I.ext e1,o1⟩
def frz (i:Nat) (ρ:Rho):Rho:=match ρ[i]? with
 |some (.own ws)=>ρ.set i (.val (.lst ws))
 |_=>ρ
def PIv.frz (I:PIv K H0 G ρ σ H):∃G',Same G G'/\PIv K H0 G' (frz i ρ) σ H:=by
 unfold TP.frz
 split
 .rename_i ws e
  obtain ⟨a,vs,es,ha,hg,h0,r⟩:=I.own_at e;have s1:Same G (upd G a (.lst vs)):=λb o q=>by rw[e7 (f7 q hg)];show q
  refine ⟨upd G a (.lst vs),s1,?_⟩;have I1:PIv K H0 G (ρ.set i .un) σ H:=by
   refine ⟨I.g0,I.gl,I.gh,I.hh,by rw[qF2];show I.len,λj x o h1 h2=>?_,λp q ab us c a9 h1 h2 h3 h4=>?_⟩
   .by_cases hj:i=j
    .subst hj;rw[qD0]at h1;simp only [qQ2]at h1
     split at h1 <;> simp only [qF9,reduceCtorEq]at h1
     subst h1;trivial
    .rw[qB7 hj]at h1;show I.sl j x o h1 h2
   .have na:i≠p:=by
     rintro rfl;rw[qD0]at h1;simp only [qQ2]at h1
     split at h1 <;> simp at h1
    have nb:i≠q:=by
     rintro rfl;rw[qD0]at h2;simp only [qQ2]at h2
     split at h2 <;> simp at h2
    rw[qB7 na]at h1;rw[qB7 nb]at h2;show I.ne p q ab us c a9 h1 h2 h3 h4
  have I2:PIv K H0 (upd G a (.lst vs)) (ρ.set i .un) σ H:=by
   refine ⟨λb o q l=>s1 b o (I.g0 b o q l),λb o q l=>by rw[e7 (f7 q h0)];show I.gl b o q l,λb o q=>?_,I.hh,I1.len,λj x o h1 h2=>?_,I1.ne⟩
   .by_cases hb:b=a
    .subst hb;rw[j9]at q;cases q;show ha
    .rw[e7 hb]at q;show I.gh b o q
   .have:=I1.sl j x o h1 h2
    cases x with
    |un=>trivial
    |val w=>obtain ⟨v,e1,r1⟩:=this;show ⟨v,e1,r1.same s1⟩
    |par w=>obtain ⟨v,e1,r1⟩:=this;show ⟨v,e1,r1.same (z6 s1)⟩
    | own us=>
     obtain ⟨b,a5,eb,hb,a6,a3,rb⟩:=this;subst eb;have a7:i≠j:=by
      rintro rfl;rw[qD0]at h1;simp only [qQ2]at h1
      split at h1 <;> simp at h1
     rw[qB7 a7]at h1;have a4:b≠a:=by
      rintro rfl;show I.ne i j ws us b a7 e h1 es h2
     show ⟨b,a5,rfl,hb,by rw[e7 a4];show a6,a3,rb.same s1⟩
    | dic ks=>
     obtain ⟨b,a5,eb,hb,a6,a3,rb⟩:=this;have a4:b≠a:=by
      rintro rfl;rw[ha]at hb;cases hb
     show ⟨b,a5,eb,hb,by rw[e7 a4];show a6,a3,rb⟩
    | dik ks=>
     obtain ⟨b,a5,eb,hb,a6,a3,rb⟩:=this;have a4:b≠a:=by
      rintro rfl;rw[ha]at hb;cases hb
     show ⟨b,a5,eb,hb,by rw[e7 a4];show a6,a3,rb⟩
    |iop p us=>obtain ⟨e1,b0,a8,r1⟩:=this;show ⟨e1,b0,a8,r1.same s1⟩
    |hz w=>obtain ⟨v,e,r⟩:=this;show ⟨v,e,r.same (z6 (cQ s1))⟩
  have I3:=I2.setV (i:=i) (v:=.ref a) (w:=.lst ws) (.lst j9 (r.same s1));have e3:σ.set i (some (V.ref a))=σ:=by
   apply qP4;intro j;by_cases hj:i=j
   .subst hj;rw[es,qD0];simp only [qQ2];rw[qA2 (qA9.mp es).1]
   .rw[qB7 hj]
  rw[e3,List.set_set]at I3;show I3
 .show ⟨G,Same.refl G,I⟩
def Jl (h:tSt K EX d (λρ=>m (frz i ρ)) D σ H):tSt K EX d m D σ H:=by
 obtain ⟨H0,G,ρ,I,o⟩:=h;obtain ⟨G',s,I'⟩:=I.frz (i:=i);show ⟨H0,G',_,I',OutS.move s o⟩
section
variable {K:Frag}{EX:EXT}{H0 G H G1 H1 G2 H2:Hp}{ρ:Rho}{σ:St}{d:Mode}{D:Ends}
structure bU (K:Frag) (e:Mode) (H0 Z G:Hp) (J:It) (ws:Vp):Prop where
 go:∀i H,i<ws.length->Same Z H->J.go i H
 stop:∀H,Same Z H->J.stop ws.length H
 yld:∀i H x H' w,ws[i]?=some w->Same Z H->J.yld i H x H'->∀G2 ρ σ,PIv K H0 G2 ρ σ H->Same G G2->∃G3,Ext G2 H G3 H'/\Md K H0 H G3 H' x w e
def nt (K:Frag) (EX:EXT) (lp:Bool) (e:Mode) (H0 G H:Hp) (r:R Vp) (I:It->Hp->Prop):Prop:=match r with
 | .ok ws=>∀J G' H',Ext G H G' H'->bU K e H0 (if lp then join H0 G' else H') G' J ws->I J H'
 | .ex x=>∀H',Same H H'->EX x H'
 | .stuck=>False
def tIt (K:Frag)(EX:EXT)(lp:Bool)(e:Mode)(m:VQ):TI:=λσ H I=>∃H0 G ρ,PIv K H0 G ρ σ H/\nt K EX lp e H0 G H (m ρ) I
def D8 (mg:VJ) (mb:Vg):List W->Rho->R Fl
 | [],ρ=>.ok (.nx ρ)
 | w::ws,ρ=>toR (mg w ρ)>>=λa3=>mb a3>>=λf=>match f with
  | .nx I=>D8 mg mb ws I
  | .ct I=>D8 mg mb ws I
  | .bk I=>.ok (.nx I)
  | .rt w=>.ok (.rt w)
def Jm (hg:Gt K e g mg) (h:tSt K EX d (λρ=>mi ρ>>=λws=>D8 mg mb ws ρ) D σ H):
  Cy (tIt K EX true e mi) g (tSt K EX d mb) D σ H:=by
 obtain ⟨H0,G,ρ,I,o⟩:=h;refine ⟨H0,G,ρ,I,?_⟩;replace o:OutS K EX d H0 G (mi ρ>>=λws=>D8 mg mb ws ρ) D:=o
 revert o
 cases mi ρ with
 |stuck=>show id
 |ex x=>show λo H' s=>o H' (I.hh.trans s)
 | ok ws=>
  intro o J G1 H1 e1 T;have o1:OutS K EX d H0 G1 (D8 mg mb ws ρ) D:=OutS.move e1.gg o;refine ⟨λi m σ H=>m=ws.length-i/\i<=ws.length/\∃G2 a3,Same G1 G2/\PIv K H0 G2 a3 σ H/\OutS K EX d H0 G2 (D8 mg mb (ws.drop i) a3) D,⟨_,rfl,qC6 _,G1,ρ,Same.refl _,I.ext e1,o1⟩,?_⟩;rintro i m a8 Hh ⟨rfl,hi,G2,a3,s2,I2,o2⟩;have hz:Same (join H0 G1) Hh:=(z6 s2).trans I2.join_H;by_cases a7:i<ws.length
  .refine .inr ⟨T.go i Hh a7 hz,λa6 H'=>∃G4 a4,Same G1 G4/\PIv K H0 G4 a4 a6 H'/\OutS K EX d H0 G4 (D8 mg mb (ws.drop (i+1)) a4) D,λa6 H' a9=>by obtain ⟨G4,a4,s4,I4,o4⟩:=a9;show ⟨ws.length-(i+1),ox,rfl,a7,G4,a4,s4,I4,o4⟩,λx H' y=>?_⟩;obtain ⟨G3,e3,m3⟩:=T.yld i Hh x H' ws[i] Zy hz y G2 a3 a8 I2 s2;rw[qJ5 a7]at o2;unfold D8 at o2;cases q:mg ws[i] a3 with
   |none=>rw[q]at o2;show o2.elim
   | some a5=>
    rw[q]at o2;refine hg H0 Hh G3 a3 a8 H' x _ a5 _ (I2.ext e3) m3 q λa6 I'=>⟨H0,G3,a5,I',?_⟩;have o3:OutS K EX d H0 G3 (mb a5>>=λf=>match f with
     | .nx a3=>D8 mg mb (ws.drop (i+1)) a3
     | .ct a3=>D8 mg mb (ws.drop (i+1)) a3
     | .bk a3=>.ok (.nx a3)
     | .rt w=>.ok (.rt w)) D:=OutS.move e3.gg o2
    revert o3
    have s3:Same G1 G3:=s2.trans e3.gg;cases mb a5 with
    |stuck=>show id
    |ex x=>show id
    | ok f=>
     cases f with
     |nx a4=>show λo4 G4 ab H4 s4 I4=>⟨G4,a4,s3.trans s4,I4,OutS.move s4 o4⟩
     |ct a4=>show λo4 G4 ab H4 s4 I4=>⟨G4,a4,s3.trans s4,I4,OutS.move s4 o4⟩
     |bk a4=>show id
     |rt w=>show id
  .have e:i=ws.length:=ox;subst e;refine .inl ⟨T.stop Hh hz,?_⟩;rw[List.drop_length]at o2;show o2 G2 a8 Hh (Same.refl _) I2
def K4 (c:VZ) (b:Vg):Nat->Rho->Option (R Fl)
 |0,_=>none
 | n+1,ρ=>match c ρ with
  | .ok false=>some (.ok (.nx ρ))
  | .ok true=>(match b ρ with
   | .ok (.nx ρ')=>K4 c b n ρ'
   | .ok (.ct ρ')=>K4 c b n ρ'
   | .ok (.bk ρ')=>some (.ok (.nx ρ'))
   | .ok (.rt w)=>some (.ok (.rt w))
   | .ex e=>some (.ex e)
   | .stuck=>some .stuck)
  | .ex e=>some (.ex e)
  | .stuck=>some .stuck
def bK:∀(n:Nat) (ρ:Rho) (r:R Fl),K4 c b n ρ=some r->∀m,n<=m->K4 c b m ρ=some r:=by
 intro n
 induction n with
 |zero=>intro ρ r h;cases h
 | succ n ih=>
  intro ρ r h m hm;obtain ⟨k,rfl⟩:∃k,m=k+1:=⟨m-1,ox⟩;have hk:=Nat.le_of_succ_le_succ hm;unfold K4 at h ⊢
  revert h
  cases c ρ with
  |ex e=>show id
  |stuck=>show id
  | ok t=>
   cases t with
   |false=>show id
   | true=>
    cases b ρ with
    |ex e=>show id
    |stuck=>show id
    | ok f=>
     cases f with
     |nx I=>show λh=>ih I r h k hk
     |ct I=>show λh=>ih I r h k hk
     |bk I=>show id
     |rt w=>show id
open Classical in
def J3 (c:VZ)(b:Vg):Vg:=λρ=>if h:∃r n,K4 c b n ρ=some r then h.choose else .stuck
def jz (h:K4 c b n ρ=some r):J3 c b ρ=r:=by
 unfold J3;have I:∃r n,K4 c b n ρ=some r:=⟨r,n,h⟩;rw[dif_pos I];obtain ⟨m,hm⟩:=I.choose_spec;have a:=bK n ρ r h (max n m) (Nat.le_max_left _ _);have b:=bK m ρ _ hm (max n m) (Nat.le_max_right _ _);rw[a]at b;show (Option.some.inj b).symm
def BN (h:tSt K EX d (J3 c b) D σ H):rJ (tT K EX c) (tSt K EX d b) D σ H:=by
 obtain ⟨H0,G,ρ,I,o⟩:=h;by_cases hx:∃r n,K4 c b n ρ=some r
 .obtain ⟨r,n,hn⟩:=hx;rw[jz hn]at o;refine ⟨λm a5 Hh=>∃G2 a4,Same G G2/\PIv K H0 G2 a4 a5 Hh/\K4 c b m a4=some r,⟨n,G,ρ,Same.refl _,I,hn⟩,?_⟩;rintro m a5 Hh ⟨G2,a4,s2,I2,h2⟩;have o2:OutS K EX d H0 G2 r D:=OutS.move s2 o;refine ⟨H0,G2,a4,I2,?_⟩;cases m with
  |zero=>cases h2
  | succ m=>
   unfold K4 at h2
   revert h2
   cases c a4 with
   |stuck=>intro h2;cases h2;show o2
   |ex x=>intro h2;cases h2;show λH' s=>o2 H' (I2.hh.trans s)
   | ok t=>
    cases t with
    | false=>
     intro h2;cases h2;intro v G3 H3 e3 q;cases q;rw[qA4 qA3];show o2 G3 a5 H3 e3.gg (I2.ext e3)
    | true=>
     intro h2 v G3 H3 e3 q;cases q;rw[qA2 rfl];refine ⟨λa6 H'=>∃G4 a3,Same G G4/\PIv K H0 G4 a3 a6 H'/\K4 c b m a3=some r,λa6 H' a7=>by obtain ⟨G4,a3,s4,I4,h4⟩:=a7;show ⟨m,qM1 m,G4,a3,s4,I4,h4⟩,H0,G3,a4,I2.ext e3,?_⟩;have o3:OutS K EX d H0 G3 r D:=OutS.move e3.gg o2;have s3:Same G G3:=s2.trans e3.gg
     revert h2
     cases b a4 with
     |stuck=>intro h2;cases h2;show o3
     |ex x=>intro h2;cases h2;show o3
     | ok f=>
      cases f with
      |nx a3=>show λh2 G4 a8 H4 s4 I4=>⟨G4,a3,s3.trans s4,I4,h2⟩
      |ct a3=>show λh2 G4 a8 H4 s4 I4=>⟨G4,a3,s3.trans s4,I4,h2⟩
      |bk a3=>intro h2;cases h2;show o3
      |rt w=>intro h2;cases h2;show o3
 .unfold J3 at o;rw[dif_neg hx]at o;show o.elim
def Md.whole (I:PIv K H0 G ρ σ H) (h:Md K H0 Hs G H v w .B):Rep K H v w:=by
 rcases h with h|⟨a,vs,ws,rfl,rfl,h1,r⟩
 .show h.same I.join_H
 .show .lst h1 (r.same I.gh)
def MdA.whole (I:PIv K H0 G ρ σ H) (h:MdA K .B H0 Hs G H ws vs):Reps K H vs ws:=
 @MdA.rec K .B H0 Hs G H (λws vs _=>Reps K H vs ws) .nil (λh _ b=>.cons (h.whole I) b) ws vs h
def XE (_:XK):EXT:=λ_ _=>False
def spM (K:Frag) (n:Nat) (d:Mode) (f:List W->R W):Sp:=λvs H Q E=>vs.length=n/\∃ws,Reps K H vs ws/\match f ws with
 | .ok w=>∀v G' H',Same H H'->Same G' H'->(∀a o,H a=some o->isL o=true->G' a=none)->Md K H H G' H' v w d->Q v H'
 | .ex e=>∀H',Same H H'->XE E e H'
 | .stuck=>False
def i5 (n N:Nat) (m:Vg) (ws:Vp):R W:=if ws.length=n then (m (ws.map Sl.par++List.replicate (N-n) Sl.un)>>=λf=>match f with
 | .rt w=>.ok w
 | .nx _=>.ok .non
 |_=>.stuck) else .stuck
def vL (ws:Vp) (h:i5 n N m ws≠.stuck):ws.length=n:=by
 unfold i5 at h;by_cases e:ws.length=n
 .show e
 .rw[qA4 e]at h;show absurd rfl h
def both (G G':Hp):Hp:=λb=>match G b with
 |some o=>some o
 |none=>G' b
def Hy (hd:d=.F\/d=.V) (hf:∀ws,f ws≠.stuck->ws.length=n) (hE:∀e H,EX e H->XE E e H) (h:tM K EX d (λρ=>ma ρ>>=λws=>f ws) σ H Q):
  jW (spM K n d f) [] E (tA K EX .B ma) σ H Q:=by
 obtain ⟨H0,G,ρ,I,o⟩:=h;refine ⟨H0,G,ρ,I,Out.bind o λxs G1 H1 ws e1 m1 o1=>?_⟩;have I1:=I.ext e1;have r:=MdA.whole I1 m1;rw[qG2];refine ⟨?_,ws,r,?_⟩
 .rw [r.length]
  refine hf ws λz=>?_;rw[z]at o1;show o1
 .revert o1
  cases f ws with
  |stuck=>show id
  |ex e=>show λo1 H' s=>hE e H' (o1 H' s)
  | ok w=>
   intro o1 v G' H' sH gH cl md;have sB:Same G1 (both G1 G'):=λb o q=>by unfold both;rw[q]
   have a3:Same G' (both G1 G'):=λb o q=>by
    unfold both;cases q1:G1 b with
    |none=>show q
    | some u=>
     have a1:=sH b u (I1.gh b u q1);rw[gH b o q]at a1;show a1.symm
   have a4:Same (both G1 G') H':=λb o q=>by
    unfold both at q;cases q1:G1 b with
    |none=>rw[q1]at q;show gH b o q
    |some u=>rw[q1]at q;cases q;show sH b _ (I1.gh b _ q1)
   have ex:Ext G1 H1 (both G1 G') H':=⟨sB,sH,a4,λb o q l g=>by unfold both;rw[g];show cl b o q l⟩;refine o1 v (both G1 G') H' ex ?_;rcases hd with rfl|rfl
   .cases w with
    | lst us=>
     obtain ⟨a,vs,rfl,h1,h2,h3,r3⟩:=md;show ⟨a,vs,rfl,h1,by unfold both;rw[I1.gh.free h3];show h2,e1.hh.free h3,r3.same a3⟩
    |non=>show Rep.same a3 md
    |bl _=>show Rep.same a3 md
    |int _=>show Rep.same a3 md
    |str _=>show Rep.same a3 md
    |ty _=>show Rep.same a3 md
    |tup _=>show Rep.same a3 md
    |scr _=>show Rep.same a3 md
    |exc _ _=>show Rep.same a3 md
    |cls _=>show Rep.same a3 md
   .show Rep.same a3 md
def B9 (H:Hp):Hp:=λa=>match H a with
 |some o=>if isL o then none else some o
 |none=>none
def jA:join H (B9 H)=H:=by
 funext a
 unfold join B9;cases q:H a with
 |none=>rfl
 | some o=>
  dsimp only;cases isL o <;> rfl
def Reps.slots {i:Nat}(r:Reps K H vs ws):(ws.map Sl.par++List.replicate k Sl.un)[i]?=some x->(vs.map some++List.replicate k' none)[i]?=some o->x=.un\/∃v w,x=.par w/\o=some v/\Rep K H v w:=
 Reps.ind (P:=λvs ws=>∀i,(ws.map Sl.par++List.replicate k Sl.un)[i]?=some x->(vs.map some++List.replicate k' none)[i]?=some o->x=.un\/∃v w,x=.par w/\o=some v/\Rep K H v w) (λi I h2=>by
  have I:(List.replicate k Sl.un)[i]?=some x:=I;rw[qG0]at I;by_cases hk:i<k
  .rw[qA2 hk]at I;show .inl (Option.some.inj I).symm
  .rw[qA4 hk]at I;cases I) (λr _ b i I h2=>by
  cases i with
  |zero=>show .inr ⟨_,_,(Option.some.inj I).symm,(Option.some.inj h2).symm,r⟩
  |succ i=>show b i I h2) r i
def PIv.begin (r:Reps K H vs ws) (hk:k=k'):PIv K H (B9 H) (ws.map Sl.par++List.replicate k Sl.un) (vs.map some++List.replicate k' none) H where
 g0 a o e l:=by unfold B9;rw[e];dsimp only;rw[l];rfl
 gl a o e l:=by unfold B9;rw[e];dsimp only;rw[l];rfl
 gh a o e:=by
  unfold B9 at e;cases q:H a with
  |none=>rw[q]at e;cases e
  | some u=>
   rw[q]at e;dsimp only at e;cases I:isL u
   .rw[I]at e;show e
   .rw[I]at e;cases e
 hh:=Same.refl H
 len:=by subst hk;simp [r.length]
 sl i x o h1 h2:=by
  rcases Reps.slots r h1 h2 with rfl|⟨v,w,rfl,rfl,q⟩
  .trivial
  .show ⟨v,rfl,by rw[jA];show q⟩
 ne i j us xs a hij h1 _ _ _:=by
  have:∀(i:Nat) (us:Vp),(ws.map Sl.par++List.replicate k Sl.un)[i]?≠some (Sl.own us):=λi us q=>by
   rw[List.getElem?_append]at q
   split at q
   .rw [qC0]at q
    cases hh:ws[i]? <;> rw[hh]at q <;> cases q
   .rw [qG0]at q
    split at q <;> cases q
  show absurd h1 (this i us)
def Hz (hd:d=.F\/d=.V) (h:spM K n d (i5 n Nl.length m) vs H Q E):tSt K (λ_ _=>False) d m { nx:=λ_ H'=>Q .non H',rt:=Q } (L2.start Nl vs) H:=by
 obtain ⟨hl,ws,r,o⟩:=h;have hw:ws.length=n:=by rw[<- r.length];show hl
 unfold i5 at o;rw[qA2 hw]at o;refine ⟨H,B9 H,_,PIv.begin (k:=Nl.length-n) r (by rw[hl]),?_⟩
 revert o
 cases m (ws.map Sl.par++List.replicate (Nl.length-n) Sl.un) with
 |stuck=>show id
 |ex e=>show λo=>(o H (Same.refl H)).elim
 | ok f=>
  cases f with
  |nx a4=>show λo G' a3 H' s' I=>o .non G' H' I.hh I.gh I.gl (Md.sca rfl (λ_=>.non) d)
  |rt w=>show λo v G' H' _ s1 s2 c md=>o v G' H' s2 s1 c md
  |bk _=>show λo=>o.elim
  |ct _=>show λo=>o.elim
end
def elR (mg:VJ) (mc:VZ) (me:Vo) (ρ:Rho) (w:W):R (Option W):=match mg w ρ with
 |none=>.stuck
 | some I=>(match mc I with
  | .ok true=>(match me I with
   | .ok y=>.ok (some y)
   |_=>.stuck)
  | .ok false=>.ok none
  |_=>.stuck)
def mapR (f:W->R (Option W)):List W->R Vp
 | []=>.ok []
 | w::ws=>match f w,mapR f ws with
  | .ok (some y),.ok ys=>.ok (y::ys)
  | .ok none,.ok ys=>.ok ys
  |_,_=>.stuck
def j7 (N':Nat) (mg:VJ) (mc:VZ) (me:Vo) (ws:Vp) (ρ:Rho):R W:=
 if ws.length<=1000 then (match mapR (elR mg mc me (ρ++List.replicate (N'-ρ.length) Sl.un)) ws with
  | .ok I=>.ok (.lst I)
  |_=>.stuck) else .stuck
def AE:∀{ws ys:Vp},mapR f ws=.ok ys->(∀w∈ws,∃o,f w=.ok o)/\ys=ws.filterMap λw=>match f w with
  | .ok o=>o
  |_=>none:=by
 intro ws
 induction ws with
 |nil=>intro ys h;cases h;show ⟨Zy,rfl⟩
 | cons w ws ih=>
  intro ys h;unfold mapR at h;cases I:f w with
  |stuck=>rw[I]at h;cases h
  |ex e=>rw[I]at h;cases h
  | ok o=>
   rw[I]at h;cases hm:mapR f ws with
   |stuck=>rw[hm]at h;cases o <;> cases h
   |ex e=>rw[hm]at h;cases o <;> cases h
   | ok zs=>
    rw[hm]at h;obtain ⟨h1,h2⟩:=ih hm;refine ⟨λu hu=>?_,?_⟩
    .rcases qB5.mp hu with rfl|hu
     .show ⟨o,I⟩
     .show h1 u hu
    .cases o with
     |none=>cases h;rw[qI6,I];show h2
     |some y=>cases h;rw[qI6,I,h2]
def PIv.inner (I:PIv K H0 G ρ σ H):PIv K H0 G (ρ++List.replicate (N'.length-ρ.length) Sl.un) (inner N' σ) H:=by
 have hl:=I.len;unfold L2.inner;rw[hl];refine ⟨I.g0,I.gl,I.gh,I.hh,by simp [hl],λi x o h1 h2=>?_,λp q ws us c a3 h1 h2 h3 h4=>?_⟩
 .by_cases hi:i<ρ.length
  .rw [qE8 hi]at h1
   rw[qE8 ox]at h2;show I.sl i x o h1 h2
  .rw [qH3 ox,qG0]at h1
   split at h1 <;> simp only [qF9,reduceCtorEq]at h1
   subst h1;trivial
 .have key:∀{k:Nat}{us:Vp},(ρ++List.replicate (N'.length-σ.length) Sl.un)[k]?=some (Sl.own us)->k<ρ.length/\ρ[k]?=some (Sl.own us):=λ{k us} hk=>by
   by_cases hi:k<ρ.length
   .rw[qE8 hi]at hk;show ⟨hi,hk⟩
   .rw [qH3 ox,qG0]at hk
    split at hk <;> simp at hk
  obtain ⟨l1,k1⟩:=key h1;obtain ⟨l2,k2⟩:=key h2;rw[qE8 ox]at h3 h4;show I.ne p q ws us c a3 k1 k2 h3 h4
open Classical in
def rest (G H:Hp)(Dd:Addr)(H':Hp):Hp:=λb=>if b=Dd\/∃o,H b=some o/\isL o=true/\G b=none then none else H' b
def D4 (h:b=Dd\/∃o,H b=some o/\isL o=true/\G b=none):rest G H Dd H' b=none:=by unfold rest;rw[qA2 h]
def Z9 (h:¬ (b=Dd\/∃o,H b=some o/\isL o=true/\G b=none)):rest G H Dd H' b=H' b:=by unfold rest;rw[qA4 h]
def nX (h:rest G H Dd H' b=some o):H' b=some o/\¬ (b=Dd\/∃o,H b=some o/\isL o=true/\G b=none):=by
 by_cases c:b=Dd\/∃o,H b=some o/\isL o=true/\G b=none
 .rw[D4 c]at h;cases h
 .rw[Z9 c]at h;show ⟨h,c⟩
def PIv.rest (I:PIv K H0 G ρ σ H) (hD:H Dd=none) (s:Same H H'):Same G (rest G H Dd H')/\PIv K H0 (rest G H Dd H') ρ σ H':=by
 have sG:Same G (TP.rest G H Dd H'):=λb o q=>by
  rw[Z9]
  .show s b o (I.gh b o q)
  .rintro (rfl|⟨u,h1,h2,h3⟩)
   .rw[I.gh _ _ q]at hD;cases hD
   .rw[q]at h3;cases h3
 refine ⟨sG,λa o e l=>sG a o (I.g0 a o e l),λa o e l=>D4 (.inr ⟨o,I.hh a o e,l,I.gl a o e l⟩),λb o q=>(nX q).1,I.hh.trans s,I.len,λi x o h1 h2=>?_,I.ne⟩
 have:=I.sl i x o h1 h2
 cases x with
 |un=>trivial
 |val w=>obtain ⟨v,e,r⟩:=this;show ⟨v,e,r.same sG⟩
 |par w=>obtain ⟨v,e,r⟩:=this;show ⟨v,e,r.same (z6 sG)⟩
 | own ws=>
  obtain ⟨a,vs,e,h,g,h0,r⟩:=this;show ⟨a,vs,e,s a _ h,D4 (.inr ⟨_,h,rfl,g⟩),h0,r.same sG⟩
 | dic ks=>
  obtain ⟨a,vs,e,h,g,h0,r⟩:=this;show ⟨a,vs,e,s a _ h,D4 (.inr ⟨_,h,rfl,g⟩),h0,r⟩
 | dik ks=>
  obtain ⟨a,vs,e,h,g,h0,r⟩:=this;show ⟨a,vs,e,s a _ h,D4 (.inr ⟨_,h,rfl,g⟩),h0,r⟩
 |iop p ws=>obtain ⟨e1,a4,a3,r1⟩:=this;show ⟨e1,a4,a3,r1.same sG⟩
 |hz w=>obtain ⟨v,e,r⟩:=this;show ⟨v,e,r.same (z6 (cQ sG))⟩
def cI (s:∀b o,b≠Dd->Ha b=some o->Hb b=some o):Same (rest G H Dd Ha) (rest G H Dd Hb):=λb o q=>by
 obtain ⟨h,c⟩:=nX q;rw[Z9 c];show s b o (λz=>c (.inl z)) h
def vS (I:∃ys,Ha Dd=some (.lst ys)) (s:Same H Ha) (e:Ext (rest G H Dd Ha) Ha G' Hb):Same G' (rest G H Dd Hb):=λb o q=>by
 rw[Z9]
 .show e.gh b o q
 .rintro (rfl|⟨u,h1,h2,h3⟩)
  .obtain ⟨ys,I⟩:=I;rw[e.keep _ _ I rfl (D4 (.inl rfl))]at q;cases q
  .rw[e.keep _ _ (s _ _ h1) h2 (D4 (.inr ⟨u,h1,h2,h3⟩))]at q;cases q
def uW (hg:Gt K e g mg) (h:tM K EX .F (λρ=>mi ρ>>=λws=>j7 N'.length mg mc me ws ρ) σ H Q):
  pB N' (tIt K EX false e mi) g (tT K EX mc) (tM K EX .V me) σ H Q:=by
 obtain ⟨H0,G,ρ,I,o⟩:=h;refine ⟨H0,G,ρ,I,?_⟩;replace o:Out EX G H (mdW K .F H0 H) (mi ρ>>=λws=>j7 N'.length mg mc me ws ρ) Q:=o
 revert o
 cases mi ρ with
 |stuck=>show id
 |ex x=>show id
 | ok ws=>
  intro o J G1 H1 e1 T Dd hD;have I1:=I.ext e1;replace o:Out EX G H (mdW K .F H0 H) (j7 N'.length mg mc me ws ρ) Q:=o
  unfold j7 at o;by_cases hlen:ws.length<=1000
  .rw [qA2 hlen]at o
   cases hm:mapR (elR mg mc me (ρ++List.replicate (N'.length-ρ.length) Sl.un)) ws with
   |stuck=>rw[hm]at o;show o.elim
   |ex x=>rw[hm]at o;show o.elim
   | ok ys=>
    rw[hm]at o;obtain ⟨ab,b5⟩:=AE hm;have T':bU K e H0 H1 G1 J ws:=by
     have:=T
     rw[qA4 qA3]at this;show this
    generalize bq:ρ++List.replicate (N'.length-ρ.length) Sl.un=b0 at hm ab b5
    refine ⟨λi m H2=>m=ws.length-i/\i<=ws.length/\Same H1 H2/\∃vs,H2 Dd=some (.lst vs)/\vs.length<=i/\Reps K (rest G1 H1 Dd H2) vs ((ws.take i).filterMap λw=>match elR mg mc me b0 w with
     | .ok o=>o
     |_=>none),⟨_,rfl,qC6 _,λb u q=>by rw[e7 (f7 q hD)];show q,[],j9,qB2 _,.nil⟩,?_⟩
    rintro i m H2 ⟨rfl,hi,s2,vs,a8,bc,r2⟩;by_cases a4:i<ws.length
    .refine .inr ⟨T'.go i H2 a4 s2,λx H3 y=>?_⟩;obtain ⟨sG,I2⟩:=I1.rest (Dd:=Dd) hD s2;have b4:=I2.inner (N':=N');obtain ⟨G3,e3,m3⟩:=T'.yld i H2 x H3 ws[i] Zy s2 y _ _ _ b4 sG;obtain ⟨op,a3⟩:=ab ws[i] (qK1 a4);have a9:=a3;unfold elR at a3;rw[<- bq]at a3;have a6:ws.take (i+1)=ws.take i ++ [ws[i]]:=by rw[qT8 a4]
     cases q:mg ws[i] (ρ++List.replicate (N'.length-ρ.length) Sl.un) with
     |none=>rw[q]at a3;cases a3
     | some a5=>
      rw[q]at a3;dsimp only at a3;refine hg H0 H2 G3 _ _ H3 x _ a5 _ (b4.ext e3) m3 q λbt I4=>⟨H0,G3,a5,I4,?_⟩;cases hc:mc a5 with
      |stuck=>rw[hc]at a3;cases a3
      |ex x=>rw[hc]at a3;cases a3
      | ok b=>
       intro b' G5 H5 e5 eb;cases eb;rw[hc]at a3;cases b with
       | false=>
        rw[qA4 qA3];have a7:op=none:=by cases a3;rfl
        have s5:Same H2 H5:=e3.hh.trans e5.hh;refine ⟨ws.length-(i+1),ox,rfl,a4,s2.trans s5,vs,s5 _ _ a8,ox,?_⟩;rw[a6,List.filterMap_append]
        have:([ws[i]].filterMap λw=>match elR mg mc me b0 w with
         | .ok o=>o
         |_=>none) = []:=by
         rw[qI6,a9,a7];rfl
        rw[this,qG2];show r2.same (cI λb o _ q=>s5 b o q)
       | true=>
        dsimp only at a3;rw[qA2 rfl];refine ⟨H0,G5,a5,I4.ext e5,?_⟩;cases b3:me a5 with
        |stuck=>rw[b3]at a3;cases a3
        |ex x=>rw[b3]at a3;cases a3
        | ok z=>
         rw[b3]at a3;have a7:op=some z:=by cases a3;rfl
         intro yv G6 H6 e6 m6;have ba:Ext (TP.rest G1 H1 Dd H2) H2 G6 H6:=(e3.trans e5).trans e6;have s6:Same H2 H6:=ba.hh;refine ⟨vs,s6 _ _ a8,qD4 bc (qB3 (by omega:i<1000) Zz),ws.length-(i+1),ox,rfl,a4,λb u q=>by rw[e7 (f7 q hD)];show s6 b u (s2 b u q),vs ++ [yv],j9,by rw[qC3];simp;omega,?_⟩;rw[a6,List.filterMap_append]
         have:([ws[i]].filterMap λw=>match elR mg mc me b0 w with
          | .ok o=>o
          |_=>none) = [z]:=by
          rw[qI6,a9,a7];rfl
         rw[this];have k1:Same (TP.rest G1 H1 Dd H2) (TP.rest G1 H1 Dd (upd H6 Dd (.lst (vs ++ [yv])))):=cI λb o hb q=>by rw[e7 hb];show s6 b o q
         have k2:Same G6 (TP.rest G1 H1 Dd (upd H6 Dd (.lst (vs ++ [yv])))):=(vS ⟨vs,a8⟩ s2 ba).trans (cI λb o hb q=>by rw[e7 hb];show q);show (r2.same k1).snoc (Rep.same k2 m6)
    .have ei:i=ws.length:=ox;subst ei;refine .inl ⟨T'.stop H2 s2,?_⟩;rw[qK2,<- b5]at r2;obtain ⟨sG,I2⟩:=I1.rest (Dd:=Dd) hD s2;refine o _ (TP.rest G1 H1 Dd H2) H2 ⟨e1.gg.trans sG,e1.hh.trans s2,I2.gh,λb u q l g=>D4 (.inr ⟨u,e1.hh b u q,l,e1.keep b u q l g⟩)⟩ ⟨Dd,vs,rfl,a8,D4 (.inl rfl),e1.hh.free hD,r2⟩
  .rw[qA4 hlen]at o;show o.elim
def B1:W->R Vp
 | .lst ws=>.ok ws
 | .tup ws=>.ok ws
 | .scr ws=>.ok ws
 |_=>.stuck
def J8 (e:Same H H1) (h:Sq K H t a xs):Sq K H1 t a xs:=by
 unfold Sq at h ⊢
 split at h
 .rename_i ht;rw[qA2 ht];show vB e h
 .rename_i ht;rw[qA4 ht];show Same.seq e h
def sqT (h:SqT K H a xs):Sq K H true a xs:=by unfold Sq;rw[qA2 rfl];show h
def sqL (h:SqL K H a xs):Sq K H false a xs:=by unfold Sq;rw[qA4 qA3];show h
def Rep.sq (h:Rep K F x w) (hw:B1 w=.ok ws):∃t a vs,x=.ref a/\Sq K F t a vs/\Reps K F vs ws:=by
 cases w <;> first | (cases hw;done)|skip
 .obtain ⟨a,vs,e,s,r⟩:=h.inv;show ⟨true,a,vs,e,sqT (SqT.of s),R.ok.inj hw ▸ r⟩
 .obtain ⟨a,vs,e,s,r⟩:=h.inv;show ⟨false,a,vs,e,sqL (SqL.of s),R.ok.inj hw ▸ r⟩
 .obtain ⟨a,vs,e,s,r⟩:=h.inv;show ⟨false,a,vs,e,sqL s,R.ok.inj hw ▸ r⟩
def cz:Bool->Mode->Mode
 |true,e=>e
 |false,.V=>.C
 |false,_=>.B
def fz (e:Mode)(H0 G:Hp):Hp:=if e=.V then G else join H0 G
def Md.src (he:e=.V\/e=.U) (I:PIv K H0 G ρ σ H) (m:Md K H0 Hs G H x w (cz lp e)) (hw:B1 w=.ok ws):
  ∃t a vs,x=.ref a/\Sq K (if lp then join H0 G else H) t a vs/\Reps K (fz e H0 G) vs ws:=by
 unfold fz;rcases he with rfl|rfl
 .rw [qA2 rfl]
  cases lp with
  | true=>
   obtain ⟨t,a,vs,e1,e2,e3⟩:=Rep.sq m hw;show ⟨t,a,vs,e1,by rw[qA2 rfl];show J8 I.G_join e2,e3⟩
  | false=>
   rw[qA4 qA3];rcases m with m|⟨a,vs,us,rfl,rfl,h1,r⟩
   .obtain ⟨t,a,vs,e1,e2,e3⟩:=Rep.sq m hw;show ⟨t,a,vs,e1,J8 I.gh e2,e3⟩
   .cases hw;show ⟨false,a,vs,rfl,sqL (SqL.of h1),r⟩
 .rw [qA4 (show ¬ (Mode.U=Mode.V) by intro z;cases z)]
  cases lp with
  | true=>
   obtain ⟨t,a,vs,e1,e2,e3⟩:=Rep.sq m hw;show ⟨t,a,vs,e1,by rw[qA2 rfl];show e2,e3⟩
  | false=>
   rw[qA4 qA3];rcases m with m|⟨a,vs,us,rfl,rfl,h1,r⟩
   .obtain ⟨t,a,vs,e1,e2,e3⟩:=Rep.sq m hw;show ⟨t,a,vs,e1,J8 I.join_H e2,e3⟩
   .cases hw;show ⟨false,a,vs,rfl,sqL (SqL.of h1),r.same I.G_join⟩
def Md.of_fz (I:e=.V\/e=.U) (h:Rep K (fz e H0 G) v w):Md K H0 Hs G H v w e:=by
 unfold fz at h;rcases I with rfl|rfl
 .rw[qA2 rfl]at h;show h
 .rw[qA4 (show ¬ (Mode.U=Mode.V) by intro z;cases z)]at h;show h
def L8 (s:Same G G1):Same (fz e H0 G) (fz e H0 G1):=by
 unfold fz
 split
 .show s
 .show z6 s
def AY (he:e=.V\/e=.U) (s:Sq K Z t a vs) (r:Reps K (fz e H0 G) vs ws):bU K e H0 Z G (ItQ K t a) ws:=by
 have hl:=r.length;cases t with
 | true=>
  have hq:∀H,Same Z H->SqT K H a vs:=λH z=>by have:=J8 z s;unfold Sq at this;rw[qA2 rfl]at this;show this
  refine ⟨λi H hi z=>⟨vs,vs[i]'ox,hq H z,Zy⟩,λH z=>⟨vs,hq H z,ox⟩,λi H x H' w hw z a3 G2 ρ σ I sg=>?_⟩;obtain ⟨e1,y⟩:=a3;subst e1;have hx:=y vs (hq _ z);obtain ⟨v,hv,rv⟩:=Reps.get r hw;rw[hx]at hv;cases hv;show ⟨G2,Ext.refl I.gh,Md.of_fz he (rv.same (L8 sg))⟩
 | false=>
  have hq:∀H,Same Z H->SqL K H a vs:=λH z=>by have:=J8 z s;unfold Sq at this;rw[qA4 qA3]at this;show this
  refine ⟨λi H hi z=>⟨vs,vs[i]'ox,hq H z,Zy⟩,λH z=>⟨vs,hq H z,ox⟩,λi H x H' w hw z a4 G2 ρ σ I sg=>?_⟩;obtain ⟨e1,y⟩:=a4;subst e1;have hx:=y vs (hq _ z);obtain ⟨v,hv,rv⟩:=Reps.get r hw;rw[hx]at hv;cases hv;show ⟨G2,Ext.refl I.gh,Md.of_fz he (rv.same (L8 sg))⟩
def iK {lp:Bool}(I:PIv K H0 G ρ σ H):Same (if lp then join H0 G else H) H:=by
 cases lp
 .show Same.refl H
 .show I.join_H
def Jk (he:e=.V\/e=.U) (h:tIt K EX lp e (λρ=>ml ρ>>=B1) σ H Rr):iSq K (tM K EX (cz lp e) ml) σ H Rr:=by
 obtain ⟨H0,G,ρ,I,o⟩:=h;refine ⟨H0,G,ρ,I,?_⟩;replace o:nt K EX lp e H0 G H (ml ρ>>=B1) Rr:=o
 revert o
 cases ml ρ with
 |stuck=>show id
 |ex x=>show id
 | ok w=>
  intro o x G1 H1 e1 m1;have I1:=I.ext e1;have o':nt K EX lp e H0 G H (B1 w) Rr:=o;cases q:B1 w with
  |stuck=>rw[q]at o';show o'.elim
  |ex z=>cases w <;> cases q
  | ok ws=>
   rw[q]at o';obtain ⟨t,a,vs,ex,s,r⟩:=Md.src he I1 m1 q;show ⟨a,ex,t,vs,J8 (iK I1) s,o' _ G1 H1 e1 (AY he s r)⟩
def O5 (lo hi:Int):R Vp:=if -1000000<=lo/\lo<=1000000 /\ -1000000<=hi/\hi<=1000000 then .ok ((List.range (hi-lo).toNat).map λk=>W.int (lo+(k:Nat))) else .stuck
def M2:List W->R Vp
 | [.int j]=>O5 0 j
 |_=>.stuck
def rng2:List W->R Vp
 | [.int i,.int j]=>O5 i j
 |_=>.stuck
def wX (he:e=.V\/e=.U):bU K e H0 Z G (Itr lo n) ((List.range n).map λk=>W.int (lo+(k:Nat))):=by
 refine ⟨λi H hi _=>by change i<n;simpa using hi,λH _=>by simp [Itr],λi H x H' w hw _ a3 G2 ρ σ I _=>?_⟩;obtain ⟨e1,e2⟩:=a3;subst e1;subst e2;rw[qC0]at hw;cases q:(List.range n)[i]? with
 |none=>rw[q]at hw;cases hw
 | some k=>
  rw[q]at hw;have hk:k=i:=by
   have:=qA9.mp q
   obtain ⟨h1,h2⟩:=this;simpa using h2.symm
  subst hk;cases hw;refine ⟨G2,Ext.refl I.gh,Md.sca rfl (λ_=>.int) e⟩
def bu (h:tIt K EX lp e (λρ=>ma ρ>>=k) σ H Rr) (hq:∀H0 G ρ G1 H1 xs ws us,PIv K H0 G ρ σ H->Ext G H G1 H1->MdA K b H0 H G1 H1 ws xs->k ws=.ok us->(∀J G' H',Ext G H G' H'->bU K e H0 (if lp then join H0 G' else H') G' J us->Rr J H')->Q xs H1) (hx:∀ws e,k ws≠.ex e):tA K EX b ma σ H Q:=by
 obtain ⟨H0,G,ρ,I,o⟩:=h;refine ⟨H0,G,ρ,I,?_⟩;replace o:nt K EX lp e H0 G H (ma ρ>>=k) Rr:=o
 revert o
 cases ma ρ with
 |stuck=>show id
 |ex x=>show id
 | ok ws=>
  intro o xs G1 H1 e1 m1;have o':nt K EX lp e H0 G H (k ws) Rr:=o;cases q:k ws with
  |stuck=>rw[q]at o';show o'.elim
  |ex z=>show absurd q (hx ws z)
  |ok us=>rw[q]at o';show hq H0 G ρ G1 H1 xs ws us I e1 m1 q o'
def zC (h:O5 lo hi=.ok us):(-1000000<=lo/\lo<=1000000 /\ -1000000<=hi/\hi<=1000000)/\us=(List.range (hi-lo).toNat).map λk=>W.int (lo+(k:Nat)):=by
 unfold O5 at h
 split at h
 .cases h;rename_i c;show ⟨c,rfl⟩
 .cases h
def vN (h:O5 lo hi=.ex e):False:=by
 unfold O5 at h;by_cases c:-1000000<=lo/\lo<=1000000 /\ -1000000<=hi/\hi<=1000000
 .rw[qA2 c]at h;cases h
 .rw[qA4 c]at h;cases h
def Hm (he:e=.V\/e=.U) (h:tIt K EX lp e (λρ=>ma ρ>>=M2) σ H Rr):yz (tA K EX .B ma) σ H Rr:=by
 refine bu h (λH0 G ρ G1 H1 xs ws us I e1 m1 q o=>?_) (λws e z=>?_)
 .cases m1 with
  |nil=>cases q
  | @cons w _ _ _ a t=>
   cases t with
   |cons _ _=>first | (cases q;done) | (cases w <;> cases q)
   | nil=>
    cases w <;> first | (cases q;done)|skip
    rename_i j
    obtain ⟨c,rfl⟩:=zC (show O5 0 j=_ from q);refine ⟨j,by rw[Md.intB a],ox,ox,?_⟩
    have:=o (Itr 0 j.toNat) G1 H1 e1
    rw[Int.sub_zero]at this;show this (wX he)
 .cases ws with
  |nil=>cases z
  | cons w t=>
   cases t with
   |cons _ _=>first | (cases z;done) | (cases w <;> cases z)
   | nil=>
    cases w <;> first | (cases z;done)|skip
    show vN (lo:=0) z
def eP:List Vp->List Vp
 | [xs,ys]=>xs.zipWith (λx y=>[x,y]) ys
 | [xs,ys,zs]=>(xs.zip ys).zipWith (λp z=>[p.1,p.2,z]) zs
 |_=>[]
def U6:List W->R (List Vp)
 | []=>.ok []
 | w::ws=>match B1 w,U6 ws with
  | .ok x,.ok xs=>.ok (x::xs)
  |_,_=>.stuck
def M1 (ws:Vp):R Vp:=if ws.length=2\/ws.length=3 then (match U6 ws with
 | .ok xs=>.ok ((eP xs).map W.tup)
 |_=>.stuck) else .stuck
def iq (he:e=.V\/e=.U) (I:PIv K H0 G ρ σ H) (hp:H p=none) (r:Reps K (fz e H0 G) vs ws):Ext G H (upd G p (.tup vs)) (upd H p (.tup vs))/\Md K H0 Hs (upd G p (.tup vs)) (upd H p (.tup vs)) (.ref p) (.tup ws) e:=by
 refine ⟨fw I.gh hp,?_⟩;have gp:G p=none:=I.gh.free hp;rcases he with rfl|rfl
 .unfold fz at r;rw[qA2 rfl]at r;show .tup j9 (r.same λb u q=>by rw[e7 (f7 q gp)];show q)
 .unfold fz at r;rw[qA4 (show ¬ (Mode.U=Mode.V) by intro z;cases z)]at r
  change Rep K (join H0 (upd G p (.tup vs))) _ _;rw[mH (I.hh.free hp)];show .tup j9 (r.same λb u q=>by rw[e7 (f7 (I.join_H b u q) hp)];show q)
def uc (he:e=.V\/e=.U) (s1:Sq K Z t a xs) (s2:Sq K Z u b ys) (r1:Reps K (fz e H0 G) xs us) (r2:Reps K (fz e H0 G) ys vs):
  bU K e H0 Z G (ItZ K [(t,a),(u,b)]) ((us.zipWith (λx y=>[x,y]) vs).map W.tup):=by
 have Rn:=sj s1 s2;have l1:=r1.length;have l2:=r2.length;have hl:((us.zipWith (λx y=>[x,y]) vs).map W.tup).length=min xs.length ys.length:=by simp [l1,l2]
 refine ⟨λi H hi z=>Rn.go i H ox z,λH z=>by rw[hl];show Rn.stop H z,λi H x H' w hw z y G2 ρ σ I sg=>?_⟩;have hi:i<min xs.length ys.length:=by
  rw[<- hl];show (qA9.mp hw).1
 obtain ⟨p,y1,z1,rfl,hp,rfl,hy,hz⟩:=Rn.yld i H x H' hi z y;obtain ⟨w1,e1,q1⟩:=Reps.get' r1 hy;obtain ⟨w2,e2,q2⟩:=Reps.get' r2 hz;have a3:w=.tup [w1,w2]:=by
  rw[qC0,qL0,e1,e2]at hw;cases hw;rfl
 subst a3;obtain ⟨x1,x2⟩:=iq (Hs:=H) he I hp (.cons (q1.same (L8 sg)) (.cons (q2.same (L8 sg)) .nil));show ⟨_,x1,x2⟩
def tZ (he:e=.V\/e=.U) (s1:Sq K Z t a xs) (s2:Sq K Z u b ys) (s3:Sq K Z v c zs) (r1:Reps K (fz e H0 G) xs us) (r2:Reps K (fz e H0 G) ys vs) (r3:Reps K (fz e H0 G) zs ts):
  bU K e H0 Z G (ItZ K [(t,a),(u,b),(v,c)]) (((us.zip vs).zipWith (λp z=>[p.1,p.2,z]) ts).map W.tup):=by
 have Rn:=si s1 s2 s3;have l1:=r1.length;have l2:=r2.length;have l3:=r3.length;have hl:(((us.zip vs).zipWith (λp z=>[p.1,p.2,z]) ts).map W.tup).length=min xs.length (min ys.length zs.length):=by simp [l1,l2,l3,Nat.min_assoc]
 refine ⟨λi H hi z=>Rn.go i H ox z,λH z=>by rw[hl];show Rn.stop H z,λi H x H' w hw z y G2 ρ σ I sg=>?_⟩;have hi:i<min xs.length (min ys.length zs.length):=by
  rw[<- hl];show (qA9.mp hw).1
 obtain ⟨p,y1,z1,t1,rfl,hp,rfl,hy,hz,ht⟩:=Rn.yld i H x H' hi z y;obtain ⟨w1,e1,q1⟩:=Reps.get' r1 hy;obtain ⟨w2,e2,q2⟩:=Reps.get' r2 hz;obtain ⟨w3,e3,q3⟩:=Reps.get' r3 ht;have a3:w=.tup [w1,w2,w3]:=by
  rw[qC0,qL0,List.zip,qL0,e1,e2,e3]at hw;cases hw;rfl
 subst a3;obtain ⟨x1,x2⟩:=iq (Hs:=H) he I hp (.cons (q1.same (L8 sg)) (.cons (q2.same (L8 sg)) (.cons (q3.same (L8 sg)) .nil)));show ⟨_,x1,x2⟩
def bx (h:U6 (w::ws)=.ok xs):∃y I,B1 w=.ok y/\U6 ws=.ok I/\xs=y::I:=by
 unfold U6 at h;cases h1:B1 w with
 |stuck=>rw[h1]at h;cases h
 |ex _=>rw[h1]at h;cases h
 | ok y=>
  rw[h1]at h;cases h2:U6 ws with
  |stuck=>rw[h2]at h;cases h
  |ex _=>rw[h2]at h;cases h
  |ok I=>rw[h2]at h;cases h;show ⟨y,I,rfl,rfl,rfl⟩
def IZ (he:e=.V\/e=.U) (h:tIt K EX lp e (λρ=>ma ρ>>=M1) σ H Rr):FR K (tA K EX (cz lp e) ma) σ H Rr:=by
 refine bu h (λH0 G ρ G1 H1 xs ws us I e1 m1 q o=>?_) (λws e z=>?_)
 .have I1:=I.ext e1;unfold M1 at q
  split at q
  .rename_i hn
   cases hs:U6 ws with
   |stuck=>rw[hs]at q;cases q
   |ex _=>rw[hs]at q;cases q
   | ok ls=>
    rw[hs]at q;cases q;cases m1 with
    |nil=>simp at hn
    | cons a1 m1=>
     cases m1 with
     |nil=>simp at hn
     | cons a2 m1=>
      obtain ⟨y1,ys,h1,a6,rfl⟩:=bx hs;obtain ⟨y2,ys,h2,a4,rfl⟩:=bx a6;obtain ⟨t1,p1,v1,rfl,q1,r1⟩:=Md.src he I1 a1 h1;obtain ⟨t2,p2,v2,rfl,q2,r2⟩:=Md.src he I1 a2 h2;have k1:=J8 (iK I1) q1;have k2:=J8 (iK I1) q2;cases m1 with
      | nil=>
       cases a4;refine ⟨[(t1,p1),(t2,p2)],rfl,.inl rfl,λu hu=>?_,o _ G1 H1 e1 (uc he q1 q2 r1 r2)⟩;simp only [qB5,qD8,qR8]at hu;rcases hu with rfl|rfl
       .show ⟨_,k1⟩
       .show ⟨_,k2⟩
      | cons a3 m1=>
       cases m1 with
       |cons _ _=>simp at hn
       | nil=>
        obtain ⟨y3,ys,h3,a5,rfl⟩:=bx a4;cases a5;obtain ⟨t3,p3,v3,rfl,q3,r3⟩:=Md.src he I1 a3 h3;refine ⟨[(t1,p1),(t2,p2),(t3,p3)],rfl,.inr rfl,λu hu=>?_,o _ G1 H1 e1 (tZ he q1 q2 q3 r1 r2 r3)⟩;simp only [qB5,qD8,qR8]at hu;rcases hu with rfl|rfl|rfl
        .show ⟨_,k1⟩
        .show ⟨_,k2⟩
        .show ⟨_,J8 (iK I1) q3⟩
  .cases q
 .unfold M1 at z
  split at z
  .split at z <;> cases z
  .cases z
def Reps.atI (r:Reps K F vs ws) (h:L2.atI ws i=some w):∃v,L2.atI vs i=some v/\Rep K F v w:=by
 unfold L2.atI at h ⊢;rw[r.length];cases q:ixN ws.length i with
 |none=>rw[q]at h;cases h
 |some j=>rw[q]at h;show Reps.get r h
def fIx:W->W->R W
 | .lst ws,.int i=>toR (L2.atI ws i)
 | .tup ws,.int i=>toR (L2.atI ws i)
 | .scr ws,.int i=>toR (L2.atI ws i)
 |_,_=>.stuck
def EQ:Op2 K .B .U (rIx K) fIx:=by
 intro EX H0 Hs G H ρ σ Ha Hb x y u v Q I s mx my o;cases u <;> first|show o.elim|skip
 all_goals (cases v <;> first|show o.elim|skip)
 .rename_i ws i
  obtain ⟨a,vs,rfl,hs,r⟩:=mx.tupB I;replace o:Out EX G H (mdW K .U H0 Hs) (toR (L2.atI ws i)) Q:=o
  cases q:L2.atI ws i with
  |none=>rw[q]at o;show o.elim
  | some w=>
   rw[q]at o;obtain ⟨v,hv,rv⟩:=r.atI q;show .inr (.inl ⟨a,vs,i,v,rfl,my.intB,SqT.of hs,hv,o v G H (Ext.refl I.gh) rv⟩)
 .rename_i ws i
  obtain ⟨a,vs,rfl,hs,r⟩:=mx.lstB I;replace o:Out EX G H (mdW K .U H0 Hs) (toR (L2.atI ws i)) Q:=o
  cases q:L2.atI ws i with
  |none=>rw[q]at o;show o.elim
  | some w=>
   rw[q]at o;obtain ⟨v,hv,rv⟩:=r.atI q;show .inl ⟨a,vs,i,v,rfl,my.intB,SqL.of hs,hv,o v G H (Ext.refl I.gh) rv⟩
 .rename_i ws i
  obtain ⟨a,vs,rfl,hs,r⟩:=mx.scrB I;replace o:Out EX G H (mdW K .U H0 Hs) (toR (L2.atI ws i)) Q:=o
  cases q:L2.atI ws i with
  |none=>rw[q]at o;show o.elim
  | some w=>
   rw[q]at o;obtain ⟨v,hv,rv⟩:=r.atI q;show .inl ⟨a,vs,i,v,rfl,my.intB,hs,hv,o v G H (Ext.refl I.gh) rv⟩
def EO:Op2 K .C .V (rIx K) fIx:=by
 intro EX H0 Hs G H ρ σ Ha Hb x y u v Q I s mx my o;cases u <;> first|show o.elim|skip
 all_goals (cases v <;> first|show o.elim|skip)
 .rename_i ws i
  obtain ⟨a,vs,rfl,hs,r⟩:=mx.tupC I;replace o:Out EX G H (mdW K .V H0 Hs) (toR (L2.atI ws i)) Q:=o
  cases q:L2.atI ws i with
  |none=>rw[q]at o;show o.elim
  | some w=>
   rw[q]at o;obtain ⟨v,hv,rv⟩:=r.atI q;show .inr (.inl ⟨a,vs,i,v,rfl,Md.intB (Md.CB I my),SqT.of hs,hv,o v G H (Ext.refl I.gh) rv⟩)
 .rename_i ws i
  obtain ⟨a,vs,rfl,hs,r⟩:=mx.lstC I;replace o:Out EX G H (mdW K .V H0 Hs) (toR (L2.atI ws i)) Q:=o
  cases q:L2.atI ws i with
  |none=>rw[q]at o;show o.elim
  | some w=>
   rw[q]at o;obtain ⟨v,hv,rv⟩:=r.atI q;show .inl ⟨a,vs,i,v,rfl,Md.intB (Md.CB I my),SqL.of hs,hv,o v G H (Ext.refl I.gh) rv⟩
 .rename_i ws i
  obtain ⟨a,vs,rfl,hs,r⟩:=(Md.repC mx λ_=>W.noConfusion).inv;replace o:Out EX G H (mdW K .V H0 Hs) (toR (L2.atI ws i)) Q:=o
  cases q:L2.atI ws i with
  |none=>rw[q]at o;show o.elim
  | some w=>
    rw[q]at o;obtain ⟨v,hv,rv⟩:=r.atI q;show .inl ⟨_,_,i,v,rfl,Md.intB (Md.CB I my),Same.seq I.gh hs,hv,o v G H (Ext.refl I.gh) rv⟩
def S8 (K:Frag)(EX:EXT)(m:Rho->R JX):TO:=λσ H Q=>∃H0 G ρ,PIv K H0 G ρ σ H/\Out EX G H (λ(b c:JX) _ _=>c=b) (m ρ) Q
def jX:W->R JX
 | .int i=>.ok (some i)
 |_=>.stuck
def xP (h:S8 K EX (λ_=>.ok none) σ H Q):tNoPart σ H Q:=by
 obtain ⟨H0,G,ρ,I,o⟩:=h;show o none G H (Ext.refl I.gh) rfl
def Hn (h:S8 K EX (λρ=>m ρ>>=jX) σ H Q):yb (tM K EX .B m) σ H Q:=by
 obtain ⟨H0,G,ρ,I,o⟩:=h;refine ⟨H0,G,ρ,I,Out.bind o λx G1 H1 u e1 m1 o1=>?_⟩;cases u <;> first|show o1.elim|skip
 rename_i i
 show ⟨i,m1.intB,o1 _ G1 H1 (Ext.refl e1.gh) rfl⟩
def F8 (xs:Vp)(lo hi:JX):Vp:=(xs.drop (HT.sIx xs.length 0 lo)).take (HT.sIx xs.length xs.length hi-HT.sIx xs.length 0 lo)
def Reps.cut (r:Reps K F vs ws) (lo hi:JX):Reps K F (bR vs lo hi) (F8 ws lo hi):=by
 unfold bR F8;rw[r.length];show (r.drop _).take _
def lstOf:W->Option Vp
 | .lst ws=>some ws
 | .scr ws=>some ws
 |_=>none
def chks (c:Bool)(ws:Vp):R W:=if c||m8 ws then .ok (.lst ws) else .stuck
def cb (c:Bool):Mode:=if c then .C else .B
def Md.lstOf (I:PIv K H0 G ρ σ H) (m:Md K H0 Ha G H x w (cb c)) (h:lstOf w=some ws):∃a vs,x=.ref a/\SqL K H a vs/\Reps K (if c then G else join H0 G) vs ws:=by
 cases c with
 | true=>
  rw[qA2 rfl];cases w <;> first|cases h|skip
  .obtain ⟨a,vs,e,hs,r⟩:=Md.lstC (H:=Ha) I m;show ⟨a,vs,e,SqL.of hs,r⟩
  .obtain ⟨a,vs,e,hs,r⟩:=(Md.repC m λ_=>W.noConfusion).inv;show ⟨a,vs,e,Same.seq I.gh hs,r⟩
 | false=>
  rw[qA4 qA3];cases w <;> first|cases h|skip
  .obtain ⟨a,vs,e,hs,r⟩:=Md.lstB (H:=Ha) I m;show ⟨a,vs,e,SqL.of hs,r⟩
  .show Md.scrB (H:=Ha) I m
def Out.chks {Q:VK}(I:PIv K H0 G ρ σ H) (s:Same Hs H) (r:Reps K (if c then G else join H0 G) vs ws) (o:Out EX G H (mdW K .F H0 Hs) (chks c ws) Q):∀p,H p=none->Q (.ref p) (upd H p (.lst vs)):=by
 unfold TP.chks at o;by_cases n:(c||m8 ws)=true
 .rw [qA2 n]at o
  have r':Reps K G vs ws:=by
   cases c with
   |true=>rw[qA2 rfl]at r;show r
   |false=>rw[qA4 qA3]at r;show Reps.clean I r (by simpa using n)
  show λp hp=>Out.newL I s r' hp o
 .rw[qA4 n]at o;show o.elim
def c_sl (h:tM K EX .F (λρ=>m ρ>>=λx=>ml ρ>>=λl=>mh ρ>>=λu=>toR (lstOf x)>>=λws=>chks c (F8 ws l u)) σ H Q):
  tSl (DR K) (tM K EX (cb c) m) (S8 K EX ml) (S8 K EX mh) σ H Q:=by
 obtain ⟨H0,G,ρ,I,o⟩:=h;refine ⟨H0,G,ρ,I,Out.bind o λx G1 H1 w e1 m1 o1=>⟨H0,G1,ρ,I.ext e1,Out.bind o1 λl' G2 H2 l e2 m2 o2=>⟨H0,G2,ρ,(I.ext e1).ext e2,Out.bind o2 λu' G3 H3 u e3 m3 o3=>?_⟩⟩⟩;subst m2;subst m3;have I3:=((I.ext e1).ext e2).ext e3;cases q:lstOf w with
 |none=>rw[q]at o3;show o3.elim
 | some ws=>
  rw[q]at o3;obtain ⟨a,vs,ex,hs,r⟩:=Md.lstOf I3 ((m1.move e2).move e3) q;refine ⟨a,vs,ex,hs,Out.chks I3 ((e1.hh.trans e2.hh).trans e3.hh) (c:=c) ?_ o3⟩;cases c with
  |true=>rw[qA2 rfl]at r ⊢;show r.cut _ _
  |false=>rw[qA4 qA3]at r ⊢;show r.cut _ _
def Cal (K:Frag) (b d:Mode) (r:List V->Hp->VK->Prop) (f:List W->R W):Prop:=∀(EX:EXT) (H0 Hs G H:Hp) (ρ:Rho) (σ:St) (I:Hp) (vs:List V) (ws:Vp) (Q:VK),PIv K H0 G ρ σ H->Same Hs H->MdA K b H0 I G H ws vs ->
 Out EX G H (mdW K d H0 Hs) (f ws) Q->r vs H Q
def Hw (hr:Cal K b d r f) (h:tM K EX d (λρ=>ma ρ>>=λws=>f ws) σ H Q):tCB r (tA K EX b ma) σ H Q:=by
 obtain ⟨H0,G,ρ,I,o⟩:=h;show ⟨H0,G,ρ,I,Out.bind o λxs G1 H1 ws e1 m1 o1=>hr EX H0 H G1 H1 ρ σ H xs ws Q (I.ext e1) e1.hh m1 o1⟩
def fLen:List W->R W
 | [w]=>B1 w>>=λws=>.ok (.int ws.length)
 |_=>.stuck
def v0:Cal K .B d (λxs H Q=>∃p ys,xs = [.ref p]/\(SqL K H p ys\/SqT K H p ys)/\Q (.int ys.length) H) fLen:=by
 intro EX H0 Hs G H ρ σ Ha vs ws Q I s m o;cases m with
 |nil=>show o.elim
 | cons a t=>
  cases t with
  |cons _ _=>show o.elim
  | nil=>
   rename_i w v
   cases w <;> first|show o.elim|skip
   .obtain ⟨p,ys,rfl,hs,r⟩:=a.tupB I;show ⟨p,ys,rfl,.inr (SqT.of hs),by rw[r.length];show o _ G H (Ext.refl I.gh) (Md.sca rfl (λ_=>.int) d)⟩
   .obtain ⟨p,ys,rfl,hs,r⟩:=a.lstB I;show ⟨p,ys,rfl,.inl (SqL.of hs),by rw[r.length];show o _ G H (Ext.refl I.gh) (Md.sca rfl (λ_=>.int) d)⟩
   .obtain ⟨p,ys,rfl,hs,r⟩:=a.scrB I;show ⟨p,ys,rfl,.inl hs,by rw[r.length];show o _ G H (Ext.refl I.gh) (Md.sca rfl (λ_=>.int) d)⟩
def gP (c:Bool):List W->R W
 | [w]=>B1 w>>=chks c
 |_=>.stuck
def vc:Cal K (cb c) .F (λxs H Q=>∃p ys,xs = [.ref p]/\(SqL K H p ys\/SqT K H p ys)/\∀l,H l=none->Q (.ref l) (upd H l (.lst ys))) (gP c):=by
 intro EX H0 Hs G H ρ σ Ha vs ws Q I s m o;cases m with
 |nil=>show o.elim
 | cons a t=>
  cases t with
  |cons _ _=>show o.elim
  | nil=>
   rename_i w v
   cases w <;> first|show o.elim|skip
   .rename_i us
    cases c with
    | true=>
     obtain ⟨p,ys,rfl,hs,r⟩:=Md.tupC (H:=Ha) I a;show ⟨p,ys,rfl,.inr (SqT.of hs),Out.chks (c:=true) I s r o⟩
    | false=>
     obtain ⟨p,ys,rfl,hs,r⟩:=Md.tupB (H:=Ha) I a;show ⟨p,ys,rfl,.inr (SqT.of hs),Out.chks (c:=false) I s r o⟩
   .obtain ⟨p,ys,rfl,hs,r⟩:=Md.lstOf I a rfl;show ⟨p,ys,rfl,.inl hs,Out.chks I s r o⟩
   .obtain ⟨p,ys,rfl,hs,r⟩:=Md.lstOf I a rfl;show ⟨p,ys,rfl,.inl hs,Out.chks I s r o⟩
def Z2 (c:Bool)(ws:Vp):R W:=if c||m8 ws then .ok (.tup ws) else .stuck
def E2 (c:Bool):List W->R W
 | [w]=>B1 w>>=Z2 c
 |_=>.stuck
def E6:Cal K (cb c) .F (λxs H Q=>∃p ys,xs = [.ref p]/\((SqL K H p ys/\∀l,H l=none->Q (.ref l) (upd H l (.tup ys)))\/(SqT K H p ys/\Q (.ref p) H))) (E2 c):=by
 intro EX H0 Hs G H ρ σ Ha vs ws Q I s m o;have key:∀{vs:List V}{us:Vp},Reps K (if c then G else join H0 G) vs us->Out EX G H (mdW K .F H0 Hs) (Z2 c us) Q->Reps K G vs us/\Out EX G H (mdW K .F H0 Hs) (.ok (.tup us)) Q:=λ{vs us} r o=>by
  unfold Z2 at o;by_cases n:(c||m8 us)=true
  .rw [qA2 n]at o
   refine ⟨?_,o⟩;cases c with
   |true=>rw[qA2 rfl]at r;show r
   |false=>rw[qA4 qA3]at r;show Reps.clean I r (by simpa using n)
  .rw[qA4 n]at o;show o.elim
 cases m with
 |nil=>show o.elim
 | cons a t=>
  cases t with
  |cons _ _=>show o.elim
  | nil=>
   rename_i w v
   cases w <;> first|show o.elim|skip
   .rename_i us
    have hx:∃p ys,v=.ref p/\(if c then G else join H0 G) p=some (.tup ys)/\Reps K (if c then G else join H0 G) ys us:=by
     cases c with
     |true=>rw[qA2 rfl];show (Md.repC a λ_=>W.noConfusion).inv
     |false=>rw[qA4 qA3];show (Md.repB a λ_=>W.noConfusion).inv
    obtain ⟨p,ys,rfl,hp,r⟩:=hx;obtain ⟨r',o'⟩:=key r o;have hH:H p=some (.tup ys):=by
     cases c with
     |true=>rw[qA2 rfl]at hp;show I.gh _ _ hp
     |false=>rw[qA4 qA3]at hp;show I.join_H _ _ hp
    have hG:G p=some (.tup ys):=by
     cases c with
     |true=>rw[qA2 rfl]at hp;show hp
     | false=>
      rw[qA4 qA3]at hp;unfold join at hp;cases q:H0 p with
      |none=>rw[q]at hp;show hp
      | some u=>
       rw[q]at hp;dsimp only at hp;by_cases hl:isL u=true
       .rw[qA2 hl]at hp;cases hp;cases hl
       .rw[qA4 hl]at hp;show hp
    show ⟨p,ys,rfl,.inr ⟨SqT.of hH,o' _ G H (Ext.refl I.gh) (.tup hG r')⟩⟩
   .obtain ⟨p,ys,rfl,hs,r⟩:=Md.lstOf I a rfl;obtain ⟨r',o'⟩:=key r o;show ⟨p,ys,rfl,.inl ⟨hs,λl hl=>Out.newTF I r' hl o'⟩⟩
   .obtain ⟨p,ys,rfl,hs,r⟩:=Md.lstOf I a rfl;obtain ⟨r',o'⟩:=key r o;show ⟨p,ys,rfl,.inl ⟨hs,λl hl=>Out.newTF I r' hl o'⟩⟩
def f2 (g:Int->Int->Int):List W->R W
 | [.int i,.int j]=>.ok (.int (g i j))
 |_=>.stuck
def b_2:Cal K .B d (λxs H Q=>∃i j,xs = [.int i,.int j]/\Q (.int (g i j)) H) (f2 g):=by
 intro EX H0 Hs G H ρ σ Ha vs ws Q I s m o;unfold f2 at o
 split at o
 .cases m with
  | cons a t=>
   cases t with
   | cons b t=>
    cases t;show ⟨_,_,by rw[a.intB,b.intB],o _ G H (Ext.refl I.gh) (Md.sca rfl (λ_=>.int) d)⟩
 .show o.elim
def tyW:W->Option String
 | .non=>some "NoneType"
 | .bl _=>some "bool"
 | .int _=>some "int"
 | .str _=>some "str"
 | .tup _=>some "tuple"
 | .lst _=>some "list"
 |_=>none
def fIsi:List W->R W
 | [x,.ty T]=>toR ((tyW x).bind λA=>z7 A T)>>=λb=>.ok (.bl b)
 |_=>.stuck
def Co (I:PIv K H0 G ρ σ H) (m:Md K H0 Ha G H v w .B) (h:tyW w=some A):L2.tyB H v=some A:=by
 cases w <;> first|cases h|skip
 .rw[m.nonB];rfl
 .rw[m.blB];rfl
 .rw[m.intB];rfl
 .rw[m.strB];rfl
 .obtain ⟨a,vs,rfl,hs,r⟩:=m.tupB I
  change L2.tyO (H a)=_;rw[hs];rfl
 .obtain ⟨a,vs,rfl,hs,r⟩:=m.lstB I
  change L2.tyO (H a)=_;rw[hs];rfl
def V8:Cal K .B d rIsi fIsi:=by
 intro EX H0 Hs G H ρ σ Ha vs ws Q I s m o;cases m with
 |nil=>show o.elim
 | @cons x _ _ _ a t=>
  cases t with
  |nil=>show o.elim
  | @cons y _ _ _ b t=>
   cases t with
   |cons _ _=>first|show o.elim | (cases y <;> show o.elim)
   | nil=>
    cases y <;> first|show o.elim|skip
    rename_i T
    replace o:Out EX G H (mdW K d H0 Hs) (toR ((tyW x).bind λA=>z7 A T)>>=λb=>.ok (.bl b)) Q:=o
    cases q:tyW x with
    |none=>rw[q]at o;show o.elim
    | some A=>
     rw[q]at o;replace o:Out EX G H (mdW K d H0 Hs) (toR (z7 A T)>>=λb=>.ok (.bl b)) Q:=o
     cases q2:z7 A T with
     |none=>rw[q2]at o;show o.elim
     | some c=>
      rw[q2]at o;show ⟨_,T,by rw[b.tyB],A,Co I a q,c,q2,o _ G H (Ext.refl I.gh) (Md.sca rfl (λ_=>.bl) d)⟩
def aA (c:Bool):W->W->R W
 | .lst us,.lst vs=>if us.length+vs.length<=1000 then chks c (us++vs) else .stuck
 |_,_=>.stuck
def gj:Op2 K (cb c) .F rCat (aA c):=by
 intro EX H0 Hs G H ρ σ Ha Hb x y u v Q I s mx my o;cases u <;> first|show o.elim|skip
 all_goals (cases v <;> first|show o.elim|skip)
 rename_i us vs
 replace o:Out EX G H (mdW K .F H0 Hs) (if us.length+vs.length<=1000 then chks c (us++vs) else .stuck) Q:=o
 by_cases hn:us.length+vs.length<=1000
 .rw [qA2 hn]at o
  have h1:∃a ws,x=.ref a/\H a=some (.lst ws)/\Reps K (if c then G else join H0 G) ws us:=by
   cases c with
   |true=>show Md.lstC (H:=Ha) I mx
   |false=>show Md.lstB (H:=Ha) I mx
  have h2:∃a ws,y=.ref a/\H a=some (.lst ws)/\Reps K (if c then G else join H0 G) ws vs:=by
   cases c with
   |true=>show Md.lstC (H:=Hb) I my
   |false=>show Md.lstB (H:=Hb) I my
  obtain ⟨a,xs,rfl,ha,ra⟩:=h1;obtain ⟨b,ys,rfl,hb,rb⟩:=h2;show ⟨a,b,xs,ys,rfl,rfl,ha,hb,by rw[ra.length,rb.length];show W4 hn,Out.chks I s (ra.append rb) o⟩
 .rw[qA4 hn]at o;show o.elim
def fRep (c:Bool):W->W->R W
 | .lst us,.int k=>if us.length*k.toNat<=1000 /\ -1000<=k/\k<=1000 then chks c (List.replicate k.toNat us).flatten else .stuck
 |_,_=>.stuck
def mC (w:W):Vo:=λ_=>.ok w
def b1 (f:W->R W)(ma:Vo):Vo:=λρ=>ma ρ>>=λx=>f x
def b2 (f:W->W->R W)(ma mb:Vo):Vo:=λρ=>ma ρ>>=λx=>mb ρ>>=λy=>f x y
def bA (f:List W->R W)(ma:VQ):Vo:=λρ=>ma ρ>>=λws=>f ws
def bI (f:List W->R Vp)(ma:VQ):VQ:=λρ=>ma ρ>>=f
def bS (ma:Vo):VQ:=λρ=>ma ρ>>=B1
def aN:VQ:=λ_=>.ok []
def aC (ma:Vo)(I:VQ):VQ:=λρ=>ma ρ>>=λx=>I ρ>>=λxs=>.ok (x::xs)
def U3 (ma:Vo):Vo:=λρ=>ma ρ>>=chk
def e9 (ma:Vo):VZ:=λρ=>ma ρ>>=toB
def dB (a b:VZ):VZ:=λρ=>rAnd (a ρ) (b ρ)
def Q3 (a b:VZ):VZ:=λρ=>rOr (a ρ) (b ρ)
def z9 (a:VZ):VZ:=λρ=>pH (a ρ)
def kH (a b:Vo):Vo:=λρ=>dF (a ρ) (b ρ)
def vOr (a b:Vo):Vo:=λρ=>ll (a ρ) (b ρ)
def vNot (a:Vo):Vo:=λρ=>pG (a ρ)
def vIf (c:VZ)(a b:Vo):Vo:=λρ=>c ρ>>=λt=>if t then a ρ else b ρ
def fQ (f I:W->W->R W)(ma mb mc:Vo):Vo:=λρ=>ma ρ>>=λx=>mb ρ>>=λy=>f x y>>=λz=>toB z>>=λc=>if c then mc ρ>>=λu=>I y u else .ok (.bl false)
def A0 (ma:VQ):Vo:=λρ=>ma ρ>>=λws=>lim ws.length (.tup ws)
def C9 (ma:VQ):Vo:=λρ=>ma ρ>>=λws=>lim ws.length (.lst ws)
def pN:Rho->R JX:=λ_=>.ok none
def pS (m:Vo):Rho->R JX:=λρ=>m ρ>>=jX
def vSl (c:Bool)(m:Vo)(I mh:Rho->R JX):Vo:=λρ=>m ρ>>=λx=>I ρ>>=λl=>mh ρ>>=λu=>toR (lstOf x)>>=λws=>chks c (F8 ws l u)
def l6 (n:Nat)(I:VQ)(mg:VJ)(mc:VZ)(me:Vo):Vo:=λρ=>I ρ>>=λws=>j7 n mg mc me ws ρ
def yes:VZ:=λ_=>.ok true
def sNx:Vg:=λρ=>.ok (.nx ρ)
def Ig (m:Vo):Vg:=λρ=>m ρ>>=λ_=>.ok (.nx ρ)
def g8 (m:Vo):Vg:=λρ=>m ρ>>=λw=>.ok (.rt w)
def Ic:Vg:=λ_=>.ok (.rt .non)
def sV (i:Nat)(m:Vo):Vg:=λρ=>m ρ>>=λw=>.ok (.nx (ρ.set i (.val w)))
def sU (i:Nat)(m:Vo):Vg:=λρ=>m ρ>>=λw=>.ok (.nx (ρ.set i (.par w)))
def sF (i:Nat)(m:Vo):Vg:=λρ=>m ρ>>=λw=>.ok (.nx (ρ.set i (O0 w)))
def sG (mg:VJ)(m:Vo):Vg:=λρ=>m ρ>>=λw=>toR (mg w ρ)>>=λI=>.ok (.nx I)
def A9 (I:VQ)(mg:VJ)(mb:Vg):Vg:=λρ=>I ρ>>=λws=>D8 mg mb ws ρ
def au (i:Nat)(m:Vg):Vg:=λρ=>m (frz i ρ)
def sf:Vg:=λ_=>.stuck
def sBk:Vg:=λρ=>.ok (.bk ρ)
def sCt:Vg:=λρ=>.ok (.ct ρ)
def _root_.L2.PE.mono {X:Cx}{e:Expr}{t t':TE}(h:PE X e t)(hm:∀σ H Q,t' σ H Q->t σ H Q):PE X e t':=λpins s σ H Q I q=>h pins s σ H Q I (hm σ H Q q)
def _root_.L2.PT.mono {X:Cx}{e:Expr}{t t':TT}(h:PT X e t)(hm:∀σ H Q,t' σ H Q->t σ H Q):PT X e t':=λpins s σ H Q I q=>h pins s σ H Q I (hm σ H Q q)
def _root_.L2.PW.mono {X:Cx}{e:Expr}{t t':TT}(h:PW X e t)(hm:∀σ H Q,t' σ H Q->t σ H Q):PW X e t':=λwh pins s σ H Q I q=>h wh pins s σ H Q I (hm σ H Q q)
def _root_.L2.PA.mono {X:Cx}{es:Vz}{t t':TA}(h:PA X es t)(hm:∀σ H Q,t' σ H Q->t σ H Q):PA X es t':=λpos pins s σ H Q I q=>h pos pins s σ H Q I (hm σ H Q q)
def _root_.L2.PS.mono {X:Cx}{st:Stmt}{t t':TS}(h:PS X st t)(hm:∀D σ H,t' D σ H->t D σ H):PS X st t':=λpins s σ H D I q=>h pins s σ H D I (hm D σ H q)
def _root_.L2.PSs.mono {X:Cx}{a3:List Stmt}{t t':TS}(h:PSs X a3 t)(hm:∀D σ H,t' D σ H->t D σ H):PSs X a3 t':=λpins s σ H D I q=>h pins s σ H D I (hm D σ H q)
def _root_.L2.PI.mono {X:Cx}{e:Expr}{tg:Expr}{t t':TI}(h:PI X tg e t)(hm:∀σ H Q,t' σ H Q->t σ H Q):PI X tg e t':=λpins s σ H Q I q=>h pins s σ H Q I (hm σ H Q q)
def _root_.L2.PO.mono {X:Cx}{oe:Option Expr}{t t':TO}(h:PO X oe t) (hm:∀σ H Q,t' σ H Q->t σ H Q):PO X oe t':=by
 intro pins s σ H Q I q;show h pins s σ H Q I (hm σ H Q q)
def t7 (h:PE X e (tM K EX .F ma)):PE X e (tM K EX .V ma):=h.mono λ_ _ _ q=>Az q
def fq (h:PE X e (tM K EX .V ma)):PE X e (tM K EX .U ma):=h.mono λ_ _ _ q=>Aw q
def wc (h:PE X e (tM K EX .V ma)):PE X e (tM K EX .C ma):=h.mono λ_ _ _ q=>Ax q
def g7 (h:PE X e (tM K EX .F ma)):PE X e (tM K EX .C ma):=h.mono λ_ _ _ q=>AA q
def f9 (h:PE X e (tM K EX .U ma)):PE X e (tM K EX .B ma):=h.mono λ_ _ _ q=>Ay q
def i7 (h:PE X e (tM K EX .C ma)):PE X e (tM K EX .B ma):=h.mono λ_ _ _ q=>AB q
def S5 (h:PE X e (tM K EX .U ma)):PE X e (tM K EX .V (U3 ma)):=h.mono λ_ _ _ q=>lV (.inr rfl) q
def Ej (h:PE X e (tM K EX .U ma)):PE X e (tM K EX .F (U3 ma)):=h.mono λ_ _ _ q=>lV (.inl rfl) q
def qv {X:Cx}{K:Frag}{EX:EXT}{pos:Pos}(d:Mode)(i:Nat){x:Str}(hN:X.N[i]?=some x:=by rfl)(hv:Vis X.env.scope x:=by first|show Or.inl rfl|show Or.inr (Or.inl rfl)|show Or.inr (Or.inr rfl))(hd:(x == ("__debug__" : Str))=false:=by decide)(I:(x == ("__classdict__" : Str))=false:=by decide):PE X (.Name x pos) (tM K EX d (b7 d i)):=(X6 hN hv hd I).mono λ_ _ _ q=>qI q
def c9 {i j}:PE X (.Constant (.int i) j pos) (tM K EX d (mC (.int i))):=pe_int.mono λ_ _ _ q=>bi rfl (λ_=>.int) q
def x8 {t j}:PE X (.Constant (.bool t) j pos) (tM K EX d (mC (.bl t))):=pe_bl.mono λ_ _ _ q=>bi rfl (λ_=>.bl) q
def E5 {j}:PE X (.Constant .none j pos) (tM K EX d (mC .non)):=pe_non.mono λ_ _ _ q=>bi rfl (λ_=>.non) q
def C7 {x j}:PE X (.Constant (.str x) j pos) (tM K EX d (mC (.str x))):=pe_str.mono λ_ _ _ q=>bi rfl (λ_=>.str) q
def bE {X:Cx}{K:Frag}{EX:EXT}{d:Mode}{pos:Pos}{x:Str}{n:String}(I:Gl X x) (hm:X.mg x=none) (hv:bootBuiltins x=some (.type n)) (hn:x ≠ "__name__" := by decide) (hd:(x == ("__debug__" : Str))=false:=by decide):PE X (.Name x pos) (tM K EX d (mC (.ty n))):=
 (Af (v:=.ty n) I hm hv rfl hn hd).mono λ_ _ _ q=>bi rfl (λ_=>.ty) q
def g9 (ho:OpR X (binaryOp op) r) (I:Op2 K b d r f) (ha:PE X a (tM K EX b ma)) (hb:PE X c (tM K EX b mb)):PE X (.BinOp a op c pos) (tM K EX d (b2 f ma mb)):=
 (Iz ho ha hb).mono λ_ _ _ q=>jb I q
def O7 (ho:OpR X (compareOp op) r) (I:Op2 K b d r f) (ha:PE X a (tM K EX b ma)) (hb:PE X c (tM K EX b mb)) (hm:behindInMarks op c=false:=by first|show tu _|rfl):PE X (.Compare a [op] [c] pos) (tM K EX d (b2 f ma mb)):=
 (Ae ho ha hb hm).mono λ_ _ _ q=>jb I q
def i9 (ho:OpR X (compareOp op) r) (hr:Op2 K b .B r f) (ha:PE X a (tM K EX b ma)) (hb:PE X c (tM K EX b mb)) (hm:behindInMarks op c=false:=by first|show tu _|rfl):PT X (.Compare a [op] [c] pos) (tT K EX (e9 (b2 f ma mb))):=
 (zU ho ha hb hm).mono λσ H Q q=>by
  obtain ⟨H0,G,ρ,I,o⟩:=q
  have:=hJ (ma:=b2 f ma mb) ⟨H0,G,ρ,I,o⟩
  show jb hr this
def X4 (ho:UnR X (unaryOp op) r) (I:Op1 K b d r f) (ha:PE X a (tM K EX b ma)):PE X (.UnaryOp op a pos) (tM K EX d (b1 f ma)):=
 (Iy ho ha).mono λ_ _ _ q=>c_un I q
def o7 (ha:PE X a (tM K EX .B ma)) (I:∀whole,isTrue a X.env whole=(do let v <- whole;standAt a.pos;holding [v] (truthy v)):=by intro _;rfl):PT X a (tT K EX (e9 ma)):=
 (Eo ha I).mono λ_ _ _ q=>c_tB q
def dG (ha:PT X a (tT K EX ta)):PW X (.BoolOp .And [a] pos) (tT K EX ta):=zT ha
def X5 (ha:PT X a (tT K EX ta)):PW X (.BoolOp .Or [a] pos) (tT K EX ta):=El ha
def fZ {rest:Vz}(ha:PT X a (tT K EX ta))(hb:PW X (.BoolOp .And (b::rest) pos) (tT K EX tb)):PW X (.BoolOp .And (a::b::rest) pos) (tT K EX (dB ta tb)):=(Em ha hb).mono λ_ _ _ q=>Ju q
def O6 {rest:Vz}(ha:PT X a (tT K EX ta))(hb:PW X (.BoolOp .Or (b::rest) pos) (tT K EX tb)):PW X (.BoolOp .Or (a::b::rest) pos) (tT K EX (Q3 ta tb)):=(Ip ha hb).mono λ_ _ _ q=>c_or q
def w8 (ha:PT X a (tT K EX ta)):PT X (.UnaryOp .Not a pos) (tT K EX (z9 ta)):=(Ep ha).mono λ_ _ _ q=>Jf q
def pJ {op}(h:PE X a (tM K EX d ma)):PE X (.BoolOp op [a] pos) (tM K EX d ma):=EB h
def pL {rest:Vz}(ha:PE X a (tM K EX .B ma))(hb:PE X (.BoolOp .And (b::rest) pos) (tM K EX d mb)):PE X (.BoolOp .And (a::b::rest) pos) (tM K EX d (kH ma mb)):=(ED ha hb).mono λ_ _ _ q=>HA q
def pK (ht:PT X t (tT K EX ta))(ha:PE X a (tM K EX d ma))(hb:PE X c (tM K EX d mb)):PE X (.IfExp t a c pos) (tM K EX d (vIf ta ma mb)):=(wm ht ha hb).mono λ_ _ _ q=>c_if q
def wb {X:Cx}{K:Frag}{EX:EXT}{b:Mode}{pos:Pos}{ma mb mc:Vo}{op a3:CmpOp}{r r':R2}{f f':W->W->R W}{x y z:Expr}(ho:OpR X (compareOp op) r) (hr:Op2 K b .B r f) (a4:OpR X (compareOp a3) r') (a5:Op2 K b .B r' f') (ha:PE X x (tM K EX b ma)) (hb:PE X y (tM K EX b mb)) (hc:PE X z (tM K EX b mc)) (hm:lastMarks [op,a3] [y,z]=false:=by with_unfolding_all rfl):PT X (.Compare x [op,a3] [y,z] pos) (tT K EX (e9 (fQ f f' ma mb mc))):=
 (wd ho a4 ha hb hc hm).mono λσ H Q q=>by
  obtain ⟨H0,G,ρ,I,o⟩:=q
  have:=hJ (ma:=fQ f f' ma mb mc) ⟨H0,G,ρ,I,o⟩
  show BQ hr a5 this
def b8:PA X [] (tA K EX d aN):=pa_nil.mono λ_ _ _ q=>Jg q
def b6 (ha:PE X e (tM K EX d ma))(I:PA X es (tA K EX d mr))(hs:starEach (e::es) X.env=(false,eval e X.env)::starEach es X.env:=by rfl):PA X (e::es) (tA K EX d (aC ma mr)):=(dH ha I hs).mono λ_ _ _ q=>Hv q
def B2 {x1}(h:PA X es (tA K EX .V mr)):PE X (.Tuple es x1 pos) (tM K EX .F (A0 mr)):=(sO h).mono λ_ _ _ q=>Ja q
def lq {x1}(h:PA X es (tA K EX .U mr)):PE X (.Tuple es x1 pos) (tM K EX .U (A0 mr)):=(sO h).mono λ_ _ _ q=>Hj q
def B3 (h:PA X es (tA K EX .V mr)):PE X (.List es pos) (tM K EX .F (C9 mr)):=(EC h).mono λ_ _ _ q=>Ji q
def d9 {X:Cx}{K:Frag}{EX:EXT}{a c:Expr}{pos:Pos}{ma mb:Vo}(ha:PE X a (tM K EX .B ma)) (hb:PE X c (tM K EX .B mb)) (hs:je c:=by show λ_ _=>rfl) (I:X.K=K:=by rfl):PE X (.Subscript a c pos) (tM K EX .U (b2 fIx ma mb)):=by
 subst I;show (yq tY ha hb hs).mono λ_ _ _ q=>jb EQ q
def R6 {X:Cx}{K:Frag}{EX:EXT}{a c:Expr}{pos:Pos}{ma mb:Vo}(ha:PE X a (tM K EX .C ma)) (hb:PE X c (tM K EX .C mb)) (hs:je c:=by show λ_ _=>rfl) (I:X.K=K:=by rfl):PE X (.Subscript a c pos) (tM K EX .V (b2 fIx ma mb)):=by
 subst I;show (yq tY ha hb hs).mono λ_ _ _ q=>jb EO q
def fo:PO X none (S8 K EX pN):=po_none.mono λ_ _ _ q=>xP q
def fk (h:PE X e (tM K EX .B ma)):PO X (some e) (S8 K EX (pS ma)):=(zY h).mono λ_ _ _ q=>Hn q
def ir {X:Cx}{K:Frag}{EX:EXT}{e:Expr}{pos:Pos}{ma:Vo}(k:Bool){lo hi:Option Expr}{p2:Pos}{I mh:Rho->R JX}(he:PE X e (tM K EX (cb k) ma)) (hl:PO X lo (S8 K EX I)) (hu:PO X hi (S8 K EX mh)) (hK:X.K=K:=by rfl):PE X (.Subscript e (.Slice lo hi none p2) pos) (tM K EX .F (vSl k ma I mh)):=by
 subst hK;show (lA zn he hl hu).mono λ_ _ _ q=>c_sl q
def m7 {X:Cx}{K:Frag}{EX:EXT}{d b:Mode}{e:Expr}{es:Vz}{pos:Pos}{mr:VQ}{x:Str}{id:String}{r:List V->Hp->VK->Prop}{f:List W->R W}{p:Pos}(hc:C8 X (.builtin id) r) (hr:Cal K b d r f) (hg:Gl X x) (hm:X.mg x=none) (hv:bootBuiltins x=some (.builtin id)) (ha:PA X (e::es) (tA K EX b mr)) (hn:x ≠ "__name__" := by decide) (I:(x == ("__debug__" : Str))=false:=by decide) (he:starEach (e::es) X.env=(false,eval e X.env)::starEach es X.env:=by rfl) (a3:(backTo pos (starEach es X.env)).any (·.1)=false:=by rfl):
  PE X (.Call (.Name x p) (e::es) [] pos) (tM K EX d (bA f mr)):=(wn hc hg hm hv ha hn I he a3).mono λ_ _ _ q=>Hw hr q
def F4 {X:Cx}{K:Frag}{EX:EXT}{d b:Mode}{e:Expr}{es:Vz}{pos:Pos}{mr:VQ}{x:Str}{T:String}{r:List V->Hp->VK->Prop}{f:List W->R W}{p:Pos}(hc:C8 X (.type T) r) (hr:Cal K b d r f) (hg:Gl X x) (hm:X.mg x=none) (hv:bootBuiltins x=some (.type T)) (ha:PA X (e::es) (tA K EX b mr)) (hn:x ≠ "__name__" := by decide) (I:(x == ("__debug__" : Str))=false:=by decide) (he:starEach (e::es) X.env=(false,eval e X.env)::starEach es X.env:=by rfl) (a3:(backTo pos (starEach es X.env)).any (·.1)=false:=by rfl):
  PE X (.Call (.Name x p) (e::es) [] pos) (tM K EX d (bA f mr)):=(sQ hc hg hm hv ha hn I he a3).mono λ_ _ _ q=>Hw hr q
def v4 (hK:X.K=K:=by rfl):C8 X (.builtin "len") (λxs H Q=>∃p I,xs = [.ref p]/\(SqL K H p I\/SqT K H p I)/\Q (.int I.length) H):=by subst hK;show nc
def vh (hK:X.K=K:=by rfl):C8 X (.type "list") (λxs H Q=>∃p I,xs = [.ref p]/\(SqL K H p I\/SqT K H p I)/\∀l,H l=none->Q (.ref l) (upd H l (.lst I))):=by subst hK;show mZ
def E7 (hK:X.K=K:=by rfl):C8 X (.type "tuple") (λxs H Q=>∃p I,xs = [.ref p]/\((SqL K H p I/\∀l,H l=none->Q (.ref l) (upd H l (.tup I)))\/(SqT K H p I/\Q (.ref p) H))):=by subst hK;show jT
def Ek {X:Cx}{K:Frag}{d:Mode}{e:Expr}{es:Vz}{pos:Pos}{mr:VQ}{k:Nat}{f:Addr}{fd:FuncData}{ps:Vq}{x:Str}{p:Pos}{n N:Nat}{m:Vg}(F:FnOk X.prog X.w X.K X.mg X.base CX0 k f fd ps (spM K n d (i5 n N m))) (hd:d=.F\/d=.V) (hr:Room k X.A) (hg:Gl X x) (hm:X.mg x=some (.ref f)) (hk:PySem.W.keepIn X.K (.ref f)=true) (hb:Binds X.K fd ps []) (ha:PA X (e::es) (tA K (λ_ _=>False) .B mr)) (I:(x == ("__debug__" : Str))=false:=by decide) (he:starEach (e::es) X.env=(false,eval e X.env)::starEach es X.env:=by rfl) (a3:(backTo pos (starEach es X.env)).any (·.1)=false:=by rfl):
  PE X (.Call (.Name x p) (e::es) [] pos) (tM K (λ_ _=>False) d (bA (i5 n N m) mr)):=
 (iu F hr hg hm hk hb .nil pO ha I he a3).mono λ_ _ _ q=>Hy hd (λws h=>vL ws h) (λ_ _ z=>z) q
def yn (h:PE X e (tM K EX (cz lp .U) ma))(I:X.K=K:=by rfl):PI X tg e (tIt K EX lp .U (bS ma)):=by subst I;show (Ix h).mono λ_ _ _ q=>Jk (.inr rfl) q
def F2 (I:Gl X "range") (hm:X.mg "range" = none) (ha:PA X [a] (tA K EX .B mr)) (hs:starEach [a] X.env = [(false,eval a X.env)]:=by rfl):PI X tg (.Call (.Name "range" p) [a] [] pos) (tIt K EX lp .U (bI M2 mr)):=
 (sL I hm ha hs).mono λ_ _ _ q=>Hm (.inr rfl) q
def ym {X:Cx}{K:Frag}{EX:EXT}{a:Expr}{es:Vz}{pos:Pos}{mr:VQ}{lp:Bool}{elts:Vz}{p tp:Pos}{k:Nat}(hg:Gl X "zip") (hm:X.mg "zip" = none) (ha:PA X (a::es) (tA K EX (cz lp .U) mr)) (hK:X.K=K:=by rfl) (hs:starEach (a::es) X.env=(false,eval a X.env)::starEach es X.env:=by rfl) (I:(backTo pos (starEach es X.env)).any (·.1)=false:=by rfl):
  PI X (.Tuple elts k tp) (.Call (.Name "zip" p) (a::es) [] pos) (tIt K EX lp .U (bI M1 mr)):=by subst hK;show (Ex hg hm ha hs I).mono λ_ _ _ q=>IZ (.inr rfl) q
def Ei (S:f8 X.env.scope cs X.N N') (hc:X.calm=true) (hi:PI X tg iter (tIt K EX false dd mi)) (hg:∀cl ex s H,PG (k6 X cs cl N' ex s H) tg g) (I:Gt K dd g mg) (hk:S1 X.N.length g) (ht:∀cl ex s H,PIf (k6 X cs cl N' ex s H) ifs (tT K EX ta)) (he:∀cl ex s H,PE (k6 X cs cl N' ex s H) elt (tM K EX .V ma)) (hs:∀x,foldedSetIterable iter X.env x=pure x:=by intro _;rfl):PE X (.ListComp elt [⟨tg,iter,ifs,0⟩] cs pos) (tM K EX .F (l6 N'.length mi mg ta ma)):=
 (Ad S hc hi hg hk ht he hs).mono λ_ _ _ q=>uW I q
def DZ {X:Cx}{K:Frag}{EX:EXT}{d:Mode}{pos:Pos}{ma:Vo}{ta:VZ}{i:Nat}{y:Str}{py:Pos}{cs:Scope}{N':Vq}{tg iter a3:Expr}{a4:Vz}{dd:Mode}{g:TG}{mg:VJ}{mi:VQ}{I:Pos}(S:f8 X.env.scope cs X.N N') (hc:X.calm=true) (hi:PI X tg iter (tIt K EX false dd mi)) (hg:∀cl ex s H,PG (k6 X cs cl N' ex s H) tg g) (a6:Gt K dd g mg) (hk:S1 X.N.length g) (ht:∀cl ex s H,PIf (k6 X cs cl N' ex s H) a4 (tT K EX ta)) (he:∀cl ex s H,PE (k6 X cs cl N' ex s H) a3 (tM K EX .V ma)) (hN:X.N.Nodup) (hy:X.N[i]?=some y) (hl:Loc X.env.scope y) (a5:swapsWith (.ListComp a3 [⟨tg,iter,a4,0⟩] cs I) (some (.Name y py)) pos.line X.env=pure true:=by rfl) (hf:X.fn y=true\/X.env.scope.names.lookup y=some .local:=by first|show .inl rfl|show .inr rfl|assumption) (hs:∀x,foldedSetIterable iter X.env x=pure x:=by intro _;rfl):PS X (.Assign [.Name y py] (.ListComp a3 [⟨tg,iter,a4,0⟩] cs I) pos) (tSt K EX d (sF i (l6 N'.length mi mg ta ma))):=
 (zW S hc hi hg hk ht he hN hy hl a5 hf hs).mono λD σ H q=>by
  have:=uU (m:=l6 N'.length mi mg ta ma) q
  show uW a6 this
def p9:PIf X [] (tT K EX yes):=λpins s σ H Q I q=>Ab pins s σ H Q I (by obtain ⟨H0,G,ρ,I0,o⟩:=q;show o true G H (Ext.refl I0.gh) rfl)
def S4 (h:PT X c (tT K EX ta)):PIf X [c] (tT K EX ta):=Aa h
def j3:PSs X [] (tSt K EX d sNx):=pss_nil.mono λ_ _ _ q=>Ho q
def c8 (h1:PS X st (tSt K EX d m))(I:PSs X sts (tSt K EX d n)):PSs X (st::sts) (tSt K EX d (d4 m n)):=(we h1 I).mono λ_ _ _ q=>Jd q
def c7 (I:PS X st (tSt K EX d m)):PSs X [st] (tSt K EX d m):=zV I
def aa (h:PS X st (tSt K EX d m)):PS X st (tSt K EX d (au i m)):=h.mono λ_ _ _ q=>Jl q
def Eh:PS X (.Continue pos) (tSt K EX d sCt):=ps_continue.mono λ_ _ _ q=>Hu q
def zR:PS X st (tSt K EX d sf):=ps_never.mono λ_ _ _ q=>BO q
def f6 (I:PE X e (tM K EX d ma)):PS X (.Return (some e) pos) (tSt K EX d (g8 ma)):=(sD I).mono λ_ _ _ q=>yK q
def F3 {X:Cx}{K:Frag}{EX:EXT}{d:Mode}{pos:Pos}(i:Nat){x:Str}{p:Pos}(hd:d=.F\/d=.V)(hN:X.N[i]?=some x:=by rfl)(hv:Vis X.env.scope x:=by first|show Or.inl rfl|show Or.inr (Or.inl rfl)|show Or.inr (Or.inr rfl))(a3:(x == ("__debug__" : Str))=false:=by decide)(I:(x == ("__classdict__" : Str))=false:=by decide):PS X (.Return (some (.Name x p)) pos) (tSt K EX d (v5 d i)):=(sD (X6 hN hv a3 I)).mono λ_ _ _ q=>xO hd q
def o9 {X:Cx}{K:Frag}{EX:EXT}{d:Mode}{e:Expr}{pos:Pos}{ma:Vo}{i:Nat}{x:Str}{pos':Pos}(hN:X.N.Nodup) (hi:X.N[i]?=some x) (hx:Loc X.env.scope x) (he:PE X e (tM K EX .V ma)) (hs:swapsWith e (some (.Name x pos')) pos.line X.env=pure false:=by rfl) (I:X.fn x=true\/X.env.scope.names.lookup x=some .local:=by first|show .inl rfl|show .inr rfl|assumption):
  PS X (.Assign [.Name x pos'] e pos) (tSt K EX d (sV i ma)):=(cK hN hi hx he hs I).mono λ_ _ _ q=>Hk q
def sw {X:Cx}{K:Frag}{EX:EXT}{d:Mode}{e:Expr}{pos:Pos}{ma:Vo}{i:Nat}{x:Str}{pos':Pos}(hN:X.N.Nodup) (hi:X.N[i]?=some x) (hx:Loc X.env.scope x) (he:PE X e (tM K EX .U ma)) (hs:swapsWith e (some (.Name x pos')) pos.line X.env=pure false:=by rfl) (I:X.fn x=true\/X.env.scope.names.lookup x=some .local:=by first|show .inl rfl|show .inr rfl|assumption):
  PS X (.Assign [.Name x pos'] e pos) (tSt K EX d (sU i ma)):=(cK hN hi hx he hs I).mono λ_ _ _ q=>Hl q
def j8 {X:Cx}{K:Frag}{EX:EXT}{d:Mode}{e:Expr}{pos:Pos}{ma:Vo}{i:Nat}{x:Str}{pos':Pos}(hN:X.N.Nodup) (hi:X.N[i]?=some x) (hx:Loc X.env.scope x) (he:PE X e (tM K EX .F ma)) (hs:swapsWith e (some (.Name x pos')) pos.line X.env=pure false:=by rfl) (I:X.fn x=true\/X.env.scope.names.lookup x=some .local:=by first|show .inl rfl|show .inr rfl|assumption):
  PS X (.Assign [.Name x pos'] e pos) (tSt K EX d (sF i ma)):=(cK hN hi hx he hs I).mono λ_ _ _ q=>uU q
def U9 {X:Cx}{K:Frag}{EX:EXT}{d:Mode}{e:Expr}{pos:Pos}{ma:Vo}{i:Nat}{x:Str}{p apos I:Pos}(hN:X.N[i]?=some x) (hv:Vis X.env.scope x) (ha:PE X e (tM K EX .V ma)) (hd:(x == ("__debug__" : Str))=false:=by decide) (a6:(x == ("__classdict__" : Str))=false:=by decide) (a4:attributeBase (.Name x p) "append" X.env (eval (.Name x p) X.env)=eval (.Name x p) X.env:=by rfl) (a5:((backTo I (starEach [e] X.env)).all (λx=>!x.1)&&(backToKw I (keywordEach [] X.env)).all (λx=>x.1.isSome)
   && decide (([e]:Vz).length+([]:List Keyword).length+(if ([]:List Keyword).isEmpty then 0 else 1)<30))=true:=by rfl) (a3:(apos.endLine == I.line)=true:=by rfl) (hs:starEach [e] X.env=(false,eval e X.env)::starEach [] X.env:=by rfl) (a7:swapsWith (.Call (.Attribute (.Name x p) "append" apos) [e] [] I) none pos.line X.env=pure false:=by rfl):
  PS X (.Expr (.Call (.Attribute (.Name x p) "append" apos) [e] [] I) pos) (tSt K EX d (Q7 i ma)):=(og (sR (X6 hN hv hd a6) ha a4 a5 a3 hs) a7).mono λ_ _ _ q=>Jt q
def j5 (hc:PT X c (tT K EX ta))(ha:PSs X x (tSt K EX d m))(hb:PSs X y (tSt K EX d n)):PS X (.If c x y pos) (tSt K EX d (mIf ta m n)):=(Iq hc ha hb).mono λ_ _ _ q=>Jj q
def W1 (I:PassesOwn (model X.prog X.w) X.A X.env X.xe)(hc:PT X c (tT K EX ta))(hb:PSs X body (tSt K EX d m)):PS X (.While c body [] pos) (tSt K EX d (J3 ta m)):=(wf I hc hb).mono λ_ _ _ q=>BN q
def v9 (hp:PassesOwn (model X.prog X.w) X.A X.env X.xe)(hc:X.calm=true)(hi:PI X tg iter (tIt K EX true dd mi))(hg:PG X tg g)(I:Gt K dd g mg)(hb:PSs X body (tSt K EX d m))(hs:∀x,foldedSetIterable iter X.env x=pure x:=by intro _;rfl):PS X (.For tg iter body [] pos) (tSt K EX d (A9 mi mg m)):=(Er hp hc hi hg hb hs).mono λ_ _ _ q=>Jm I q
def yo {X:Cx}{K:Frag}{EX:EXT}{d:Mode}{e:Expr}{pos:Pos}{ma:Vo}{i:Nat}{x:Str}{I:Operator}{f:Int->Int->Int}{pos':Pos}(hN:X.N.Nodup) (hi:X.N[i]?=some x) (hx:Loc X.env.scope x) (he:PE X e (tM K EX .B ma)) (ho:PIp X I (ipI f)) (hf:X.fn x=true\/X.env.scope.names.lookup x=some .local:=by first|show .inl rfl|show .inr rfl|assumption):
  PS X (.AugAssign (.Name x pos') I e pos) (tSt K EX d (iJ i f ma)):=(Es hN hi hx he ho hf).mono λ_ _ _ q=>Jq q
def Ik {X:Cx}{K:Frag}{EX:EXT}{d:Mode}{e:Expr}{pos:Pos}{ma mb:Vo}{i:Nat}{x:Str}{k:Expr}{p I:Pos}(hN:X.N[i]?=some x) (hv:Vis X.env.scope x) (hk:PE X k (tM K EX .B mb)) (he:PE X e (tM K EX .V ma)) (hd:(x == ("__debug__" : Str))=false:=by decide) (a3:(x == ("__classdict__" : Str))=false:=by decide) (hg:PG X (.Subscript (.Name x p) k I) (gSub (aq i) (tM K EX .B mb) rSetL)) (hs:swapsWithSole [.Subscript (.Name x p) k I] e pos.line X.env=pure false:=by rfl) (hw:swappedStores [.Subscript (.Name x p) k I] e X.env=pure none:=by rfl):PS X (.Assign [.Subscript (.Name x p) k I] e pos) (tSt K EX d (mn i mb ma)):=
 (Et he hg hs hw).mono λ_ _ _ q=>Jc q
abbrev gLt (i j:Int):W:=.bl (decide (i<j))
abbrev gLe (i j:Int):W:=.bl (decide (i<=j))
abbrev gGt (i j:Int):W:=.bl (decide (j<i))
abbrev gGe (i j:Int):W:=.bl (decide (j<=i))
abbrev C4 (i j:Int):W:=.int (i+j)
abbrev gSub (i j:Int):W:=.int (i-j)
abbrev r9 (i j:Int):W:=.int (i*j)
abbrev u7 (i j:Int):W:=.int (i%j)
abbrev G8 (i j:Int):W:=.int (i/j)
abbrev xl (i j:Int):W:=.int (i^j.toNat)
abbrev C0 (i:Int):W:=.int (-i)
abbrev de (i j:Int):Int:=if j>i then j else i
abbrev iS (i j:Int):Int:=if j<i then j else i
abbrev qy (i j:Int):Int:=i+j
abbrev IO (i j:Int):Int:=i-j
abbrev t8 (_ j:Int):Prop:=0<j
instance (i j:Int):Decidable (CMul i j):=by unfold CMul;infer_instance
instance (i j:Int):Decidable (B4 i j):=by unfold B4;infer_instance
instance (i j:Int):Decidable (fO i j):=by unfold fO;infer_instance
instance (i j:Int):Decidable (yU i j):=by unfold yU;infer_instance
def vOf:W->Option V
 | .non=>some .non
 | .bl b=>some (.bl b)
 | .int i=>some (.int i)
 | .str x=>some (.str x)
 |_=>none
def xC (u v:W):Option Bool:=match vOf u,vOf v with
 |some x,some y=>if kS x y then some (decide (x=y)) else none
 |_,_=>none
def m5 (neg:Bool) (u v:W):R W:=match xC u v with
 |some b=>.ok (.bl (if neg then !b else b))
 |none=>.stuck
def jU (h:Md K H0 Ha G H v w .B) (e:vOf w=some x):v=x:=by
 cases w <;> first|cases e|skip
 .show h.nonB
 .show h.blB
 .show h.intB
 .show h.strB
def D5:Op2 K .B d rEq (m5 false):=by
 intro EX H0 Hs G H ρ σ Ha Hb x y u v Q I s mx my o;unfold m5 xC at o;cases hu:vOf u with
 |none=>rw[hu]at o;show o.elim
 | some p=>
  cases hv:vOf v with
  |none=>rw[hu,hv]at o;show o.elim
  | some q=>
   rw[hu,hv]at o;cases jU mx hu;cases jU my hv;dsimp only at o;by_cases c:kS x y=true
   .rw [qA2 c]at o
    show ⟨c,o _ G H (Ext.refl I.gh) (Md.sca rfl (λ_=>.bl) d)⟩
   .rw[qA4 c]at o;show o.elim
def aO:Op2 K .B d rNe (m5 true):=by
 intro EX H0 Hs G H ρ σ Ha Hb x y u v Q I s mx my o;unfold m5 xC at o;cases hu:vOf u with
 |none=>rw[hu]at o;show o.elim
 | some p=>
  cases hv:vOf v with
  |none=>rw[hu,hv]at o;show o.elim
  | some q=>
   rw[hu,hv]at o;cases jU mx hu;cases jU my hv;dsimp only at o;by_cases c:kS x y=true
   .rw [qA2 c]at o
    show ⟨c,o _ G H (Ext.refl I.gh) (Md.sca rfl (λ_=>.bl) d)⟩
   .rw[qA4 c]at o;show o.elim
mutual
def pd:W->PyData
 | .non=>.none
 | .bl b=>.bool b
 | .int i=>.int i
 | .str x=>.str x
 | .ty _=>.none
 | .exc _ _=>.none
 | .cls _=>.none
 | .tup ws=>.tuple (pds ws)
 | .lst ws=>.list (pds ws)
 | .scr ws=>.list (pds ws)
def pds:List W->List PyData
 | []=>[]
 |w::ws=>pd w::pds ws
end
mutual
def shp:Nat->W->Bool
 |_,.non=>true
 |_,.bl _=>true
 |_,.int _=>true
 |_,.str x=>PyData.strOk x
 |n+1,.tup ws=>E9 n ws
 |n+1,.lst ws=>E9 n ws
 |n+1,.scr ws=>E9 n ws
 |_,_=>false
def E9:Nat->List W->Bool
 |_,[]=>true
 |n,w::ws=>shp n w&&E9 n ws
end
def cB:∀(w:W) (n:Nat),shp n w=true->(pd w).canLay0=true/\(pd w).depth<=n:=by
 intro w;have tl:∀(ws:Vp) (c:List PyData->PyData),(∀l,(c l).canLay0=PyData.canLayAll0 l)->(∀l,(c l).depth=PyData.depthAll l+1)->(∀n:Nat,E9 n ws=true->PyData.canLayAll0 (pds ws)=true/\PyData.depthAll (pds ws)<=n)->∀n:Nat,(match n with|0=>false|n+1=>E9 n ws)=true->(c (pds ws)).canLay0=true/\(c (pds ws)).depth<=n:=λws c h1 h2 I n h=>by
  cases n with
  |zero=>cases h
  |succ n=>have:=I n h;show ⟨by rw[h1];show this.1,by rw[h2];show qH2 this.2⟩
 have fl:∀{n:Nat}{w:W}{P:Prop},shp n w=false->shp n w=true->P:=λh1 h2=>by rw[h1]at h2;cases h2
 induction w using W.rec (motive_2:=λws=>∀n:Nat,E9 n ws=true->PyData.canLayAll0 (pds ws)=true/\PyData.depthAll (pds ws)<=n) with
 |non=>show λn _=>⟨rfl,qC6 _⟩
 |bl b=>show λn _=>⟨rfl,qC6 _⟩
 |int i=>show λn _=>⟨rfl,qC6 _⟩
 |str x=>show λn h=>⟨by cases n <;> show h,qC6 _⟩
 |ty a=>show λn h=>fl (by cases n <;> rfl) h
 |exc a b=>show λn h=>fl (by cases n <;> rfl) h
 |cls a=>show λn h=>fl (by cases n <;> rfl) h
 |tup ws I=>show λn h=>tl ws .tuple (λ_=>rfl) (λ_=>rfl) I n (by cases n <;> show h)
 |lst ws I=>show λn h=>tl ws .list (λ_=>rfl) (λ_=>rfl) I n (by cases n <;> show h)
 |scr ws I=>show λn h=>tl ws .list (λ_=>rfl) (λ_=>rfl) I n (by cases n <;> show h)
 |nil=>show ⟨rfl,qC6 _⟩
 | cons w ws h1 h2=>
  rename_i n h
  have h':shp n w=true/\E9 n ws=true:=(qG5 _ _).mp h;have a:=h1 n h'.1;have b:=h2 n h'.2;show ⟨by change (PyData.canLay0 _&&PyData.canLayAll0 _)=true;rw[a.1,b.1];rfl,Nat.max_le.mpr ⟨a.2,b.2⟩⟩
def ij (ws:Vp) (n:Nat) (h:E9 n ws=true):PyData.canLayAll0 (pds ws)=true/\PyData.depthAll (pds ws)<=n:=by
 have:=cB (.tup ws) (n+1) h
 show ⟨this.1,Nat.le_of_succ_le_succ this.2⟩
def Rep.reads {σ:St}(I:Inv X pins σ H s) (n:Nat) (r:Rep X.K H x w):shp n w=true->RelV x u->∃as,Reads s.heap u (pd w) as:=by
 have fl:∀{n:Nat}{w:W}{P:Prop},shp n w=false->shp n w=true->P:=λh1 h2=>by rw[h1]at h2;cases h2
 induction r using Rep.rec (motive_2:=λxs ws _=>∀(us:JY) (n:Nat),E9 n ws=true->Vals xs us->∃as,ReadsAll s.heap us (pds ws) as) generalizing u n with
 |non=>intro _ r;cases r;show ⟨_,.none⟩
 |bl=>intro _ r;cases r;show ⟨_,.bool _⟩
 |int=>intro _ r;obtain ⟨t,rfl⟩:=r;show ⟨_,.int _ _⟩
 |str=>intro _ r;obtain ⟨t,rfl⟩:=r;show ⟨_,.str _ _⟩
 |ty=>show λh _=>fl (by cases n <;> rfl) h
 |exc=>show λh _=>fl (by cases n <;> rfl) h
 |cls=>show λh _=>fl (by cases n <;> rfl) h
 | tup ha _ ih=>
  intro h r;cases r;cases n with
  |zero=>cases h
  | succ n=>
   obtain ⟨its,rv,⟨o,e,c,k,dd⟩,_⟩:=I.tuple (SqT.of ha);obtain ⟨as,q⟩:=ih _ n h rv;show ⟨_,.tuple e c dd (by simpa using q)⟩
 | lst ha _ ih=>
  intro h r;cases r;cases n with
  |zero=>cases h
  | succ n=>
   obtain ⟨its,rv,pl,_⟩:=I.list (SqL.of ha);obtain ⟨o,e,c,k,dd⟩:=pl.isList;obtain ⟨as,q⟩:=ih _ n h rv;show ⟨_,.list e c dd (by simpa using q)⟩
 | scr ha _ ih=>
  intro h r;cases r;cases n with
  |zero=>cases h
  | succ n=>
   obtain ⟨its,rv,pl,_⟩:=I.list ha;obtain ⟨o,e,c,k,dd⟩:=pl.isList;obtain ⟨as,q⟩:=ih _ n h rv;show ⟨_,.list e c dd (by simpa using q)⟩
 |nil=>rename_i us n _ r;cases r;show ⟨_,.nil⟩
 | cons _ _ h1 h2=>
  rename_i us n h r
  cases r with
  | cons r1 r2=>
   have h':=(qG5 _ _).mp h;obtain ⟨as,q1⟩:=h1 n h'.1 r1;obtain ⟨bs,q2⟩:=h2 _ n h'.2 r2;show ⟨_,.cons q1 q2⟩
def eqW (u v:W):Bool:=PyData.eqv (pd u) (pd v)
def vX (K:Frag)(neg:Bool):R2:=λx y H Q=>∃u v,Rep K H x u/\Rep K H y v/\shp 8 u=true/\shp 8 v=true/\Q (.bl (if neg then !eqW u v else eqW u v)) H
def Z7 (h:shp 8 w=true):SeqAt.shaped (pd w)=true:=by
 obtain ⟨a,b⟩:=cB w 8 h;unfold SeqAt.shaped;rw[a,qM6];show qQ0 (qA5 b Zz)
def X8 (hu:X.A.units+64<cLine):OpR X (compareOp .Eq) (vX X.K false):=by
 intro pins s σ H x y v u Q I rx ry h;obtain ⟨a,b,ra,rb,sa,sb,q⟩:=h;obtain ⟨as,qa⟩:=Rep.reads I 8 ra sa rx;obtain ⟨bs,qb⟩:=Rep.reads I 8 rb sb ry;show PyProof.Rows.eq_dataH qa qb (Z7 sa) (Z7 sb) hu ⟨.bl (eqW a b),H,I,rfl,q⟩
def lE (hu:X.A.units+64<cLine):OpR X (compareOp .NotEq) (vX X.K true):=by
 intro pins s σ H x y v u Q I rx ry h;obtain ⟨a,b,ra,rb,sa,sb,q⟩:=h;obtain ⟨as,qa⟩:=Rep.reads I 8 ra sa rx;obtain ⟨bs,qb⟩:=Rep.reads I 8 rb sb ry;show PyProof.Rows.ne_dataH qa qb (Z7 sa) (Z7 sb) hu ⟨.bl (!eqW a b),H,I,rfl,q⟩
def fEq (neg:Bool)(u v:W):R W:=if shp 8 u&&shp 8 v then .ok (.bl (if neg then !eqW u v else eqW u v)) else .stuck
def M4:Op2 K .B d (vX K neg) (fEq neg):=by
 intro EX H0 Hs G H ρ σ Ha Hb x y u v Q I s mx my o;unfold fEq at o;by_cases c:(shp 8 u&&shp 8 v)=true
 .rw [qA2 c]at o
  have c':shp 8 u=true/\shp 8 v=true:=by simpa using c
  show ⟨u,v,mx.whole I,my.whole I,c'.1,c'.2,o _ G H (Ext.refl I.gh) (Md.sca rfl (λ_=>.bl) d)⟩
 .rw[qA4 c]at o;show o.elim
def ax:W->Bool->Bool
 | .bl a,b=>a == b
 |_,_=>false
def fIsB (neg:Bool):W->W->R W
 |u,.bl b=>.ok (.bl (if neg then !ax u b else ax u b))
 |_,_=>.stuck
def E1 (I:Room k A):A.units+64<cLine:=I.units
def K6 (r:Vals [x] us):∃u,us = [u]/\RelV x u:=by
 cases r with
 |cons a t=>cases t;show ⟨_,rfl,a⟩
def dc {s:Shared}{h':Heap}(hk:∀b u,b ∉ [s.heap.objs.size]->(s.heap.push o).get? b=some u->h'.get? b=some u):∀b u,s.heap.get? b=some u->h'.get? b=some u:=λb u e=>
 hk b u (by simp;show qD6 (qB4 e)) (qA6 _ e)
def rh {α:Type}{f:α->V}{g:α->Value->Prop}(I:∀a u,RelV (f a) u->g a u){as:List α}(r:Vals (as.map f) its){i:Nat}(h:its.toArray[i]?=some v):∃a,as[i]?=some a/\g a v:=by
 have h':its[i]?=some v:=by simpa using h
 induction as generalizing its i with
 |nil=>cases r;simp at h'
 | cons a as ih=>
  cases r with
  | cons q t=>
   cases i with
   |zero=>simp at h';subst h';show ⟨a,rfl,I _ _ q⟩
   |succ i=>simpa using ih t (i:=i) (by simpa using h') (by simpa using h')
def cq {σ:St}(I:Inv X pins σ H s) (hc:X.calm=true) (hp:H p=some (.lst xs)):∃its:List Value,Vals xs its/\s.heap.IsList p its.toArray/\xs.length=its.toArray.size/\p≠s.heap.objs.size /\
  Walks X.prog X.w X.A.in1 s.heap.objs.size [s.heap.objs.size,p] [s.heap.objs.size] its.toArray.size (λi v=>its.toArray[i]?=some v) (λi h=>h.IsListIter s.heap.objs.size p i/\h.IsList p its.toArray):=by
 obtain ⟨its,rv,pl,hz⟩:=I.list (SqL.of hp);obtain ⟨o,e,_⟩:=pl.isList;have a3:p≠s.heap.objs.size:=qD6 (qB4 e);show ⟨its,rv,pl.isList,by rw[qB6];show rv.length,a3,Walks.list (show X.A.in1.handled=none from I.ok.hd hc) _ p a3 _⟩
def all_range {bs:List Bool}:(List.range bs.length).all (λi=>bs.getD i false)=bs.all id:=by
 rw[qH7,qI1,qI1];constructor
 .intro h x I;obtain ⟨i,hi,e⟩:=qE2.mp I
  have:=h i (by simpa using hi)
  rw[qA0]at this;simpa [hi,e]using this
 .intro h i hi;have hi:i<bs.length:=by simpa using hi
  rw[qA0];simpa [hi]using h bs[i] (qK1 hi)
def any_range {bs:List Bool}:(List.range bs.length).any (λi=>bs.getD i false)=bs.any id:=by
 rw[qH7,qD5,qD5];constructor
 .rintro ⟨i,hi,h⟩;have hi:i<bs.length:=by simpa using hi
  rw[qA0]at h;show ⟨bs[i],qK1 hi,by simpa [hi]using h⟩
 .rintro ⟨x,I,h⟩;obtain ⟨i,hi,e⟩:=qE2.mp I;refine ⟨i,by simpa using hi,?_⟩;rw[qA0];simpa [hi,e]using h
def kL {X:Cx}{bs:List Bool}(rv:Vals (bs.map V.bl) its):TruthOf X.prog X.w A (λi v=>its.toArray[i]?=some v) (λi=>bs.getD i false):=λi v s' Q' E hv hq=>by
 obtain ⟨b,hb,e⟩:=rh (f:=V.bl) (g:=λb u=>u=.bool b) (λb u r=>r) rv hv;subst e
 have:bs.getD i false=b:=by rw[qA0,hb];rfl
 have I:Q' (bs.getD i false) s':=hq;rw[this]at I;show qR0 I
def uT (hc:X.calm=true):C8 X (.builtin "all") (λxs H Q=>∃(p:Addr) (bs:List Bool),xs = [.ref p]/\H p=some (.lst (bs.map V.bl))/\Q (.bl (bs.all id)) H):=by
 intro pins s σ H xs us Q I r h;obtain ⟨p,bs,rfl,hp,q⟩:=h;obtain ⟨u,rfl,rx⟩:=K6 r;cases rx;obtain ⟨its,rv,hl,hlen,a3,Wk⟩:=cq I hc hp;rw[qA7]at hlen;refine call_all_walk (qR9 hl ⟨_,_,_,_,_,_,_,rfl,Wk,⟨⟨_,qC1 _ rfl,rfl,rfl⟩,hl.push _⟩,kL rv,λh' tk hk=>?_⟩);rw[<- hlen,all_range];show ⟨.bl (bs.all id),H,I.kept (t':=tk) (dc hk),rfl,q⟩
def uS (hc:X.calm=true):C8 X (.builtin "any") (λxs H Q=>∃(p:Addr) (bs:List Bool),xs = [.ref p]/\H p=some (.lst (bs.map V.bl))/\Q (.bl (bs.any id)) H):=by
 intro pins s σ H xs us Q I r h;obtain ⟨p,bs,rfl,hp,q⟩:=h;obtain ⟨u,rfl,rx⟩:=K6 r;cases rx;obtain ⟨its,rv,hl,hlen,a3,Wk⟩:=cq I hc hp;rw[qA7]at hlen;refine call_any_walk (qR9 hl ⟨_,_,_,_,_,_,_,rfl,Wk,⟨⟨_,qC1 _ rfl,rfl,rfl⟩,hl.push _⟩,kL rv,λh' tk hk=>?_⟩);rw[<- hlen,any_range];show ⟨.bl (bs.any id),H,I.kept (t':=tk) (dc hk),rfl,q⟩
def Z3:List W->Option (List Bool)
 | []=>some []
 | .bl b::ws=>(Z3 ws).map (b::·)
 |_=>none
def BU (bs:List Bool):Z3 (bs.map W.bl)=some bs:=by
 induction bs with
 |nil=>rfl
 |cons b bs I=>rw[qB9,Z3,I];rfl
def Reps.bls (r:Reps K F vs ws):Z3 ws=some bs->vs=bs.map V.bl:=
 Reps.ind (P:=λvs ws=>∀bs,Z3 ws=some bs->vs=bs.map V.bl) (λbs h=>by cases h;rfl) (λ{v w vs ws} r _ ih bs h=>by
  cases w <;> first|cases h|skip
  rename_i b
  have e:v=.bl b:=r.inv;subst e;have h':(Z3 ws).map (b::·)=some bs:=h;cases q:Z3 ws with
  |none=>rw[q]at h';cases h'
  |some cs=>rw[q]at h';cases h';rw[ih cs q];rfl) r bs
def gQ (g:List Bool->Bool):List W->R W
 | [.lst ws]=>toR (Z3 ws)>>=λbs=>.ok (.bl (g bs))
 |_=>.stuck
def oZ:Cal K .B d (λxs H Q=>∃(p:Addr) (bs:List Bool),xs = [.ref p]/\H p=some (.lst (bs.map V.bl))/\Q (.bl (g bs)) H) (gQ g):=by
 intro EX H0 Hs G H ρ σ Ha vs ws Q I s m o;cases m with
 |nil=>show o.elim
 | @cons w v a4 a3 a t=>
  cases t with
  |cons _ _=>first|show o.elim | (cases w <;> show o.elim)
  | nil=>
   cases w <;> first|show o.elim|skip
   rename_i ws
   obtain ⟨p,ys,rfl,hs,r⟩:=a.lstB I;replace o:Out EX G H (mdW K d H0 Hs) (toR (Z3 ws)>>=λbs=>.ok (.bl (g bs))) Q:=o
   cases q:Z3 ws with
   |none=>rw[q]at o;show o.elim
   | some bs=>
    rw[q]at o;rw[Reps.bls r q]at hs;show ⟨p,bs,rfl,hs,o _ G H (Ext.refl I.gh) (Md.sca rfl (λ_=>.bl) d)⟩
def xp (bs:List Bool):Bool:=bs.all id
def xo (bs:List Bool):Bool:=bs.any id
def HE:bootBuiltins "all" = some (.builtin "all"):=Zv
def HD:bootBuiltins "any" = some (.builtin "any"):=Zv
def bj:bootBuiltins "sum" = some (.builtin "sum"):=Zv
def N9 (hc:X.calm=true):C8 X (.builtin "sum") (λxs H Q=>∃(p:Addr) (ns:Vk),xs = [.ref p]/\H p=some (.lst (ns.map V.int))/\Q (.int ns.sum) H):=by
 intro pins s σ H xs us Q I r h;obtain ⟨p,ns,rfl,hp,q⟩:=h;obtain ⟨u,rfl,rx⟩:=K6 r;cases rx;obtain ⟨its,rv,hl,hlen,a5,Wk⟩:=cq I hc hp;rw[qA7]at hlen;have pre:∀(ms:Vk) (k:Nat),k<=ms.length->preSum (λi=>ms.getD i 0) k=(ms.take k).sum:=by
  intro ms k
  induction k with
  |zero=>intro _;simp [preSum]
  | succ k ih=>
   intro hk;rw[preSum,ih ox,qT8 (by omega:k<ms.length),List.sum_append];have a3:k<ms.length:=ox;simp [qA0,a3]
 refine call_sum_walkAnyS (qR9 hl ⟨_,_,_,_,_,_,_,(λi=>ns.getD i 0),rfl,Wk.toS,⟨⟨_,qC1 _ rfl,rfl,rfl⟩,hl.push _⟩,λb hb=>?_,λi v hv=>?_,λs' t' mv=>?_⟩)
 .obtain ⟨o,e,_⟩:=id hl;have a4:=qB4 e;simp at hb;rcases hb with rfl|rfl
  .simp [Heap.push]
  .show qB3 a4 (by simp [Heap.push])
 .obtain ⟨n,hn,t,e⟩:=rh (f:=V.int) (g:=λn u=>∃t,u=.int n t) (λb u r=>r) rv hv;refine ⟨t,?_⟩
  change v=Value.int (ns.getD i 0) t;rw[e,qA0,hn];rfl
 .rw [<- hlen,pre ns ns.length (qB2 _),qK2]
  obtain ⟨hh,g,dd,tk,os⟩:=s';obtain rfl:g=s.gens:=mv.gens;obtain rfl:dd=s.drawn:=mv.drawn;obtain rfl:os=s.os:=mv.os;show ⟨.int ns.sum,H,I.kept (t':=tk) (dc mv.heap),⟨t',rfl⟩,q⟩
def w4:List W->Option Vk
 | []=>some []
 | .int b::ws=>(w4 ws).map (b::·)
 |_=>none
def ints_map (bs:Vk):w4 (bs.map W.int)=some bs:=by
 induction bs with
 |nil=>rfl
 |cons b bs I=>rw[qB9,w4,I];rfl
def Reps.ints (r:Reps K F vs ws):w4 ws=some bs->vs=bs.map V.int:=
 Reps.ind (P:=λvs ws=>∀bs,w4 ws=some bs->vs=bs.map V.int) (λbs h=>by cases h;rfl) (λ{v w vs ws} r _ ih bs h=>by
  cases w <;> first|cases h|skip
  rename_i b
  have e:v=.int b:=r.inv;subst e;have h':(w4 ws).map (b::·)=some bs:=h;cases q:w4 ws with
  |none=>rw[q]at h';cases h'
  |some cs=>rw[q]at h';cases h';rw[ih cs q];rfl) r bs
def aj (g:List Int->Int):List W->R W
 | [.lst ws]=>toR (w4 ws)>>=λbs=>.ok (.int (g bs))
 |_=>.stuck
def bo:Cal K .B d (λxs H Q=>∃(p:Addr) (ns:Vk),xs = [.ref p]/\H p=some (.lst (ns.map V.int))/\Q (.int (g ns)) H) (aj g):=by
 intro EX H0 Hs G H ρ σ Ha vs ws Q I s m o;cases m with
 |nil=>show o.elim
 | @cons w v a4 a3 a t=>
  cases t with
  |cons _ _=>first|show o.elim | (cases w <;> show o.elim)
  | nil=>
   cases w <;> first|show o.elim|skip
   rename_i ws
   obtain ⟨p,ys,rfl,hs,r⟩:=a.lstB I;replace o:Out EX G H (mdW K d H0 Hs) (toR (w4 ws)>>=λbs=>.ok (.int (g bs))) Q:=o
   cases q:w4 ws with
   |none=>rw[q]at o;show o.elim
   | some bs=>
    rw[q]at o;rw[Reps.ints r q]at hs;show ⟨p,bs,rfl,hs,o _ G H (Ext.refl I.gh) (Md.sca rfl (λ_=>.int) d)⟩
def G7 (ns:Vk):Int:=ns.sum
def fAbs:List W->R W
 | [.int i]=>.ok (.int (if i<0 then -i else i))
 |_=>.stuck
def fInt:List W->R W
 | [.int i]=>.ok (.int i)
 | [.bl k]=>.ok (.int (if k then 1 else 0))
 |_=>.stuck
def yM:Cal K .B d (λxs H Q=>(∃i,xs = [.int i]/\Q (.int i) H)\/∃k:Bool,xs = [.bl k]/\Q (.int (if k then 1 else 0)) H) fInt:=by
 intro EX H0 Hs G H ρ σ Ha vs ws Q I s m o;cases m with
 |nil=>show o.elim
 | @cons w v a4 a3 a t=>
  cases t with
  |cons _ _=>first|show o.elim | (cases w <;> show o.elim)
  | nil=>
   cases w <;> first|show o.elim|skip
   .show .inr ⟨_,by rw[a.blB],o _ G H (Ext.refl I.gh) (Md.sca rfl (λ_=>.int) d)⟩
   .show .inl ⟨_,by rw[a.intB],o _ G H (Ext.refl I.gh) (Md.sca rfl (λ_=>.int) d)⟩
def fStr:List W->R W
 | [.int i]=>if i.natAbs.log2<1920 then .ok (.str (toString i)) else .stuck
 |_=>.stuck
def mq (i:Nat) (c:Bool) (m:Vo):Vg:=λρ=>match ρ[i]? with
 | some (.own ws)=>m ρ>>=λw=>(match w with
  | .lst us=>if ws.length+us.length<=1000 then (if c||m8 us then .ok (.nx (ρ.set i (.own (ws++us)))) else .stuck) else .stuck
  |_=>.stuck)
 |_=>.stuck
def mRev (i:Nat):Vg:=λρ=>match ρ[i]? with
 |some (.own ws)=>.ok (.nx (ρ.set i (.own ws.reverse)))
 |_=>.stuck
def Jo (h:tSt K EX d (mq i c m) D σ H):pA (tBM K "list" rExtend (aq i) (jV (tM K EX (cb c) m) tNil)) D σ H:=by
 obtain ⟨H0,G,ρ,I,o⟩:=h;unfold mq at o
 split at o
 .rename_i ws e
  obtain ⟨a,vs,es,ha,hg,h0,r⟩:=I.own_at e;refine ⟨.ref a,es,.inl ⟨rfl,vs,SqL.of ha⟩,H0,G,ρ,I,OutS.bind I o λx G1 H1 w e1 m1 o1=>?_⟩;cases w <;> first|show o1.elim|skip
  rename_i us
  dsimp only at o1;by_cases hn:ws.length+us.length<=1000
  .rw [qA2 hn]at o1
   by_cases hc:(c||m8 us)=true
   .rw [qA2 hc]at o1
    have I1:=I.ext e1;have hx:∃b zs,x=.ref b/\H1 b=some (.lst zs)/\Reps K G1 zs us:=by
     cases c with
     |true=>show Md.lstC (H:=H) I1 m1
     | false=>
      obtain ⟨b,zs,ex,hb,rb⟩:=Md.lstB (H:=H) I1 m1;show ⟨b,zs,ex,hb,Reps.clean I1 rb (by simpa using hc)⟩
    obtain ⟨b,zs,rfl,hb,rb⟩:=hx;have h1:=e1.hh a _ ha;refine ⟨a,b,vs,zs,rfl,rfl,h1,hb,by rw[r.length,rb.length];show W4 hn,?_⟩;show o1 G1 σ _ (Same.refl _) (I1.own_upd e es ((r.same e1.gg).append rb))
   .rw[qA4 hc]at o1;show o1.elim
  .rw[qA4 hn]at o1;show o1.elim
 .show o.elim
def Im {X:Cx}{K:Frag}{EX:EXT}{d:Mode}{e:Expr}{pos:Pos}{ma:Vo}{i:Nat}{c:Bool}{x:Str}{p apos I:Pos}(hN:X.N[i]?=some x) (hv:Vis X.env.scope x) (ha:PE X e (tM K EX (cb c) ma)) (hK:X.K=K:=by rfl) (hd:(x == ("__debug__" : Str))=false:=by decide) (a7:(x == ("__classdict__" : Str))=false:=by decide) (a5:attributeBase (.Name x p) "extend" X.env (eval (.Name x p) X.env)=eval (.Name x p) X.env:=by rfl) (a6:((backTo I (starEach [e] X.env)).all (λx=>!x.1)&&(backToKw I (keywordEach [] X.env)).all (λx=>x.1.isSome)
   && decide (([e]:Vz).length+([]:List Keyword).length+(if ([]:List Keyword).isEmpty then 0 else 1)<30))=true:=by rfl) (a4:(apos.endLine == I.line)=true:=by rfl) (hs:starEach [e] X.env=(false,eval e X.env)::starEach [] X.env:=by rfl) (a3:(backTo I (starEach [] X.env)).any (·.1)=false:=by rfl) (a8:swapsWith (.Call (.Attribute (.Name x p) "extend" apos) [e] [] I) none pos.line X.env=pure false:=by rfl):
  PS X (.Expr (.Call (.Attribute (.Name x p) "extend" apos) [e] [] I) pos) (tSt K EX d (mq i c ma)):=by
 subst hK;show (og (yr qT2 PySem.F.slot_list_extend PySem.F.type_list_extend tF (X6 hN hv hd a7) (dH ha pa_nil hs) a5 a6 a4 hs a3) a8).mono λ_ _ _ q=>Jo q
def w9 (h:PE X e (tM K EX .B ma))(I:X.K=K:=by rfl):PI X tg e (tIt K EX false .U (bS ma)):=yn (lp:=false) h I
def B8 (h:PE X e (tM K EX .U ma))(I:X.K=K:=by rfl):PI X tg e (tIt K EX true .U (bS ma)):=yn (lp:=true) h I
def cJ {X:Cx}{K:Frag}{EX:EXT}{a:Expr}{es:Vz}{pos:Pos}{mr:VQ}{elts:Vz}{p tp:Pos}{k:Nat}(hg:Gl X "zip") (hm:X.mg "zip" = none) (ha:PA X (a::es) (tA K EX .B mr)) (hK:X.K=K:=by rfl) (hs:starEach (a::es) X.env=(false,eval a X.env)::starEach es X.env:=by rfl) (I:(backTo pos (starEach es X.env)).any (·.1)=false:=by rfl):
  PI X (.Tuple elts k tp) (.Call (.Name "zip" p) (a::es) [] pos) (tIt K EX false .U (bI M1 mr)):=ym (lp:=false) hg hm ha hK hs I
def DY {X:Cx}{K:Frag}{EX:EXT}{a:Expr}{es:Vz}{pos:Pos}{mr:VQ}{elts:Vz}{p tp:Pos}{k:Nat}(hg:Gl X "zip") (hm:X.mg "zip" = none) (ha:PA X (a::es) (tA K EX .U mr)) (hK:X.K=K:=by rfl) (hs:starEach (a::es) X.env=(false,eval a X.env)::starEach es X.env:=by rfl) (I:(backTo pos (starEach es X.env)).any (·.1)=false:=by rfl):
  PI X (.Tuple elts k tp) (.Call (.Name "zip" p) (a::es) [] pos) (tIt K EX true .U (bI M1 mr)):=ym (lp:=true) hg hm ha hK hs I
def IN:Sl->Bool
 | .own _=>true
 | .dic _=>true
 | .dik _=>true
 |_=>false
def noOwn (ρ:Rho):Bool:=ρ.all λs=>!IN s
def sCU (i:Nat)(f:List W->R W)(ma:VQ):Vg:=λρ=>if noOwn ρ then (ma ρ>>=λws=>f ws>>=λw=>.ok (.nx (ρ.set i (.par w)))) else .stuck
def qT (K:Frag) (a:Addr) (n:Nat):It:=
 ⟨λi H=>i<n/\∃xs x,SqL K H a xs/\xs.length=n/\xs[n-1-i]?=some x,λi H x H'=>H'=H/\∀xs,SqL K H a xs->xs[n-1-i]?=some x,λi H=>i=n/\∃xs,SqL K H a xs/\xs.length=n⟩
def vq (a it:Addr) (n:Nat):Turn P w K tg (qT K a n) [it] it (λi h=>i<=n/\h.IsRevIter it a ((n:Int)-1-(i:Int))) where
 mem:=Zy
 obj:=λi h st b hb=>by
  have e:b=it:=by simpa using hb
  subst e;obtain ⟨_,o,e,c,d⟩:=st;show ⟨o,e,λv z=>by rw[d]at z;cases z⟩
 keep:=λi h h' st k=>⟨st.1,st.2.at λo e=>k it Zy o e⟩
 item:=by
  intro X hP hw hK hc i pins s σ H E I hf st hg;subst hP hw hK;obtain ⟨hi,xs,x,hq,hn,hx⟩:=hg;obtain ⟨its,rv,p,hz⟩:=I.list hq;obtain ⟨u,hu,ru⟩:=rv.get hx;obtain ⟨f0,f1,f2,f3,f4,f5⟩:=hf it Zy;have e1:(n:Int)-1-(i:Int)=((n-1-i:Nat):Int):=ox;have a3:=st.2;rw[e1]at a3;refine wpAny_pyNext_rev_item a3 p.isList (x:=u) (by simpa using hu) λh' a4 sb=>?_;have I1:Inv X pins σ H { s with heap:=h' }:=I.turned (t':=s.toks) (λb o hb e=>(sb.2 b hb).trans e) f0 f1 f3 f4 f5;have e2:((n-1-i:Nat):Int)-1=(n:Int)-1-((i+1:Nat):Int):=ox;rw[e2]at a4;obtain ⟨o,e,c,d⟩:=id a4;show ⟨u,rfl,ki (s:={ s with heap:=h' }) e c d Zz ⟨x,H,I1,ru,⟨rfl,λys hy=>by rw[I.list_inj hy hq];show hx⟩,⟨hi,a4⟩,λb hb=>(hf b hb).1⟩⟩
 done:=by
  intro X hP hw hK hc i pins s σ H E I hf st hg;subst hP hw hK;obtain ⟨rfl,xs,hq,hn⟩:=hg;obtain ⟨f0,f1,f2,f3,f4,f5⟩:=hf it Zy;have e1:(i:Int)-1-(i:Int) = -1:=ox;have a3:=st.2;rw[e1]at a3;show wpAny_pyNext_rev_end (I.ok.hd hc) a3 λh' eb=>⟨rfl,I.turned (t':=s.toks) (λb o hb e=>eb b o hb e) f0 f1 f3 f4 f5⟩
 self:=λ_ _ _ _ _ st h=>qU4 st.2 h
def FS (K:Frag)(I:TA):TI:=λσ H R=>I σ H λvs H1=>∃a,vs = [.ref a]/\∃xs,SqL K H1 a xs/\R (qT K a xs.length) H1
def eO:bootBuiltins "reversed" = some (.type "reversed"):=Zv
def Ey (hg:Gl X "reversed") (hm:X.mg "reversed" = none) (ha:PA X [a] ta) (hs:starEach [a] X.env = [(false,eval a X.env)]:=by rfl):PI X tg (.Call (.Name "reversed" p) [a] [] pos) (FS X.K ta):=by
 intro pins s σ H R I h;refine qQ6 (M5 I hg hm eO ?_ Zz Zz);refine qF4 (thn (ha pos pins s σ H _ I h) λus s1 a3=>?_) hs Zo;obtain ⟨vs,H1,I1,r1,q1⟩:=a3;obtain ⟨b,e,xs,hq,q⟩:=q1;subst e;obtain ⟨u,rfl,ru⟩:=K6 r1;cases ru;obtain ⟨its,rv,pl,hz⟩:=I1.list hq;have hl:=rv.length;refine call_reversed_list pl.isList ?_;have a4:(s1.heap.push (revObj b ((its.toArray.size:Int)-1))).IsRevIter s1.heap.objs.size b ((xs.length:Int)-1-((0:Nat):Int)):=by
  refine ⟨_,qC1 _ rfl,rfl,?_⟩
  have:((xs.length:Int)-1-((0:Nat):Int))=((its.toArray.size:Int)-1):=by simp;omega
  rw[this];rfl
 refine qU4 a4 ?_;refine ⟨s1.heap.objs.size,[s1.heap.objs.size],_,qT X.K b xs.length,H1,rfl,I1.kept (t':=s1.toks) λb o e=>qA6 _ e,vq b _ _,⟨qC6 _,a4⟩,λc hc=>?_,q⟩;have e:c=s1.heap.objs.size:=by simpa using hc
 subst e;show I1.fpOk (qB2 _) (I1.hok.fresh (qB2 _))
def ip:List W->R Vp
 | [.lst ws]=>.ok ws.reverse
 |_=>.stuck
def wY (he:e=.V\/e=.U) (s:SqL K Z a vs) (r:Reps K (fz e H0 G) vs ws):bU K e H0 Z G (qT K a vs.length) ws.reverse:=by
 have hl:=r.length;have hq:∀H,Same Z H->SqL K H a vs:=λH z=>Same.seq z s;refine ⟨λi H hi z=>?_,λH z=>⟨by rw[qM3,hl],vs,hq H z,rfl⟩,λi H x H' w hw z ⟨e1,y⟩ G2 ρ σ I sg=>?_⟩
 .rw [qM3]at hi
  show ⟨ox,vs,vs[vs.length-1-i]'(qD4 (qH8 _ _) (qJ1 (hl ▸ qD4 (qC6 i) hi) Zz)),hq H z,rfl,Zy⟩
 .subst e1;have hi:i<ws.length:=by have:=(qA9.mp hw).1;simpa using this
  have hx:=y vs (hq _ z);rw[qT9 hi]at hw;obtain ⟨v,hv,rv⟩:=Reps.get r hw;rw[hl,hv]at hx;cases hx;show ⟨G2,Ext.refl I.gh,Md.of_fz he (rv.same (L8 sg))⟩
def Md.srcL (I:PIv K H0 G ρ σ H) (m:Md K H0 Hs G H x (.lst ws) (cz lp .U)):∃a vs,x=.ref a/\SqL K (if lp then join H0 G else H) a vs/\Reps K (fz .U H0 G) vs ws:=by
 have ez:fz .U H0 G=join H0 G:=by unfold fz;rw[qA4 (show ¬ (Mode.U=Mode.V) by intro z;cases z)]
 rw[ez];cases lp with
 | true=>
  rw[qA2 rfl];obtain ⟨a,vs,e,s,r⟩:=Rep.inv m;show ⟨a,vs,e,SqL.of s,r⟩
 | false=>
  rw[qA4 qA3];rcases m with m|⟨a,vs,us,rfl,e2,h1,r⟩
  .obtain ⟨a,vs,e,s,r⟩:=Rep.inv m;show ⟨a,vs,e,SqL.of (I.join_H _ _ s),r⟩
  .rw[W.lst.inj e2];show ⟨a,vs,rfl,SqL.of h1,r.same I.G_join⟩
def Je (h:tIt K EX lp .U (λρ=>ma ρ>>=ip) σ H Rr):FS K (tA K EX (cz lp .U) ma) σ H Rr:=by
 refine bu h (λH0 G ρ G1 H1 xs ws us I e1 m1 q o=>?_) (λws e z=>?_)
 .have I1:=I.ext e1;unfold ip at q
  split at q
  .rename_i ws'
   cases q;cases m1 with
   | cons a1 t=>
    cases t;obtain ⟨p,vs,rfl,hL,r⟩:=Md.srcL I1 a1;show ⟨p,rfl,vs,Same.seq (iK I1) hL,o _ G1 H1 e1 (wY (.inr rfl) hL r)⟩
  .cases q
 .unfold ip at z
  split at z <;> cases z
def Il {X:Cx}{K:Frag}{EX:EXT}{a tg:Expr}{pos:Pos}{I:VQ}{p:Pos}(hg:Gl X "reversed") (hm:X.mg "reversed" = none) (ha:PA X [a] (tA K EX .U I)) (hK:X.K=K:=by rfl) (hs:starEach [a] X.env = [(false,eval a X.env)]:=by rfl):PI X tg (.Call (.Name "reversed" p) [a] [] pos) (tIt K EX true .U (bI ip I)):=by
 subst hK;show (Ey hg hm ha hs).mono λ_ _ _ q=>Je (lp:=true) q
def seqI:W->Option Vk
 | .lst ws=>w4 ws
 | .tup ws=>w4 ws
 |_=>none
def yD (g:List Int->Int):List W->R W
 | [w]=>toR (seqI w)>>=λns=>if 0<ns.length then .ok (.int (g ns)) else .stuck
 |_=>.stuck
end TP
namespace HT
open PySem PySem.Spec PyProof.Rows
end HT
namespace TP
open PySem L2 PySem.Spec PyProof.Rows
end TP
namespace TP
open PySem PySem.W PyProof.Rows
section
variable (r:Vx)
end
end TP
namespace TP
open PySem L2
def jf (hh:A.handled=none) (u:Sub) (I:u.l≠u.i) (its:Vj):
  Draws prog w A u.i [u.i,u.l] its.size (λi v=>its[i]?=some v) (λi h=>u.At h i/\u.Src h its) where
 live:=λ_ _ st=>by obtain ⟨o,e,_⟩:=st.1.obj;show ⟨o,e⟩
 frame:=λ_ _ _ st hk=>⟨st.1.keep λo e=>hk u.i Zy o e,st.2.keep λo e=>hk u.l Zy o e⟩
 item:=λi s Q E hi st hQ=>Sub.item st.1 st.2 (x:=its[i]) (by simp [hi]) λh' a sb=>hQ _ h' s.toks (by simp [hi]) ⟨a,st.2.keep λo e=>sb.extBut _ _ I e⟩ sb
 done:=λs Q E st hE=>Sub.ends hh st.1 st.2 Zy hE
def nF (l:Addr) (its:Vj) (m:Nat) (a3:Option Addr) (sl:Array (Option Value)) :
  Meets (Builtin.«enumerate.__new__» ⟨[.type "enumerate",.ref l],[]⟩) (λ_ R s=>s.heap.get? l=some { cls:=.type "tuple",dict:=a3,data:=.seq its m,slots:=sl } /\
   R (.ok (.ret (.ref (s.heap.push { cls:=.type "tuple_iterator",data:=.fields #[.ref l,.int 0 0] }).objs.size)))
    { s with heap:=(s.heap.push { cls:=.type "tuple_iterator",data:=.fields #[.ref l,.int 0 0] }).push { cls:=.type "enumerate",data:=.fields #[.none,.bool false,.ref s.heap.objs.size,rawInt 0,.none,.none] } }):=
 .of_wp λprog w A R s I=>by
  obtain ⟨hp,g,d,tk,os⟩:=s;obtain ⟨hl,I⟩:=I;have a4:=sub_enumerate;have hT:Heap.IsTuple (Shared.heap ⟨hp,g,d,tk,os⟩) l its:=⟨_,hl,rfl,m,rfl⟩
  wp_walk using qI2 hl
  refine wpAny_stack_any λstk=>qP9 ?_
  split
  .rename_i cc _ _ _ _ _
   cases (cc == Value.type "enumerate") <;>
   .wp_walk using qI2 hl,qS8 hT
    show ⟨_,rfl,I⟩
  .wp_walk using qI2 hl,qS8 hT
   show ⟨_,rfl,I⟩
def qH (hL:s.heap.IsTuple l its) (a4:∀h',IsEnum h' (s.heap.objs.size+1) s.heap.objs.size 0 .none->h'.IsTupleIter s.heap.objs.size l 0->(∀b o,s.heap.get? b=some o->h'.get? b=some o)->Q (.ref (s.heap.objs.size+1)) { s with heap:=h' }):
  wpAny (model prog w) A (call (.type "enumerate") [.ref l]) Q E s:=by
 obtain ⟨⟨c,a6,dt,sl⟩,hl,hc,m,hd⟩:=hL;have a3:c=.type "tuple" := hc;have a5:dt=.seq its m:=hd;subst a3 a5;refine callType_new F.called_enumerate Zz (F.typeCall_enumerate_1 _) (F.newCall_enumerate_1 _) (λobj=>F.args_object_init_2 obj _) F.entry_enumerate_new (nF l its m a6 sl) ⟨hl,?_⟩;generalize I:s.heap.push { cls:=.type "tuple_iterator",data:=.fields #[.ref l,.int 0 0] }=P
 have hz:P.objs.size=s.heap.objs.size+1:=by rw[<- I];show qN6 ..
 have hi:P.get? s.heap.objs.size=some { cls:=.type "tuple_iterator",data:=.fields #[.ref l,.int 0 0] }:=by rw[<- I];show qC1 _ rfl
 have hk:∀b o,s.heap.get? b=some o->P.get? b=some o:=λb o e=>by rw[<- I];show qA6 _ e
 change _/\_;have en:IsEnum (P.push { cls:=.type "enumerate",data:=.fields #[.none,.bool false,.ref s.heap.objs.size,rawInt 0,.none,.none] }) (s.heap.objs.size+1) s.heap.objs.size 0 .none:=by rw[<- hz];show qC1 _ rfl
 rw[hz];show ⟨⟨_,en,rfl⟩,a4 _ en ⟨_,qA6 _ hi,rfl,rfl⟩ λb o e=>qA6 _ (hk b o e)⟩
def uR (hL:SrcAt s.heap (t,l,its)) (I:∀h',IsEnum h' (s.heap.objs.size+1) s.heap.objs.size 0 .none->(L2.Sub.mk t s.heap.objs.size l).At h' 0->(∀b o,s.heap.get? b=some o->h'.get? b=some o)->Q (.ref (s.heap.objs.size+1)) { s with heap:=h' }):
  wpAny (model prog w) A (call (.type "enumerate") [.ref l]) Q E s:=by
 unfold SrcAt at hL;cases t with
 |true=>show qH hL λh' a b c=>I h' a (by unfold Sub.At;show b) c
 |false=>show call_enumerate_list hL λh' a b _ c=>I h' a (by unfold Sub.At;show b) c
def ItE (K:Frag) (t:Bool) (a:Addr):It:=
  ⟨fun i H=>∃xs x,Sq K H t a xs/\xs[i]?=some x,
   λi H x H'=>∃p y,x=.ref p/\H p=none/\H'=upd H p (.tup [.int (i:Int),y])/\∀xs,Sq K H t a xs->xs[i]?=some y,
   λi H=>∃xs,Sq K H t a xs/\xs.length=i⟩
abbrev eTn (e:Addr)(u:Sub)(i:Nat)(h:Heap):Prop:=(∃I,IsEnum h e u.i (i:Int) I)/\u.At h i
def rF (a7:e≠u.i):
  Turn P w K (.Tuple elts k tp) (ItE K u.t u.l) [e,u.i] e (eTn e u) where
 mem:=Zy
 obj:=λi h st b hb=>by
  obtain ⟨⟨a5,he⟩,ha⟩:=st;simp only [qB5,qD8,qR8]at hb;rcases hb with rfl|rfl
  .show ⟨_,he,λv q=>by cases q⟩
  .obtain ⟨o,q,d⟩:=ha.obj;show ⟨o,q,λv z=>by rw[d]at z;cases z⟩
 keep:=λi h h' st kp=>⟨st.1.imp λa5 he=>kp e Zy _ he,st.2.keep λo q=>kp u.i Zy o q⟩
 item:=by
  intro X hP hw hK hc i pins s σ H E I hf st hg;subst hP hw hK;obtain ⟨⟨a5,he⟩,ha⟩:=st;obtain ⟨xs,x,hq,hx⟩:=hg;obtain ⟨its,rv,a4⟩:=Sq.src I hq;obtain ⟨v,hv,rx⟩:=rv.get hx;have fe:=hf e Zy;have fi:=hf u.i Zy;have a8:u.l≠u.i:=Sq.ne I hq fi;have ab:u.l≠e:=Sq.ne I hq fe;have hi:i<its.toArray.size:=by have:=(qA9.mp hv).1;simpa using this
  refine wpAny_pyNext_enum_itemD (jf (prog:=X.prog) (w:=X.w) (show X.A.in1.handled=none from I.ok.hd hc) u a8 its.toArray) he ⟨ha,a4⟩ hi a7 (by simp only [qB5,qD8,qR8,not_or];show ⟨a7,Ne.symm ab⟩) λy h1 tk hy z1 s1 p1 z2 k1=>?_;have ey:y=v:=by
   have e1:its[i]?=some y:=by simpa using hy
   rw[hv]at e1;cases e1;rfl
  subst ey;refine ⟨_,rfl,wpAny_letOwnedTupleGo_enum z1 λh2 e2 sb2=>?_⟩;have a9:e<s.heap.objs.size:=qB4 he;have b0:u.i<s.heap.objs.size:=by obtain ⟨o,q,_⟩:=ha.obj;show qB4 q
  have kp:∀b o,b≠e->b≠u.i->s.heap.get? b=some o->h2.get? b=some o:=λb o b1 b2 q=>sb2.extBut _ _ b1 (k1 b o b1 b2 q);have a3:H s.heap.objs.size=none:=I.hok.fresh (qB2 _);have trk:∀b c,H b=some c->b≠e/\b≠u.i:=λb c q=>⟨λz=>(by subst z;rw[fe.1]at q;cases q),λz=>(by subst z;rw[fi.1]at q;cases q)⟩;have b3:h2.get? s.heap.objs.size=some { cls:=.type "tuple",data:=.seq #[.int i tk,y] }:=sb2.extBut _ _ (qO7 a9) p1;have rel:Vals [.int (i:Int),x] [.int i tk,y]:=.cons ⟨tk,rfl⟩ (.cons rx .nil);refine ⟨.ref s.heap.objs.size,upd H s.heap.objs.size (.tup [.int (i:Int),x]),?_,rfl,⟨_,_,rfl,a3,rfl,?_⟩,⟨⟨y,?_⟩,?_⟩,λb hb=>?_⟩
  .change Inv X pins σ _ { s with heap:=h2,toks:=tk+1 };refine I.step (g':=s.gens) (t':=tk+1) (d':=s.drawn) (ch:=[e,u.i]) (λb hb=>?_) (λb o _ _ hc q _=>kp b o ?_ ?_ q) (λb o _ _ hc q _=>⟨o.slots,kp b o ?_ ?_ q⟩) (λb o hc q n=>?_) (λb o hc q=>⟨o,kp b o ?_ ?_ q⟩) (λb ys q=>?_) (λb o c q=>?_) (λb ps q=>?_) (λm hm=>?_) ?_ I.bare
   .simp only [qB5,qD8,qR8]at hb;rcases hb with rfl|rfl
    .show ⟨fe.2.2.2.1,fe.2.1,fe.2.2.2.2.1,fe.2.2.2.2.2⟩
    .show ⟨fi.2.2.2.1,fi.2.1,fi.2.2.2.2.1,fi.2.2.2.2.2⟩
   all_goals first
    | (intro z;show hc (by simp [z];done))
    |skip
   .rw[e7 (qD6 (qB4 q))];show n
   .rw[e7 (f7 q a3)];show q
   .rw[e7 (f7 q a3)];show q
   .show ⟨#[],by rw[e7 (f7 q a3),q];simp⟩
   .obtain ⟨o,es,ep,ho,r⟩:=hm;show ⟨o,es,ep,kp _ o (Ne.symm fe.2.1) (Ne.symm fi.2.1) ho,r⟩
   .intro b c q;by_cases hb:b=s.heap.objs.size
    .subst hb;rw[j9]at q;cases q;show ⟨(show 2<=sizeLine by decide),_,rel,⟨_,b3,rfl,_,rfl⟩⟩
    .rw [e7 hb]at q
     refine (I.hok b c q).stay (λd v a6 z=>?_) (λd z=>by rw[e7 (f7 z a3)];show z) λd ys z=>by rw[e7 (f7 z a3)];show z
     rcases a6 with rfl|a6
     .show kp _ v (trk _ _ q).1 (trk _ _ q).2 z
     .show kp _ v (trk _ _ a6).1 (trk _ _ a6).2 z
  .intro ys b4;rw[Sq.inj I b4 hq];show hx
  .have:((i+1:Nat):Int)=(i:Int)+1:=ox
   rw[this];show e2
  .show s1.1.keep λo q=>sb2.extBut _ _ (Ne.symm a7) q
  .have:b≠s.heap.objs.size:=by
    simp only [qB5,qD8,qR8]at hb;rcases hb with rfl|rfl
    .show qD6 a9
    .show qD6 b0
   rw[e7 this];show (hf b hb).1
 done:=by
  intro X hP hw hK hc i pins s σ H E I hf st hg;subst hP hw hK;obtain ⟨⟨a5,he⟩,ha⟩:=st;obtain ⟨xs,hq,hn⟩:=hg;obtain ⟨its,rv,a4⟩:=Sq.src I hq;have fe:=hf e Zy;have fi:=hf u.i Zy;have a8:u.l≠u.i:=Sq.ne I hq fi;have hsz:its.toArray.size=i:=by have:=rv.length;simp;omega
  subst hsz;refine wpAny_pyNext_enum_endD (jf (prog:=X.prog) (w:=X.w) (show X.A.in1.handled=none from I.ok.hd hc) u a8 its.toArray) he ⟨ha,a4⟩ λh' eb=>⟨rfl,?_⟩;obtain ⟨f0,f1,f2,f3,f4,f5⟩:=fi;show I.turned (t':=s.toks) (λb o hb q=>eb b o hb q) f0 f1 f3 f4 f5
 self:=λA i s Q E st h=>by
  obtain ⟨⟨a5,he⟩,_⟩:=st;show wpAny_pyIter_enum he h
def yA (K:Frag)(I:TA):TI:=λσ H R=>I σ H λvs H1=>∃t a xs,vs = [.ref a]/\Sq K H1 t a xs/\R (ItE K t a) H1
def ni:bootBuiltins "enumerate" = some (.type "enumerate"):=Zv
def om (hg:Gl X "enumerate") (hm:X.mg "enumerate" = none) (ha:PA X [a] ta) (hs:starEach [a] X.env = [(false,eval a X.env)]:=by rfl):PI X (.Tuple elts k tp) (.Call (.Name "enumerate" p) [a] [] pos) (yA X.K ta):=by
 intro pins s σ H R I h;refine qQ6 (M5 I hg hm ni ?_ Zz Zz);refine qF4 (thn (ha pos pins s σ H _ I h) λus s1 a4=>?_) hs Zo;obtain ⟨vs,H1,I1,r1,t,b,xs,e1,hq,q⟩:=a4;subst e1;obtain ⟨u,rfl,ru⟩:=K6 r1;cases ru;obtain ⟨its,rv,a3⟩:=Sq.src I1 hq;refine uR (t:=t) (its:=its.toArray) (by unfold SrcAt;unfold Sub.Src at a3;show a3) λh' he hA hk=>wpAny_pyIter_enum he ?_;have I2:Inv X pins σ H1 { s1 with heap:=h' }:=I1.kept (t':=s1.toks) hk;have TE:=rF (P:=X.prog) (w:=X.w) (K:=X.K) (elts:=elts) (k:=k) (tp:=tp) (e:=s1.heap.objs.size+1) (u:=⟨t,s1.heap.objs.size,b⟩) (neN (by change s1.heap.objs.size+1≠s1.heap.objs.size;omega));refine ⟨_,_,_,_,H1,rfl,I2,TE,⟨⟨_,he⟩,hA⟩,λc hc=>?_,q⟩;have a5:s1.heap.objs.size<=c:=by
  simp only [qB5,qD8,qR8]at hc;rcases hc with rfl|rfl
  .omega
  .show qB2 _
 show I1.fpOk (H':=H1) a5 (I1.hok.fresh a5)
def R0:List W->R Vp
 | [w]=>match B1 w with
  | .ok xs=>.ok (xs.mapIdx λi x=>W.tup [.int (i:Int),x])
  |_=>.stuck
 |_=>.stuck
def ud (he:e=.V\/e=.U) (s1:Sq K Z t a xs) (r1:Reps K (fz e H0 G) xs us):bU K e H0 Z G (ItE K t a) (us.mapIdx λi x=>W.tup [.int (i:Int),x]):=by
 have l1:=r1.length;have hq:∀H,Same Z H->Sq K H t a xs:=λH z=>Sq.same z s1;refine ⟨λi H hi z=>?_,λH z=>⟨xs,hq H z,by rw[qW4,l1]⟩,λi H x H' w hw z y G2 ρ σ I sg=>?_⟩
 .rw [qW4]at hi
  show ⟨xs,xs[i]'ox,hq H z,Zy⟩
 .obtain ⟨p,y1,rfl,hp,rfl,hy⟩:=y;obtain ⟨w1,e1,q1⟩:=Reps.get' r1 (hy xs (hq H z));have a3:w=.tup [.int (i:Int),w1]:=by
   rw[List.getElem?_mapIdx,e1]at hw;cases hw;rfl
  subst a3;obtain ⟨x1,x2⟩:=iq (Hs:=H) he I hp (.cons .int (.cons (q1.same (L8 sg)) .nil));show ⟨_,x1,x2⟩
def uV (he:e=.V\/e=.U) (h:tIt K EX lp e (λρ=>ma ρ>>=R0) σ H Rr):yA K (tA K EX (cz lp e) ma) σ H Rr:=by
 refine bu h (λH0 G ρ G1 H1 xs ws us I e1 m1 q o=>?_) (λws e z=>?_)
 .have I1:=I.ext e1;unfold R0 at q
  split at q
  .rename_i w
   cases hw:B1 w with
   |stuck=>rw[hw]at q;cases q
   |ex _=>rw[hw]at q;cases q
   | ok ls=>
    rw[hw]at q;cases q;cases m1 with
    | cons a1 m1=>
     cases m1;obtain ⟨t1,p1,v1,rfl,q1,r1⟩:=Md.src he I1 a1 hw;show ⟨t1,p1,v1,rfl,J8 (iK I1) q1,o _ G1 H1 e1 (ud he q1 r1)⟩
  .cases q
 .unfold R0 at z
  split at z
  .split at z <;> cases z
  .cases z
def lr {X:Cx}{K:Frag}{EX:EXT}{a:Expr}{pos:Pos}{I:VQ}{elts:Vz}{p tp:Pos}{k:Nat}(hg:Gl X "enumerate") (hm:X.mg "enumerate" = none) (ha:PA X [a] (tA K EX .B I)) (hK:X.K=K:=by rfl) (hs:starEach [a] X.env = [(false,eval a X.env)]:=by rfl):PI X (.Tuple elts k tp) (.Call (.Name "enumerate" p) [a] [] pos) (tIt K EX false .U (bI R0 I)):=by
 subst hK;show (om hg hm ha hs).mono λ_ _ _ q=>uV (lp:=false) (.inr rfl) q
def Ec {X:Cx}{K:Frag}{EX:EXT}{a:Expr}{pos:Pos}{I:VQ}{elts:Vz}{p tp:Pos}{k:Nat}(hg:Gl X "enumerate") (hm:X.mg "enumerate" = none) (ha:PA X [a] (tA K EX .U I)) (hK:X.K=K:=by rfl) (hs:starEach [a] X.env = [(false,eval a X.env)]:=by rfl):PI X (.Tuple elts k tp) (.Call (.Name "enumerate" p) [a] [] pos) (tIt K EX true .U (bI R0 I)):=by
 subst hK;show (om hg hm ha hs).mono λ_ _ _ q=>uV (lp:=true) (.inr rfl) q
def inW (u:W):W->Option Bool
 | .tup ws=>some ((pds ws).any λy=>PyData.eqv y (pd u))
 | .lst ws=>some ((pds ws).any λy=>PyData.eqv y (pd u))
 | .scr ws=>some ((pds ws).any λy=>PyData.eqv y (pd u))
 |_=>none
def rIn (K:Frag)(neg:Bool):R2:=λx y H Q=>∃u v b,Rep K H x u/\Rep K H y v/\shp 8 u=true/\shp 8 v=true/\inW u v=some b/\Q (.bl (if neg then !b else b)) H
def pQ (hu:X.A.units+64<cLine):OpR X (compareOp .In) (rIn X.K false):=by
 intro pins s σ H x y v u Q I rx ry h;obtain ⟨a,c,b,ra,rc,sa,sc,e,q⟩:=h;obtain ⟨as,qa⟩:=Rep.reads I 8 ra sa rx;obtain ⟨bs,qb⟩:=Rep.reads I 8 rc sc ry;have la:=cB a 8 sa;cases c <;> first | (cases e;done)|skip
 all_goals
  rename_i ws
  have lc:=ij ws 7 sc;have hm:X.A.units+1+min (PyData.depthAll (pds ws)) (pd a).depth<cLine:=by have:=qK9 (PyData.depthAll (pds ws)) (pd a).depth;omega
  cases e
 .show SeqAt.in_tuple_reads qb qa lc.1 la.1 hm ⟨.bl _,H,I,rfl,q⟩
 .show SeqAt.in_list_reads qb qa lc.1 la.1 hm ⟨.bl _,H,I,rfl,q⟩
 .show SeqAt.in_list_reads qb qa lc.1 la.1 hm ⟨.bl _,H,I,rfl,q⟩
def lD (hu:X.A.units+64<cLine):OpR X (compareOp .NotIn) (rIn X.K true):=by
 intro pins s σ H x y v u Q I rx ry h;obtain ⟨a,c,b,ra,rc,sa,sc,e,q⟩:=h;obtain ⟨as,qa⟩:=Rep.reads I 8 ra sa rx;obtain ⟨bs,qb⟩:=Rep.reads I 8 rc sc ry;have la:=cB a 8 sa;cases c <;> first | (cases e;done)|skip
 all_goals
  rename_i ws
  have lc:=ij ws 7 sc;have hm:X.A.units+1+min (PyData.depthAll (pds ws)) (pd a).depth<cLine:=by have:=qK9 (PyData.depthAll (pds ws)) (pd a).depth;omega
  cases e
 .show SeqAt.notIn_tuple_reads qb qa lc.1 la.1 hm ⟨.bl _,H,I,rfl,q⟩
 .show SeqAt.notIn_list_reads qb qa lc.1 la.1 hm ⟨.bl _,H,I,rfl,q⟩
 .show SeqAt.notIn_list_reads qb qa lc.1 la.1 hm ⟨.bl _,H,I,rfl,q⟩
def fIn (neg:Bool) (u v:W):R W:=if shp 8 u&&shp 8 v then (match inW u v with
 |some b=>.ok (.bl (if neg then !b else b))
 |none=>.stuck) else .stuck
def dJ:Op2 K .B d (rIn K neg) (fIn neg):=by
 intro EX H0 Hs G H ρ σ Ha Hb x y u v Q I s mx my o;unfold fIn at o;by_cases c:(shp 8 u&&shp 8 v)=true
 .rw [qA2 c]at o
  have c':shp 8 u=true/\shp 8 v=true:=by simpa using c
  cases hb:inW u v with
  |none=>rw[hb]at o;show o.elim
  | some b=>
   rw[hb]at o;show ⟨u,v,b,mx.whole I,my.whole I,c'.1,c'.2,hb,o _ G H (Ext.refl I.gh) (Md.sca rfl (λ_=>.bl) d)⟩
 .rw[qA4 c]at o;show o.elim
def lexLt:List Int->List Int->Bool
 | [],[]=>false
 | [],_::_=>true
 |_::_,[]=>false
 |a::as,b::bs=>if a=b then lexLt as bs else decide (a<b)
def iL:∀a,lexLt a a=false
 | []=>rfl
 |x::a=>by unfold lexLt;rw[qA2 rfl];show iL a
def db:∀a b c,lexLt a b=true->lexLt b c=true->lexLt a c=true
 | [],[],_,h,_=>by cases h
 | [],_::_,[],_,h=>by cases h
 | [],_::_,_::_,_,_=>rfl
 |_::_,[],_,h,_=>by cases h
 |_::_,_::_,[],_,h=>by cases h
 | x::a,y::b,z::c,h1,I=>by
  unfold lexLt at h1 I ⊢;by_cases e1:x=y
  .subst e1;rw[qA2 rfl]at h1;by_cases e2:x=z
   .subst e2;rw[qA2 rfl]at I ⊢;show db a b c h1 I
   .rw[qA4 e2]at I ⊢;show I
  .rw [qA4 e1]at h1
   have h1:=qQ3 h1;by_cases e2:y=z
   .subst e2;rw[qA4 e1];show qQ0 h1
   .rw [qA4 e2]at I
    have I:=qQ3 I;rw[qA4 ox];show qQ0 ox
def dQ:∀a b,lexLt a b=false->lexLt b a=false->a=b
 | [],[],_,_=>rfl
 | [],_::_,h,_=>by cases h
 |_::_,[],_,h=>by cases h
 | x::a,y::b,h1,I=>by
  unfold lexLt at h1 I;by_cases e:x=y
  .subst e;rw[qA2 rfl]at h1 I;rw[dQ a b h1 I]
  .rw [qA4 e]at h1
   rw[qA4 (λz=>e z.symm)]at I;have h1:=qQ9 h1;have I:=qQ9 I;omega
def U8 (ss:Vw)(i:Nat):Int:=((ss.countP λx=>lexLt x (ss.getD i [])):Nat)
def GS {α:Type}{p q:α->Bool}:∀{l:List α},(∀x∈l,p x=true->q x=true)->(∃x∈l,q x=true/\p x=false)->l.countP p<l.countP q:=by
 intro l
 induction l with
 |nil=>intro _ h;obtain ⟨_,h,_⟩:=h;show absurd h qD8
 | cons x l ih=>
  intro h h0;obtain ⟨y,I,hq,hp⟩:=h0;have h':∀z∈l,p z=true->q z=true:=λz hz=>h z (qB0 _ hz);have le:l.countP p<=l.countP q:=List.countP_mono_left h';rw[List.countP_cons,List.countP_cons];rcases qB5.mp I with e|I
  .subst e;rw[qA2 hq,hp,qA4 qA3];omega
  .have:=ih h' ⟨y,I,hq,hp⟩
   by_cases c:p x=true
   .rw[qA2 c,qA2 (h x qB8 c)];omega
   .rw[qA4 c];split <;> omega
def getD_mem {ss:Vw}(h:i<ss.length):ss.getD i []∈ss:=by
 rw[qA0];simp [h]
def nZ (hi:i<ss.length) (hj:j<ss.length):decide (U8 ss i<U8 ss j)=lexLt (ss.getD i []) (ss.getD j []):=by
 cases h:lexLt (ss.getD i []) (ss.getD j []) with
 | true=>
  apply qQ0;unfold U8
  have:=GS (l:=ss) (p:=λx=>lexLt x (ss.getD i [])) (q:=λx=>lexLt x (ss.getD j [])) (λx _ I=>db _ _ _ I h) ⟨_,getD_mem hi,h,iL _⟩
  omega
 | false=>
  apply qQ1;unfold U8
  have:ss.countP (λx=>lexLt x (ss.getD j []))<=ss.countP λx=>lexLt x (ss.getD i []):=by
   apply List.countP_mono_left;intro x _ I;cases h2:lexLt (ss.getD j []) (ss.getD i []) with
   |true=>show db _ _ _ I h2
   |false=>rw[dQ _ _ h h2];show I
  omega
def L3 (ss:Vw):List Vk:=ss.mergeSort λa b=>!lexLt b a
def sv (ss:Vw):(List.range ss.length).map (λi=>ss.getD i [])=ss:=by
 apply qK3
 .simp
 .intro i h1 I;simp [I]
def cA (ss:Vw):(L3 ss).Perm ss:=List.mergeSort_perm _ _
def nR (ss:Vw):(L3 ss).Pairwise λa b=>lexLt b a=false:=by
 have h:=List.pairwise_mergeSort (le:=λa b=>!lexLt b a) (λa b c h1 I=>by
  simp only [Bool.not_eq_true']at h1 I ⊢;cases e:lexLt c a with
  |false=>rfl
  | true=>
   cases f:lexLt a b with
   |true=>rw[db c a b e f]at I;cases I
   |false=>rw[dQ a b f h1]at e;rw[e]at I;cases I) (λa b=>by
  cases e:lexLt b a with
  |false=>rfl
  | true=>
   cases f:lexLt a b with
   |false=>rfl
   |true=>have:=db a b a f e;rw[iL]at this;cases this) ss
 show h.imp λq=>by simpa using q
def allLt (n:Nat)(p:Array Nat):Prop:=∀x∈p,x<n
section
open PySem.W PyProof.Rows
variable {n:Nat}(h0:0<n)
include h0
end
def fC (fin:Bool):List (Int×Int)->Bool
 | []=>fin
 | (a,b)::r=>if a=b then fC fin r else decide (a<b)
def oF:∀xs I:List Int,fC (decide (xs.length<I.length)) (xs.zip I)=lexLt xs I
 | [],[]=>rfl
 | [],_::_=>by simp [fC,lexLt]
 |_::_,[]=>by simp [fC,lexLt]
 | x::xs,y::I=>by
  have:=oF xs I
  simp only [List.zip_cons_cons,fC,lexLt,qD1,Nat.add_lt_add_iff_right];rw[this]
section
open PySem.W PyProof.Rows
def tR:∀(xs I:Vk) (us vs:JY) (i:Nat),Vals (xs.map V.int) us->Vals (I.map V.int) vs->Q (fC fin (xs.zip I)) s->KatLex prog w A true fin Q (us.zip vs) i s
 | [],_,_,_,_,.nil,_,h=>h
 |_::_,[],_,_,_,.cons _ _,.nil,h=>h
 | x::xs,y::I,_,_,i,.cons r1 t1,.cons r2 t2,h=>by
  obtain ⟨t,rfl⟩:=r1;obtain ⟨u,rfl⟩:=r2;refine kat_cons (wpAny_eqBool_int ?_);simp only [List.zip_cons_cons,fC]at h;by_cases e:x=y
  .rw [qA2 e]at h
   rw[show (x == y)=true by simpa using e];show kat_yes (tR xs I _ _ (i+1) t1 t2 h)
  .rw [qA4 e]at h
   rw[show (x == y)=false by simpa using e];refine kat_no ?_;cases i with
   |zero=>show oneLt_int h
   |succ i=>show kat_one _ _ (lt_int h)
def TupI (h:Heap)(v:Value)(xs:Vk):Prop:=∃(a:Addr)(o:Obj)(its:JY)(m:Nat),v=.ref a/\h.get? a=some o/\o.cls=.type "tuple" /\ o.data=.seq its.toArray m/\Vals (xs.map V.int) its
def AL (hv:TupI s.heap v xs) (hu:TupI s.heap u ys) (h:Q (lexLt xs ys) s):wpAny (model prog w) A (keyLt' (tuples' true) v u) Q E s:=by
 obtain ⟨a,o,its,m,rfl,ho,_,hd,rv⟩:=hv;obtain ⟨b,o2,a5,m2,rfl,a3,_,a4,I⟩:=hu;refine kat_lt ho hd a3 a4 ?_;have l1:=rv.length;have l2:=I.length;rw[qA7]at l1 l2;refine tR xs ys _ _ 0 rv I ?_;simp only [qB6,<- l1,<- l2];rw[oF];show h
def vv (hv:TupI h v xs) (a3:xs ≠ []):∃(a:Addr) (o:Obj) (its:Vj) (m:Nat) (i:Int) (I:Tok),v=.ref a/\h.get? a=some o/\o.cls=.type "tuple" /\ o.data=.seq its m/\its[0]?=some (.int i I):=by
 obtain ⟨a,o,its,m,e,ho,hc,hd,rv⟩:=hv;cases xs with
 |nil=>show absurd rfl a3
 | cons x xs=>
  cases its with
  |nil=>cases rv
  | cons u its=>
   cases rv with
   | cons r1 _=>
    obtain ⟨I,rfl⟩:=r1;show ⟨a,o,_,m,x,I,e,ho,hc,hd,rfl⟩
def kK:∀{vs:JY}{ss:Vw},Paired (λv xs=>TupI h v xs/\xs ≠ []) vs ss->∃fs:List Value,KatTups h vs fs/\fs.length=ss.length/\∀f∈fs,∃i t,f=.int i t
 |_,_,.nil=>⟨[],trivial,rfl,λ_ h=>nomatch h⟩
 | _,_,.cons hv t=>by
  obtain ⟨fs,k,hl,hi⟩:=kK t;obtain ⟨a,o,its,m,i,tk,e,ho,hc,hd,h0⟩:=vv hv.1 hv.2;subst e;refine ⟨.int i tk::fs,KatTups.cons ho hc hd h0 k,by rw[qD1,qD1,hl],λf I=>?_⟩;rcases qB5.mp I with q|I
  .show ⟨i,tk,q⟩
  .show hi f I
end
def L6:∀{as:List α}{bs:List β}{i:Nat},Paired F as bs->i<as.length->∃b,bs[i]?=some b/\F (as.getD i d) b
 |_,_,_,.nil,h=>absurd h (qD3 _)
 |_,_,0,.cons r _,_=>⟨_,rfl,r⟩
 | _,_,i+1,.cons _ t,h=>by
  obtain ⟨b,e,q⟩:=L6 (d:=d) (i:=i) t (by simpa using h);show ⟨b,by simpa using e,by simpa using q⟩
def eA {R:β->γ->Prop}:∀{as:List α}{bs:List β}{cs:List γ},Paired F as bs->Paired G as cs->(∀a b c,F a b->G a c->R b c)->Paired R bs cs
 |_,_,_,.nil,.nil,_=>.nil
 |_,_,_,.cons a r,.cons b t,h=>.cons (h _ _ _ a b) (eA r t h)
section
open PySem.W PyProof.Rows
end
def uX:bootBuiltins "sorted" = some (.builtin "sorted"):=Zv
def U4:List W->Option Vw
 | []=>some []
 | .tup ws::r=>match w4 ws,U4 r with
  |some x,some xs=>some (x::xs)
  |_,_=>none
 |_=>none
def kJ:∀ss:List Vk,U4 (ss.map λx=>W.tup (x.map W.int))=some ss
 | []=>rfl
 | x::ss=>by
  change (match w4 (x.map W.int),U4 (ss.map λx=>W.tup (x.map W.int)) with|some x,some xs=>_|_,_=>_)=_;rw[ints_map,kJ ss]
def xb:∀{ws:Vp}{x:Vk},w4 ws=some x->ws=x.map W.int:=by
 intro ws
 induction ws with
 |nil=>intro x h;cases h;rfl
 | cons w ws I=>
  intro x h;cases w <;> first | (cases h;done)|skip
  rename_i i
  have h':(w4 ws).map (i::·)=some x:=h;cases hw:w4 ws with
  |none=>rw[hw]at h';cases h'
  |some bs=>rw[hw]at h';rw[I hw,<- Option.some.inj h'];rfl
def vt:∀{ws:Vp}{ss:Vw},U4 ws=some ss->ws=ss.map λx=>W.tup (x.map W.int):=by
 intro ws
 induction ws with
 |nil=>intro ss h;cases h;rfl
 | cons w r ih=>
  intro ss h;cases w <;> first | (cases h;done)|skip
  rename_i ws
  have h':(match w4 ws,U4 r with|some x,some xs=>some (x::xs)|_,_=>none)=some ss:=h;cases I:w4 ws with
  |none=>rw[I]at h';cases h'
  | some x=>
   cases h2:U4 r with
   |none=>rw[I,h2]at h';cases h'
   |some xs=>rw[I,h2]at h';rw[xb I,ih h2,<- Option.some.inj h'];rfl
def jl:∀ns:List Int,m8 (ns.map W.int)=true
 | []=>rfl
 |n::ns=>by rw[qB9];simp only [m8,noL,jl ns,qM7]
def lT:∀ss:List Vk,m8 (ss.map λx=>W.tup (x.map W.int))=true
 | []=>rfl
 |x::ss=>by rw[qB9];simp only [m8,noL,jl x,lT ss,qM7]
def ji:∀{ys:List V}{ss:Vw},Reps K F ys (ss.map λx=>W.tup (x.map W.int))->(∀x∈ss,x ≠ [])->Paired (λv I=>(∃a,v=.ref a/\F a=some (.tup (I.map V.int)))/\I ≠ []) ys ss
 |_,[],.nil,_=>.nil
 | _,x::ss,.cons r t,hne=>by
  refine .cons ⟨?_,hne x qB8⟩ (ji t λy hy=>hne y (qB0 _ hy));cases r with
  |tup ha hr=>show ⟨_,rfl,by rw[ha,Reps.ints hr (ints_map x)]⟩
def nY:∀{I:List V}{ws:Vp}{i:Nat},Reps K F I ws->i<I.length->∃w,ws[i]?=some w/\Rep K F (I.getD i .non) w
 |_,_,_,.nil,h=>absurd h (qD3 _)
 |_,_,0,.cons r _,_=>⟨_,rfl,r⟩
 | _,_,i+1,.cons _ t,h=>by
  obtain ⟨b,e,q⟩:=nY (i:=i) t (by simpa using h);show ⟨b,by simpa using e,by simpa using q⟩
def lh:∀{l:Vy},(∀i∈l,Rep K F (f i) (g i))->Reps K F (l.map f) (l.map g)
 | [],_=>.nil
 |_::_,h=>.cons (h _ qB8) (lh λb hb=>h b (qB0 _ hb))
set_option maxHeartbeats 2000000
def vw (l b:Addr) (a3:Vj) (m m2:Nat) (dd a4:Option Addr) (sl a5:Array (Option Value)) :
  Meets (Builtin.«tuple.__add__» ⟨[.ref l,.ref b],[]⟩) (λ_ R s=>s.heap.get? l=some { cls:=.type "tuple",dict:=dd,data:=.seq #[] m,slots:=sl }/\s.heap.get? b=some { cls:=.type "tuple",dict:=a4,data:=.seq a3 m2,slots:=a5 }/\R (.ok (.ret (.ref b))) s):=
 .of_wp λprog w A R s I=>by
  obtain ⟨hp,g,d,tk,os⟩:=s;obtain ⟨hl,hb,I⟩:=I;have g1:=AutoSeq1.sub_tuple_tuple
  wp_walk using qI2 hl,qI2 hb
  show ⟨_,rfl,I⟩
def yl (K:Frag):R2:=λx y H Q=>yk K x y H Q\/∃a b I,x=.ref a/\y=.ref b/\SqT K H a []/\SqT K H b I/\Q (.ref b) H
def Ai (hK:X.K=K:=by rfl):OpR X (binaryOp .Add) (yl K):=by
 subst hK;intro pins s σ H x y v u Q I rx ry h;rcases h with h|⟨a,b,ys,rfl,rfl,ha,hb,q⟩
 .show Ah pins s σ H x y v u Q I rx ry h
 .cases rx;cases ry;obtain ⟨its,r1,⟨⟨c1,d1,t1,a8⟩,o1,a4,n1,a6⟩,_⟩:=I.tuple ha;obtain ⟨a7,r2,⟨⟨c2,d2,t2,a9⟩,o2,a3,n2,a5⟩,_⟩:=I.tuple hb;cases r1;simp only at a4 a6 a3 a5;subst a4 a6 a3 a5;show concat_meets ⟨_,o1,rfl⟩ ⟨_,o2,rfl⟩ qX5 seq_tuple_add qT5 qT1 (qS6 _ _) (vw a b a7.toArray n1 n2 d1 d2 a8 a9) ⟨o1,o2,.ref b,H,I,rfl,q⟩
def fCatT:W->W->R W
 | .tup us,.tup vs=>if us.length+vs.length<=1000/\m8 us=true/\m8 vs=true then .ok (.tup (us++vs)) else .stuck
 |_,_=>.stuck
def Ao:Op2 K .B .F (yl K) fCatT:=by
 intro EX H0 Hs G H ρ σ Ha Hb x y u v Q I s mx my o;cases u <;> first|show o.elim|skip
 all_goals (cases v <;> first|show o.elim|skip)
 rename_i us vs
 replace o:Out EX G H (mdW K .F H0 Hs) (if us.length+vs.length<=1000/\m8 us=true/\m8 vs=true then .ok (.tup (us++vs)) else .stuck) Q:=o
 by_cases hn:us.length+vs.length<=1000/\m8 us=true/\m8 vs=true
 .rw [qA2 hn]at o
  obtain ⟨hz,n1,n2⟩:=hn;rcases mx with mx|⟨_,_,_,_,e2,_⟩
  .rcases my with my|⟨_,_,_,_,e2,_⟩
   .have cx:=Rep.clean I mx (by simpa [noL]using n1);have cy:=Rep.clean I my (by simpa [noL]using n2);cases cx with
    | tup ha ra=>
     cases cy with
     | tup hb rb=>
      have l1:=ra.length;have l2:=rb.length;by_cases he:us = []
      .subst he;cases ra;show .inr ⟨_,_,_,rfl,rfl,SqT.of (I.gh _ _ ha),SqT.of (I.gh _ _ hb),o _ G H (Ext.refl I.gh) (.tup hb rb)⟩
      .refine .inl ⟨_,_,_,_,rfl,rfl,SqT.of (I.gh _ _ ha),SqT.of (I.gh _ _ hb),λz=>?_,by rw[l1,l2];show W4 hz,λz=>?_,λ_ p hp=>?_⟩
       .subst z;cases ra;show he rfl
       .subst z;cases rb;rw[qG2]at o;show o _ G H (Ext.refl I.gh) (.tup ha ra)
       .show Out.newTF I (ra.append rb) hp o
   .cases e2
  .cases e2
 .rw[qA4 hn]at o;show o.elim
end TP
namespace L2
open PySem PySem.Spec PyProof.Rows
end L2
namespace TP
open PySem L2
end TP
namespace HT
open PySem PyProof.Rows
def getItem_tuple_all {lo:JX}(ht:IsTup s.heap t items) (hs:s.heap.IsSliceOf sl vl vu .none) (pl:IsPart vl lo) (pu:IsPart vu hi) (hw:sIx items.size 0 lo=0/\sIx items.size items.size hi=items.size) (h:Q (.ref t) s) (hsz:items.size<=sizeLine):wpAny (model prog w) A (getItem (.ref t) (.ref sl)) Q E s:=by
 have hj:sIx items.size items.size hi<=items.size:=sh _ _ (qB2 _) hi;obtain ⟨os,a3,a4,a6⟩:=id hs;have a5:s.TypeIs (.ref sl) "slice" := ⟨os,a3,a4⟩;unfold getItem
 try with_reducible refine qR1 ?_
 first|refine qA1 (qP9 ?_)|skip
 refine qA1 (wpAny_sequenceKey ht.typeIs Zz ?_);refine qA1 (qQ7 (name:=Str.ofString "__getitem__") ht.typeIs qJ7
  (qR2 qJ7 ht.typeIs entry_tuple_getitem ?_ (args_tuple_getitem _ _)))
 change wpAny _ _ (Builtin.Tuple.tupleItemsOf (.ref t)>>=_) _ _ s;refine qA1 (tupleItemsOf_ ht ?_);refine qA1 (qX6 a5 ?_);rw[qA2 Zz];refine qA1 (W9 hs pl pu ?_);have I:(((sIx items.size 0 lo:Nat):Int) == 0&&(1:Int) == 1&&(sIx items.size items.size hi-sIx items.size 0 lo) == items.size)=true:=by
  rw[hw.1,hw.2];simp
 change wpAny _ _ (if (((sIx items.size 0 lo:Nat):Int) == 0&&(1:Int) == 1&&(sIx items.size items.size hi-sIx items.size 0 lo) == items.size)=true then _ else _) _ _ s;rw[qA2 I];unfold Builtin.Tuple.tupleIsExact
 wp_walk using qX6 ht.typeIs
 show ⟨_,rfl,qP9 h⟩
end HT
namespace TP
open PySem L2
def vV (K:Frag):V->Option Int->Option Int->Hp->VK->Prop:=λx lo hi H Q=>∃a xs,x=.ref a/\SqT K H a xs/\(HT.sIx xs.length 0 lo=0/\HT.sIx xs.length xs.length hi=xs.length)/\Q (.ref a) H
def zm:L2.SlR X (vV X.K):=by
 intro pins s σ H x v vl vu lo hi sl Q I rx hs pl pu h;obtain ⟨a,xs,rfl,hx,hw,q⟩:=h;cases rx;obtain ⟨its,r,ht,hz⟩:=I.tuple hx;have hlen:its.toArray.size=xs.length:=by rw[qB6];show r.length.symm
 refine ⟨"tuple",_,PyProof.Rows.slot_tuple_getitem.lookup,ht.typeIs,?_⟩;show HT.getItem_tuple_all ht hs pl pu (by rw[hlen];show hw) ⟨.ref a,H,I,rfl,q⟩ (by rw[hlen];show hz)
def DS (K:Frag):V->Option Int->Option Int->Hp->VK->Prop:=λx lo hi H Q=>DQ K x lo hi H Q\/vV K x lo hi H Q
def zl:L2.SlR X (DS X.K):=L2.SlR.or CH zm
def Rst (x:R W) (l u:R JX):R W:=x>>=λx=>l>>=λl=>u>>=λu=>(match x with
 | .tup ws=>if m8 ws=true then .ok (.tup (F8 ws l u)) else .stuck
 |_=>.stuck)
def kG (m:Vo)(ml I:Rho->R JX):Vo:=λρ=>Rst (m ρ) (ml ρ) (I ρ)
def xJ (h:HT.sIx ws.length 0 lo=0/\HT.sIx ws.length ws.length hi=ws.length):F8 ws lo hi=ws:=by
 unfold F8;rw[h.1,h.2,xA6,Nat.sub_zero,qK2]
def Jb (h:tM K EX .F (kG m ml mh) σ H Q):tSl (DS K) (tM K EX .B m) (S8 K EX ml) (S8 K EX mh) σ H Q:=by
 obtain ⟨H0,G,ρ,I,o⟩:=h;unfold kG Rst at o;refine ⟨H0,G,ρ,I,Out.bind o λx G1 H1 w e1 m1 o1=>⟨H0,G1,ρ,I.ext e1,Out.bind o1 λl' G2 H2 l e2 m2 o2=>⟨H0,G2,ρ,(I.ext e1).ext e2,Out.bind o2 λu' G3 H3 u e3 m3 o3=>?_⟩⟩⟩;subst m2;subst m3;have I3:=((I.ext e1).ext e2).ext e3;cases w <;> first|show o3.elim|skip
 rename_i ws
 dsimp only at o3;by_cases hn:m8 ws=true
 .rw [qA2 hn]at o3
  have mx:=(m1.move e2).move e3;rcases mx with mx|⟨_,_,_,_,z,_⟩
  .have cx:=Rep.clean I3 mx (by simpa [noL]using hn);cases cx with
   | tup ha ra=>
    rename_i a vs
    have l1:=ra.length;by_cases hw:HT.sIx vs.length 0 l'=0/\HT.sIx vs.length vs.length u'=vs.length
    .refine .inr ⟨a,vs,rfl,SqT.of (I3.gh _ _ ha),hw,?_⟩;rw[xJ (by rw[<- l1];show hw)]at o3;show o3 _ G3 H3 (Ext.refl I3.gh) (.tup ha ra)
    .show .inl ⟨a,vs,rfl,SqT.of (I3.gh _ _ ha),hw,λp hp=>Out.newTF I3 (ra.cut l' u') hp o3⟩
  .cases z
 .rw[qA4 hn]at o3;show o3.elim
def Ij {X:Cx}{K:Frag}{EX:EXT}{e:Expr}{pos:Pos}{ma:Vo}{lo hi:Option Expr}{p2:Pos}{I mh:Rho->R JX}(he:PE X e (tM K EX .B ma)) (hl:PO X lo (S8 K EX I)) (hu:PO X hi (S8 K EX mh)) (hK:X.K=K:=by rfl):PE X (.Subscript e (.Slice lo hi none p2) pos) (tM K EX .F (kG ma I mh)):=by
 subst hK;show (lA zl he hl hu).mono λ_ _ _ q=>Jb q
def nL (m:Vo)(ml I:Rho->R JX)(ρ:Rho):kG m ml I ρ=Rst (m ρ) (ml ρ) (I ρ):=rfl
def HL (h:m8 ws=true) (l u:JX):Rst (.ok (.tup ws)) (.ok l) (.ok u)=.ok (.tup (F8 ws l u)):=by
 change (if m8 ws=true then _ else _)=_;rw[qA2 h]
def iP:W->Option Vk
 | .tup ws=>w4 ws
 |_=>none
def mG (ns:Vk):iP (.tup (ns.map W.int))=some ns:=ints_map ns
abbrev Y2 (k:Vk):List Key:=k.map Sum.inl
def xc (e:Y2 a=Y2 b):a=b:=by
 have:=congrArg (List.map λx:Key=>match x with | .inl i=>i | .inr _=>0) e
 simpa [Y2,Function.comp_def]using this
def Fj (k:Vk):(Y2 k).map kV=k.map V.int:=by rw[qC5];rfl
def AW (r:Rep K F v w) (e:iP w=some k):∃b,v=.ref b/\F b=some (.tup ((Y2 k).map kV)):=by
 cases r <;> first|cases e|skip
 rename_i a vs ws h r
 refine ⟨a,rfl,?_⟩;rw[Fj,<- Reps.ints r e];show h
def mF (I:PIv K H0 G ρ σ H) (m:Md K H0 Hs G H v w .B) (e:iP w=some k):∃b,v=.ref b/\H b=some (.tup ((Y2 k).map kV)):=by
 rcases m with r|⟨a,vs,ws,_,rfl,_⟩
 .obtain ⟨b,e1,e2⟩:=AW r e;show ⟨b,e1,I.join_H _ _ e2⟩
 .cases e
def any_keys {kvs:List (List Key×V)}{ks:Vw}(hk:kvs.map (·.1)=ks.map λk=>k.map Sum.inl):(kvs.any λkv=>decide (kv.1=Y2 k))=decide (k∈ks):=by
 rw[qH7,qD5,qS9];constructor
 .rintro ⟨p,I,q⟩;have e:=qQ3 q
  have:p.1∈ks.map λk=>k.map Sum.inl:=by rw[<- hk];show qB1.mpr ⟨p,I,rfl⟩
  obtain ⟨j,hj,ej⟩:=qB1.mp this;rw[<- xc (ej.trans e)];show hj
 .intro h
  have:Y2 k∈kvs.map (·.1):=by rw[hk];show qB1.mpr ⟨k,h,rfl⟩
  obtain ⟨p,I,e⟩:=qB1.mp this;show ⟨p,I,qQ0 e⟩
def nj (ks:Vw)(k:Vk):List Vk:=if k∈ks then ks else ks ++ [k]
def wV (hk:kvs.map (·.1)=ks.map λk=>k.map Sum.inl):(putK kvs (Y2 k) v).map (·.1)=(nj ks k).map λk=>k.map Sum.inl:=by
 unfold putK nj;rw[any_keys hk];by_cases h:k∈ks
 .rw [qA2 (qQ0 h),qA2 h,<- hk,qC5]
  refine qM4 λp _=>?_
  change (if p.1=Y2 k then (p.1,v) else p).1=p.1
  split <;> rfl
 .rw[qA4 (by simpa using h),qA4 h,qC9,qC9,hk];rfl
def PIv.updD (I:PIv K H0 G ρ σ H) (ha:H a=some (.dT kvs)) (hg:G a=none) (h0:H0 a=none) (nd:∀(j:Nat) (ks:Vw),ρ[j]?=some (.dic ks)->σ[j]?≠some (some (.ref a))):PIv K H0 G ρ σ (upd H a (.dT kvs')):=by
 refine ⟨I.g0,I.gl,λb o q=>by rw[e7 (f7 q hg)];show I.gh b o q,λb o q=>by rw[e7 (f7 q h0)];show I.hh b o q,I.len,λj x o h1 h2=>?_,I.ne⟩
 have:=I.sl j x o h1 h2
 cases x with
 | own us=>
  obtain ⟨b,a5,eb,hb,a6,a3,rb⟩:=this;have a4:b≠a:=by
   rintro rfl;rw[ha]at hb;cases hb
  show ⟨b,a5,eb,by rw[e7 a4];show hb,a6,a3,rb⟩
 | dic ks=>
  obtain ⟨b,a5,eb,hb,a6,a3,rb⟩:=this;subst eb;have a4:b≠a:=by
   rintro rfl;show nd j ks h1 h2
  show ⟨b,a5,rfl,by rw[e7 a4];show hb,a6,a3,rb⟩
 | dik ks=>
  obtain ⟨b,a5,eb,hb,a6,a3,rb⟩:=this;have a4:b≠a:=by
   rintro rfl;rw[ha]at hb;cases hb
  show ⟨b,a5,eb,by rw[e7 a4];show hb,a6,a3,rb⟩
 |un=>show this
 |val _=>show this
 |par _=>show this
 |iop _ _=>show this
 |hz _=>show this
def PIv.setD (I:PIv K H0 G ρ σ H) (ha:H a=some (.dT kvs)) (hg:G a=none) (h0:H0 a=none) (hk:kvs.map (·.1)=ks.map λk=>k.map Sum.inl):PIv K H0 G (ρ.set i (.dic ks)) (σ.set i (some (.ref a))) H where
 g0:=I.g0
 gl:=I.gl
 gh:=I.gh
 hh:=I.hh
 len:=by rw[qF2,qF2];show I.len
 sl j x o h1 h2:=by
  by_cases hj:i=j
  .subst hj;rw[qD0]at h1 h2;simp only [qQ2]at h1 h2
   split at h1 <;> split at h2 <;> simp only [qF9,reduceCtorEq]at h1 h2
   subst h1;subst h2;show ⟨a,kvs,rfl,ha,hg,h0,hk⟩
  .rw[qB7 hj]at h1 h2;show I.sl j x o h1 h2
 ne a b ws us c hab h1 h2 h3 h4:=by
  have na:i≠a:=by
   rintro rfl;rw[qD0]at h1;simp only [qQ2]at h1
   split at h1 <;> simp at h1
  have nb:i≠b:=by
   rintro rfl;rw[qD0]at h2;simp only [qQ2]at h2
   split at h2 <;> simp at h2
  rw[qB7 na]at h1 h3;rw[qB7 nb]at h2 h4;show I.ne a b ws us c hab h1 h2 h3 h4
def PIv.dic_at {i:Nat}(I:PIv K H0 G ρ σ H) (e:ρ[i]?=some (.dic ks)):∃a kvs,σ[i]?=some (some (.ref a))/\H a=some (.dT kvs)/\G a=none/\H0 a=none/\kvs.map (·.1)=ks.map λk=>k.map Sum.inl:=by
 have hi:i<σ.length:=by rw[<- I.len];show (qA9.mp e).1
 have es:σ[i]?=some σ[i]:=Zy;obtain ⟨a,kvs,ev,r⟩:=I.sl i _ _ e es;show ⟨a,kvs,by rw[es,ev],r⟩
def bL:Sl->Bool
 | .dic _=>true
 |_=>false
def jY (ρ:Rho):Bool:=ρ.all λs=>!bL s
def wG {ρ:Rho}(h:jY (ρ.set i .un)=true) (I:i≠j):ρ[j]?≠some (.dic ks):=λe=>by
 have e':(ρ.set i .un)[j]?=some (.dic ks):=by rw[qB7 I];show e
 have:=qI1.mp h _ (qG3 e')
 simp [bL]at this
def PIv.dic_upd (I:PIv K H0 G ρ σ H) (e:ρ[i]?=some (.dic ks)) (es:σ[i]?=some (some (.ref a))) (one:jY (ρ.set i .un)=true) (hk:kvs'.map (·.1)=ks'.map λk=>k.map Sum.inl):
  PIv K H0 G (ρ.set i (.dic ks')) σ (upd H a (.dT kvs')):=by
 obtain ⟨a',kvs,ev,ha,hg,h0,_⟩:=I.sl i _ _ e es;cases ev;refine ⟨I.g0,I.gl,λb o q=>by rw[e7 (f7 q hg)];show I.gh b o q,λb o q=>by rw[e7 (f7 q h0)];show I.hh b o q,by rw[qF2];show I.len,λj x o h1 h2=>?_,λp q a8 us c a7 h1 h2 h3 h4=>?_⟩
 .by_cases hj:i=j
  .subst hj;rw[qD0]at h1;simp only [qQ2]at h1
   split at h1 <;> simp only [qF9,reduceCtorEq]at h1
   subst h1;rw[es]at h2;cases h2;show ⟨a,kvs',rfl,j9,hg,h0,hk⟩
  .rw [qB7 hj]at h1
   have:=I.sl j x o h1 h2
   cases x with
   | own us=>
    obtain ⟨b,a5,eb,hb,a6,a3,rb⟩:=this;have a4:b≠a:=by
     rintro rfl;rw[ha]at hb;cases hb
    show ⟨b,a5,eb,by rw[e7 a4];show hb,a6,a3,rb⟩
   |dic ls=>show absurd h1 (wG one hj)
   | dik ks=>
    obtain ⟨b,a5,eb,hb,a6,a3,rb⟩:=this;have a4:b≠a:=by
     rintro rfl;rw[ha]at hb;cases hb
    show ⟨b,a5,eb,by rw[e7 a4];show hb,a6,a3,rb⟩
   |un=>show this
   |val _=>show this
   |par _=>show this
   |iop _ _=>show this
   |hz _=>show this
 .have na:i≠p:=by
   rintro rfl;rw[qD0]at h1;simp only [qQ2]at h1
   split at h1 <;> simp at h1
  have nb:i≠q:=by
   rintro rfl;rw[qD0]at h2;simp only [qQ2]at h2
   split at h2 <;> simp at h2
  rw[qB7 na]at h1;rw[qB7 nb]at h2;show I.ne p q a8 us c a7 h1 h2 h3 h4
def inD (o:Option Sl) (w:W) (neg:Bool):R Bool:=match o with
 | some (.dic ks)=>(match iP w with
  |some k=>.ok (if neg then !decide (k∈ks) else decide (k∈ks))
  |none=>.stuck)
 |_=>.stuck
def mIn (neg:Bool)(i:Nat)(I:Vo):VZ:=λρ=>I ρ>>=λw=>inD ρ[i]? w neg
def Jp (h:tT K EX (mIn false i mk) σ H Q):tB (Cz (tM K EX .B mk) (aq i)) σ H Q:=by
 obtain ⟨H0,G,ρ,I,o⟩:=h;refine ⟨H0,G,ρ,I,Out.bind (md:=mdW K .B H0 H) o λy G1 H1 w e1 m1 o1=>?_⟩;have I1:=I.ext e1;unfold inD at o1
 split at o1
 .rename_i ks e
  split at o1
  .rename_i k ek
   obtain ⟨a,kvs,es,ha,hg,h0,hk⟩:=I1.dic_at e;obtain ⟨b,rfl,hb⟩:=mF I1 m1 ek;refine ⟨.ref a,es,a,_,rfl,DGet.t ha hb,_,rfl,?_⟩;rw[<- eV,any_keys hk];show o1 _ G1 H1 (Ext.refl I1.gh) rfl
  .show o1.elim
 .show o1.elim
def putD (ks:Vw) (i:Nat) (w:W) (ρ:Rho):R Fl:=match iP w with
 |some k=>if jY (ρ.set i .un)=true/\ks.length<1000 then .ok (.nx (ρ.set i (.dic (nj ks k)))) else .stuck
 |none=>.stuck
def kA (o:Option Sl) (I rk:R W) (i:Nat) (ρ:Rho):R Fl:=match o with
 |some (.dic ks)=>I>>=λ_=>rk>>=λw=>putD ks i w ρ
 |_=>.stuck
def gE (i:Nat)(I me:Vo):Vg:=λρ=>kA ρ[i]? (me ρ) (I ρ) i ρ
def Hr (h:tSt K EX d (gE i mk me) D σ H):yf (aq i) (tM K EX .B mk) (tM K EX .B me) D σ H:=by
 obtain ⟨H0,G,ρ,I,o⟩:=h;unfold gE kA at o
 split at o
 .rename_i ks e
  refine ⟨H0,G,ρ,I,OutS.bind I o λv G1 H1 w1 e1 m1 o1=>?_⟩;have I1:=I.ext e1;obtain ⟨a,kvs,es,ha,hg,h0,hk⟩:=I1.dic_at e;refine ⟨.ref a,es,H0,G1,ρ,I1,OutS.bind I1 o1 λy G2 H2 w e2 m2 o2=>?_⟩;have I2:=I1.ext e2;unfold putD at o2
  split at o2
  .rename_i k ek
   split at o2
   .rename_i hc
    obtain ⟨b,rfl,hb⟩:=mF I2 m2 ek;have hl:kvs.length=ks.length:=by have:=congrArg List.length hk;simpa using this
    refine ⟨a,_,rfl,DPut.t (e2.hh a _ ha) hb (qB3 (show kvs.length<1000 by omega) Zz),?_⟩;show o2 G2 σ _ (Same.refl _) (I2.dic_upd e es hc.1 (wV hk))
   .show o2.elim
  .show o2.elim
 .show o.elim
def newD (i:Nat) (w:W) (ρ:Rho):R Fl:=match iP w with
 |some k=>.ok (.nx (ρ.set i (.dic [k])))
 |none=>.stuck
def kg (i:Nat)(I me:Vo):Vg:=λρ=>I ρ>>=λw=>me ρ>>=λ_=>newD i w ρ
def nP (tk I:TE):TE:=λσ H Q=>∀p,H p=none->tk σ (upd H p (.dT [])) λx H1=>I σ H1 λy H2=>H2 p=some (.dT [])/\∃b k,x=.ref b/\H2 b=some (.tup (k.map kV))/\Q (.ref p) (upd H2 p (.dT [(k,y)]))
def Ht (h:tSt K EX d (kg i mk me) D σ H):bv (nP (tM K EX .B mk) (tM K EX .B me)) (M8 i) D σ H:=by
 obtain ⟨H0,G,ρ,I,o⟩:=h;intro p hp;have a6:G p=none:=by
  cases q:G p with
  |none=>rfl
  |some u=>rw[I.gh p u q]at hp;cases hp
 have a5:H0 p=none:=by
  cases q:H0 p with
  |none=>rfl
  |some u=>rw[I.hh p u q]at hp;cases hp
 have su:Same H (upd H p (.dT [])):=λb u q=>by rw[e7 (f7 q hp)];show q
 have x0:Ext G H G (upd H p (.dT [])):=⟨Same.refl G,su,I.gh.trans su,λ_ _ _ _ e=>e⟩;have I0:=I.ext x0;have o':OutS K EX d H0 G (mk ρ>>=λw=>me ρ>>=λ_=>newD i w ρ) D:=o;refine ⟨H0,G,ρ,I0,OutS.bind I0 o' λx G1 H1 w e1 m1 o1=>?_⟩;have I1:=I0.ext e1;refine ⟨H0,G1,ρ,I1,OutS.bind I1 o1 λy G2 H2 w2 e2 m2 o2=>?_⟩;have I2:=I1.ext e2;have a4:H2 p=some (.dT []):=e2.hh p _ (e1.hh p _ j9);have a3:G2 p=none:=e2.keep p _ (e1.hh p _ j9) rfl (e1.keep p _ j9 rfl a6);refine ⟨a4,?_⟩;unfold newD at o2
 split at o2
 .rename_i k ek
  obtain ⟨b,rfl,hb⟩:=mF I1 m1 ek;refine ⟨b,Y2 k,rfl,e2.hh b _ hb,?_⟩;refine o2 G2 _ _ (Same.refl _) (PIv.setD (I2.updD a4 a3 a5 λj ks e1 e2=>?_) j9 a3 a5 rfl);obtain ⟨c,kvs,ec,hc,_⟩:=I.sl j _ _ e1 e2;cases ec;rw[hp]at hc;cases hc
 .show o2.elim
def sP (hu:X.A.units+1<cLine) (hk:PE X k tk) (hv:PE X v tv):PE X (.Dict [some k] [v] pos) (nP tk tv):=by
 intro pins s σ H Q I q;have hn:=I.hok.fresh (qB2 s.heap.objs.size);have I1:=I.laid (a:=s.heap.objs.size) (o:=.dT []) (h':=s.heap.push { cls:=.type "dict",data:=.dict #[] }) (t':=s.toks) (λ_ _ q=>qA6 _ q) (qB2 _) (xF s.heap I.big);refine wpAny_Dict_any rfl rfl Zy (Nat.le_of_ble_eq_true rfl) ?_;refine pairTrees_cons_walk (thn (hk pins _ σ _ _ I1 (q _ hn)) λu s1 ⟨x,H1,I2,rx,q1⟩=>thn (hv pins s1 σ H1 _ I2 q1) λw2 s2 ⟨y,H2,I3,ry,e,b,kk,ex,eb,q2⟩=>pairTrees_nil_walk ?_);subst ex;obtain rfl:u=Value.ref b:=rx;obtain ⟨z,hd,xs,rel,dd⟩:=yG I3.hok e;cases rel;unfold storeAll;rw[qN0];refine qA1 (qA1 (wpAny_dictSet_heap (knd:=tupleKind (x9 X.prog X.w)) (hsz:=qC6 _) (show (tupleKind (x9 X.prog X.w)).room X.A from qP5 hu) (gJ I3.hok eb) dd λh' a3 hs=>qP9 ?_))
 change wpAny _ _ (forIn [] PUnit.unit _) _ _ _;rw[qV6];refine qP9 ⟨.ref s.heap.objs.size,_,?_,rfl,q2⟩;obtain ⟨qo,es,ep,hq,h2,h3,h4,_,h5⟩:=a3;refine iY I3 (by rw[e];show True.intro) hs ⟨qo,hq⟩ ⟨Nat.succ_le_of_lt Zz,hd,_,(KT.put (H:=H2) (kvs:=[]) (xs:=[]) .nil kk eb ry).keeps λc ys ec=>?_,qo,es,ep,hq,h2,h3,h4,h5⟩;rw[e7 (yt ec e (λz=>nomatch z))];show ec
def Eg {X:Cx}{K:Frag}{EX:EXT}{d:Mode}{k v:Expr}{pos:Pos}{I me:Vo}{i:Nat}{x:Str}{pos' pos2:Pos}(hu:X.A.units+64<cLine) (hN:X.N.Nodup) (hi:X.N[i]?=some x) (hx:Loc X.env.scope x) (hk:PE X k (tM K EX .B I)) (hv:PE X v (tM K EX .B me)) (hs:swapsWith (.Dict [some k] [v] pos) (some (.Name x pos')) pos2.line X.env=pure false:=by rfl) (hf:X.fn x=true\/X.env.scope.names.lookup x=some .local:=by first|show Or.inl rfl|show Or.inr rfl|assumption):
  PS X (.Assign [.Name x pos'] (.Dict [some k] [v] pos) pos2) (tSt K EX d (kg i I me)):=(cK hN hi hx (sP ox hk hv) hs hf).mono λ_ _ _ q=>Ht q
def Io {X:Cx}{K:Frag}{EX:EXT}{k:Expr}{pos:Pos}{mk:Vo}{i:Nat}{x:Str}{p:Pos}(hu:X.A.units+64<cLine)(hN:X.N[i]?=some x)(hv:Vis X.env.scope x)(hk:PE X k (tM K EX .B mk))(hd:(x == ("__debug__" : Str))=false:=by decide)(I:(x == ("__classdict__" : Str))=false:=by decide)(hm:behindInMarks .In (.Name x p)=false:=by rfl):PT X (.Compare k [.In] [.Name x p] pos) (tT K EX (mIn false i mk)):=(sC (EF ox hk (X6 hN hv hd I)) hm).mono λ_ _ _ q=>Jp q
def Ed {X:Cx}{K:Frag}{EX:EXT}{d:Mode}{e k:Expr}{pos:Pos}{mk me:Vo}{i:Nat}{x:Str}{p p2:Pos}(hu:X.A.units+64<cLine)(hN:X.N[i]?=some x)(hv:Vis X.env.scope x)(hk:PE X k (tM K EX .B mk))(he:PE X e (tM K EX .B me))(hd:(x == ("__debug__" : Str))=false:=by decide)(I:(x == ("__classdict__" : Str))=false:=by decide)(hs:swapsWith e (some (.Subscript (.Name x p) k p2)) pos.line X.env=pure false:=by rfl):PS X (.Assign [.Subscript (.Name x p) k p2] e pos) (tSt K EX d (gE i mk me)):=(zX ox (X6 hN hv hd I) hk he hs).mono λ_ _ _ q=>Hr q
set_option maxHeartbeats 2000000
def tL (neg:Bool)(i:Nat)(I:Vo)(ρ:Rho):mIn neg i I ρ=(I ρ>>=λw=>inD ρ[i]? w neg):=rfl
def uj (ks:Vw)(k:Vk):inD (some (.dic ks)) (.tup (k.map W.int)) false=.ok (decide (k∈ks)):=by unfold inD;rw[mG];rfl
def mw (i:Nat)(I me:Vo)(ρ:Rho):gE i I me ρ=kA ρ[i]? (me ρ) (I ρ) i ρ:=rfl
def fK (ks:Vw) (w:W) (k:Vk) (i:Nat) (ρ:Rho) (h:jY (ρ.set i .un)=true) (I:ks.length<1000):kA (some (.dic ks)) (.ok w) (.ok (.tup (k.map W.int))) i ρ=.ok (.nx (ρ.set i (.dic (nj ks k)))):=by
 change putD ks i (.tup (k.map W.int)) ρ=_;unfold putD;rw[mG];show qA2 ⟨h,I⟩
def wP (i:Nat)(I me:Vo)(ρ:Rho):kg i I me ρ=(I ρ>>=λw=>me ρ>>=λ_=>newD i w ρ):=rfl
def oq (i:Nat)(k:Vk)(ρ:Rho):newD i (.tup (k.map W.int)) ρ=.ok (.nx (ρ.set i (.dic [k]))):=by unfold newD;rw[mG]
def l7 {i j}(I:PA X es (tA K EX d mr)):PA X (.Constant (.int i) j p::es) (tA K EX d (aC (mC (.int i)) mr)):=b6 c9 I Zo
def Eb {a0 a1 a2 a3 a4 a5 a6}{u0 u1 u2 u3 u4 u5 u6}:PE X (.List [.Constant (.int a0) u0 p0,.Constant (.int a1) u1 p1,.Constant (.int a2) u2 p2,.Constant (.int a3) u3 p3,.Constant (.int a4) u4 p4,.Constant (.int a5) u5 p5,.Constant (.int a6) u6 p6] pos) (tM K EX .F (C9 (aC (mC (.int a0)) (aC (mC (.int a1)) (aC (mC (.int a2)) (aC (mC (.int a3)) (aC (mC (.int a4)) (aC (mC (.int a5)) (aC (mC (.int a6)) aN))))))))):=by
 refine B3 ?_;refine l7 ?_;refine l7 ?_;refine l7 ?_;refine l7 ?_;refine l7 ?_;refine l7 ?_;refine l7 ?_;show b8
end TP
namespace TB
open PySem PySem.W
def bits_of {ns:Vk}(h:WData.layableAll [WData.list (ns.map WData.int)]=true):∀x∈ns,Builtin.Int.intBits x<=1048576:=λx I=>by
 have h1:(WData.list (ns.map WData.int)).layable=true:=by simpa [WData.layableAll]using h
 have h2:(WData.list (ns.map WData.int)).weight<=2^20:=(layableW_iff.mp h1).2.2;have key:∀ms:List Int,x∈ms->Builtin.Int.intBits x<=WData.weightAll (ms.map WData.int):=by
  intro ms
  induction ms with
  |nil=>intro z;cases z
  | cons m ms ih=>
   intro z;rw[qB9]
   change _<=WData.weight (.int m)+1+WData.weightAll (ms.map WData.int);rcases qB5.mp z with e|e
   .subst e
    have:WData.weight (.int x)=Builtin.Int.intBits x:=Zo
    omega
   .have:=ih e
    omega
 show qA5 (key ns I) (by simpa [WData.weight]using h2)
end TB
namespace Att
open PySem PySem.W PySem.Calls PyProof.Rows
def attach_callB {l:OpenLaw}(hn:l.most=some n) (a6:d.params.defaults = []) (call:∀(w:World) (s₀ I:Shared) (mg mb:JV) (fa:Addr) (o:Obj) (pm cd doc:Value) (a:Addr) (vs:JY) (ns:Vk),
   Ground q loose [] XP w s₀ mg mb I.heap->YP w I.heap ->
   I.heap.get? fa=some o->o.data=.func (docDef d.name d.params d.body d.scope pm cd doc)->I.heap.CodeRec cd d.name->mg d.name=some (.ref fa) ->
   I.heap.get? a=some { cls:=.type "list",data:=.seq vs.toArray }->IntsAre vs ns->ns.length<=n->(∀x∈ns,Builtin.Int.intBits x<=1048576)->I.gens=#[] ->
   codeAny (model l.prog w) callerA (.call (.ref fa) ⟨[.ref a],[]⟩) (λr s'=>r=.ok (.ret (.bool true))/\OldK I.heap s'.heap/\s'.os=I.os/\AllBare s'.gens) I):
  WalkO q loose XP YP l.row.toRowW d [] (λf vs=>PySem.call f vs):=by
 intro w s₀ I mg mb G Y fa o pm cd doc dV kV ho hd a7 hD a8 hg args vals as a5 a4 b0 a9 ab;obtain rfl:dV=.none:=Dflts.none hD a6;obtain rfl:kV=.none:=Dflts.noKw hD;obtain ⟨a,vs,ns,rfl,rfl,a3,hints,hlen⟩:=rY hn a5 a9;refine enter_call (codeAny_mono (call w s₀ I mg mb fa o pm cd doc a vs ns G Y ho (fd_plain hd) a7 a8 a3 hints hlen (TB.bits_of a4) hg) λr s' hq=>?_);obtain ⟨rfl,h2,h3,h4⟩:=hq;show ⟨.inl ⟨.bool true,.bool true,[],rfl,λ_=>rfl,.bool true,sE l _,λ_=>⟨List.Pairwise.nil,λ_ hm=>(nomatch hm)⟩⟩,h2,h3,h4⟩
end Att
namespace L2
open PySem PySem.Spec PyProof.Rows
def vn {l:PySem.W.OpenLaw}{K:Params->Frag}{CX:World->CXT}{sp:World->Sp}(hn:l.most=some n) (a6:n<=sizeLine) (a5:d.params.defaults = []) (hr:Room k callerA) (hY:∀(w:World) (h:Heap),YP w h->(K w.params).In h) (F:∀(w:World) (mg:JV) (fa:Addr) (h:Heap),(K w.params).In h->h.Ns mainGlobals mg->mg d.name=some (.ref fa) ->
   ∃ fd:FuncData,(∀(s:Shared) (u:Value),BindsTo s fd ⟨[u],[]⟩ [(x,u)]) /\
    ∀base:Heap,(K w.params).In base->base.Ns mainGlobals mg->FnOk l.prog w (K w.params) mg base (CX w) k fa fd [x] (sp w)) (a4:∀(w:World) (H:Hp) (a:Addr) (ns:Vk),ns.length<=n->(∀x∈ns,Builtin.Int.intBits x<=1048576)->qS H->SqL (K w.params) H a (ns.map V.int)->sp w [.ref a] H (λv _=>v=.bl true) λ_ _ _=>False) (a9:∀(w:World) (H:Hp) (s:Shared) (e:Value) (s':Shared),CX w [] H s (λ_ _ _=>False) e s'->False):
  PySem.W.WalkO q loose XP YP l.row.toRowW d [] (λf vs=>PySem.call f vs):=by
 refine Att.attach_callB hn a5 λw s₀ a3 mg mb fa o pm cd doc a vs ns G Y ho hd ab a7 I hints hlen a8 hg=>?_;have KX:=hY w _ Y;obtain ⟨fd,hb,hF⟩:=F w mg fa _ KX G.T.g a7;show wU KX G.T.g G.T.b G.T.builtins G.T.nolimit hg I hints (qA5 hlen a6) hr hF hb (λH hO hS=>a4 w H a ns hlen a8 hO hS) λH e s'=>a9 w H a3 e s'
def walk_ofKB {l:PySem.W.OpenLaw}{K:Params->Frag}{sp:Frag->Sp}(hn:l.most=some n) (a4:n<=sizeLine) (a3:d.params.defaults = []) (hr:Room k callerA) (hY:∀(w:World) (h:Heap),YP w h->(K w.params).In h) (F:∀(w:World) (mg:JV) (fa:Addr) (h:Heap),(K w.params).In h->h.Ns mainGlobals mg->mg d.name=some (.ref fa) ->
   ∃ fd:FuncData,(∀(s:Shared) (u:Value),BindsTo s fd ⟨[u],[]⟩ [(x,u)]) /\
    ∀base:Heap,(K w.params).In base->base.Ns mainGlobals mg->FnOk l.prog w (K w.params) mg base CX k fa fd [x] (sp (K w.params))) (I:∀(K:Frag) (H:Hp) (a:Addr) (ns:Vk),ns.length<=n->(∀x∈ns,Builtin.Int.intBits x<=1048576)->qS H->SqL K H a (ns.map V.int)->sp K [.ref a] H (λv _=>v=.bl true) λ_ _ _=>False) (a5:∀(H:Hp) (s:Shared) (e:Value) (s':Shared),CX [] H s (λ_ _ _=>False) e s'->False):
  PySem.W.WalkO q loose XP YP l.row.toRowW d [] (λf vs=>PySem.call f vs):=
 vn (K:=K) (CX:=λ_=>CX) (sp:=λw=>sp (K w.params)) hn a4 a3 hr hY F (λw H a ns h1 hb h2 h3=>I (K w.params) H a ns h1 hb h2 h3) λ_ H s e s'=>a5 H s e s'
end L2
namespace TP
open PySem L2
def CMulB (i j:Int):Prop:=CMul i j\/Builtin.Int.intBits i+Builtin.Int.intBits j<=134217728
instance (i j:Int):Decidable (CMulB i j):=by unfold CMulB;infer_instance
def CMulB.ok (h:CMulB i j):IntMulOk i j:=by
 rcases h with h|h
 .show h.ok
 .show IntMulOk.of_le (qB2 _) (qB2 _) h
def v7:OpR X (binaryOp .Mult) (rI CMulB λi j=>.int (i*j)):=opI λ_ _ _ _ _ _ _ hc q=>PyProof.Rows.mul_int q hc.ok
def tE {i j:Int}(h:-18446744073709551616<i/\i<18446744073709551616):fI CMulB r9 (.int i) (.int j)=.ok (.int (i*j)):=by
 change (if CMulB i j then _ else _)=_;show qA2 (.inl (.inl h))
def gw {i j:Int}(h:-18446744073709551616<j/\j<18446744073709551616):fI CMulB r9 (.int i) (.int j)=.ok (.int (i*j)):=by
 change (if CMulB i j then _ else _)=_;show qA2 (.inl (.inr h))
def lU {i j:Int}(h:Builtin.Int.intBits i+Builtin.Int.intBits j<=134217728):fI CMulB r9 (.int i) (.int j)=.ok (.int (i*j)):=by
 change (if CMulB i j then _ else _)=_;show qA2 (.inr h)
def AS (G:FnOk P w K mg base CX0 k f fd ps (spM K 1 d F)) (h:∀ns:List Int,ns.length<=63->(∀x∈ns,Builtin.Int.intBits x<=1048576)->F [.scr (ns.map W.int)]=.ok (.bl true)):FnOk P w K mg base CX0 k f fd ps (λvs H Q _=>∃(a:Addr) (ns:Vk),vs = [.ref a]/\SqL K H a (ns.map V.int)/\ns.length<=63/\(∀x∈ns,Builtin.Int.intBits x<=1048576)/\∀H',Q (.bl true) H'):=
 G.imp λvs H Q E I=>by
  obtain ⟨a,ns,e,hs,hl,hb,q⟩:=I;subst e;refine ⟨rfl,[.scr (ns.map W.int)],.cons (.scr hs ?_) .nil,?_⟩
  .clear hs hl hb
   induction ns with
   |nil=>show .nil
   |cons n ns ih=>show .cons .int ih
  .rw [h ns hl hb]
   intro v G' H' _ _ _ m;have e:v=.bl true:=by
    cases d <;> first | (cases m;rfl) | (rcases m with m|⟨_,_,_,_,z,_⟩ <;> first | (cases m;rfl)|cases z)
   subst e;show q H'
end TP
namespace TL
open PySem
def ER:typeLookup (.type "list_reverseiterator") "__len__" = pure none:=by rw[typeLookup_type,builtinLookup_eq_fast];kernel_rfl
def xi:typeLookup (.type "list_reverseiterator") "__length_hint__" = pure (some (.builtin "list_reverseiterator.__length_hint__")):=by rw[typeLookup_type,builtinLookup_eq_fast];kernel_rfl
def sub_self:isSubtype (.type "list_reverseiterator") (.type "list_reverseiterator")=pure true:=by rw[isSubtype_type];kernel_rfl
def xg (a5:s.heap.IsRevIter I l i) (h:Q false s):wpAny (model prog w) A (Builtin.List.listLengthHint (.ref I)) Q E s:=by
 have hT:=a5.typeIs;unfold Builtin.List.listLengthHint;refine qA1 (wpAny_specialOf hT ER ?_)
 change wpAny _ _ (specialOf (Value.ref I) (Str.ofString "__length_hint__")>>=_) _ _ _;refine qA1 (wpAny_specialOf hT xi ?_);have a4:splitId "list_reverseiterator.__length_hint__" = some ("list_reverseiterator","__length_hint__"):=Zv;dsimp only;rw[a4];dsimp only;refine qA1 (wpAny_isInstance (T := "list_reverseiterator") (b:=true) hT sub_self ?_);rw[qA4 (show ¬ ((!true)=true) by decide)];refine wpAny_ite_split (λ_=>?_) (λa3=>absurd Zv a3);rw[qA4 (show ¬ ((Value.builtin "list_reverseiterator.__length_hint__" == Value.builtin "range_iterator.__length_hint__")=true) by decide)];show qP9 h
def BE (a5:Value) (hh:A.handled=none) (a8:l≠I) (a4:s.heap.IsRevIter I l ((items.size:Int)-1)) (hl:s.heap.IsList l items) (a6:S≠I) (b0:S≠l) (hn:items.size<=sizeLine) (hS:s.heap.get? S=some { cls:=.type "list",data:=.seq #[] c₀ }) (hR:∀h' tk a3 c',(∀b o,b≠S->b≠I->s.heap.get? b=some o->h'.get? b=some o)->h'.get? S=some { cls:=.type "list",dict:=none,data:=.seq a3 c',slots:=#[] }->ItemsOf (λi v=>items[items.size-1-i]?=some v) a3 items.size->R (.ok (.ret a5)) { s with heap:=h',toks:=tk }):
  wpAny (model prog w) A.in1 (Builtin.List.listExtendWith (.ref S) (.ref I) a5)
   (λfin s'=>match fin with | .done f=>R (.ok f) s' | .again c'=>c'.quiet=true/\codeAny (model prog w) A c' R s') (λe s'=>R (.error e) s') s:=by
 have W:=(Walks.listRev (prog:=prog) (w:=w) (A:=A.in1) hh I l a8 items).toS;have b4:S ∉ [I,l]:=by simp [a6,b0]
 unfold Builtin.List.listExtendWith;refine qA1 (qX6 a4.typeIs ?_);have h1:Builtin.List.listSameRef (.ref S) (.ref I)=false:=by simp [Builtin.List.listSameRef,a6]
 have h2:(Value.type "list_reverseiterator" == Value.type "list")=false/\(Value.type "list_reverseiterator" == Value.type "tuple")=false:=Zz;rw[h1,h2.1,h2.2];simp only [xC2,qD7,qQ4];refine qA1 (qU4 a4 ?_);refine qA1 (qR1 (xg a4 ?_));refine wpAny_ite_split (λab=>absurd ab Zv) (λ_=>?_);refine qP9 ⟨plainId_quiet F.plain_extend_loop _,?_⟩;refine codeAny_extend_loopS W hn S b4 a5 items.size 0 s #[] c₀ rfl (qC6 _) ⟨qC6 _,by simpa using a4,hl⟩ hS (ItemsOf.nil _) λs' a3 c' hm b3 a7=>?_;rw[Moved.eq_with hm];show hR s'.heap s'.toks a3 c' (λb o hb a9 e=>hm.heap b o (by simp [hb,a9]) e) b3 a7
def call_list_rev (hh:A.handled=none) (b4:l≠I) (ba:s.heap.IsRevIter I l ((items.size:Int)-1)) (hl:s.heap.IsList l items) (hn:items.size<=sizeLine) (hQ:∀h' tk a3 c',(∀b o,b≠I->s.heap.get? b=some o->h'.get? b=some o)->h'.get? s.heap.objs.size=some { cls:=.type "list",dict:=none,data:=.seq a3 c',slots:=#[] }->ItemsOf (λi v=>items[items.size-1-i]?=some v) a3 items.size->Q (.ref s.heap.objs.size) { s with heap:=h',toks:=tk }):
  wpAny (model prog w) A (call (.type "list") [.ref I]) Q E s:=by
 obtain ⟨oi,hi,b3⟩:=id ba;obtain ⟨ol,a7,a8⟩:=id hl;have b0:s.heap.objs.size≠I:=λe=>absurd (qB4 hi) (by rw[<- e];show qF1 _);have bc:s.heap.objs.size≠l:=λe=>absurd (qB4 a7) (by rw[<- e];show qF1 _);refine callType_codes (Q₁:=λobj a4=>obj=.ref s.heap.objs.size/\a4={ s with heap:=s.heap.push { cls:=.type "list",data:=.seq #[] } }) F.called_list (F.typeCall_list_1 _) F.entry_list_init (code_list_new _ ⟨rfl,rfl⟩) λobj a4 ab=>?_;obtain ⟨rfl,rfl⟩:=ab;have hS:(s.heap.push { cls:=.type "list",data:=.seq #[] }).get? s.heap.objs.size=some { cls:=.type "list",data:=.seq #[] }:=qC1 _ rfl;refine ⟨⟨_,hS,rfl⟩,F.args_list_init_2 _ _,?_⟩
 change wpAny _ _ (do let b5 <- Builtin.List.listItems (.ref s.heap.objs.size);Builtin.List.listUpdate (.ref s.heap.objs.size) (λ_=>#[]);letGo b5.toList.reverse;Builtin.List.listExtendWith (.ref s.heap.objs.size) (.ref I) .none) _ _ _;refine qA1 ?_;unfold Builtin.List.listItems;refine qA1 (qR3 hS rfl (qP9 ?_))
 change wpAny _ _ (updateSeq s.heap.objs.size (λ_=>#[])>>=λ_=>letGo (#[]:Vj).toList.reverse>>=λ_=>Builtin.List.listExtendWith (.ref s.heap.objs.size) (.ref I) .none) _ _ _;refine qA1 (wpAny_updateSeq hS rfl ?_);have a5:=qK8 (Obj.mapSeq (λ_=>(#[]:Vj))) hS rfl;have a6:∀b o,s.heap.get? b=some o->((s.heap.push { cls:=.type "list",data:=.seq #[] }).update s.heap.objs.size (Obj.mapSeq (λ_=>(#[]:Vj)))).get? b=some o:=λb o e=>by
  have hb:b≠s.heap.objs.size:=λz=>absurd (qB4 e) (by rw[z];show qF1 _);show (qT6 _ _ (Ne.symm hb)).trans (qA6 _ e)
 refine qA1 (wpAny_letGo ?_);refine BE (s:={ s with heap:=(s.heap.push { cls:=.type "list",data:=.seq #[] }).update s.heap.objs.size (Obj.mapSeq (λ_=>(#[]:Vj))) }) .none hh b4 ⟨oi,a6 _ _ hi,b3⟩ ⟨ol,a6 _ _ a7,a8⟩ b0 bc hn a5 λh' tk a3 c' hk bq a9=>?_;refine ⟨rfl,hQ h' tk a3 c' (λb o hb e=>hk b o (λz=>absurd (qB4 e) (by rw[z];show qF1 _)) hb (a6 b o e)) bq a9⟩
end TL
namespace TP
open PySem L2
def so {its:JY}(h:ItemsOf (λi v=>its.toArray[its.toArray.size-1-i]?=some v) acc its.toArray.size):acc.toList=its.reverse:=by
 obtain ⟨h1,h2⟩:=h;have I:its.toArray.size=its.length:=qB6;rw[I]at h1;apply qK3
 .rw[qE5,qM3,h1]
 .intro i q1 q2;have hi:i<acc.size:=by simpa using q1
  have:=h2 i acc[i] (Array.getElem?_eq_getElem hi)
  rw[I]at this;rw[List.getElem_reverse,Array.getElem_toList];have e:its.toArray[its.length-1-i]?=some (its[its.length-1-i]'ox):=Zy;rw[e]at this;show (Option.some.inj this).symm
def tRv (K:Frag)(f:List V->HO)(I:TA):TE:=λσ H Q=>I σ H λvs H1=>∃a xs,vs = [.ref a]/\SqL K H1 a xs/\∀p,H1 p=none->Q (.ref p) (upd H1 p (f xs.reverse))
def Ac {X:Cx}{a:Expr}{ta:TA}{p pos p2 pos2:Pos}(hc:X.calm=true) (ab:Gl X "list") (b0:X.mg "list" = none) (hg:Gl X "reversed") (hm:X.mg "reversed" = none) (ha:PA X [a] ta) (hs:starEach [a] X.env = [(false,eval a X.env)]:=by rfl) (a8:starEach [.Call (.Name "reversed" p2) [a] [] pos2] X.env = [(false,eval (.Call (.Name "reversed" p2) [a] [] pos2) X.env)]:=by rfl):PE X (.Call (.Name "list" p) [.Call (.Name "reversed" p2) [a] [] pos2] [] pos) (tRv X.K .lst ta):=by
 intro pins s σ H Q I h;refine qQ6 (M5 I ab b0 W6 ?_ Zz Zz);refine qF4 ?_ a8 Zo;rw[a8]
 change wpAny _ _ (spliced [(false,eval (.Call (.Name "reversed" p2) [a] [] pos2) X.env)]) _ _ s;refine Calls.spliced_cons ?_;refine qQ6 (M5 I hg hm eO ?_ Zz Zz);refine qF4 (thn (ha pos2 pins s σ H _ I h) λus s1 a9=>?_) hs Zo;obtain ⟨vs,H1,I1,r1,q1⟩:=a9;obtain ⟨b,xs,e,hq,q⟩:=q1;subst e;obtain ⟨u,rfl,ru⟩:=K6 r1;cases ru;obtain ⟨its,rv,pl,hz⟩:=I1.list hq;have hl:=rv.length;have hsz:its.toArray.size<=sizeLine:=by rw[qB6,<- hl];show hz
 obtain ⟨ol,a4,a5⟩:=id pl.isList;have b3:b≠s1.heap.objs.size:=λz=>absurd (qB4 a4) (by rw[z];show qF1 _);refine call_reversed_list pl.isList (Calls.spliced_nil ?_);refine TL.call_list_rev (s:={ s1 with heap:=s1.heap.push (revObj b ((its.toArray.size:Int)-1)) }) (I1.ok.hd hc) b3 ⟨_,qC1 _ rfl,rfl,rfl⟩ ⟨ol,qA6 _ a4,a5⟩ hsz λh' tk b4 c' hk hS a6=>?_;have e1:=so a6;have a3:∀b o,s1.heap.get? b=some o->h'.get? b=some o:=λb o e=>hk b o (λz=>absurd (qB4 e) (by rw[z];show qF1 _)) (qA6 _ e);have a7:s1.heap.objs.size<=(s1.heap.push (revObj b ((its.toArray.size:Int)-1))).objs.size:=by rw[show (s1.heap.push (revObj b ((its.toArray.size:Int)-1))).objs.size=s1.heap.objs.size+1 from by simp [Heap.push]];omega
 refine ⟨.ref (s1.heap.push (revObj b ((its.toArray.size:Int)-1))).objs.size,_,I1.laid (t':=tk) a3 a7 (show ObjOk X.prog X.w _ h' _ (.lst xs.reverse) from ⟨by rw[qM3];show hz,its.reverse,c',Vals.reverse rv,?_⟩),rfl,q _ (I1.hok.fresh a7)⟩;rw[<- e1];simpa using hS
def gO:List W->R W
 | [w]=>match w with
  | .lst ws=>chks false ws.reverse
  |_=>.stuck
 |_=>.stuck
def Hq (h:tM K EX .F (bA gO ma) σ H Q):tRv K .lst (tA K EX .B ma) σ H Q:=by
 obtain ⟨H0,G,ρ,I,o⟩:=h;replace o:Out EX G H (mdW K .F H0 H) (ma ρ>>=gO) Q:=o
 refine ⟨H0,G,ρ,I,Out.bind o λxs G1 H1 ws e1 m1 o1=>?_⟩;have I1:=I.ext e1;cases m1 with
 |nil=>show o1.elim
 | cons a t=>
  cases t with
  |cons _ _=>show o1.elim
  | nil=>
   rename_i w v
   cases w <;> first|show o1.elim|skip
   rename_i us
   obtain ⟨p,vs,rfl,hs,r⟩:=a.lstB I1;show ⟨p,vs,rfl,SqL.of hs,Out.chks I1 e1.hh (c:=false) (by rw[qA4 qA3];show r.reverse) o1⟩
def Ea {X:Cx}{K:Frag}{EX:EXT}{a:Expr}{pos:Pos}{mr:VQ}{p p2 pos2:Pos}(hc:X.calm=true) (I:Gl X "list") (a3:X.mg "list" = none) (hg:Gl X "reversed") (hm:X.mg "reversed" = none) (ha:PA X [a] (tA K EX .B mr)) (hK:X.K=K:=by rfl) (hs:starEach [a] X.env = [(false,eval a X.env)]:=by rfl) (a4:starEach [.Call (.Name "reversed" p2) [a] [] pos2] X.env = [(false,eval (.Call (.Name "reversed" p2) [a] [] pos2) X.env)]:=by rfl):PE X (.Call (.Name "list" p) [.Call (.Name "reversed" p2) [a] [] pos2] [] pos) (tM K EX .F (bA gO mr)):=by
 subst hK;show (Ac hc I a3 hg hm ha hs a4).mono λ_ _ _ q=>Hq q
def oI (ns:Vk):gO [.lst (ns.map W.int)]=.ok (.lst (ns.reverse.map W.int)):=by
 have hn:∀l:List Int,m8 (l.map W.int)=true:=λl=>by induction l with|nil=>rfl|cons a l I=>simpa [m8,noL]using I
 change TP.chks false (ns.map W.int).reverse=_;rw[<- List.map_reverse];unfold TP.chks;rw[hn,qO8,qA2 rfl]
def iQ (u:W)(ws:Vp):Option Nat:=(pds ws).findIdx? λy=>PyData.eqv y (pd u)
def ln (K:Frag):V->List V->Hp->VK->Prop:=λx vs H Q=>∃u ws y j,vs = [y]/\Rep K H y u/\Rep K H x (.lst ws)/\shp 8 u=true/\shp 8 (.lst ws)=true/\iQ u ws=some j/\j<1000/\Q (.int (j:Int)) H
def wH (hu:X.A.units+64<cLine):MtR X "list.index" (ln X.K):=by
 intro pins s σ H x vs v us Q I rx rv h;obtain ⟨u,ws,y,j,rfl,ry,rc,su,sc,hj,b0,q⟩:=h;obtain ⟨uy,rfl,rr⟩:=rv.one;obtain ⟨as,qa⟩:=Rep.reads I 8 ry su rr;obtain ⟨bs,qb⟩:=Rep.reads I 8 rc sc rx;have la:=cB u 8 su;have lc:=ij ws 7 sc;have hm:X.A.units+1+min (PyData.depthAll (pds ws)) (pd u).depth<cLine:=by have:=qK9 (PyData.depthAll (pds ws)) (pd u).depth;omega
 have qb:Reads s.heap v (.list (pds ws)) bs:=qb;cases qb with
 | list h1 h2 h3 h4=>
  rename_i a o items n as'
  obtain ⟨oc,od,a5,osl⟩:=o;have h2:oc=.type "list" := h2;have h3:a5=.seq items n:=h3;subst h2 h3;have a3:=SeqAt.readsAll_map (pds ws) _ _ lc.1 h4;have a9:=SeqAt.items_eqAt (A:=X.A) h4 qa lc.1 la.1 hm;unfold iQ at hj;rw[<- a3,List.findIdx?_map,qI9]at hj;obtain ⟨a8,ht,a6⟩:=hj;have a4:j<items.size:=by simpa using a8
  refine call_meets qY7 ⟨_,h1,rfl⟩ PySem.F.entry_list_index (PySem.F.args_list_index_2 _ _) (SeqAt.list_indexAt a items n od osl uy (λz=>PyData.eqv (SeqAt.readOf s.heap z) (pd u)) j a4 ox (by simpa using ht) (λm ab a7=>by simpa using a6 m a7)) ⟨h1,a9,?_⟩;show ⟨.int (j:Int),H,I.tok _,⟨_,rfl⟩,q⟩
def fE (ws:Vp) (u:W):R W:=if (shp 8 u&&shp 8 (.lst ws))=true then (match iQ u ws with
 |some j=>if j<1000 then .ok (.int (j:Int)) else .stuck
 |none=>.stuck) else .stuck
def Rix (x:R W) (y:R W):R W:=x>>=λx=>(match x with
 | .lst ws=>y>>=λy=>fE ws y
 |_=>.stuck)
def iI (I me:Vo):Vo:=λρ=>Rix (I ρ) (me ρ)
def oC (I me:Vo)(ρ:Rho):iI I me ρ=Rix (I ρ) (me ρ):=rfl
def vf (ws:Vp)(u:W):Rix (.ok (.lst ws)) (.ok u)=fE ws u:=rfl
def BP (h:tM K EX d (iI mo me) σ H Q):tBM K "list" (ln K) (tM K EX .B mo) (tA K EX .B (aC me aN)) σ H Q:=by
 obtain ⟨H0,G,ρ,I,o⟩:=h;unfold iI Rix at o;refine ⟨H0,G,ρ,I,Out.bind o λx G1 H1 w e1 m1 o1=>?_⟩;have I1:=I.ext e1;cases w <;> first|show o1.elim|skip
 rename_i ws
 obtain ⟨p,vs,rfl,hs,_⟩:=m1.lstB I1;refine ⟨.inl ⟨rfl,vs,SqL.of hs⟩,H0,G1,ρ,I1,?_⟩;have key:Out EX G1 H1 (mdW K .B H0 H1) (me ρ) λy H2=>ln K (.ref p) [y] H2 Q:=Out.bind (md:=mdW K .B H0 H1) o1 λy G2 H2 u e2 m2 o2=>by
  have I2:=I1.ext e2;unfold fE at o2;by_cases c:(shp 8 u&&shp 8 (.lst ws))=true
  .rw [qA2 c]at o2
   have c':shp 8 u=true/\shp 8 (.lst ws)=true:=by simpa using c
   cases hj:iQ u ws with
   |none=>rw[hj]at o2;show o2.elim
   | some j=>
    rw[hj]at o2;by_cases hl:j<1000
    .dsimp only at o2;rw[qA2 hl]at o2;show ⟨u,ws,y,j,rfl,m2.whole I2,(m1.move e2).whole I2,c'.1,c'.2,hj,hl,o2 _ G2 H2 (Ext.refl I2.gh) (Md.sca rfl (λ_=>.int) d)⟩
    .dsimp only at o2;rw[qA4 hl]at o2;show o2.elim
  .rw[qA4 c]at o2;show o2.elim
 change Out EX G1 H1 (mdA K .B H0 H1) (me ρ>>=λw=>aN ρ>>=λws=>.ok (w::ws)) _
 revert key
 cases me ρ with
 |stuck=>show id
 |ex e=>show id
 | ok u=>
  intro key v G2 H2 e2 m2;cases m2 with
  |cons a t=>cases t;show key _ G2 H2 e2 a
def oa {X:Cx}{K:Frag}{EX:EXT}{d:Mode}{o e:Expr}{apos I:Pos}{mo me:Vo}(hu:X.A.units+64<cLine) (ho:PE X o (tM K EX .B mo)) (he:PE X e (tM K EX .B me)) (hK:X.K=K:=by rfl) (a5:attributeBase o "index" X.env (eval o X.env)=eval o X.env:=by rfl) (a6:((backTo I (starEach [e] X.env)).all (λx=>!x.1)&&(backToKw I (keywordEach [] X.env)).all (λx=>x.1.isSome)
   && decide (([e]:Vz).length+([]:List Keyword).length+(if ([]:List Keyword).isEmpty then 0 else 1)<30))=true:=by rfl) (a4:(apos.endLine == I.line)=true:=by rfl) (hs:starEach [e] X.env=(false,eval e X.env)::starEach [] X.env:=by rfl) (a3:(backTo I (starEach [] X.env)).any (·.1)=false:=by rfl):
  PE X (.Call (.Attribute o "index" apos) [e] [] I) (tM K EX d (iI mo me)):=by
 subst hK;show (yr qT2 qY7 PySem.F.type_list_index (wH hu) ho (b6 he b8 hs) a5 a6 a4 hs a3).mono λ_ _ _ q=>BP q
def OutW (K:Frag) (EX:EXT) (d:Mode) (H0:Hp) (r:R Fl) (D:Ends):Prop:=match r with
 | .ok (.nx ρ)=>∀G' I H',PIv K H0 G' ρ I H'->D.nx I H'
 | .ok (.bk ρ)=>∀G' I H',PIv K H0 G' ρ I H'->D.bk I H'
 | .ok (.ct ρ)=>∀G' I H',PIv K H0 G' ρ I H'->D.ct I H'
 | .ok (.rt w)=>∀v G' H',Same G' H'->Same H0 H'->(∀a o,H0 a=some o->isL o=true->G' a=none)->Md K H0 H0 G' H' v w d->D.rt v H'
 | .ex e=>∀H',Same H0 H'->EX e H'
 | .stuck=>False
def tStW (K:Frag)(EX:EXT)(d:Mode)(m:Vg):TS:=λD σ H=>∃H0 G ρ,PIv K H0 G ρ σ H/\OutW K EX d H0 (m ρ) D
def clS:Sl->Sl
 | .un=>.un
 | .val w=>if noL w=true then .val w else .un
 | .par w=>if noL w=true then .val w else .un
 | .own ws=>if m8 ws=true then .own ws else .un
 | .dic ks=>.dic ks
 | .dik ks=>.dik ks
 | .iop p ws=>if m8 ws=true then .iop p ws else .un
 | .hz _=>.un
def subS (i j:Nat)(us I:Vp)(ρ:Rho):Rho:=(ρ.map clS).set i (.val (.tup (us.set j (.lst I))))
set_option maxHeartbeats 2000000
def Hx (p:Addr)(H0 H1:Hp):Prop:=(∀a,a≠p->H1 a=H0 a)/\∃vs,H1 p=some (.lst vs)
def JF (K:Frag) (EX:EXT) (p:Addr) (H0:Hp) (r:R Fl) (D:Ends):Prop:=match r with
 | .ok (.nx ρ)=>∀I G' a3 H',Hx p H0 I->PIv K I G' ρ a3 H'->D.nx a3 H'
 | .ok (.bk ρ)=>∀I G' a3 H',Hx p H0 I->PIv K I G' ρ a3 H'->D.rt .non H'
 | .ex e=>∀H',EX e H'
 |_=>False
def tStI (K:Frag)(EX:EXT)(p:Addr)(m:Vg):TS:=λD σ H=>∃H0 G ρ,PIv K H0 G ρ σ H/\(∃vs,H0 p=some (.lst vs))/\JF K EX p H0 (m ρ) D
def nbR:R Fl->R Fl
 | .ok (.nx ρ)=>.ok (.nx ρ)
 | .ex e=>.ex e
 |_=>.stuck
def nb (m:Vg):Vg:=λρ=>nbR (m ρ)
def clI:Sl->Sl
 | .un=>.un
 | .val w=>.val w
 | .par w=>if noL w=true then .val w else .un
 | .own ws=>.own ws
 | .dic ks=>.dic ks
 | .dik ks=>.dik ks
 | .iop _ _=>.un
 | .hz _=>.un
def ioR (p:Addr) (ρ:Rho):R Vp:=match (ρ[1]?:Option Sl) with
 |some (.iop q cs)=>if q=p then .ok cs else .stuck
 |_=>.stuck
def Ih (n N:Nat) (m:Addr->Rho->R Fl) (p:Addr) (w1:W) (cs I:Vp):R Vp:=if I.length+2=n/\m8 cs=true then (match m p (.par w1::.iop p cs::(I.map Sl.par++List.replicate (N-n) Sl.un)) with
 | .ok (.nx ρ)=>ioR p ρ
 | .ok (.bk ρ)=>ioR p ρ
 |_=>.stuck) else .stuck
open Classical in
def runIOA (n N:Nat)(m:Addr->Rho->R Fl)(w1:W)(cs wr:Vp):R Vp:=if h:∃I,∀p,Ih n N m p w1 cs wr=.ok I then .ok (Classical.choose h) else .stuck
def Rep.ofNoL (r:Rep K H v w)(h:noL w=true):Rep K (B9 H) v w:=Rep.clean (PIv.begin (vs:=[]) (ws:=[]) (k:=0) (k':=0) .nil rfl) (by rw[jA];show r) h
def ET (K:Frag)(H:Hp):Same (B9 H) H:=(PIv.begin (K:=K) (H:=H) (vs:=[]) (ws:=[]) (k:=0) (k':=0) .nil rfl).gh
section
open PySem.W PyProof.Rows
def items_int:∀{xs:Vk}{its:JY},Vals (xs.map V.int) its->ItemsAre (intKind prog w) xs its:=by
 intro xs
 induction xs with
 |nil=>intro its h;cases h;show .nil
 | cons x xs I=>
  intro its h;cases h with
  | cons r t=>
   obtain ⟨tk,rfl⟩:=r;show .cons (by simp [intKind,Value.isInt]) (I t)
end
section
open PySem.W PyProof.Rows
end
section
open PySem.W PyProof.Rows
end
section
open PySem.W PyProof.Rows
end
section
open PySem.W PyProof.Rows
end
end TP
namespace TP
open PySem PyProof.Rows
def kk (rk:Keyed->Int) (xs:Array Keyed) (i:Nat):Int:=match xs[i]? with
 |some p=>rk p
 |none=>0
def qg (h:l<=r):l<=(l+r)/2:=(Nat.le_div_iff_mul_le Zz).mpr (by rw[Nat.mul_two];show qE9 h _)
def ke (h:¬ l≥r):(l+r)/2<r:=(Nat.div_lt_iff_lt_mul Zz).mpr (by rw[Nat.mul_two];show Nat.add_lt_add_right (qP7 h) _)
def dN {lo:Nat}(h:¬ lo≥hi):lo+(hi-lo)/2<hi:=qL1 (Nat.div_lt_self (qX2 (qP7 h)) Zz)
def CT (h1:l<=m)(I:r-l<=n-x):r-(m+1)<=n-(x+1):=qA5 (qV2 (qH2 h1) r) (Nat.pred_le_pred I)
def CU (h1:l<=m)(h2:m<r)(I:r-l<=n-x):m-l<=n-(x+1):=qL4 (qB3 (Nat.sub_lt_sub_right h1 h2) I)
def sb1 (h0:0<n) (h:n<=A):A-(n-1)=A-n+1:=by
 cases n with
 |zero=>show absurd h0 (qF1 _)
 |succ m=>show (Nat.succ_pred_eq_of_pos (qX2 h)).symm
def sb2 {A:Nat}(h:n<=A)(hk:k<=n):A-k=A-n+(n-k):=(Nat.sub_add_sub_cancel h hk).symm
def sb3 {lo:Nat}(I:q<=x)(h:lo+x-q<=k):x-q<=k-lo:=by rw[qI5 I]at h;show Nat.le_sub_of_add_le' h
def sb4 {lo:Nat}(I:q<=x)(h:lo+x-q<=k):lo+(k-lo)=k:=qE0 (qA5 (by rw[qI5 I];show qE4 _ _) h)
def sb5 {lo:Nat}(h:0<j):lo+(j-1)=lo+j-1:=(qI5 h lo).symm
def mr1 {lo:Nat}(h:i<m):lo+(lo+m)-1-(lo+i)=lo+(m-1-i):=ox
def ms0 (h:n+1+m+x+min y 1<=T):n+m+x+1<=T:=qA5 (qA5 (qK7 (show n+1+m+x=n+m+x+1 by rw[qO9 n 1 m,qO9 (n+m) 1 x]).symm) (qE4 _ _)) h
def wI (h:n+m+x+min y 1<=T) (h0:0<n):n-1+m+x+1<=T:=by
 cases n with
 |zero=>show absurd h0 (qF1 _)
 |succ n=>show ms0 h
def ms1 (h:n+m+x+min y 1<=T)(h0:0<n):n-1+m+x+min (y+1) 1<=T:=qA5 (qE9 (qI0 (y+1) 1) _) (wI h h0)
def EW (h:n+m+x+min y 1<=T)(h0:0<m):n+(m-1)+x+1<=T:=by rw[qN7 n (m-1)];show wI (by rw[qN7 m n];show h) h0
def ms2 (h:n+m+x+min y 1<=T)(h0:0<m):n+(m-1)+x+min (y+1) 1<=T:=qA5 (qE9 (qI0 (y+1) 1) _) (EW h h0)
def ms3 (h:x+min y 1+1<=s):x+min (y+1) 1+1<=s+1:=qH2 (qA5 (qE9 (qI0 (y+1) 1) x) (qA5 (qH2 (qE4 x _)) h))
def EZ (h:i<=k/\k<j):i<=i+j-1-k/\i+j-1-k<j:=by
 have hk:k<=j-1:=qL4 h.2;have e:i+j-1-k=i+(j-1-k):=by rw[qI5 (qD4 (qC6 k) h.2),qI5 hk]
 rw[e];show ⟨qE4 _ _,qD4 (qA5 (qU5 h.1 _) (qK7 (qE0 hk))) (qJ1 (qD4 (qC6 k) h.2) Zz)⟩
def sb6 {lo:Nat}(I:0<x)(h:lo+x<=A):lo+x-1<A:=qB3 (qJ1 (qB3 I (Nat.le_add_left _ _)) Zz) h
def HB {f g:Vx}(hl:l<=k) (hg:∀i,g i=if i=l then f k else if l<i/\i<=k then f (i-1) else f i) (u:∀i j,i<=j->j<k->f i<=f j) (a4:∀i,i<l->f i<=f k) (a3:∀i,l<=i->i<k->f k<f i) (i j:Nat) (I:i<=j) (hj:j<k+1):g i<=g j:=by
 have lt:∀i,i<l->g i=f i:=λi h=>by rw[hg,qA4 (qD6 h),qA4 λz=>Nat.lt_asymm z.1 h]
 have eq:g l=f k:=by rw[hg,qA2 rfl]
 have gt:∀i,l<i->i<=k->g i=f (i-1):=λi h h2=>by rw[hg,qA4 (qO7 h),qA2 ⟨h,h2⟩]
 have hj:=qL5 hj;rcases qH5 j l with c|rfl|c
 .rw[lt j c,lt i (qD4 I c)];show u i j I (qB3 c hl)
 .rcases Nat.lt_or_eq_of_le I with d|rfl
  .rw[lt i d,eq];show a4 i d
  .show qH0 _
 .rw [gt j c hj]
  cases j with
  |zero=>show absurd c (qD3 _)
  | succ j=>
   have cj:=qL5 c;rcases qH5 i l with d|rfl|d
   .rw[lt i d];show u i j (qA5 (qI8 d) cj) hj
   .rw[eq];show Int.le_of_lt (a3 j cj hj)
   .rw[gt i d (qA5 I hj)];show u (i-1) j (Nat.pred_le_pred I) hj
def gI (h:xs[i]?=ys[j]?):kk rk xs i=kk rk ys j:=by unfold kk;rw[h]
def ag (h:xs[i]?=some p):kk rk xs i=rk p:=by unfold kk;rw[h]
def Cmp (prog:Program)(w:World)(A:Around)(s:Shared)(κ:SortKind)(rk:Keyed->Int)(a₀:Array Keyed):Prop:=∀x∈a₀,∀y∈a₀,∀Q:Bool->Shared->Prop,Q (decide (rk x<rk y)) s->wpAny (model prog w) A (keyLt' κ x.1 y.1) Q (λ_ _=>False) s
def fP {st:SortSt}(hc:Cmp prog w A s κ rk a₀) (hx:x∈a₀) (hy:y∈a₀) (hk:kindOf st=κ) (h:Q (some (decide (rk x<rk y))) st):wpS (model prog w) A E s (lt' x y) Q st:=by
 rw[lt'_eq];refine wpS_bind (wpS_get ?_);rw[hk];refine wpS_bind (wpS_lift (wpAny_attempt (qS1 (hc x hx y hy (λc s'=>c=decide (rk x<rk y)/\s'=s) ⟨rfl,rfl⟩) (λc s' I=>?_) λ_ _ hF=>hF.elim)));obtain ⟨rfl,rfl⟩:=I;show ⟨rfl,wpS_pure h⟩
def o8 {st:SortSt}(h:arr[i]?=some x) (q:Q x st):wpS (model prog w) A E s (elem' arr i) Q st:=by
 rw[elem'_eq,h];show wpS_pure q
def Bi:Bool->Keyed->Array Keyed->Nat->Nat->Nat->StateT SortSt Sem (Option Nat):=sortPriv% PySem.Builtin.gallop
def bey (left:Bool) (key z:Int):Bool:=if left then decide (z<key) else !decide (key<z)
def bT (h:z<=y) (hb:bey left key y=true):bey left key z=true:=by
 unfold bey at hb ⊢;cases left
 .simp at hb ⊢;omega
 .simp at hb ⊢;omega
def dw (h:z<=y) (hb:bey left key z=false):bey left key y=false:=by
 cases q:bey left key y with
 |false=>rfl
 |true=>rw[bT h q]at hb;cases hb
def ci {st:SortSt}(hc:Cmp prog w A s κ rk a₀) (hk:kindOf st=κ) (I:key∈a₀) (a3:∃x∈a₀,arr[j]?=some x) (h:Q (some (bey left (rk key) (kk rk arr j))) st):wpS (model prog w) A E s (elem' arr j>>=λx=>if left=true then lt' x key else lt' key x>>=λr=>pure (r.map (!·))) Q st:=by
 obtain ⟨x,hx,e⟩:=a3;rw[ag e]at h;refine wpS_bind (o8 e ?_);cases left
 .show wpS_bind (fP hc I hx hk (wpS_pure h))
 .show fP hc hx I hk h
def N3 {st:SortSt}(hc:Cmp prog w A s κ rk a₀) (hk:kindOf st=κ) (a5:key∈a₀) (a6:∀i,i<n->∃x∈a₀,arr[base+i]?=some x) (hs:∀i j,i<=j->j<n->kk rk arr (base+i)<=kk rk arr (base+j)) (hh:hint<n) (h:∀k,k<=n->(∀i,i<k->bey left (rk key) (kk rk arr (base+i))=true)->(∀i,k<=i->i<n->bey left (rk key) (kk rk arr (base+i))=false)->Q (some k) st):wpS (model prog w) A E s (Bi left key arr base n hint) Q st:=by
 have last:∀lo hi,hi<=n->lo<=hi->(∀i,i<lo->bey left (rk key) (kk rk arr (base+i))=true)->(∀i,hi<=i->i<n->bey left (rk key) (kk rk arr (base+i))=false) ->
   ∀{R:Option (Option Nat)×Nat×Nat->SortSt->Prop}{body:Nat->Option (Option Nat)×Nat×Nat->StateT SortSt Sem (ForInStep (Option (Option Nat)×Nat×Nat))},
   (∀x lo hi R',lo≥hi->R' (.done (none,lo,hi)) st->wpS (model prog w) A E s (body x (none,lo,hi)) R' st) ->
   (∀x lo hi R',lo<hi->hi<=n->R' (if bey left (rk key) (kk rk arr (base+(lo+(hi-lo)/2)))=true then .yield (none,lo+(hi-lo)/2+1,hi) else .yield (none,lo,lo+(hi-lo)/2)) st->wpS (model prog w) A E s (body x (none,lo,hi)) R' st) ->
   (∀lo hi,Q (some hi) st->R (none,lo,hi) st)->wpS (model prog w) A E s (forIn [0:n] (none,lo,hi) body) R st:=by
  intro lo hi hn hl h1 h2 R body a8 ab hR;refine wpS_forRange (λx c a4=>a4=st/\∃lo hi,c=(none,lo,hi)/\hi<=n/\lo<=hi/\hi-lo<=n-x/\(∀i,i<lo->bey left (rk key) (kk rk arr (base+i))=true)/\(∀i,hi<=i->i<n->bey left (rk key) (kk rk arr (base+i))=false)) ?_ ?_ ⟨rfl,lo,hi,rfl,hn,hl,ox,h1,h2⟩
  .rintro x c a4 _ hx ⟨rfl,lo,hi,rfl,hn,hl,hd,h1,h2⟩;by_cases a3:lo≥hi
   .refine a8 x lo hi _ a3 ?_
    have:lo=hi:=ox
    subst this;show hR _ _ (h lo hn h1 h2)
   .refine ab x lo hi _ (qP7 a3) hn ?_;cases q:bey left (rk key) (kk rk arr (base+(lo+(hi-lo)/2))) with
    | true=>
     rw[qA2 rfl];show ⟨rfl,_,_,rfl,hn,dN a3,CT (qE4 _ _) hd,λi a9=>bT (hs i _ (qL5 a9) (qB3 (dN a3) hn)) q,h2⟩
    | false=>
     rw[qA4 qA3];show ⟨rfl,_,_,rfl,qI8 (qB3 (dN a3) hn),qE4 _ _,CU (qE4 _ _) (dN a3) hd,h1,λi a b=>dw (hs _ i a b) q⟩
  .rintro c a4 ⟨rfl,lo,hi,rfl,hn,hl,hd,h1,h2⟩
   have:lo=hi:=ox
   subst this;show hR _ _ (h lo hn h1 h2)
 refine wpS_bind (ci hc hk a5 (a6 hint hh) ?_);dsimp only;cases q0:bey left (rk key) (kk rk arr (base+hint)) with
 | true=>
  rw[qA2 rfl];refine wpS_bind (wpS_mono (wpS_forRange (λx c a4=>a4=st/\∃lo I,c=(none,lo,I)/\lo<I/\x<I/\hint+lo<n/\bey left (rk key) (kk rk arr (base+(hint+lo)))=true)
   (Q:=λc a4=>a4=st/\∃lo I,c=(none,lo,I)/\lo<I/\hint+lo<n/\bey left (rk key) (kk rk arr (base+(hint+lo)))=true/\(hint+I<n->bey left (rk key) (kk rk arr (base+(hint+I)))=false)) ?_ ?_ ⟨rfl,0,1,rfl,ox,ox,ox,q0⟩) ?_)
  .rintro x c a4 _ hx ⟨rfl,lo,I,rfl,h1,h2,h3,h4⟩;dsimp only;by_cases a3:I≥n-hint
   .rw [qA2 a3]
    show wpS_pure ⟨rfl,lo,I,rfl,h1,h3,h4,λ_=>ox⟩
   .rw [qA4 a3]
    refine wpS_bind (ci hc hk a5 (a6 _ ox) ?_);dsimp only;cases q:bey left (rk key) (kk rk arr (base+(hint+I))) with
    |true=>show wpS_pure ⟨rfl,_,_,rfl,ox,ox,ox,q⟩
    |false=>show wpS_pure ⟨rfl,lo,I,rfl,h1,h3,h4,λ_=>q⟩
  .rintro c a4 ⟨rfl,lo,I,rfl,h1,h2,h3,h4⟩;show ⟨rfl,lo,I,rfl,h1,h3,h4,λ_=>ox⟩
  .rintro c a4 ⟨rfl,lo,I,rfl,h1,h3,h4,h5⟩;dsimp only;refine wpS_bind (last _ _ (qA5 (qE9 (qI0 _ _) hint) (qK7 (qE0 (qI8 hh)))) (qE9 (Nat.le_min.mpr ⟨h1,Nat.lt_sub_iff_add_lt'.mpr h3⟩) hint) (λi hi=>bT (hs i (hint+lo) (qL5 hi) h3) h4) (λi a b=>?_) ?_ ?_ λlo hi hq=>?_)
   .have:hint+I<n:=ox
    show dw (hs (hint+I) i ox b) (h5 this)
   .intro x lo hi R' a3 hR;dsimp only;rw[qA2 a3];show wpS_pure hR
   .intro x lo hi R' a3 a7 hR;dsimp only;rw[qA4 (qP8 a3)];refine wpS_bind (ci hc hk a5 (a6 _ (qB3 (dN (qP8 a3)) a7)) ?_);dsimp only;cases q:bey left (rk key) (kk rk arr (base+(lo+(hi-lo)/2))) with
    |true=>rw[q,qA2 rfl]at hR;show wpS_pure hR
    |false=>rw[q,qA4 qA3]at hR;show wpS_pure hR
   .show wpS_pure hq
 | false=>
  rw[qA4 qA3];refine wpS_bind (wpS_mono (wpS_forRange (λx c a4=>a4=st/\∃lo I,c=(none,lo,I)/\lo<I/\x<I/\lo<=hint/\bey left (rk key) (kk rk arr (base+(hint-lo)))=false)
   (Q:=λc a4=>a4=st/\∃lo I,c=(none,lo,I)/\lo<I/\lo<=hint/\bey left (rk key) (kk rk arr (base+(hint-lo)))=false/\(I<=hint->bey left (rk key) (kk rk arr (base+(hint-I)))=true)) ?_ ?_ ⟨rfl,0,1,rfl,ox,ox,ox,q0⟩) ?_)
  .rintro x c a4 _ hx ⟨rfl,lo,I,rfl,h1,h2,h3,h4⟩;dsimp only;by_cases a3:I≥hint+1
   .rw [qA2 a3]
    show wpS_pure ⟨rfl,lo,I,rfl,h1,h3,h4,λ_=>ox⟩
   .rw [qA4 a3]
    refine wpS_bind (ci hc hk a5 (a6 _ ox) ?_);dsimp only;cases q:bey left (rk key) (kk rk arr (base+(hint-I))) with
    |false=>show wpS_pure ⟨rfl,_,_,rfl,ox,ox,ox,q⟩
    |true=>show wpS_pure ⟨rfl,lo,I,rfl,h1,h3,h4,λ_=>q⟩
  .rintro c a4 ⟨rfl,lo,I,rfl,h1,h2,h3,h4⟩;show ⟨rfl,lo,I,rfl,h1,h3,h4,λ_=>ox⟩
  .rintro c a4 ⟨rfl,lo,I,rfl,h1,h3,h4,h5⟩;dsimp only;refine wpS_bind (last _ _ (qI8 (qD4 (qH8 _ _) hh)) (qA5 (qV2 (Nat.le_min.mpr ⟨h1,qH2 h3⟩) (hint+1)) (qK7 (Nat.add_sub_add_right hint 1 lo))) (λi hi=>?_) (λi a b=>dw (hs (hint-lo) i a b) h4) ?_ ?_ λlo hi hq=>?_)
   .have:I<=hint:=Nat.le_of_not_lt λq=>by rw[Nat.min_eq_right q,Nat.sub_self]at hi;show absurd hi (qD3 _)
    rw[qO5 (Nat.le_succ_of_le this),Nat.succ_sub this]at hi;show bT (hs i (hint-I) (qL5 hi) (qD4 (qH8 _ _) hh)) (h5 this)
   .intro x lo hi R' a3 hR;dsimp only;rw[qA2 a3];show wpS_pure hR
   .intro x lo hi R' a3 a7 hR;dsimp only;rw[qA4 (qP8 a3)];refine wpS_bind (ci hc hk a5 (a6 _ (qB3 (dN (qP8 a3)) a7)) ?_);dsimp only;cases q:bey left (rk key) (kk rk arr (base+(lo+(hi-lo)/2))) with
    |true=>rw[q,qA2 rfl]at hR;show wpS_pure hR
    |false=>rw[q,qA4 qA3]at hR;show wpS_pure hR
   .show wpS_pure hq
def upL (rk:Keyed->Int)(l:List Keyed):Prop:=l.Pairwise λx y=>rk x<=rk y
structure Mg (rk:Keyed->Int) (t:List Keyed) (out ra rb:List Keyed):Prop where
 perm:(out++(ra++rb)).Perm t
 up:upL rk out
 le:∀x∈out,∀y∈ra++rb,rk x<=rk y
def Gd (rk:Keyed->Int)(t I:List Keyed):Prop:=I.Perm t/\upL rk I
def Mg.a (h:Mg rk t out (p++ra) rb) (hu:upL rk (p++ra)) (hl:∀x∈p,∀y∈rb,rk x<=rk y):Mg rk t (out++p) ra rb where
 perm:=by
  have:=h.perm
  rw[qF3]at this ⊢;show this
 up:=by
  rw[upL,qE6];show ⟨h.up,(qE6.mp hu).1,λx hx y I=>h.le x hx y (by simp [I])⟩
 le x hx y I:=by
  rcases qC8.mp hx with q|q
  .refine h.le x q y ?_;rcases qC8.mp I with r|r <;> simp [r]
  .rcases qC8.mp I with r|r
   .show (qE6.mp hu).2.2 x q y r
   .show hl x q y r
def Mg.swap (h:Mg rk t out ra rb):Mg rk t out rb ra where
 perm:=(qU0 out List.perm_append_comm).trans h.perm
 up:=h.up
 le x hx y hy:=h.le x hx y (by rcases qC8.mp hy with r|r <;> simp [r])
def Mg.fin (h:Mg rk t out ra rb) (ha:upL rk ra) (hb:upL rk rb) (I:∀x∈ra,∀y∈rb,rk x<=rk y):Gd rk t (out++ra++rb):=by
 rw[qF3];refine ⟨h.perm,?_⟩;rw[upL,qE6];show ⟨h.up,qE6.mpr ⟨ha,hb,I⟩,h.le⟩
def Mg.finB (h:Mg rk t out ra rb)(ha:upL rk ra)(hb:upL rk rb)(I:∀x∈rb,∀y∈ra,rk x<=rk y):Gd rk t (out++rb++ra):=h.swap.fin hb ha I
section
variable {prog:Program}{w:World}{A:Around}{E:Vv}{s:Shared}{a₀:Array Keyed}{κ:SortKind}{rk:Keyed->Int}
def qV [Decidable c]{X T:StateT SortSt Sem α}{Q:α->SortSt->Prop}{st:SortSt}(P:SortSt->Prop) (key:∀I,P I->wpS M A E s T Q I) (h1:c->(∀I,P I->wpS M A E s T Q I)->wpS M A E s X Q st) (h2:¬c->P st):wpS M A E s (if c then X else T) Q st:=by
 by_cases q:c
 .rw[qA2 q];show h1 q key
 .rw[qA4 q];show key _ (h2 q)
def qY [Decidable c][Decidable c1]{R1 T T':StateT SortSt Sem α}{Q:α->SortSt->Prop}{st:SortSt}(hT:¬c->T'=T) (h1:c->c1->wpS M A E s R1 Q st) (h3:(c->¬c1)->wpS M A E s T Q st):wpS M A E s (if c then (if c1 then R1 else T) else T') Q st:=by
 by_cases q:c
 .rw [qA2 q]
  by_cases I:c1
  .rw[qA2 I];show h1 q I
  .rw[qA4 I];show h3 λ_=>I
 .rw[qA4 q,hT q];show h3 λr=>absurd r q
def qX [Decidable c][Decidable c1][Decidable c2]{R1 R2 T T':StateT SortSt Sem α}{Q:α->SortSt->Prop}{st:SortSt}(hT:¬c->T'=T) (h1:c->c1->wpS M A E s R1 Q st) (h2:c->¬c1->c2->wpS M A E s R2 Q st) (h3:(c->¬c1/\¬c2)->wpS M A E s T Q st):wpS M A E s (if c then (if c1 then R1 else if c2 then R2 else T) else T') Q st:=by
 by_cases q:c
 .rw [qA2 q]
  by_cases I:c1
  .rw[qA2 I];show h1 q I
  .rw [qA4 I]
   by_cases q2:c2
   .rw[qA2 q2];show h2 q I q2
   .rw[qA4 q2];show h3 λ_=>⟨I,q2⟩
 .rw[qA4 q,hT q];show h3 λr=>absurd r q
def GB (out a:Array Keyed) (i:Nat):out++(a.extract i i).reverse=out:=by
 have:a.extract i i=#[]:=by simp;omega
 rw[this];simp
def GA (out a:Array Keyed) (i:Nat):out++a.extract i i=out:=by
 have:a.extract i i=#[]:=by simp;omega
 rw[this];simp
def wL:Array Keyed->Array Keyed->StateT SortSt Sem (Array Keyed):=sortPriv% PySem.Builtin.mergeLo
def wM:Array Keyed->Array Keyed->StateT SortSt Sem (Array Keyed):=sortPriv% PySem.Builtin.mergeHi
def oQ {l:List Keyed}(h:l[i]?=some x):l.drop i = [x]++l.drop (i+1):=by
 obtain ⟨hi,e⟩:=qA9.mp h;rw[qJ5 hi,e];rfl
def bf (l:List Keyed)(i k:Nat):l.drop i=(l.drop i).take k++l.drop (i+k):=by rw[<- xA8,qJ4]
def E8 (h:upL rk l)(i:Nat):upL rk (l.drop i):=List.Pairwise.sublist (List.drop_sublist i l) h
def kI (hu:upL rk l) (h:l[i]?=some x):∀y∈l.drop i,rk x<=rk y:=λy I=>by
 have:=E8 hu i
 rw[oQ h]at this I;rcases qC8.mp I with q|q
 .rw[qC4.mp q];show qH0 _
 .show (qE6.mp this).2.2 x (qC4.mpr rfl) y q
def W2 {l:List Keyed}(h:x∈(l.drop i).take k):∃j,j<k/\l[i+j]?=some x:=by
 obtain ⟨j,I⟩:=qS0.mp h;by_cases c:j<k
 .rw [qH9 c,qG4]at I
  show ⟨j,c,I⟩
 .rw[qS4 ox]at I;cases I
def Mg.pa (m:Mg rk t out (l.drop i) rb) (hu:upL rk l) (h:l[i]?=some x) (I:∀y∈rb,rk x<=rk y):Mg rk t (out ++ [x]) (l.drop (i+1)) rb:=by
 have u:=E8 hu i;rw[oQ h]at m u;show m.a u λz hz y hy=>by rw[qC4.mp hz];show I y hy
def Mg.pb (m:Mg rk t out ra (l.drop i))(hu:upL rk l)(h:l[i]?=some x)(I:∀y∈ra,rk x<=rk y):Mg rk t (out ++ [x]) ra (l.drop (i+1)):=(m.swap.pa hu h I).swap
def Mg.ka (m:Mg rk t out (l.drop i) rb) (hu:upL rk l) (I:∀x∈(l.drop i).take k,∀y∈rb,rk x<=rk y):Mg rk t (out++(l.drop i).take k) (l.drop (i+k)) rb:=by
 have u:=E8 hu i;have m2:Mg rk t out ((l.drop i).take k++l.drop (i+k)) rb:=by rw[<- bf];show m
 show m2.a (by rw[<- bf];show u) I
def Mg.kb (m:Mg rk t out ra (l.drop i))(hu:upL rk l)(I:∀x∈(l.drop i).take k,∀y∈ra,rk x<=rk y):Mg rk t (out++(l.drop i).take k) ra (l.drop (i+k)):=(m.swap.ka hu I).swap
def aY (a:Array Keyed) (i k:Nat):(a.extract i (i+k)).toList=(a.toList.drop i).take k:=by
 rw[qU6,qJ6];congr 1;omega
def aX (a:Array Keyed) (i:Nat):(a.extract i a.size).toList=a.toList.drop i:=by
 rw[qU6,qJ6,qK5 Zy]
def Z6 {a:Array Keyed}(h:i<a.size):∃x,x∈a.toList/\a[i]?=some x/\a.toList[i]?=some x:=⟨a[i],Zy,Zy,by simp [h]⟩
def v8 (h:a.toList[i]?=some x):kk rk a i=rk x:=ag (by rw[<- qN8];show h)
def dA (hu:upL rk a.toList) (h:i<=j) (hj:j<a.size):kk rk a i<=kk rk a j:=by
 obtain ⟨x,hx,ex,I⟩:=Z6 (a:=a) (i:=i) ox;obtain ⟨y,hy,ey,ly⟩:=Z6 (a:=a) (i:=j) hj;rw[ag ex,ag ey];refine kI hu I y (qS0.mpr ⟨j-i,?_⟩);rw[qG4,show i+(j-i)=j by omega];show ly
def Y3 (hu:upL rk a.toList) (hx:x∈a.toList.drop i):kk rk a i<=rk x:=by
 obtain ⟨j,I⟩:=qS0.mp hx;rw[qG4]at I;have hl:=(qA9.mp I).1;rw[<- v8 (rk:=rk) I];show dA hu ox (by simp at hl;omega)
structure Js (rk:Keyed->Int) (a b:Array Keyed) (out:Array Keyed) (ia ib:Nat):Prop where
 mg:Mg rk (a.toList++b.toList) out.toList (a.toList.drop ia) (b.toList.drop ib)
 ha:ia+1<a.size
 hb:ib<b.size
abbrev gS (st:SortSt)(g:Nat):SortSt:=SortSt.mk' (kindOf st) (arrOf st) (pendingOf st) g (failedOf st)
def km {a b:Array Keyed}(m:Mg rk (a.toList++b.toList) out.toList (a.toList.drop ia) (b.toList.drop ib)) (ua:upL rk a.toList) (h:ib=b.size):Gd rk (a.toList++b.toList) (out++a.extract ia a.size++b.extract ib b.size).toList:=by
 rw[qF7,qF7,aX,aX];have e:b.toList.drop ib = []:=qF0 (by simp;omega);rw[e]at m ⊢;show m.fin (E8 ua _) .nil λx hx y I=>nomatch I
def IR {a b:Array Keyed}(m:Mg rk (a.toList++b.toList) out.toList (a.toList.drop ia) (b.toList.drop ib)) (ub:upL rk b.toList) (h:ia=a.size):Gd rk (a.toList++b.toList) (out++a.extract ia a.size++b.extract ib b.size).toList:=by
 rw[qF7,qF7,aX,aX];have e:a.toList.drop ia = []:=qF0 (by simp;omega);rw[e]at m ⊢;show m.fin .nil (E8 ub _) λx I y hy=>nomatch I
def kj {b:Array Keyed}(m:Mg rk (a.toList++b.toList) out.toList (a.toList.drop ia) (b.toList.drop ib)) (I:upL rk a.toList) (ub:upL rk b.toList) (hl:∀x∈b.toList,rk x<=kk rk a (a.size-1)) (h:ia+1=a.size):Gd rk (a.toList++b.toList) (out++b.extract ib b.size++a.extract ia a.size).toList:=by
 rw[qF7,qF7,aX,aX];refine m.finB (E8 I _) (E8 ub _) λx hx y hy=>?_;have h1:=hl x (qJ8 hx);have h2:=Y3 I hy;rw[show a.size-1=ia by omega]at h1;omega
@[elab_as_elim] theorem qD {A1 A2 A3 A4 A5 C S:Type}{f:A1->A2->A3->A4->A5->C}{k:A1->A2->A3->A4->A5->S}{J:A1->A2->A3->A4->A5->Prop}{G:C->S->Prop}{c:C}{t:S}(h:∃x1 x2 I x4 x5,c=f x1 x2 I x4 x5/\t=k x1 x2 I x4 x5/\J x1 x2 I x4 x5) (g:∀x1 x2 I x4 x5,J x1 x2 I x4 x5->G (f x1 x2 I x4 x5) (k x1 x2 I x4 x5)):G c t:=by
 obtain ⟨_,_,_,_,_,rfl,rfl,j⟩:=h;show g _ _ _ _ _ j
@[elab_as_elim] theorem GR {A1 A2 A3 A4 A5 A6 A7 C S:Type}{f:A1->A2->A3->A4->A5->A6->A7->C}{k:A1->A2->A3->A4->A5->A6->A7->S}{J:A1->A2->A3->A4->A5->A6->A7->Prop}{G:C->S->Prop}{c:C}{t:S}(h:∃x1 x2 I x4 x5 x6 x7,c=f x1 x2 I x4 x5 x6 x7/\t=k x1 x2 I x4 x5 x6 x7/\J x1 x2 I x4 x5 x6 x7) (g:∀x1 x2 I x4 x5 x6 x7,J x1 x2 I x4 x5 x6 x7->G (f x1 x2 I x4 x5 x6 x7) (k x1 x2 I x4 x5 x6 x7)):G c t:=by
 obtain ⟨_,_,_,_,_,_,_,rfl,rfl,j⟩:=h;show g _ _ _ _ _ _ _ j
@[elab_as_elim] theorem GO {A1 A2 A3 A4 A5 R D S:Type}{f:A1->A2->A3->A4->A5->Option R×D}{J:A1->A2->A3->A4->A5->Prop}{L:R->Prop}{G:Option R×D->S->Prop}{c:Option R×D}{t t0:S}(h:t=t0/\((∃r,c.1=some r/\L r)\/∃x1 x2 I x4 x5,c=f x1 x2 I x4 x5/\J x1 x2 I x4 x5)) (g1:∀r d,L r->G (some r,d) t0) (g2:∀x1 x2 I x4 x5,J x1 x2 I x4 x5->G (f x1 x2 I x4 x5) t0):G c t:=by
 obtain ⟨c1,c2⟩:=c;obtain ⟨rfl,⟨r,e,l⟩|⟨_,_,_,_,_,e,j⟩⟩:=h
 .cases e;show g1 _ _ l
 .rw[e];show g2 _ _ _ _ _ j
@[elab_as_elim] theorem GP {A1 A2 A3 A4 A5 A6 R D S N:Type}{k:N->S}{f:A1->A2->A3->A4->A5->A6->Option R×D}{J:A1->A2->A3->A4->A5->A6->Prop}{L:R->Prop}{G:Option R×D->S->Prop}{c:Option R×D}{t:S}(h:∃g,t=k g/\((∃r,c.1=some r/\L r)\/∃x1 x2 I x4 x5 x6,c=f x1 x2 I x4 x5 x6/\J x1 x2 I x4 x5 x6)) (g1:∀g r d,L r->G (some r,d) (k g)) (g2:∀g x1 x2 I x4 x5 x6,J x1 x2 I x4 x5 x6->G (f x1 x2 I x4 x5 x6) (k g)):G c t:=by
 obtain ⟨c1,c2⟩:=c;obtain ⟨g,rfl,⟨r,e,l⟩|⟨_,_,_,_,_,_,e,j⟩⟩:=h
 .cases e;show g1 _ _ _ l
 .rw[e];show g2 _ _ _ _ _ _ _ j
def P9 {G:Prop}{a:Array Keyed}(h:i<a.size)(g:∀x,x∈a.toList->a[i]?=some x->a.toList[i]?=some x->G):G:=let ⟨x,h1,h2,h3⟩:=Z6 h;g x h1 h2 h3
def qW {I:Type}[Decidable c]{jp:Unit->I->StateT SortSt Sem α}{x y:I}{Q:α->SortSt->Prop}{st:SortSt}(h:∀z,wpS M A E s (jp () z) Q st):wpS M A E s (if c then jp () x else jp () y) Q st:=by
 split
 .show h _
 .show h _
def K5 {m:Nat}{X Y:StateT SortSt Sem α}{Q:α->SortSt->Prop}{st:SortSt}(h1:m=n->wpS M A E s X Q st) (I:¬ m=n->wpS M A E s Y Q st):wpS M A E s (if (m == n)=true then X else Y) Q st:=by
 by_cases c:m=n
 .rw[qA2 (by simpa using c)];show h1 c
 .rw[qA4 (by simpa using c)];show I c
def S2 [Decidable c]{X Y:StateT SortSt Sem α}{Q:α->SortSt->Prop}{st:SortSt}(h1:c->wpS M A E s X Q st) (I:¬ c->wpS M A E s Y Q st):wpS M A E s (if decide c=true then X else Y) Q st:=by
 by_cases q:c
 .rw[qA2 (by simpa using q)];show h1 q
 .rw[qA4 (by simpa using q)];show I q
@[elab_as_elim] theorem cpsA {I C S:Type}{f:I->C}{J:I->Prop}{G:C->S->Prop}{c:C}{t t0:S}(h:t=t0/\∃x,c=f x/\J x) (g:∀x,J x->G (f x) t0):G c t:=by
 obtain ⟨rfl,_,rfl,j⟩:=h;show g _ j
@[elab_as_elim] theorem IY {I A2 C S:Type}{f:I->A2->C}{J:I->A2->Prop}{G:C->S->Prop}{c:C}{t t0:S}(h:t=t0/\∃x y,c=f x y/\J x y) (g:∀x y,J x y->G (f x y) t0):G c t:=by
 obtain ⟨rfl,_,_,rfl,j⟩:=h;show g _ _ j
@[elab_as_elim] theorem GQ {I S:Type}{k:I->S}{J:I->Prop}{G:S->Prop}{t:S}(h:∃x,t=k x/\J x) (g:∀x,J x->G (k x)):G t:=by
 obtain ⟨_,rfl,j⟩:=h;show g _ j
@[elab_as_elim] theorem cpsC {I A2 C S:Type}{k:I->A2->S}{f:I->A2->C}{J:I->A2->Prop}{G:C->S->Prop}{c:C}{t:S}(h:∃x y,t=k x y/\c=f x y/\J x y) (g:∀x y,J x y->G (f x y) (k x y)):G c t:=by
 obtain ⟨_,_,rfl,rfl,j⟩:=h;show g _ _ j
@[elab_as_elim] theorem cpsD {A1 A2 I C S:Type}{k:A1->A2->I->S}{f:A1->A2->I->C}{J:A1->A2->I->Prop}{G:C->S->Prop}{c:C}{t:S}(h:∃x y z,t=k x y z/\c=f x y z/\J x y z) (g:∀x y z,J x y z->G (f x y z) (k x y z)):G c t:=by
 obtain ⟨_,_,_,rfl,rfl,j⟩:=h;show g _ _ _ j
@[elab_as_elim] theorem IX {I C S:Type}{k:I->S}{c0:C}{J:I->Prop}{G:C->S->Prop}{c:C}{t:S}(h:∃x,t=k x/\c=c0/\J x) (g:∀x,J x->G c0 (k x)):G c t:=by
 obtain ⟨_,rfl,rfl,j⟩:=h;show g _ j
def pc {st:SortSt}(hc:Cmp prog w A s κ rk a₀) (hk:kindOf st=κ) (ha:∀x∈a.toList,x∈a₀) (hb:∀x∈b.toList,x∈a₀) (ua:upL rk a.toList) (ub:upL rk b.toList) (c6:0<a.size) (ba:0<b.size) (hf:∀x∈a.toList,kk rk b 0<=rk x) (hl:∀x∈b.toList,rk x<=kk rk a (a.size-1)) (h:∀a3 g,Gd rk (a.toList++b.toList) a3.toList->Q a3 (gS st g)):wpS (model prog w) A E s (wL a b) Q st:=by
 refine wpS_bind (wpS_lift (qR6 ⟨rfl,?_⟩));refine P9 ba λy0 c5 b5 a9=>?_;refine wpS_bind (o8 b5 ?_);dsimp (zeta:=false) only;have m0:Mg rk (a.toList++b.toList) #[y0].toList (a.toList.drop 0) (b.toList.drop 1):=by
  have:Mg rk (a.toList++b.toList) [] (a.toList.drop 0) (b.toList.drop 0):=⟨Zy,.nil,λx hx=>nomatch hx⟩
  show this.pb ub a9 λy hy=>by rw[<- v8 (rk:=rk) a9];show hf y (qJ8 hy)
 refine K5 (λc1=>wpS_pure (h _ (gallopOf st) (km m0 ua c1))) λc1=>?_;by_cases c2:0+1=a.size
 .rw [qA2 (by simpa using c2)]
  show wpS_pure (h _ (gallopOf st) (kj m0 ua ub hl c2))
 rw[qA4 (by simpa using c2)];refine wpS_bind (wpS_get ?_);have j0:Js rk a b #[y0] 0 1:=⟨m0,ox,ox⟩;refine wpS_bind (wpS_mono (wpS_forRange (λx c I=>∃out ia ib g g',c=(none,out,ia,ib,g)/\I=gS st g'/\Js rk a b out ia ib/\x+1<=ia+ib)
  (Q:=λc I=>∃a3 g,c.1=some a3/\I=gS st g/\Gd rk (a.toList++b.toList) a3.toList) ?step ?fin ⟨_,_,_,_,gallopOf st,rfl,rfl,j0,ox⟩) ?post)
 case fin=>
  rintro c I ⟨out,ia,ib,g,g',rfl,rfl,j,hm⟩
  have:=j.ha
  have:=j.hb
  omega
 case post=>
  rintro ⟨c1,c2⟩ I ⟨a3,g,e,rfl,hg⟩;cases e;show wpS_pure (h a3 g hg)
 case step=>
  intro x c I _ _ hI;refine qD (c:=c) (t:=I) hI λout ia ib g g' jm=>?_;have j:=jm.1;have hm:=jm.2;clear hI jm c I;clear c1 c2 j0 m0;dsimp (zeta:=false) only;refine wpS_bind (wpS_mono (wpS_forRange (λy c I=>∃out ia ib ac bc,c=(none,out,ia,ib,ac,bc)/\I=gS st g'/\Js rk a b out ia ib/\x+min y 1+1<=ia+ib)
   (Q:=λc I=>I=gS st g'/\((∃a3,c.1=some a3/\Gd rk (a.toList++b.toList) a3.toList)\/∃out ia ib ac bc,c=(none,out,ia,ib,ac,bc)/\Js rk a b out ia ib/\x+2<=ia+ib)) ?istep ?ifin ⟨out,ia,ib,0,0,rfl,rfl,j,ox⟩) ?ipost)
  case ifin=>
   rintro c I ⟨out,ia,ib,ac,bc,rfl,rfl,j,hm⟩
   have:=j.ha
   show ⟨rfl,.inr ⟨_,_,_,_,_,rfl,j,ox⟩⟩
  case istep=>
   clear j hm;intro y c I _ _ hI;refine qD (c:=c) (t:=I) hI λout ia ib ac bc jm=>?_;have j:=jm.1;have hm:=jm.2;clear hI jm c I;dsimp only;have ab:=j.ha;have a6:=j.hb;refine P9 (a:=b) (i:=ib) j.hb λu hu eu lu=>?_;refine P9 (a:=a) (i:=ia) ox λv hv ev lv=>?_;refine wpS_bind (o8 eu (wpS_bind (o8 ev (wpS_bind (fP hc (hb u hu) (ha v hv) hk ?_)))));dsimp only;refine S2 (λq=>?_) λq=>?_
   .skip
    refine wpS_bind (o8 eu ?_);have m:=j.mg.pb ub lu λz hz=>by
     have:=Y3 ua hz
     rw[v8 (rk:=rk) lv]at this;omega
    rw[<- qK0]at m;refine K5 (λc=>wpS_pure ⟨rfl,.inl ⟨_,rfl,km m ua c⟩⟩) λc=>?_
    .skip
     have j2:Js rk a b (out.push u) ia (ib+1):=⟨m,ab,ox⟩;have a7:x+2<=ia+ib+1:=qH2 (qA5 (qH2 (qE4 x _)) hm)
     split
     .show wpS_pure ⟨rfl,.inr ⟨_,_,_,_,_,rfl,j2,a7⟩⟩
     .show wpS_pure ⟨_,_,_,_,_,rfl,rfl,j2,ms3 hm⟩
   .skip
    refine wpS_bind (o8 ev ?_);have m:=j.mg.pa ua lv λz hz=>by
     have:=Y3 ub hz
     rw[v8 (rk:=rk) lu]at this;omega
    rw[<- qK0]at m;refine K5 (λc=>wpS_pure ⟨rfl,.inl ⟨_,rfl,kj m ua ub hl c⟩⟩) λc=>?_
    .skip
     have j2:Js rk a b (out.push v) (ia+1) ib:=⟨m,ox,a6⟩;have a7:x+2<=ia+ib+1:=qH2 (qA5 (qH2 (qE4 x _)) hm)
     split
     .show wpS_pure ⟨rfl,.inr ⟨_,_,_,_,_,rfl,j2,qO9 ia ib 1 ▸ a7⟩⟩
     .show wpS_pure ⟨_,_,_,_,_,rfl,rfl,j2,qO9 ia ib 1 ▸ ms3 hm⟩
  case ipost=>
   clear j hm;intro c I hI;refine GO (c:=c) (t:=I) hI (λa3 _ hg=>wpS_pure ⟨a3,g',rfl,rfl,hg⟩) λout ia ib ac bc jm=>?_;have j:=jm.1;have hm:=jm.2;clear hI jm c I;dsimp (zeta:=false) only;refine wpS_bind (wpS_lift (qR6 ⟨rfl,?_⟩));refine wpS_bind (wpS_mono (wpS_forRange (λy c I=>∃out ia ib mg ac bc g,c=(none,out,ia,ib,mg,ac,bc)/\I=gS st g/\Js rk a b out ia ib/\x+2<=ia+ib)
    (Q:=λc I=>∃g,I=gS st g/\((∃a3,c.1=some a3/\Gd rk (a.toList++b.toList) a3.toList)\/∃out ia ib mg ac bc,c=(none,out,ia,ib,mg,ac,bc)/\Js rk a b out ia ib/\x+2<=ia+ib)) ?gstep ?gfin ⟨out,ia,ib,_,ac,bc,g',rfl,rfl,j,hm⟩) ?gpost)
   case gfin=>
    rintro c I ⟨out,ia,ib,mg,ac,bc,g,rfl,rfl,j,hm⟩;show ⟨g,rfl,.inr ⟨_,_,_,_,_,_,rfl,j,hm⟩⟩
   case gpost=>
    clear j hm;intro c I hI;refine GP (c:=c) (t:=I) hI (λg a3 _ hg=>wpS_pure ⟨a3,g,rfl,rfl,hg⟩) λg out ia ib mg ac bc jm=>?_;have j:=jm.1;have hm:=jm.2;clear hI jm c I
    try dsimp (zeta:=false) only
    show wpS_bind (wpS_modify (wpS_pure ⟨_,_,_,_,_,rfl,rfl,j,ox⟩))
   case gstep=>
    clear j hm;intro y c I _ _ hI;refine GR (c:=c) (t:=I) hI λout ia ib mg ac bc g jm=>?_;have j:=jm.1;have hm:=jm.2;clear hI jm c I
    try dsimp (zeta:=false) only
    have ab:=j.ha;have a6:=j.hb;refine P9 (a:=b) (i:=ib) j.hb λu hu eu lu=>?_
    extract_lets s0 o0 s1 i0 s2 i1 s3 m0 s4 a0 b0 ib1 jp mg1
    refine qW (jp:=jp) λc0=>?_;dsimp (zeta:=false) only [jp];clear jp;subst s0 o0 s1 i0 s2 i1 s3 m0 s4 a0 b0 ib1 mg1
    try dsimp (zeta:=false) only
    refine wpS_bind (wpS_modify ?_);refine wpS_bind (o8 eu (wpS_bind (N3 hc hk (hb u hu) (λi hi=>?ga) (λi j b3 hj=>dA ua ox ox) ox λk k1 k2 k3=>?_)))
    case ga=>
     refine P9 (a:=a) (i:=ia+i) ox λv hv ev lv=>?_;show ⟨v,ha v hv,ev⟩
    try dsimp (zeta:=false) only
    extract_lets acnt jp2 a4 a5
    subst acnt a4 a5;have bt:ia<=ia+k/\ia+k<=a.size:=ox;have m1:Mg rk (a.toList++b.toList) (out++a.extract ia (ia+k)).toList (a.toList.drop (ia+k)) (b.toList.drop ib):=by
     rw[qF7,aY];refine j.mg.ka ua λz hz y hy=>?_;obtain ⟨i,hi,li⟩:=W2 hz;have h1:=k2 i hi;rw[v8 (rk:=rk) li]at h1;have h2:=Y3 ub hy;rw[v8 (rk:=rk) lu]at h2;simp [bey]at h1;omega
    have b1:∀z∈a.toList.drop (ia+k),rk u<=rk z:=λz hz=>by
     by_cases c:ia+k<a.size
     .have h1:=k3 k (qB2 _) ox;have h2:=Y3 ua hz;simp [bey]at h1;omega
     .rw[qF0 (by simp;omega)]at hz;cases hz
    refine qX (λq=>?e1) (λ_ c=>wpS_pure ⟨_,rfl,.inl ⟨_,rfl,kj m1 ua ub hl (by simpa using c)⟩⟩) (λ_ _ c=>wpS_pure ⟨_,rfl,.inl ⟨_,rfl,IR m1 ub (by simpa using c)⟩⟩) λq0=>?_
    case e1=>
     have k0:k=0:=ox;rw[k0,qP0,GA]
    have q1:ia+k+1<a.size:=by
     by_cases kz:k>0
     .have:=q0 kz
      simp at this;omega
     .omega
    generalize out++a.extract ia (ia+k)=a4 at m1 ⊢
    generalize ia+k=a5 at m1 b1 bt q1 ⊢
    dsimp (zeta:=false) only [jp2];clear jp2;refine wpS_bind (o8 eu ?_)
    extract_lets out3
    have m2:=m1.pb ub lu b1;rw[<- qK0]at m2;refine K5 (λc3=>wpS_pure ⟨_,rfl,.inl ⟨_,rfl,km m2 ua c3⟩⟩) λc3=>?_;refine P9 (a:=a) (i:=a5) ox λv hv ev lv=>?_;refine wpS_bind (o8 ev (wpS_bind (N3 hc hk (ha v hv) (λi hi=>?gb) (λi j b3 hj=>dA ub ox ox) ox λl l1 l2 l3=>?_)))
    case gb=>
     refine P9 (a:=b) (i:=ib+1+i) (qL1 hi) λv hv ev lv=>?_;show ⟨v,hb v hv,ev⟩
    try dsimp (zeta:=false) only
    extract_lets bcnt jp3 out4 ib4
    subst out3 bcnt out4 ib4;have bq:ib+1<=ib+1+l/\ib+1+l<=b.size:=⟨qE4 _ _,qA5 (qE9 l1 _) (qK7 (qE0 a6))⟩;have m3:Mg rk (a.toList++b.toList) (a4.push u++b.extract (ib+1) (ib+1+l)).toList (a.toList.drop a5) (b.toList.drop (ib+1+l)):=by
     rw[qF7,aY];refine m2.kb ub λz hz y hy=>?_;obtain ⟨i,hi,li⟩:=W2 hz;have h1:=l2 i hi;rw[v8 (rk:=rk) li]at h1;have h2:=Y3 ua hy;rw[v8 (rk:=rk) lv]at h2;simp [bey]at h1;omega
    have b2:∀z∈b.toList.drop (ib+1+l),rk v<=rk z:=λz hz=>by
     by_cases c:ib+1+l<b.size
     .have h1:=l3 l (qB2 _) (Nat.lt_sub_iff_add_lt'.mpr c);have h2:=Y3 ub hz;simp [bey]at h1;omega
     .rw[qF0 (by simp;omega)]at hz;cases hz
    refine qY (λq=>?e2) (λ_ c=>wpS_pure ⟨_,rfl,.inl ⟨_,rfl,km m3 ua (by simpa using c)⟩⟩) λq0=>?_
    case e2=>
     have k0:l=0:=ox;rw[k0,qP0,GA]
    have q2:ib+1+l<b.size:=by
     by_cases kz:l>0
     .have:=q0 kz
      simp at this;omega
     .omega
    generalize a4.push u++b.extract (ib+1) (ib+1+l)=a8 at m3 ⊢
    generalize ib+1+l=b4 at m3 b2 bq q2 ⊢
    dsimp (zeta:=false) only [jp3];clear jp3;refine wpS_bind (o8 ev ?_);dsimp only;have m4:=m3.pa ua lv b2;rw[<- qK0]at m4;refine K5 (λc4=>wpS_pure ⟨_,rfl,.inl ⟨_,rfl,kj m4 ua ub hl c4⟩⟩) λc4=>?_;have j4:Js rk a b (a8.push v) (a5+1) b4:=⟨m4,ox,q2⟩
    split
    .show wpS_pure ⟨_,rfl,.inr ⟨_,_,_,_,_,_,rfl,j4,ox⟩⟩
    .show wpS_pure ⟨_,_,_,_,_,_,_,rfl,rfl,j4,ox⟩
end
section
variable {prog:Program}{w:World}{A:Around}{E:Vv}{s:Shared}{a₀:Array Keyed}{κ:SortKind}{rk:Keyed->Int}
abbrev rn (rk:Keyed->Int)(x:Keyed):Int:=-rk x
abbrev rv (a:Array Keyed):List Keyed:=a.toList.reverse
def dz (h:upL rk l):upL (rn rk) l.reverse:=by
 unfold upL at h ⊢;rw[List.pairwise_reverse];show h.imp λq=>by change -_ <= -_;omega
def yg (h0:0<k) (hk:k<=a.size) (h:a.toList[k-1]?=some x):(rv a)[a.size-k]?=some x:=by
 cases k with
 |zero=>show absurd h0 (qF1 _)
 | succ m=>
  have e:a.toList.length-1-(a.size-(m+1))=m:=by rw[qE5,show a.size-(m+1)=a.size-1-m by rw[Nat.sub_sub,qN7],Nat.sub_sub_self (show m<=a.size-1 from qL4 hk)]
  rw[qT9 (by rw[qE5];show qJ1 (qB3 h0 hk) h0),e,<- h];rfl
def W0:(rv a).drop (a.size-k)=(a.toList.take k).reverse:=by
 rw[List.reverse_take];simp
def bD (hu:upL rk a.toList) (h0:k<=a.size) (I:x∈(rv a).drop (a.size-k)):rk x<=kk rk a (k-1):=by
 rw[W0,qY0]at I;obtain ⟨j,hj,lj⟩:=W2 (i:=0) (k:=k) (l:=a.toList) (by simpa using I);rw[qN9]at lj;rw[<- v8 (rk:=rk) lj];show dA hu ox ox
def fX (h:i<=k) (hk:k<=a.size):(a.extract i k).reverse.toList=((rv a).drop (a.size-k)).take (k-i):=by
 rw[W0,Array.toList_reverse,qU6,qJ6,List.take_reverse,qF6];congr 1;rw[List.drop_take];simp
 have:min k a.size-(k-i)=i:=ox
 rw[this]
def Gd.rv (h:Gd (rn rk) (rv a++rv b) res.reverse):Gd rk (a.toList++b.toList) res:=by
 refine ⟨?_,?_⟩
 .refine (qX3 res).symm.trans (h.1.trans ?_);show List.Perm.append (qX3 _) (qX3 _)
 .have:=h.2
  unfold upL at this ⊢;rw[List.pairwise_reverse]at this;show this.imp λq=>by
   have q:-_ <= -_:=q;omega
def mI {out:Array Keyed}{nb:Nat}(h:Gd (rn rk) (rv a++rv b) (out.toList++(rv b).drop (b.size-nb)++(rv a).drop (a.size-na))):Gd rk (a.toList++b.toList) (a.extract 0 na++b.extract 0 nb++out.reverse).toList:=by
 refine Gd.rv ?_;rw[W0,W0]at h;have e:(a.extract 0 na++b.extract 0 nb++out.reverse).toList.reverse=out.toList++(b.toList.take nb).reverse++(a.toList.take na).reverse:=by
  simp [qJ6]
 rw[e];show h
def gM {out:Array Keyed}{nb:Nat}(m:Mg (rn rk) (rv a++rv b) out.toList ((rv a).drop (a.size-na)) ((rv b).drop (b.size-nb))) (ub:upL rk b.toList) (h:na=0):Gd rk (a.toList++b.toList) (a.extract 0 na++b.extract 0 nb++out.reverse).toList:=by
 refine mI ?_;have e:(rv a).drop (a.size-na) = []:=qF0 (by simp;omega);rw[e]at m ⊢;show m.finB .nil (E8 (dz ub) _) λx hx y I=>nomatch I
def FT {out:Array Keyed}{nb:Nat}(m:Mg (rn rk) (rv a++rv b) out.toList ((rv a).drop (a.size-na)) ((rv b).drop (b.size-nb))) (ua:upL rk a.toList) (h:nb=0):Gd rk (a.toList++b.toList) (a.extract 0 na++b.extract 0 nb++out.reverse).toList:=by
 refine mI ?_;have e:(rv b).drop (b.size-nb) = []:=qF0 (by simp;omega);rw[e]at m ⊢;show m.finB (E8 (dz ua) _) .nil λx I y hy=>nomatch I
def gL {out:Array Keyed}{nb:Nat}(m:Mg (rn rk) (rv a++rv b) out.toList ((rv a).drop (a.size-na)) ((rv b).drop (b.size-nb))) (ua:upL rk a.toList) (ub:upL rk b.toList) (hf:∀x∈a.toList,kk rk b 0<=rk x) (hn:nb<=b.size) (h:nb=1):Gd rk (a.toList++b.toList) (b.extract 0 nb++a.extract 0 na++out.reverse).toList:=by
 refine Gd.rv ?_;have e:(b.extract 0 nb++a.extract 0 na++out.reverse).toList.reverse=out.toList++(rv a).drop (a.size-na)++(rv b).drop (b.size-nb):=by
  rw[W0,W0];simp [qJ6]
 rw[e];refine m.fin (E8 (dz ua) _) (E8 (dz ub) _) λx hx y hy=>?_;have h1:=hf x (qY0.mp (qJ8 hx));have I:=bD ub hn hy;rw[h]at I
 change -_ <= -_;have I:rk y<=kk rk b 0:=I;omega
structure Jh (rk:Keyed->Int) (a b:Array Keyed) (out:Array Keyed) (na nb:Nat):Prop where
 mg:Mg (rn rk) (rv a++rv b) out.toList ((rv a).drop (a.size-na)) ((rv b).drop (b.size-nb))
 ha:0<na
 hb:1<nb
 la:na<=a.size
 lb:nb<=b.size
def pf {st:SortSt}(hc:Cmp prog w A s κ rk a₀) (hk:kindOf st=κ) (ha:∀x∈a.toList,x∈a₀) (hb:∀x∈b.toList,x∈a₀) (ua:upL rk a.toList) (ub:upL rk b.toList) (bt:0<a.size) (cg:0<b.size) (hf:∀x∈a.toList,kk rk b 0<=rk x) (hl:∀x∈b.toList,rk x<=kk rk a (a.size-1)) (h:∀a3 g,Gd rk (a.toList++b.toList) a3.toList->Q a3 (gS st g)):wpS (model prog w) A E s (wM a b) Q st:=by
 have uA:=dz ua;have uB:=dz ub;refine wpS_bind (wpS_lift (qR6 ⟨rfl,?_⟩));refine P9 (a:=a) (i:=a.size-1) ox λy0 cj c5 b4=>?_;refine wpS_bind (o8 c5 ?_);dsimp (zeta:=false) only;have a6:∀{out:Array Keyed}{na nb:Nat}{x:Keyed},Mg (rn rk) (rv a++rv b) out.toList ((rv a).drop (a.size-na)) ((rv b).drop (b.size-nb))->0<na->na<=a.size->nb<=b.size->a.toList[na-1]?=some x->(∀y∈(rv b).drop (b.size-nb),rk y<=rk x) ->
   Mg (rn rk) (rv a++rv b) (out.push x).toList ((rv a).drop (a.size-(na-1))) ((rv b).drop (b.size-nb)):=λ{out na nb x} m h1 h2 h3 lx hle=>by
  have:=m.pa uA (yg h1 h2 lx) λy hy=>by change -_ <= -_;have:=hle y hy;omega
  rw[qK0,sb1 h1 h2];show this
 have a7:∀{out:Array Keyed}{na nb:Nat}{x:Keyed},Mg (rn rk) (rv a++rv b) out.toList ((rv a).drop (a.size-na)) ((rv b).drop (b.size-nb))->0<nb->nb<=b.size->b.toList[nb-1]?=some x->(∀y∈(rv a).drop (a.size-na),rk y<=rk x) ->
   Mg (rn rk) (rv a++rv b) (out.push x).toList ((rv a).drop (a.size-na)) ((rv b).drop (b.size-(nb-1))):=λ{out na nb x} m h1 h2 lx hle=>by
  have:=m.pb uB (yg h1 h2 lx) λy hy=>by change -_ <= -_;have:=hle y hy;omega
  rw[qK0,sb1 h1 h2];show this
 have m0:Mg (rn rk) (rv a++rv b) #[y0].toList ((rv a).drop (a.size-(a.size-1))) ((rv b).drop (b.size-b.size)):=by
  have m:Mg (rn rk) (rv a++rv b) (#[]:Array Keyed).toList ((rv a).drop (a.size-a.size)) ((rv b).drop (b.size-b.size)):=⟨Zy,.nil,λx hx=>nomatch hx⟩;show a6 m bt (qB2 _) (qB2 _) b4 λy hy=>by
   rw[<- v8 (rk:=rk) b4];show hl y (qY0.mp (qJ8 hy))
 refine K5 (λc1=>wpS_pure (h _ (gallopOf st) (gM m0 ub c1))) λc1=>?_;by_cases c2:b.size=1
 .rw [qA2 (by simpa using c2)]
  show wpS_pure (h _ (gallopOf st) (gL m0 ua ub hf (qB2 _) c2))
 rw[qA4 (by simpa using c2)];refine wpS_bind (wpS_get ?_);have j0:Jh rk a b #[y0] (a.size-1) b.size:=⟨m0,ox,ox,ox,ox⟩;refine wpS_bind (wpS_mono (wpS_forRange (λx c I=>∃out na nb g g',c=(none,na,nb,out,g)/\I=gS st g'/\Jh rk a b out na nb/\na+nb+x<=a.size+b.size)
  (Q:=λc I=>∃a3 g,c.1=some a3/\I=gS st g/\Gd rk (a.toList++b.toList) a3.toList) ?step ?fin ⟨_,_,_,_,gallopOf st,rfl,rfl,j0,ox⟩) ?post)
 case fin=>
  rintro c I ⟨out,na,nb,g,g',rfl,rfl,j,hm⟩
  have:=j.ha
  omega
 case post=>
  rintro ⟨c1,c2⟩ I ⟨a3,g,e,rfl,hg⟩;cases e;show wpS_pure (h a3 g hg)
 case step=>
  intro x c I _ _ hI;refine qD (c:=c) (t:=I) hI λout na nb g g' jm=>?_;have j:=jm.1;have hm:=jm.2;clear hI jm c I;clear c1 c2 j0 m0;dsimp (zeta:=false) only;refine wpS_bind (wpS_mono (wpS_forRange (λy c I=>∃out na nb ac bc,c=(none,na,nb,out,ac,bc)/\I=gS st g'/\Jh rk a b out na nb/\na+nb+x+min y 1<=a.size+b.size)
   (Q:=λc I=>I=gS st g'/\((∃a3,c.1=some a3/\Gd rk (a.toList++b.toList) a3.toList)\/∃out na nb ac bc,c=(none,na,nb,out,ac,bc)/\Jh rk a b out na nb/\na+nb+x+1<=a.size+b.size)) ?istep ?ifin ⟨out,na,nb,0,0,rfl,rfl,j,ox⟩) ?ipost)
  case ifin=>
   rintro c I ⟨out,na,nb,ac,bc,rfl,rfl,j,hm⟩
   have:=j.ha
   show ⟨rfl,.inr ⟨_,_,_,_,_,rfl,j,ox⟩⟩
  case istep=>
   clear j hm;intro y c I _ _ hI;refine qD (c:=c) (t:=I) hI λout na nb ac bc jm=>?_;have j:=jm.1;have hm:=jm.2;clear hI jm c I;dsimp only;have a9:=j.ha;have ab:=j.hb;have a5:=j.la;have a4:=j.lb;refine P9 (a:=b) (i:=nb-1) ox λu hu eu lu=>?_;refine P9 (a:=a) (i:=na-1) ox λv hv ev lv=>?_;refine wpS_bind (o8 eu (wpS_bind (o8 ev (wpS_bind (fP hc (hb u hu) (ha v hv) hk ?_)))));dsimp only;refine S2 (λq=>?_) λq=>?_
   .skip
    refine wpS_bind (o8 ev ?_);have m:=a6 j.mg a9 a5 a4 lv λz hz=>by
     have:=bD ub a4 hz
     rw[v8 (rk:=rk) lu]at this;omega
    refine K5 (λc=>wpS_pure ⟨rfl,.inl ⟨_,rfl,gM m ub c⟩⟩) λc=>?_
    .skip
     have j2:Jh rk a b (out.push v) (na-1) nb:=⟨m,ox,ab,qA5 (qH8 _ _) a5,a4⟩
     split
     .show wpS_pure ⟨rfl,.inr ⟨_,_,_,_,_,rfl,j2,wI hm a9⟩⟩
     .show wpS_pure ⟨_,_,_,_,_,rfl,rfl,j2,ms1 hm a9⟩
   .skip
    refine wpS_bind (o8 eu ?_);have m:=a7 j.mg ox a4 lu λz hz=>by
     have:=bD ua a5 hz
     rw[v8 (rk:=rk) lv]at this;omega
    refine K5 (λc=>wpS_pure ⟨rfl,.inl ⟨_,rfl,gL m ua ub hf ox c⟩⟩) λc=>?_
    .skip
     have j2:Jh rk a b (out.push u) na (nb-1):=⟨m,a9,ox,a5,qA5 (qH8 _ _) a4⟩
     split
     .show wpS_pure ⟨rfl,.inr ⟨_,_,_,_,_,rfl,j2,EW hm (qP5 ab)⟩⟩
     .show wpS_pure ⟨_,_,_,_,_,rfl,rfl,j2,ms2 hm (qP5 ab)⟩
  case ipost=>
   clear j hm;intro c I hI;refine GO (c:=c) (t:=I) hI (λa3 _ hg=>wpS_pure ⟨a3,g',rfl,rfl,hg⟩) λout na nb ac bc jm=>?_;have j:=jm.1;have hm:=jm.2;clear hI jm c I;dsimp (zeta:=false) only;refine wpS_bind (wpS_lift (qR6 ⟨rfl,?_⟩));refine wpS_bind (wpS_mono (wpS_forRange (λy c I=>∃out na nb mg ac bc g,c=(none,na,nb,out,mg,ac,bc)/\I=gS st g/\Jh rk a b out na nb/\na+nb+x+1<=a.size+b.size)
    (Q:=λc I=>∃g,I=gS st g/\((∃a3,c.1=some a3/\Gd rk (a.toList++b.toList) a3.toList)\/∃out na nb mg ac bc,c=(none,na,nb,out,mg,ac,bc)/\Jh rk a b out na nb/\na+nb+x+1<=a.size+b.size)) ?gstep ?gfin ⟨out,na,nb,_,ac,bc,g',rfl,rfl,j,hm⟩) ?gpost)
   case gfin=>
    rintro c I ⟨out,na,nb,mg,ac,bc,g,rfl,rfl,j,hm⟩;show ⟨g,rfl,.inr ⟨_,_,_,_,_,_,rfl,j,hm⟩⟩
   case gpost=>
    clear j hm;intro c I hI;refine GP (c:=c) (t:=I) hI (λg a3 _ hg=>wpS_pure ⟨a3,g,rfl,rfl,hg⟩) λg out na nb mg ac bc jm=>?_;have j:=jm.1;have hm:=jm.2;clear hI jm c I
    try dsimp (zeta:=false) only
    show wpS_bind (wpS_modify (wpS_pure ⟨_,_,_,_,_,rfl,rfl,j,ox⟩))
   case gstep=>
    clear j hm;intro y c I _ _ hI;refine GR (c:=c) (t:=I) hI λout na nb mg ac bc g jm=>?_;have j:=jm.1;have hm:=jm.2;clear hI jm c I
    try dsimp (zeta:=false) only
    have a9:=j.ha;have ab:=j.hb;have a5:=j.la;have a4:=j.lb;refine P9 (a:=b) (i:=nb-1) ox λu hu eu lu=>?_
    extract_lets s0 o0 s1 i0 s2 i1 s3 m0 s4 a0 b0 ib1 jp mg1
    refine qW (jp:=jp) λc6=>?_;dsimp (zeta:=false) only [jp];clear jp;subst s0 o0 s1 i0 s2 i1 s3 m0 s4 a0 b0 ib1 mg1
    try dsimp (zeta:=false) only
    refine wpS_bind (wpS_modify ?_);refine wpS_bind (o8 eu (wpS_bind (N3 hc hk (hb u hu) (λi hi=>?ga) (λi j c0 hj=>dA ua ox ox) ox λk k1 k2 k3=>?_)))
    case ga=>
     refine P9 (a:=a) (i:=0+i) ox λv hv ev lv=>?_;show ⟨v,ha v hv,ev⟩
    try dsimp (zeta:=false) only
    simp only [qN9]at k2 k3
    extract_lets kc acnt jp2 a8 na1
    subst kc acnt a8 na1;have m1:Mg (rn rk) (rv a++rv b) (out++(a.extract k na).reverse).toList ((rv a).drop (a.size-k)) ((rv b).drop (b.size-nb)):=by
     rw[qF7,fX k1 a5]
     have:a.size-k=a.size-na+(na-k):=sb2 a5 k1
     rw[this];refine j.mg.ka uA λz hz y hy=>?_;rw[<- fX k1 a5]at hz;have hz:z∈(a.extract k na).toList:=by simpa using hz
     rw[show na=k+(na-k) from (qE0 k1).symm,aY]at hz;obtain ⟨i,hi,li⟩:=W2 hz;have h1:=k3 (k+i) (qE4 _ _) (qL1 hi);rw[v8 (rk:=rk) li]at h1;have h2:=bD ub a4 hy;rw[v8 (rk:=rk) lu]at h2;simp [bey]at h1
     change -_ <= -_;omega
    have b1:∀z∈(rv a).drop (a.size-k),rk z<=rk u:=λz hz=>by
     by_cases c:0<k
     .have h1:=k2 (k-1) (qJ1 c Zz);have h2:=bD ua (qA5 k1 a5) hz;simp [bey]at h1;omega
     .rw[qF0 (by simp;omega)]at hz;cases hz
    refine qY (λq=>?e1) (λ_ c=>wpS_pure ⟨_,rfl,.inl ⟨_,rfl,gM m1 ub (by simpa using c)⟩⟩) λq0=>?_
    case e1=>
     have k0:k=na:=Nat.le_antisymm k1 (Nat.le_of_sub_eq_zero (Nat.eq_zero_of_not_pos q));rw[k0,GB]
    have q1:0<k:=by
     by_cases kz:na-k>0
     .have:=q0 kz
      simp at this;omega
     .omega
    generalize out++(a.extract k na).reverse=a8 at m1 ⊢
    dsimp (zeta:=false) only [jp2];clear jp2;refine wpS_bind (o8 eu ?_)
    extract_lets out3
    have m2:=a7 m1 (qP5 ab) a4 lu b1;refine K5 (λc3=>wpS_pure ⟨_,rfl,.inl ⟨_,rfl,gL m2 ua ub hf ox c3⟩⟩) λc3=>?_;refine P9 (a:=a) (i:=k-1) (qD4 (Nat.sub_le_sub_right (qA5 k1 a5) 1) (qJ1 bt Zz)) λv hv ev lv=>?_;refine wpS_bind (o8 ev (wpS_bind (N3 hc hk (ha v hv) (λi hi=>?gb) (λi j c0 hj=>dA ub ox ox) ox λl l1 l2 l3=>?_)))
    case gb=>
     refine P9 (a:=b) (i:=0+i) ox λv hv ev lv=>?_;show ⟨v,hb v hv,ev⟩
    try dsimp (zeta:=false) only
    simp only [qN9]at l2 l3
    extract_lets lc bcnt jp3 out4 nb4
    subst out3 lc bcnt out4 nb4;have m3:Mg (rn rk) (rv a++rv b) (a8.push u++(b.extract l (nb-1)).reverse).toList ((rv a).drop (a.size-k)) ((rv b).drop (b.size-l)):=by
     rw[qF7,fX l1 (qA5 (qH8 _ _) a4)]
     have:b.size-l=b.size-(nb-1)+(nb-1-l):=sb2 (qA5 (qH8 _ _) a4) l1
     rw[this];refine m2.kb uB λz hz y hy=>?_;rw[<- fX l1 (qA5 (qH8 _ _) a4)]at hz;have hz:z∈(b.extract l (nb-1)).toList:=by simpa using hz
     rw[show nb-1=l+(nb-1-l) from (qE0 l1).symm,aY]at hz;obtain ⟨i,hi,li⟩:=W2 hz;have h1:=l3 (l+i) (qE4 _ _) (qL1 hi);rw[v8 (rk:=rk) li]at h1;have h2:=bD ua (qA5 k1 a5) hy;rw[v8 (rk:=rk) lv]at h2;simp [bey]at h1
     change -_ <= -_;omega
    have b2:∀z∈(rv b).drop (b.size-l),rk z<=rk v:=λz hz=>by
     by_cases c:0<l
     .have h1:=l2 (l-1) (qJ1 c Zz);have h2:=bD ub (qA5 l1 (qA5 (qH8 _ _) a4)) hz;simp [bey]at h1;omega
     .rw[qF0 (by simp;omega)]at hz;cases hz
    refine qX (λq=>?e2) (λ_ c=>wpS_pure ⟨_,rfl,.inl ⟨_,rfl,gL m3 ua ub hf ox (by simpa using c)⟩⟩) (λ_ _ c=>wpS_pure ⟨_,rfl,.inl ⟨_,rfl,FT m3 ua (by simpa using c)⟩⟩) λq0=>?_
    case e2=>
     have k0:l=nb-1:=Nat.le_antisymm l1 (Nat.le_of_sub_eq_zero (Nat.eq_zero_of_not_pos q));rw[k0,GB]
    have q2:1<l:=by
     by_cases kz:nb-1-l>0
     .have:=q0 kz
      simp at this;omega
     .omega
    generalize a8.push u++(b.extract l (nb-1)).reverse=b3 at m3 ⊢
    dsimp only [jp3];clear jp3;refine wpS_bind (o8 ev ?_)
    try dsimp only
    have ba:=qA5 k1 a5;have bq:=qA5 l1 (qA5 (qH8 _ _) a4);have m4:=a6 m3 q1 ba bq lv b2;refine K5 (λc4=>wpS_pure ⟨_,rfl,.inl ⟨_,rfl,gM m4 ub c4⟩⟩) λc4=>?_;have j4:Jh rk a b (b3.push v) (k-1) l:=⟨m4,ox,q2,qA5 (qH8 _ _) ba,bq⟩;have b5:k-1+l+x+1<=a.size+b.size:=qA5 (qH2 (qU5 (Nat.add_le_add (qA5 (qH8 _ _) k1) (qA5 l1 (qH8 _ _))) x)) hm
    split
    .show wpS_pure ⟨_,rfl,.inr ⟨_,_,_,_,_,_,rfl,j4,b5⟩⟩
    .show wpS_pure ⟨_,_,_,_,_,_,_,rfl,rfl,j4,b5⟩
end
def nK (sa:Nat):∀(ms:List Keyed) (j:Nat) (arr:Array Keyed),sa+j+ms.length<=arr.size->((ms.zipIdx j).foldl (λa x=>a.setIfInBounds (sa+x.2) x.1) arr).toList=arr.toList.take (sa+j)++ms++arr.toList.drop (sa+j+ms.length)
 | [],j,arr,_=>Zy
 | m::ms,j,arr,h=>by
  rw[qX7,List.foldl_cons];rw[qD1]at h;have I:sa+j<arr.toList.length:=by simp;omega
  rw[nK sa ms (j+1) _ (by simp;omega),qS3];have e1:(arr.toList.set (sa+j) m).take (sa+(j+1))=arr.toList.take (sa+j) ++ [m]:=by
   rw[<- qJ2,qL9,List.take_set_of_le (qB2 _),qK4 I];rfl
  rw[e1,List.drop_set_of_lt ox,qD1,show sa+(j+1)+ms.length=sa+j+(ms.length+1) by omega];simp
abbrev rn_ (L:List Keyed)(i n:Nat):List Keyed:=(L.drop i).take n
def GN:L=L.take i++(rn_ L i n++rn_ L (i+n) m)++L.drop (i+n+m):=by
 have e1:L.drop i=rn_ L i n++L.drop (i+n):=bf L i n;have e2:L.drop (i+n)=rn_ L (i+n) m++L.drop (i+n+m):=bf L (i+n) m;rw[qF3,qF3,<- e2,<- e1,qJ4]
def dE (h:j<n):(rn_ L i n)[j]?=L[i+j]?:=by
 rw[qH9 h,qG4]
def yh (hu:upL rk (rn_ a.toList i n)) (hn:i+n<=a.size):∀u v,u<=v->v<n->kk rk a (i+u)<=kk rk a (i+v):=λu v a3 hv=>by
 have h1:u<(rn_ a.toList i n).length:=by simp;omega
 obtain ⟨x,hx,ex,I⟩:=Z6 (a:=a) (i:=i+u) ox;obtain ⟨y,hy,ey,ly⟩:=Z6 (a:=a) (i:=i+v) ox;rw[ag ex,ag ey];refine kI hu (i:=u) (by rw[dE ox];show I) y (qS0.mpr ⟨v-u,?_⟩);rw[qG4,show u+(v-u)=v by omega,dE hv];show ly
def kZ (L:List Keyed) (i n k:Nat) (h:k<=n):rn_ L i n=rn_ L i k++rn_ L (i+k) (n-k):=by
 unfold rn_;rw[show n=k+(n-k) from (qE0 h).symm,List.take_add,xA8,qY8]
def yX {st:σ}(h:Q ⟨⟩ x):wpS M A E s (set x:StateT σ Sem PUnit) Q st:=by
 unfold wpS;rw[StateT.run_set];show qP9 ⟨rfl,h⟩
abbrev sS (κ:SortKind)(arr:Array Keyed)(pd:Array (Nat×Nat×Nat))(g:Nat):SortSt:=SortSt.mk' κ arr pd g none
def pi {pd:Array (Nat×Nat×Nat)}{nb:Nat}(hc:Cmp prog w A s κ rk a₀) (a5:∀x∈arr.toList,x∈a₀) (e1:pd[i]?=some (sa,na,pw)) (e2:pd[i+1]?=some (sb,nb,pw2)) (a6:sb=sa+na) (hz:sb+nb<=arr.size) (a9:0<na) (b5:0<nb) (ux:upL rk (rn_ arr.toList sa na)) (uy:upL rk (rn_ arr.toList sb nb)) (h:∀M g,Gd rk (rn_ arr.toList sa na++rn_ arr.toList sb nb) M->Q true (sS κ (arr.toList.take sa++M++arr.toList.drop (sb+nb)).toArray ((pd.setIfInBounds i (sa,na+nb,pw)).eraseIdxIfInBounds (i+1)) g)):
  wpS (model prog w) A E s (mergeAt' i) Q (sS κ arr pd g0):=by
 refine wpS_bind (wpS_get ?_);dsimp only;rw[e1,e2];dsimp only;refine wpS_bind (yX ?_);obtain ⟨u,hu,eu,lu⟩:=Z6 (a:=arr) (i:=sb) ox;have kx:=yh ux ox;have ky:=yh uy ox;have ab:∀g,upL rk (rn_ arr.toList sa na++rn_ arr.toList sb nb)->Q true (sS κ arr ((pd.setIfInBounds i (sa,na+nb,pw)).eraseIdxIfInBounds (i+1)) g):=λg hu=>by
  have:=h _ g ⟨List.Perm.refl _,hu⟩
  have e:=GN (L:=arr.toList) (i:=sa) (n:=na) (m:=nb);rw[<- a6]at e;rw[<- e]at this;show this
 have mx:∀{x:Keyed}{i n:Nat},x∈rn_ arr.toList i n->∃j,j<n/\arr.toList[i+j]?=some x:=λh=>W2 h;have a3:∀{p q:List Keyed},upL rk p->upL rk q->(∀x∈p,∀y∈q,rk x<=rk y)->upL rk (p++q):=λa b c=>qE6.mpr ⟨a,b,c⟩;refine wpS_bind (o8 eu (wpS_bind (N3 hc rfl (a5 u hu) (λi hi=>?ga) kx a9 λk k1 k2 k3=>?_)))
 case ga=>
  obtain ⟨v,hv,ev,lv⟩:=Z6 (a:=arr) (i:=sa+i) ox;show ⟨v,a5 v hv,ev⟩
 dsimp only;have a4:∀y∈rn_ arr.toList sb nb,rk u<=rk y:=λy hy=>by
  obtain ⟨j,hj,lj⟩:=mx hy
  have:=ky 0 j ox hj
  rw[qP0,v8 (rk:=rk) lu,v8 (rk:=rk) lj]at this;show this
 by_cases c1:na-k=0
 .rw [qA2 (by simpa using c1)]
  refine wpS_pure (ab _ (a3 ux uy λx hx y hy=>?_));obtain ⟨j,hj,lj⟩:=mx hx;have h1:=k2 j ox;rw[v8 (rk:=rk) lj]at h1;have h2:=a4 y hy;simp [bey]at h1;omega
 rw[qA4 (by simpa using c1)];rw[show sa+k+(na-k)-1=sa+na-1 by rw[qJ2,qE0 k1]];obtain ⟨v,hv,ev,lv⟩:=Z6 (a:=arr) (i:=sa+na-1) (qB3 (qJ1 (qB3 a9 (Nat.le_add_left _ _)) Zz) (qA5 (qK7 a6.symm) (qA5 (qE4 _ _) hz)));refine wpS_bind (o8 ev (wpS_bind (N3 hc rfl (a5 v hv) (λi hi=>?gb) ky ox λl l1 l2 l3=>?_)))
 case gb=>
  obtain ⟨v,hv,ev,lv⟩:=Z6 (a:=arr) (i:=sb+i) ox;show ⟨v,a5 v hv,ev⟩
 dsimp only;have xlast:∀x∈rn_ arr.toList sa na,rk x<=rk v:=λx hx=>by
  obtain ⟨j,hj,lj⟩:=mx hx
  have:=kx j (na-1) (qL4 hj) (qJ1 a9 Zz)
  rw[sb5 a9,v8 (rk:=rk) lv,v8 (rk:=rk) lj]at this;show this
 by_cases c2:l=0
 .rw [qA2 (by simpa using c2)]
  refine wpS_pure (ab _ (a3 ux uy λx hx y hy=>?_));obtain ⟨j,hj,lj⟩:=mx hy;have h1:=l3 j ox ox;rw[v8 (rk:=rk) lj]at h1;have h2:=xlast x hx;simp [bey]at h1;omega
 rw[qA4 (by simpa using c2)];have sx:=kZ arr.toList sa na k k1;have sy:=kZ arr.toList sb nb l l1;have ex:(arr.extract (sa+k) sb).toList=rn_ arr.toList (sa+k) (na-k):=by
  rw[show sb=sa+k+(na-k) by rw[qJ2,qE0 k1];show a6,aY]
 have ey:(arr.extract sb (sb+l)).toList=rn_ arr.toList sb l:=aY _ _ _;have zx:(arr.extract (sa+k) sb).size=na-k:=by rw[Array.size_extract,qO5 (qA5 (qE4 _ _) hz),a6,Nat.add_sub_add_left]
 have zy:(arr.extract sb (sb+l)).size=l:=by rw[Array.size_extract,qO5 (qA5 (qE9 l1 sb) hz),qY8]
 rw[sx]at ux xlast;rw[sy]at uy a4;have a8:=(qE6.mp ux);have a7:=(qE6.mp uy);have b3:kk rk (arr.extract (sa+k) sb) ((arr.extract (sa+k) sb).size-1)=rk v:=by
  refine v8 ?_;rw[ex,zx,dE (qJ1 (qP1 c1) Zz),sb5 (qP1 c1),qJ2,qE0 k1];show lv
 have b4:kk rk (arr.extract sb (sb+l)) 0=rk u:=by
  refine v8 ?_;rw[ey,dE (qP1 c2)];show lu
 have p1:∀x∈(arr.extract (sa+k) sb).toList,kk rk (arr.extract sb (sb+l)) 0<=rk x:=λx hx=>by
  rw[b4];rw[ex]at hx;obtain ⟨j,hj,lj⟩:=mx hx;have h1:=k3 (k+j) ox ox;rw[<- qJ2,v8 (rk:=rk) lj]at h1;simp [bey]at h1;omega
 have p2:∀x∈(arr.extract sb (sb+l)).toList,rk x<=kk rk (arr.extract (sa+k) sb) ((arr.extract (sa+k) sb).size-1):=λx hx=>by
  rw[b3];rw[ey]at hx;obtain ⟨j,hj,lj⟩:=mx hx;have h1:=l2 j hj;rw[v8 (rk:=rk) lj]at h1;simp [bey]at h1;omega
 have i1:∀x∈(arr.extract (sa+k) sb).toList,x∈a₀:=λx hx=>by
  rw[ex]at hx;show a5 x (qJ8 (List.mem_of_mem_take hx))
 have i2:∀x∈(arr.extract sb (sb+l)).toList,x∈a₀:=λx hx=>by
  rw[ey]at hx;show a5 x (qJ8 (List.mem_of_mem_take hx))
 have fin:∀(I:Array Keyed) (g:Nat),Gd rk ((arr.extract (sa+k) sb).toList++(arr.extract sb (sb+l)).toList) I.toList->Q true (sS κ (I.toList.zipIdx.foldl (λa x=>a.setIfInBounds (sa+k+x.2) x.1) arr) ((pd.setIfInBounds i (sa,na+nb,pw)).eraseIdxIfInBounds (i+1)) g):=λI g hg=>by
  have hlen:I.toList.length=(na-k)+l:=by
   rw[hg.1.length_eq,qC3,qE5,qE5,zx,zy]
  have e:=nK (sa+k) I.toList 0 arr ox;rw[hlen,qP0]at e;have e':I.toList.zipIdx.foldl (λa x=>a.setIfInBounds (sa+k+x.2) x.1) arr=(arr.toList.take sa++(rn_ arr.toList sa k++I.toList++rn_ arr.toList (sb+l) (nb-l))++arr.toList.drop (sb+nb)).toArray:=by
   apply qY1.mp;rw[e];have t1:arr.toList.take (sa+k)=arr.toList.take sa++rn_ arr.toList sa k:=List.take_add;have t2:arr.toList.drop (sb+l)=rn_ arr.toList (sb+l) (nb-l)++arr.toList.drop (sb+l+(nb-l)):=bf _ _ _;rw[t1,show sa+k+(na-k+l)=sb+l by rw[<- qJ2,qJ2 sa,qE0 k1,a6],t2,show sb+l+(nb-l)=sb+nb by rw[qJ2,qE0 l1]];simp
  rw[e'];refine h _ g ⟨?_,?_⟩
  .rw [sx,sy]
   have:=hg.1
   rw[ex,ey]at this;rw[qF3,qF3 (rn_ arr.toList sa k)];refine qU0 _ ?_;rw[<- qF3];show List.Perm.append_right _ this
  .have hm:∀x∈I.toList,x∈rn_ arr.toList (sa+k) (na-k)\/x∈rn_ arr.toList sb l:=λx hx=>by
    have:=hg.1.mem_iff.mp hx
    rw[ex,ey]at this;show qC8.mp this
   refine a3 (a3 a8.1 hg.2 λx hx y hy=>?_) a7.2.1 λx hx y hy=>?_
   .rcases hm y hy with q|q
    .show a8.2.2 x hx y q
    .obtain ⟨j,hj,lj⟩:=mx hx;have h1:=k2 j hj;rw[v8 (rk:=rk) lj]at h1;have h2:=a4 y (qE1 _ q);simp [bey]at h1;omega
   .have b0:∀z,z∈rn_ arr.toList sa k++rn_ arr.toList (sa+k) (na-k)->rk z<=rk y:=λz hz=>by
     obtain ⟨j,hj,lj⟩:=mx hy;have h1:=l3 (l+j) (qE4 _ _) (qL1 hj);rw[<- qJ2,v8 (rk:=rk) lj]at h1;have h2:=xlast z hz;simp [bey]at h1;omega
    rcases qC8.mp hx with q|q
    .show b0 x (qE1 _ q)
    .rcases hm x q with r|r
     .show b0 x (qE3 _ r)
     .show a7.2.2 x r y hy
 by_cases c3:na-k<=l
 .rw [qA2 c3]
  refine wpS_bind (pc hc rfl i1 i2 (by rw[ex];show a8.2.1) (by rw[ey];show a7.1) ox ox p1 p2 λI g hg=>?_);refine wpS_bind (wpS_modify (wpS_bind (wpS_get (wpS_pure (fin I g hg)))))
 .rw [qA4 c3]
  refine wpS_bind (pf hc rfl i1 i2 (by rw[ex];show a8.2.1) (by rw[ey];show a7.1) ox ox p1 p2 λI g hg=>?_);refine wpS_bind (wpS_modify (wpS_bind (wpS_get (wpS_pure (fin I g hg)))))
section
variable {prog:Program}{w:World}{A:Around}{E:Vv}{s:Shared}{a₀:Array Keyed}{κ:SortKind}{rk:Keyed->Int}{arr:Array Keyed}{pd:Array (Nat×Nat×Nat)}{g lo:Nat}
def mE (I:j<=xs.size) (k:Nat):kk rk (mirror xs i j ((j-i)/2)) k=if i<=k/\k<j then kk rk xs (i+j-1-k) else kk rk xs k:=by
 have e:=getElem?_mirror_all (i:=i) I k
 split
 .rename_i h;rw[qA2 h]at e;show gI e
 .rename_i h;rw[qA4 h]at e;show gI e
def iO (hj:j<=xs.size) (I:∀k,i<=k->k<j->kk rk xs k=kk rk xs (j-1)) (k:Nat):kk rk (mirror xs i j ((j-i)/2)) k=kk rk xs k:=by
 rw[mE hj];by_cases c:i<=k/\k<j
 .rw[qA2 c,I _ (EZ c).1 (EZ c).2,I k c.1 c.2]
 .rw[qA4 c]
def Fe (hs:src<xs.size) (hd:d<=src) (k:Nat):kk rk (bubble xs src d) k=if k=src-d then kk rk xs src else if src-d<k/\k<=src then kk rk xs (k-1) else kk rk xs k:=by
 have e:=getElem?_bubble hs d hd k
 split
 .rename_i h;rw[qA2 h]at e;show gI e
 .rename_i h
  rw[qA4 h]at e
  split
  .rename_i h2;rw[qA2 h2]at e;show gI e
  .rename_i h2;rw[qA4 h2]at e;show gI e
structure Rl (lo:Nat) (arr arr':Array Keyed):Prop where
 perm:arr'.toList.Perm arr.toList
 same:∀k,k<lo->arr'[k]?=arr[k]?
def Rl.refl:Rl lo arr arr:=⟨.refl _,λ_ _=>rfl⟩
def Rl.trans (I:Rl lo a b)(h2:Rl lo b c):Rl lo a c:=⟨h2.perm.trans I.perm,λk hk=>(h2.same k hk).trans (I.same k hk)⟩
def Rl.size (h:Rl lo a b):b.size=a.size:=by
 have:=h.perm.length_eq
 simpa using this
def Rl.mem (h:Rl lo a b)(I:∀x∈a.toList,x∈a₀):∀x∈b.toList,x∈a₀:=λx hx=>I x (h.perm.mem_iff.mp hx)
def Rl.mir (hi:lo<=i) (I:j<=arr.size):Rl lo arr (mirror arr i j ((j-i)/2)):=⟨qX0.mp (mirror_perm _ _ _ _),λk hk=>by
 rw[getElem?_mirror_all I,qA4 ox]⟩
def Rl.bub (hs:src<arr.size) (hd:lo+d<=src):Rl lo arr (bubble arr src d):=⟨qX0.mp (bubble_perm _ _ _),λk hk=>by
 rw[getElem?_bubble hs d ox,qA4 ox,qA4 ox]⟩
def upA (rk:Keyed->Int)(xs:Array Keyed)(lo m:Nat):Prop:=∀i j,i<=j->j<m->kk rk xs (lo+i)<=kk rk xs (lo+j)
def dnA (rk:Keyed->Int)(xs:Array Keyed)(lo m:Nat):Prop:=∀i j,i<=j->j<m->kk rk xs (lo+j)<=kk rk xs (lo+i)
def V9 (hc:Cmp prog w A s κ rk a₀) (I:∀x∈arr.toList,x∈a₀) (hi:i<arr.size) (hj:j<arr.size) (h:Q (some (decide (kk rk arr i<kk rk arr j))) (sS κ arr pd g)):wpS (model prog w) A E s (ltAt' i j) Q (sS κ arr pd g):=by
 obtain ⟨x,hx,ex,lx⟩:=Z6 hi;obtain ⟨y,hy,ey,ly⟩:=Z6 hj;rw[ag ex,ag ey]at h;rw[ltAt'_eq];show wpS_bind (wpS_get (wpS_bind (o8 ex (wpS_bind (o8 ey (fP hc (I x hx) (I y hy) rfl h))))))
def rz (h:upA rk arr lo m) (hm:¬ kk rk arr (lo+m)<kk rk arr (lo+m-1)) (h0:0<m):upA rk arr lo (m+1):=λi j I hj=>by
 by_cases a4:j<m
 .show h i j I a4
 .have a5:j=m:=ox;subst a5;by_cases a3:i=j
  .subst a3;show qH0 _
  .have:=h i (j-1) (qL4 (qW5 I a3)) (qJ1 h0 Zz)
   rw[sb5 h0]at this;show Int.le_trans this (xB7.mp hm)
def vk (hc:Cmp prog w A s κ rk a₀) (b5:∀x∈arr.toList,x∈a₀) (h1:1<=nrem) (hz:lo+nrem<=arr.size) (h:∀m arr',Rl lo arr arr'->1<=m->m<=nrem->upA rk arr' lo m->Q (some m) (sS κ arr' pd g)):wpS (model prog w) A E s (countRun' lo nrem) Q (sS κ arr pd g):=by
 refine wpS_bind (wpS_mono (wpS_forRange (λx c a3=>a3=sS κ arr pd g/\c=(none,x)/\upA rk arr lo x)
  (Q:=λc a3=>a3=sS κ arr pd g/\∃n,c=(none,n)/\1<=n/\n<=nrem/\upA rk arr lo n/\(n=nrem\/kk rk arr (lo+n)<kk rk arr (lo+n-1))) ?step ?fin ⟨rfl,rfl,λi j a b=>by rw[show i=j by omega];show qH0 _⟩) ?post)
 case fin=>
  rintro c a3 ⟨rfl,rfl,hu⟩;rw[show max 1 nrem=nrem by omega]at hu ⊢;show ⟨rfl,nrem,rfl,h1,qB2 _,hu,.inl rfl⟩
 case step=>
  rintro x c a3 b4 hx ⟨rfl,rfl,hu⟩;dsimp only;refine wpS_bind (V9 hc b5 (qB3 (Nat.add_lt_add_left hx lo) hz) (sb6 b4 (qA5 (qE9 (qI8 hx) lo) hz)) ?_);refine S2 (λq=>?_) λq=>?_
  .skip
   show wpS_pure ⟨rfl,x,rfl,b4,ox,hu,.inr q⟩
  .skip
   show wpS_pure ⟨rfl,rfl,rz hu q ox⟩
 case post=>
  intro c a3 hI;refine cpsA (c:=c) (t:=a3) hI λn jn=>?_;have n1:=jn.1;have n2:=jn.2.1;have hu:=jn.2.2.1;have c6:=jn.2.2.2;clear hI jn c a3;dsimp only;refine K5 (λcn=>wpS_pure (h n arr .refl n1 n2 hu)) λcn=>?_;have bt:=c6.resolve_left cn;refine qV (λa3=>∃a7,a3=sS κ a7 pd g/\Rl lo arr a7/\dnA rk a7 lo (n+1)) ?key (λcg key=>?pos) (λcg=>⟨arr,rfl,.refl,?neg⟩)
  case pos=>
   refine wpS_bind (V9 hc b5 ox ox ?_);refine S2 (λq=>wpS_pure (h n arr .refl n1 n2 hu)) λq=>?_;have ab:∀k,lo<=k->k<lo+n->kk rk arr k=kk rk arr (lo+n-1):=λk a b=>by
    have a1:=hu 0 (k-lo) (qC6 _) (qL6 a b);have a2:=hu (k-lo) (n-1) (qL4 (qL6 a b)) (qJ1 n1 Zz);rw[qE0 a]at a1 a2;rw[sb5 n1]at a2;rw[qP0]at a1;omega
   refine wpS_bind (wpS_modify ?_);have kE:=iO (rk:=rk) (xs:=arr) (i:=lo) (j:=lo+n) ox ab;refine key _ ⟨mirror arr lo (lo+n) ((lo+n-lo)/2),rfl,Rl.mir (qB2 _) ox,λi j a6 hj=>?_⟩;rw[kE,kE];by_cases cj:j<n
   .rw[ab (lo+i) ox ox,ab (lo+j) ox ox];show qH0 _
   .have b0:j=n:=ox;subst b0;by_cases a9:i=j
    .subst a9;show qH0 _
    .rw[ab (lo+i) ox ox];show Int.le_of_lt bt
  case neg=>
   intro i j a6 hj;by_cases a9:i=j
   .subst a9;show qH0 _
   .have c3:i=0:=ox;have c5:j=n:=ox;subst c3;subst c5;rw[show lo+j-1=lo+0 by omega]at bt;show Int.le_of_lt bt
  intro a3 hI;refine GQ (t:=a3) hI λa7 jn=>?_;have r1:=jn.1;have d1:=jn.2;clear hI jn a3;refine wpS_bind (wpS_lift (qR6 ⟨rfl,?_⟩));have z1:a7.size=arr.size:=r1.size;refine wpS_bind (wpS_mono (wpS_forRange (λx c a3=>∃I a4,a3=sS κ I pd g/\c=(none,x,a4)/\Rl lo arr I/\dnA rk I lo x/\a4+1<=x/\∀i,x-(a4+1)<=i->i<x->kk rk I (lo+i)=kk rk I (lo+x-1))
   (Q:=λc a3=>∃I m a4,a3=sS κ I pd g/\c=(none,m,a4)/\n+1<=m/\m<=nrem/\Rl lo arr I/\dnA rk I lo m/\a4+1<=m/\∀i,m-(a4+1)<=i->i<m->kk rk I (lo+i)=kk rk I (lo+m-1)) ?dstep ?dfin ⟨a7,0,rfl,rfl,r1,d1,ox,λi a b=>by congr 1;omega⟩) ?dpost)
  case dfin=>
   rintro c a3 ⟨I,a4,rfl,rfl,r2,d2,q2,e2⟩;rw[show max (n+1) nrem=nrem by omega]at d2 q2 e2 ⊢;show ⟨I,nrem,a4,rfl,rfl,ox,qB2 _,r2,d2,q2,e2⟩
  case dstep=>
   intro x c a3 b4 hx hI;refine cpsC (c:=c) (t:=a3) hI λI a4 jn=>?_;have r2:=jn.1;have d2:=jn.2.1;have q2:=jn.2.2.1;have e2:=jn.2.2.2;clear hI jn c a3;dsimp only;have z2:=r2.size;have ba:=r2.mem b5;have c0:∀k,lo+x-(a4+1)<=k->k<lo+x->kk rk I k=kk rk I (lo+x-1):=λk a b=>by
    have:=e2 (k-lo) (sb3 q2 a) (qL6 (qA5 (by rw[qI5 q2];show qE4 _ _) a) b)
    rw[sb4 q2 a]at this;show this
   refine wpS_bind (V9 hc ba ox ox ?_);refine S2 (λq=>?_) λq=>?_
   .skip
    have b3:∀xs:Array Keyed,(∀k,kk rk xs k=kk rk I k)->dnA rk xs lo (x+1):=by
     intro xs hk i j a6 hj;rw[hk,hk];by_cases bq:j<x
     .show d2 i j a6 bq
     .have b0:j=x:=ox;subst b0;by_cases a9:i=j
      .subst a9;show qH0 _
      .have:=d2 i (j-1) ox ox
       rw[sb5 ox]at this;omega
    by_cases bc:a4>0
    .rw [qA2 bc]
     refine wpS_bind (wpS_modify (wpS_pure ⟨mirror I (lo+x-(a4+1)) (lo+x) ((lo+x-(lo+x-(a4+1)))/2),0,rfl,rfl,r2.trans (Rl.mir (arr:=I) ox ox),b3 _ (iO (xs:=I) ox c0),ox,λi a b=>by congr 1;omega⟩))
    .rw [qA4 bc]
     show wpS_pure ⟨_,0,rfl,rfl,r2,b3 _ (λ_=>rfl),ox,λi a b=>by congr 1;omega⟩
   .skip
    refine wpS_bind (V9 hc ba ox ox ?_);refine S2 (λq'=>?_) λq'=>?_
    .skip
     show wpS_pure ⟨I,x,a4,rfl,rfl,b4,ox,r2,d2,q2,e2⟩
    .skip
     have c1:kk rk I (lo+x)=kk rk I (lo+x-1):=ox;refine wpS_pure ⟨I,a4+1,rfl,rfl,r2,λi j a6 hj=>?_,ox,λi a b=>?_⟩
     .by_cases bq:j<x
      .show d2 i j a6 bq
      .have b0:j=x:=ox;subst b0;by_cases a9:i=j
       .subst a9;show qH0 _
       .have:=d2 i (j-1) ox ox
        rw[sb5 ox]at this;omega
     .rw [show lo+(x+1)-1=lo+x by omega]
      by_cases c4:i=x
      .subst c4;rfl
      .rw[c1];show e2 i ox ox
  case dpost=>
   intro c a3 hI;refine cpsD (c:=c) (t:=a3) hI λI m a4 jn=>?_;have m1:=jn.1;have m2:=jn.2.1;have r2:=jn.2.2.1;have d2:=jn.2.2.2.1;have q2:=jn.2.2.2.2.1;have e2:=jn.2.2.2.2.2;clear hI jn c a3;dsimp only;have z2:=r2.size;have c0:∀k,lo+m-(a4+1)<=k->k<lo+m->kk rk I k=kk rk I (lo+m-1):=λk a b=>by
    have:=e2 (k-lo) (sb3 q2 a) (qL6 (qA5 (by rw[qI5 q2];show qE4 _ _) a) b)
    rw[sb4 q2 a]at this;show this
   refine qV (λa3=>∃a5,a3=sS κ a5 pd g/\Rl lo arr a5/\dnA rk a5 lo m) ?key2 (λ_ key=>?pos2) (λ_=>⟨I,rfl,r2,d2⟩)
   case pos2=>
    refine wpS_bind (wpS_modify ?_);have kE:=iO (rk:=rk) (xs:=I) (i:=lo+m-(a4+1)) (j:=lo+m) ox c0;show key _ ⟨mirror I (lo+m-(a4+1)) (lo+m) ((lo+m-(lo+m-(a4+1)))/2),rfl,r2.trans (Rl.mir (arr:=I) ox ox),λi j a6 hj=>by rw[kE,kE];show d2 i j a6 hj⟩
   intro a3 hI;refine GQ (t:=a3) hI λa5 jn=>?_;have r3:=jn.1;have d3:=jn.2;clear hI jn a3;have z3:=r3.size;refine wpS_bind (wpS_modify ?_);have r4:Rl lo arr (mirror a5 lo (lo+m) ((lo+m-lo)/2)):=r3.trans (Rl.mir (qB2 _) ox);have u4:upA rk (mirror a5 lo (lo+m) ((lo+m-lo)/2)) lo m:=λi j a6 hj=>by
    rw[mE ox,mE ox,qA2 ox,qA2 ox]
    have:=d3 (m-1-j) (m-1-i) (qV2 a6 _) (qD4 (qH8 _ _) (qJ1 (qD4 (qC6 j) hj) Zz))
    rw[mr1 (qD4 a6 hj),mr1 hj];show this
   change wpS _ _ _ _ _ _ (sS κ (mirror a5 lo (lo+m) ((lo+m-lo)/2)) pd g);generalize mirror a5 lo (lo+m) ((lo+m-lo)/2)=a8 at r4 u4 ⊢
   have z4:=r4.size;have c2:=r4.mem b5;refine wpS_bind (wpS_mono (wpS_forRange (λx c a3=>a3=sS κ a8 pd g/\c=(none,x)/\upA rk a8 lo x)
    (Q:=λc a3=>a3=sS κ a8 pd g/\∃n,c=(none,n)/\1<=n/\n<=nrem/\upA rk a8 lo n) ?ustep ?ufin ⟨rfl,rfl,u4⟩) ?upost)
   case ufin=>
    rintro c a3 ⟨rfl,rfl,hu⟩;rw[show max m nrem=nrem by omega]at hu ⊢;show ⟨rfl,nrem,rfl,h1,qB2 _,hu⟩
   case ustep=>
    rintro x c a3 b4 hx ⟨rfl,rfl,hu⟩;dsimp only;refine wpS_bind (V9 hc c2 ox ox ?_);refine S2 (λq=>?_) λq=>?_
    .skip
     show wpS_pure ⟨rfl,x,rfl,ox,ox,hu⟩
    .skip
     show wpS_pure ⟨rfl,rfl,rz hu q ox⟩
   case upost=>
    rintro c a3 ⟨rfl,k,rfl,k1,k2,hu⟩;show wpS_pure (h k a8 r4 k1 k2 hu)
def Ck (hc:Cmp prog w A s κ rk a₀) (ba:∀x∈arr.toList,x∈a₀) (hok:ok<=n) (hz:lo+n<=arr.size) (hu:upA rk arr lo ok) (h:∀arr',Rl lo arr arr'->upA rk arr' lo n->Q true (sS κ arr' pd g)):wpS (model prog w) A E s (binarySort' lo n ok) Q (sS κ arr pd g):=by
 refine wpS_bind (wpS_mono (wpS_forRange (λk c a3=>∃I,a3=sS κ I pd g/\c=(none,())/\Rl lo arr I/\upA rk I lo (min k n))
  (Q:=λc a3=>∃I,a3=sS κ I pd g/\c=(none,())/\Rl lo arr I/\upA rk I lo n) ?step ?fin ⟨arr,rfl,rfl,.refl,?init⟩) ?post)
 case init=>
  intro i j b4 hj;by_cases h1:ok=0
  .rw[show i=j by omega];show qH0 _
  .show hu i j b4 ox
 case post=>
  rintro c a3 ⟨I,rfl,rfl,r1,u1⟩;show wpS_pure (h I r1 u1)
 case fin=>
  rintro c a3 ⟨I,rfl,rfl,r1,u1⟩;rw[show min (max (max ok 1) n) n=n by omega]at u1;show ⟨I,rfl,rfl,r1,u1⟩
 case step=>
  intro k c a3 bc hk hI;refine IX (c:=c) (t:=a3) hI λI jn=>?_;have r1:=jn.1;have u1:=jn.2;clear hI jn c a3;rw[show min k n=k by omega]at u1;have z1:=r1.size;have ab:=r1.mem ba;dsimp only;refine wpS_bind (wpS_mono (wpS_forRange (λx c a3=>a3=sS κ I pd g/\∃l r,c=(none,l,r)/\l<=r/\r<=k/\r-l<=k-x/\(∀i,i<l->kk rk I (lo+i)<=kk rk I (lo+k))/\(∀i,r<=i->i<k->kk rk I (lo+k)<kk rk I (lo+i)))
   (Q:=λc a3=>a3=sS κ I pd g/\∃l r,c=(none,l,r)/\l<=k/\(∀i,i<l->kk rk I (lo+i)<=kk rk I (lo+k))/\(∀i,l<=i->i<k->kk rk I (lo+k)<kk rk I (lo+i))) ?istep ?ifin ⟨rfl,0,k,rfl,ox,ox,ox,λi hi=>ox,λi h1 h2=>ox⟩) ?ipost)
  case ifin=>
   rintro c a3 ⟨rfl,l,r,rfl,a9,a6,hm,a5,a7⟩
   have:l=r:=ox
   subst this;show ⟨rfl,l,l,rfl,a6,a5,a7⟩
  case istep=>
   intro x c a3 _ hx hI;refine IY (c:=c) (t:=a3) hI λl r jn=>?_;have a9:=jn.1;have a6:=jn.2.1;have hm:=jn.2.2.1;have a5:=jn.2.2.2.1;have a7:=jn.2.2.2.2;clear hI jn c a3;dsimp only;by_cases a8:l≥r
   .rw [qA2 a8]
    have:l=r:=ox
    subst this;show wpS_pure ⟨rfl,l,l,rfl,a6,a5,a7⟩
   .rw [qA4 a8]
    refine wpS_bind (V9 hc ab ox ox ?_);refine S2 (λa4=>?_) λa4=>?_
    .skip
     refine wpS_pure ⟨rfl,l,(l+r)/2,rfl,qg a9,qI8 (qB3 (ke a8) a6),CU (qg a9) (ke a8) hm,a5,λi h1 h2=>?_⟩;show Int.lt_of_lt_of_le a4 (u1 _ _ h1 h2)
    .skip
     refine wpS_pure ⟨rfl,(l+r)/2+1,r,rfl,ke a8,a6,CT (qg a9) hm,λi h1=>?_,a7⟩;show Int.le_trans (u1 i ((l+r)/2) (qL5 h1) (qB3 (ke a8) a6)) (xB7.mp a4)
  case ipost=>
   rintro c a3 ⟨rfl,l,r,rfl,b0,a5,a7⟩;refine wpS_bind (wpS_modify (wpS_pure ⟨bubble I (lo+k) (lo+k-(lo+l)),rfl,rfl,r1.trans (Rl.bub (arr:=I) ox ox),?_⟩));rw[show min (k+1) n=k+1 by omega];have b3:lo+l<=lo+k:=qE9 b0 lo;have b5:lo+k<I.size:=ox;refine HB (f:=λi=>kk rk I (lo+i)) b0 (λi=>?_) u1 a5 a7
   change kk rk _ (lo+i)=_;rw[Fe b5 (qH8 _ _),Nat.sub_sub_self b3];by_cases c1:i=l
   .rw[qA2 (by rw[c1]),qA2 c1]
   .rw [qA4 λz=>c1 (Nat.add_left_cancel z),qA4 c1]
    by_cases c2:l<i/\i<=k
    .rw[qA2 ⟨Nat.add_lt_add_left c2.1 lo,qE9 c2.2 lo⟩,qA2 c2,qI5 (qD4 (qC6 l) c2.1)]
    .rw[qA4 λz=>c2 ⟨Nat.lt_of_add_lt_add_left z.1,Nat.le_of_add_le_add_left z.2⟩,qA4 c2]
end
def Chn (rk:Keyed->Int) (L:List Keyed):List (Nat×Nat×Nat)->Nat->Nat->Prop
 | [],a,b=>a=b
 |r::rs,a,b=>r.1=a/\0<r.2.1/\upL rk (rn_ L a r.2.1)/\Chn rk L rs (a+r.2.1) b
def dn:∀{rs:List (Nat×Nat×Nat)}{a b:Nat},Chn rk L rs a b->a+rs.length<=b
 | [],a,b,h=>by have h:a=b:=h;simp [h]
 | r::rs,a,b,h=>by
  have:=dn h.2.2.2
  have:=h.2.1
  rw[qD1];omega
def chn_app:∀{r1 r2:List (Nat×Nat×Nat)}{a c:Nat},Chn rk L (r1++r2) a c↔∃b,Chn rk L r1 a b/\Chn rk L r2 b c
 | [],r2,a,c=>⟨λh=>⟨a,rfl,h⟩,λa3=>by obtain ⟨b,I,h2⟩:=a3;have I:a=b:=I;subst I;show h2⟩
 | r::r1,r2,a,c=>by
  constructor
  .rintro ⟨I,h2,h3,h4⟩;obtain ⟨b,q1,q2⟩:=chn_app.mp h4;show ⟨b,⟨I,h2,h3,q1⟩,q2⟩
  .rintro ⟨b,⟨I,h2,h3,h4⟩,q2⟩;show ⟨I,h2,h3,chn_app.mpr ⟨b,h4,q2⟩⟩
def hC:∀{rs:List (Nat×Nat×Nat)}{a b:Nat},(∀i n,a<=i->i+n<=b->rn_ L' i n=rn_ L i n)->Chn rk L rs a b->Chn rk L' rs a b
 | [],a,b,_,h=>h
 | r::rs,a,b,he,h=>by
  have:=dn h.2.2.2
  refine ⟨h.1,h.2.1,?_,hC (λi n h1 I=>he i n ox I) h.2.2.2⟩;rw[he a r.2.1 (qB2 _) ox];show h.2.2.1
def oX:∀{rs:List (Nat×Nat×Nat)}{k a b:Nat},Chn rk L rs a b->Chn rk L (rs.modify k λr=>(r.1,r.2.1,pw)) a b
 | [],k,a,b,h=>by rw[List.modify_nil];show h
 |r::rs,0,a,b,h=>h
 |r::rs,k+1,a,b,h=>by rw[List.modify_succ_cons];show ⟨h.1,h.2.1,h.2.2.1,oX h.2.2.2⟩
def EE {pd:Array (Nat×Nat×Nat)}(e1:pd[i]?=some x) (e2:pd[i+1]?=some y):∃r1 r2,pd.toList=r1++x::y::r2/\((pd.setIfInBounds i z).eraseIdxIfInBounds (i+1)).toList=r1++z::r2:=by
 rw[<- qN8]at e1 e2;have hi:=(qA9.mp e2).1;have hsz:i+1<pd.size:=by simpa using hi
 refine ⟨pd.toList.take i,pd.toList.drop (i+2),?_,?_⟩
 .have t1:pd.toList.drop i=x::pd.toList.drop (i+1):=by
   obtain ⟨h1,I⟩:=qA9.mp e1;rw[qJ5 h1,I]
  have t2:pd.toList.drop (i+1)=y::pd.toList.drop (i+2):=by
   obtain ⟨h1,I⟩:=qA9.mp e2;rw[qJ5 h1,I]
  rw[<- t2,<- t1,qJ4]
 .rw [Array.eraseIdxIfInBounds,dif_pos (by simpa using hsz),Array.toList_eraseIdx,qS3,List.eraseIdx_eq_take_drop_succ,List.drop_set_of_lt ox]
  have:(pd.toList.set i z).take (i+1)=pd.toList.take i ++ [z]:=by
   rw[qL9,List.take_set_of_le (qB2 _),qK4 ox];rfl
  rw[this];simp
def Dx (h:M.length=n):rn_ (P++M++S) P.length n=M:=by
 unfold rn_;rw[qF3,List.drop_left,<- h,List.take_left]
def xZ {pd:Array (Nat×Nat×Nat)}{lo:Nat}(hc:Cmp prog w A s κ rk a₀) (a8:∀x∈arr.toList,x∈a₀) (C:Chn rk arr.toList pd.toList 0 lo) (ab:lo<=arr.size) (hi:i+1<pd.size) (h:∀arr' a5 g',arr'.toList.Perm arr.toList->arr'.toList.drop lo=arr.toList.drop lo->a5.size+1=pd.size->Chn rk arr'.toList a5.toList 0 lo->Q true (sS κ arr' a5 g')):wpS (model prog w) A E s (mergeAt' i) Q (sS κ arr pd g):=by
 obtain ⟨⟨sa,na,pw⟩,ex⟩:∃x,pd[i]?=some x:=⟨pd[i],Zy⟩;obtain ⟨⟨sb,nb,b0⟩,ey⟩:∃y,pd[i+1]?=some y:=⟨pd[i+1],Zy⟩;obtain ⟨r1,r2,el,em⟩:=EE (z:=(sa,na+nb,pw)) ex ey;rw[el]at C;obtain ⟨b1,C1,a7,a6,u1,I,a4,u2,C2⟩:=chn_app.mp C;have a7:sa=b1:=a7;have I:sb=b1+na:=I;have a6:0<na:=a6;have a4:0<nb:=a4;subst a7;have a3:=dn C2;have a9:=dn C1;refine pi hc a8 ex ey I (by change _<=arr.size;simp at a3;omega) a6 a4 u1 (by rw[I];show u2) λM g' hg=>?_;have hM:M.length=na+nb:=by
  rw[hg.1.length_eq,qC3,qF6,qF6,qH1,qH1,qE5];simp at a3;omega
 have ct:=GN (L:=arr.toList) (i:=sa) (n:=na) (m:=nb);rw[<- I]at ct;have zt:(arr.toList.take sa).length=sa:=by rw[qF6,qE5];simp at a3;omega
 have dr:∀k,sb+nb<=k->(arr.toList.take sa++M++arr.toList.drop (sb+nb)).drop k=arr.toList.drop k:=λk hk=>by
  rw[List.drop_append,qF0 (by rw[qC3,zt,hM];omega),qO6,qC3,zt,hM,xA8];congr 1;omega
 have tk:∀i n,i+n<=sa->rn_ (arr.toList.take sa++M++arr.toList.drop (sb+nb)) i n=rn_ arr.toList i n:=λi n hk=>by
  unfold rn_;rw[qF3,List.take_drop,List.take_drop,qV1 ox,List.take_take,qO5 ox]
 refine h _ _ g' ?_ ?_ ?_ ?_
 .change (arr.toList.take sa++M++arr.toList.drop (sb+nb)).Perm arr.toList;refine List.Perm.trans (List.Perm.append_right _ (qU0 _ hg.1)) ?_;rw[<- ct]
 .show dr lo (by simp at a3;omega)
 .have:=congrArg List.length em
  have q:=congrArg List.length el;rw[qE5]at this q;rw[this,q];simp;omega
 .rw [em]
  refine chn_app.mpr ⟨sa,hC (λi n h1 h2=>tk i n h2) C1,rfl,by change 0<na+nb;omega,?_,?_⟩
  .change upL rk (rn_ (arr.toList.take sa++M++arr.toList.drop (sb+nb)) sa (na+nb))
   have:=Dx (P:=arr.toList.take sa) (S:=arr.toList.drop (sb+nb)) hM
   rw[zt]at this;rw[this];show hg.2
  .change Chn rk _ r2 (sa+(na+nb)) lo;rw[<- qJ2];refine hC (λi n h1 h2=>?_) C2
   change rn_ (arr.toList.take sa++M++arr.toList.drop (sb+nb)) i n=_;unfold rn_;rw[dr i ox]
def nv (hc:Cmp prog w A s κ rk a₀) (h2:2<=a₀.size) (h:∀I,(arrOf I).toList.Perm a₀.toList->failedOf I=none->upL rk (arrOf I).toList->Q () I):wpS (model prog w) A E s sortRuns' Q (sS κ a₀ #[] 7):=by
 refine wpS_bind (wpS_get ?_);dsimp only;generalize (sortPriv% PySem.Builtin.minRun) a₀.size a₀.size 0=mr
 have same:∀{L L':List Keyed}{i n:Nat},L'.drop i=L.drop i->rn_ L' i n=rn_ L i n:=λe=>by unfold rn_;rw[e]
 refine wpS_bind (wpS_mono (wpS_forRange (λx c I=>∃arr pd g lo,I=sS κ arr pd g/\c=(none,lo)/\arr.toList.Perm a₀.toList/\Chn rk arr.toList pd.toList 0 lo/\lo<=a₀.size/\x<=lo)
  (Q:=λc I=>∃arr pd g lo,I=sS κ arr pd g/\c=(none,lo)/\arr.toList.Perm a₀.toList/\Chn rk arr.toList pd.toList 0 a₀.size) ?step ?fin ⟨a₀,#[],7,0,rfl,rfl,.refl _,rfl,ox,ox⟩) ?post)
 case fin=>
  rintro c I ⟨arr,pd,g,lo,rfl,rfl,hp,C,h1,h2⟩
  have:lo=a₀.size:=ox
  subst this;show ⟨arr,pd,g,_,rfl,rfl,hp,C⟩
 case step=>
  rintro x c I _ hx ⟨arr,pd,g,lo,rfl,rfl,hp,C,h1,h2⟩;dsimp only;by_cases cl:lo≥a₀.size
  .rw [qA2 cl]
   have:lo=a₀.size:=ox
   subst this;show wpS_pure ⟨arr,pd,g,_,rfl,rfl,hp,C⟩
  rw[qA4 cl];have zz:arr.size=a₀.size:=by have:=hp.length_eq;simpa using this
  have b5:∀x∈arr.toList,x∈a₀:=λx hx=>by have:=hp.mem_iff.mp hx;simpa using this
  refine wpS_bind (vk hc b5 ox ox λn ab r1 n1 n2 u1=>?_);dsimp only;have key:∀(n:Nat) (a3:Array Keyed),Rl lo arr a3->0<n->lo+n<=a₀.size->upA rk a3 lo n->a3.toList.Perm a₀.toList/\Chn rk a3.toList pd.toList 0 lo/\upL rk (rn_ a3.toList lo n):=λn a3 r2 hn hz u=>by
   refine ⟨r2.perm.trans hp,hC (λi m _ hm=>?_) C,?_⟩
   .unfold rn_;apply qP4;intro k;by_cases ck:k<m
    .rw[qH9 ck,qH9 ck,qG4,qG4,qN8,qN8,r2.same _ ox]
    .rw[qS4 ox,qS4 ox]
   .unfold upL;rw[qR5];intro i j hi hj c5;have z2:=r2.size;simp at hi hj
    have:=u i j ox ox
    rw[v8 (rk:=rk) (x:=(rn_ a3.toList lo n)[i]) (by rw[<- dE (n:=n) ox];show qA8 _),v8 (rk:=rk) (x:=(rn_ a3.toList lo n)[j]) (by rw[<- dE (n:=n) ox];show qA8 _)]at this;show this
  by_cases cm:n<mr
  case' pos=>
   rw[qA2 cm];refine wpS_bind (wpS_lift (qR6 ⟨rfl,?_⟩));have z1:=r1.size;have fz:lo+min (a₀.size-lo) mr<=a₀.size:=qA5 (qE9 (qK9 _ _) lo) (qK7 (qE0 h1));have fp:0<min (a₀.size-lo) mr:=Nat.lt_min.mpr ⟨qX2 (qP7 cl),qD4 (qC6 n) cm⟩;refine wpS_bind (Ck hc (r1.mem b5) (n:=min (a₀.size-lo) mr) (Nat.le_min.mpr ⟨n2,qI8 cm⟩) (by rw[z1,zz];show fz) u1 λa3 r2 u2=>?_);have K:=key _ a3 (r1.trans r2) fp fz u2;have f0:0<min (a₀.size-lo) mr/\lo+min (a₀.size-lo) mr<=a₀.size:=⟨fp,fz⟩;clear fp fz;rw[qA4 Zy];generalize min (a₀.size-lo) mr=m at K f0 ⊢
  case' neg=>
   rw[qA4 cm];have f0:0<n/\lo+n<=a₀.size:=⟨n1,qA5 (qE9 n2 lo) (qK7 (qE0 h1))⟩;have K:=key n ab r1 f0.1 f0.2 u1;obtain ⟨a3,ea⟩:∃o,o=ab:=⟨_,rfl⟩;obtain ⟨m,em⟩:∃o,o=n:=⟨_,rfl⟩;rw[<- ea,<- em]at K;rw[<- ea,<- em];rw[<- em]at f0
  all_goals
   obtain ⟨bc,C2,v2⟩:=K;refine wpS_bind (wpS_get ?_);dsimp only;cases hb:pd.back? with
   | none=>
    have pe:pd=#[]:=Array.back?_eq_none_iff.mp hb;subst pe;refine wpS_bind (wpS_modify (wpS_pure ⟨a3,#[].push (lo,m,0),g,lo+m,rfl,rfl,bc,?_,f0.2,ox⟩));have C2:0=lo:=C2;subst C2;show ⟨rfl,f0.1,v2,rfl⟩
   | some r=>
    obtain ⟨s1,n1,p0⟩:=r;dsimp only;have a9:∀{a:Array Keyed},a.toList.Perm a₀.toList->a.size=a₀.size:=λq=>by have:=q.length_eq;simpa using this
    have a8:∀{a:Array Keyed},a.toList.Perm a₀.toList->∀x∈a.toList,x∈a₀:=λq x hx=>by have:=q.mem_iff.mp hx;simpa using this
    refine wpS_bind (wpS_mono (wpS_forRange (λx c I=>∃arr pd g,I=sS κ arr pd g/\c=(none,())/\arr.toList.Perm a₀.toList/\Chn rk arr.toList pd.toList 0 lo/\upL rk (rn_ arr.toList lo m))
     (Q:=λc I=>∃arr pd g,I=sS κ arr pd g/\c=(none,())/\arr.toList.Perm a₀.toList/\Chn rk arr.toList pd.toList 0 lo/\upL rk (rn_ arr.toList lo m)) ?mstep ?mfin ⟨a3,pd,g,rfl,rfl,bc,C2,v2⟩) ?mpost)
    case mfin=>
     rintro c I q;show q
    case mstep=>
     rintro y c I _ hy ⟨a6,a4,g3,rfl,rfl,a5,C3,v3⟩;refine wpS_bind (wpS_get ?_);dsimp only;by_cases cs:a4.size>1
     .rw [qA2 cs]
      obtain ⟨⟨q1,q2,bt⟩,eo⟩:∃r,a4[a4.size-2]?=some r:=⟨a4[a4.size-2],Zy⟩;rw[eo];dsimp only
      split
      .show wpS_pure ⟨a6,a4,g3,rfl,rfl,a5,C3,v3⟩
      .refine wpS_bind (xZ hc (a8 a5) C3 (by rw[a9 a5];omega) ox λa7 b3 g4 b0 ba c0 b4=>?_);rw[qA4 Zy];show wpS_pure ⟨a7,b3,g4,rfl,rfl,b0.trans a5,b4,by rw[same ba];show v3⟩
     .rw [qA4 cs]
      show wpS_pure ⟨a6,a4,g3,rfl,rfl,a5,C3,v3⟩
    case mpost=>
     rintro c I ⟨a6,a4,g3,rfl,rfl,a5,C3,v3⟩;dsimp only;refine wpS_bind (wpS_modify (wpS_bind (wpS_modify (wpS_pure ⟨a6,_,g3,lo+m,rfl,rfl,a5,?_,f0.2,ox⟩))));rw[qK0,Array.toList_modify];show chn_app.mpr ⟨lo,oX C3,rfl,f0.1,v3,rfl⟩
 case post=>
  rintro c I ⟨arr,pd,g,lo,rfl,rfl,hp,C⟩;dsimp only;have a9:∀{a:Array Keyed},a.toList.Perm a₀.toList->a.size=a₀.size:=λq=>by have:=q.length_eq;simpa using this
  have a8:∀{a:Array Keyed},a.toList.Perm a₀.toList->∀x∈a.toList,x∈a₀:=λq x hx=>by have:=q.mem_iff.mp hx;simpa using this
  have bq:=dn C;rw[qE5]at bq;refine wpS_bind (wpS_mono (wpS_forRange (λx c I=>∃arr pd g,I=sS κ arr pd g/\c=(none,())/\arr.toList.Perm a₀.toList/\Chn rk arr.toList pd.toList 0 a₀.size/\(pd.size<=1\/pd.size+x<=a₀.size))
   (Q:=λc I=>∃arr pd g,I=sS κ arr pd g/\c=(none,())/\arr.toList.Perm a₀.toList/\Chn rk arr.toList pd.toList 0 a₀.size/\pd.size<=1) ?lstep ?lfin ⟨arr,pd,g,rfl,rfl,hp,C,.inr ox⟩) ?lpost)
  case lfin=>
   rintro c I ⟨arr,pd,g,rfl,rfl,hp,C,hs⟩;show ⟨arr,pd,g,rfl,rfl,hp,C,ox⟩
  case lstep=>
   rintro x c I _ hx ⟨arr,pd,g,rfl,rfl,hp,C,hs⟩;refine wpS_bind (wpS_get ?_);dsimp only;by_cases cs:pd.size<=1
   .rw [qA2 cs]
    show wpS_pure ⟨arr,pd,g,rfl,rfl,hp,C,cs⟩
   rw[qA4 cs];refine wpS_bind (xZ hc (a8 hp) C (by rw[a9 hp];omega) ?_ λa7 b3 g4 b0 ba c0 b4=>?_)
   .repeat' split
    all_goals omega
   rw[qA4 Zy];show wpS_pure ⟨a7,b3,g4,rfl,rfl,b0.trans hp,b4,.inr ox⟩
  case lpost=>
   rintro c I ⟨arr,pd,g,rfl,rfl,hp,C,hs⟩;dsimp only;have hl:pd.toList.length<=1:=by rw[qE5];show hs
   refine wpS_pure (h _ hp rfl ?_)
   change upL rk arr.toList
   match hpd:pd.toList,hl,C with
   | [],_,C => 
    have C:0=a₀.size:=C;omega
   | [r],_,C=>
    obtain ⟨c1,c2,c3,c4⟩:=C;have c4:0+r.2.1=a₀.size:=c4;have e:rn_ arr.toList 0 r.2.1=arr.toList:=by
     unfold rn_;rw[xA6,qK5 (by rw[qE5,a9 hp];omega)]
    rw[e]at c3;show c3
   |_::_::_,hl,_=>simp at hl
end TP
namespace TP
open PySem L2
def wl {α β:Type}{f:α->β}{m l':List β}(h:m.Perm l'):∀l:List α,l'=l.map f->∃o:List α,o.Perm l/\m=o.map f:=by
 induction h with
 |nil=>intro l e;show ⟨l,.refl _,e⟩
 | cons x _ ih=>
  intro l e;cases l with
  |nil=>cases e
  | cons a l=>
   rw[qB9]at e;obtain ⟨e1,e2⟩:=List.cons.inj e;obtain ⟨o,h1,h2⟩:=ih l e2;show ⟨a::o,h1.cons a,by rw[qB9,e1,h2]⟩
 | swap x y l0=>
  intro l e;cases l with
  |nil=>cases e
  | cons a l=>
   rw[qB9]at e;obtain ⟨e1,e2⟩:=List.cons.inj e;cases l with
   |nil=>cases e2
   | cons b l=>
    rw[qB9]at e2;obtain ⟨e3,e4⟩:=List.cons.inj e2;show ⟨b::a::l,.swap ..,by rw[qB9,qB9,e1,e3,e4]⟩
 | trans _ _ a3 I=>
  intro l e;obtain ⟨o2,p2,e2⟩:=I l e;obtain ⟨o1,p1,e1⟩:=a3 o2 e2;show ⟨o1,p1.trans p2,e1⟩
def kF:∀{xs I:Vk}{its:JY},Vals (xs.map V.int) its->Vals (I.map V.int) its->xs=I
 | [],[],_,_,_=>rfl
 | [],y::I,_,h,h'=>by cases h;cases h'
 |x::xs,[],_,h,h'=>by cases h';cases h
 | x::xs,y::I,_,h,h'=>by
  cases h with
  | cons r t=>
   cases h' with
   | cons r' t'=>
    obtain ⟨k,rfl⟩:=r;obtain ⟨k',e⟩:=r';cases e;rw[kF t t']
section
open PySem.W PyProof.Rows
def TupI.uniq (p:TupI h v xs) (q:TupI h v ys):xs=ys:=by
 obtain ⟨a,o,its,m,e,ho,_,hd,rv⟩:=p;obtain ⟨b,o2,a4,m2,e2,I,_,a3,a5⟩:=q;rw[e]at e2;cases e2;rw[ho]at I;cases I;rw[hd]at a3
 have:its=a4:=by injection a3 with q1 _;simpa using q1
 subst this;show kF rv a5
open Classical in
def rkV (vs:JY)(ss:Vw)(p:Keyed):Int:=if h:∃i,i<vs.length/\vs.getD i Value.none=p.1 then U8 ss h.choose else 0
def fY (tt:Paired (λv xs=>TupI h v xs/\xs ≠ []) vs ss) (hi:i<vs.length):rkV vs ss (vs.getD i Value.none,u)=U8 ss i:=by
 have I:∃j,j<vs.length/\vs.getD j Value.none=vs.getD i Value.none:=⟨i,hi,rfl⟩;unfold rkV;rw[dif_pos I];obtain ⟨c1,c2⟩:=I.choose_spec;generalize I.choose=j at c1 c2
 obtain ⟨x,ex,tx⟩:=L6 (d:=Value.none) tt hi;obtain ⟨y,ey,ty⟩:=L6 (d:=Value.none) tt c1;rw[c2]at ty;have e:=TupI.uniq tx.1 ty.1;unfold U8;have e1:ss.getD i []=x:=by rw[qA0,ex];rfl
 have e2:ss.getD j []=y:=by rw[qA0,ey];rfl
 rw[e1,e2,e]
def Q0 (ss:Vw)(o:Vy):Prop:=o.Perm (List.range ss.length)/\o.map (λi=>ss.getD i [])=L3 ss
def sW (I:o.Perm (List.range ss.length)) (hu:o.Pairwise λi j=>U8 ss i<=U8 ss j):Q0 ss o:=by
 refine ⟨I,?_⟩;refine List.Perm.eq_of_pairwise (le:=λa b=>lexLt b a=false) (λa b _ _ x y=>dQ _ _ y x) ?_ (nR ss) ?_
 .rw [qJ9]
  refine qY2 (λ{i j} hi hj q=>?_) hu;have hi:=qG1.mp (I.mem_iff.mp hi);have hj:=qG1.mp (I.mem_iff.mp hj);rw[<- nZ hj hi];show qQ1 ox
 .have:=I.map λi=>ss.getD i []
  rw[sv]at this;show this.trans (cA ss).symm
abbrev K0 {α:Type}(o:Vy)(d:α)(vs:List α):List α:=o.map λi=>vs.getD i d
def lC (h:Q0 ss o) (d:α) (vs:List α):(K0 o d vs).length=ss.length:=by
 rw[qA7,h.1.length_eq,qF5]
def pC (ho:s.heap.get? a=some (seqObj "list" vs.toArray n)) (hl:vs.length=ss.length) (b0:ss.length<=1000) (ht:∀h':Heap,(∀b o,b≠a->s.heap.get? b=some o->h'.get? b=some o)->Paired (λv xs=>TupI h' v xs/\xs ≠ []) vs ss) (a6:∀o,Q0 ss o->P (.done (.ret .none)) { s with heap:=sortedHeap s.heap a vs (K0 o Value.none vs).toArray }):wpAny (model prog w) A (Builtin.«list.sort» ⟨[.ref a],[]⟩) P E s:=by
 rw[list_sort_plain];have ha:=qB4 ho;refine qA1 (listItems_at ho rfl (qA1 (listUpdate_at ho rfl ?_ (by rw[qB6,qT4];omega) (qC6 _))));obtain ⟨ep,hp⟩:∃ep,(s.heap.update a (Obj.mapSeq λ_=>(#[]:Vj))).get? a=some (seqObj "list" #[] ep):=⟨_,get?_update_seq ho λ_=>#[]⟩;refine qA1 (seqEpoch_at hp rfl (qA1 (qV7 (qA1 (wpAny_newList (qR1 ?_) (qC6 _))) (by change vs.length<=_;rw[qT4];omega))));generalize hh:((s.heap.update a (Obj.mapSeq λ_=>(#[]:Vj))).push (seqObj "tuple" vs.toArray 0)).push (seqObj "list" #[] 0)=h6
 have a3:h6.get? a=some (seqObj "list" #[] ep):=by rw[<- hh];show qA6 _ (qA6 _ hp)
 have a7:∀b o,b≠a->s.heap.get? b=some o->h6.get? b=some o:=λb o hb e=>by rw[<- hh];show qA6 _ (qA6 _ (by rw[Heap.get?_update_ne _ _ _ _ hb];show e))
 have mI:∀o,sortedHeap s.heap a vs (K0 o Value.none vs).toArray=h6.update a (Obj.mapSeq λ_=>(K0 o Value.none vs).toArray):=λo=>by rw[<- hh];rfl
 change wpAny (model prog w) A _ P E { s with heap:=h6 };dsimp only;have ab:vs.toArray.size=vs.length:=Zy;have a5:∀o,Q0 ss o->(K0 o Value.none vs).toArray.size<=sizeLine+1:=λo ok=>by rw[qB6,lC ok,qT4];omega
 by_cases c2:vs.toArray.size<2
 .rw [qA2 c2,qA2 c2]
  refine qA1 (qP9 ?_);rw[StateT.run_pure];refine qA1 (qP9 ?_);dsimp only;have ok:Q0 ss (List.range ss.length):=sW (.refl _) (by have e:ss.length=0\/ss.length=1:=ox;rcases e with e|e <;> rw[e] <;> simp)
  have eo:Array.map (λx=>x.snd) (arrOf (SortSt.mk' general' (vs.toArray.zip vs.toArray) #[] 7 none))=(K0 (List.range ss.length) Value.none vs).toArray:=by
   change Array.map (λx=>x.snd) (vs.toArray.zip vs.toArray)=_;apply qY1.mp;rw[Array.toList_map,Array.toList_zip,<- hl];apply qK3
   .simp
   .intro i h1 h2;simp at h1 h2;simp [h1]
  rw[eo];refine qA1 (seqEpoch_at a3 rfl (qA1 (listUpdate_at a3 rfl ?_ (qC6 _) (a5 _ ok))));simp only [bne_self_eq_false,qD7,qQ4];have q:=a6 _ ok;rw[mI]at q;show qP9 q
 .rw [qA4 c2,qA4 c2]
  have tt:=ht h6 a7;obtain ⟨fs,kt,fl,fi⟩:=kK tt;refine qA1 (kat_kind (s:={ s with heap:=h6 }) (T:=.type "int") kt ox (λv hv=>?_) Zz ?_)
  .obtain ⟨i,t,rfl⟩:=fi v hv;show Looks.of_pure rfl
  have hz:(vs.toArray.zip vs.toArray).toList=(List.range vs.length).map λi=>(vs.getD i Value.none,vs.getD i Value.none):=by
   rw[Array.toList_zip];apply qK3
   .simp
   .intro i h1 h2;simp at h1 h2;simp [h1]
  have a4:∀x∈vs.toArray.zip vs.toArray,∃i,i<vs.length/\x=(vs.getD i Value.none,vs.getD i Value.none):=λx hx=>by
   have:x∈(vs.toArray.zip vs.toArray).toList:=by simpa using hx
   rw[hz]at this;obtain ⟨i,hi,e⟩:=qB1.mp this;show ⟨i,qG1.mp hi,e.symm⟩
  have cm:Cmp prog w A { s with heap:=h6 } (tuples' (Value.type "int" != Value.type "tuple")) (rkV vs ss) (vs.toArray.zip vs.toArray):=λx hx y hy Q hQ=>by
   obtain ⟨i,hi,rfl⟩:=a4 x hx;obtain ⟨j,hj,rfl⟩:=a4 y hy;rw[fY tt hi,fY tt hj,nZ ox ox]at hQ;obtain ⟨x,hx,tx⟩:=L6 (d:=Value.none) tt hi;obtain ⟨y,hy,ty⟩:=L6 (d:=Value.none) tt hj;have ex:ss.getD i []=x:=by rw[qA0,hx];rfl
   have ey:ss.getD j []=y:=by rw[qA0,hy];rfl
   rw[ex,ey]at hQ;show AL (s:={ s with heap:=h6 }) tx.1 ty.1 hQ
  refine qA1 (qS1 (nv (E:=E) (Q:=λ_ I=>failedOf I=none/\∃o,Q0 ss o/\(arrOf I).map (·.2)=(K0 o Value.none vs).toArray) cm (by simp at c2 ⊢;omega) λI p1 p2 p3=>⟨p2,?_⟩) ?_ λ_ _ e=>e)
  .rw [hz]at p1
   obtain ⟨o,o1,o2⟩:=wl p1 _ rfl;refine ⟨o,sW (by rw[<- hl];show o1) ?_,?_⟩
   .unfold upL at p3;rw[o2,qJ9]at p3;refine qY2 (λ{i j} hi hj q=>?_) p3;have hi:=qG1.mp (o1.mem_iff.mp hi);have hj:=qG1.mp (o1.mem_iff.mp hj);rw[fY tt hi,fY tt hj]at q;show q
   .apply qY1.mp;rw[Array.toList_map,o2,qC5];rfl
  rintro ⟨⟨⟩,I⟩ s' ⟨rfl,a9,o,ok,a8⟩;dsimp only;rw[a8];refine qA1 (seqEpoch_at a3 rfl (qA1 (listUpdate_at a3 rfl ?_ (qC6 _) (a5 o ok))));rw[a9];simp only [bne_self_eq_false,qD7,qQ4];have q:=a6 o ok;rw[mI]at q;show qP9 q
def kO (hL:s.heap.IsList l vs.toArray) (hl:vs.length=ss.length) (I:ss.length<=1000) (ht:Paired (λv xs=>TupI s.heap v xs/\xs ≠ []) vs ss) (a4:∀o,Q0 ss o->Q (.ref (s.heap.objs.size+1)) { s with heap:=sortedAll s.heap vs (K0 o Value.none vs).toArray }):wpAny (model prog w) A (call (.builtin "sorted") [.ref l]) Q E s:=by
 refine Calls.call_function_entry kind_sorted plain_sorted entry_sorted (args_sorted1 _) ?_;unfold Builtin.«sorted»;refine qA1 (m:=checkCount "sorted" 1 1 _) (qP9 (qA1 (collect_list hL (qA1 (wpAny_newList ?_ (by rw[qT4];omega))) (by rw[qT4];omega))));generalize hg:(s.heap.push (seqObj "list" #[] 0)).update s.heap.objs.size (Obj.mapSeq (·++vs.toArray))=g
 have gz:g.objs.size=s.heap.objs.size+1:=by rw[<- hg,Heap.size_update,size_push']
 have gk:∀b o,s.heap.get? b=some o->g.get? b=some o:=λb o e=>by
  have a3:=qB4 e;rw[<- hg,Heap.get?_update_ne _ _ _ _ (qD6 a3)];show qA6 _ e
 have go:(g.push (seqObj "list" vs.toArray 0)).get? (s.heap.objs.size+1)=some (seqObj "list" vs.toArray 0):=by rw[<- gz];show qC1 _ rfl
 have ea:∀o,sortedAll s.heap vs (K0 o Value.none vs).toArray=sortedHeap (g.push (seqObj "list" vs.toArray 0)) (s.heap.objs.size+1) vs (K0 o Value.none vs).toArray:=λo=>by rw[<- hg];rfl
 change wpAny _ _ _ _ _ { s with heap:=g.push (seqObj "list" vs.toArray 0) };rw[gz];refine qA1 (qR1 (qR2 slot_list_sort ⟨_,go,rfl⟩ entry_list_sort (pC go hl I (λh' hk=>?_) λo ok=>⟨_,rfl,qP9 ⟨_,rfl,by have q:=a4 o ok;rw[ea]at q;show q⟩⟩) (args_list_sort _)));refine Paired.mapP ht λv xs hv=>⟨?_,hv.2⟩;obtain ⟨a,o,its,m,rfl,h1,h2,h3,h4⟩:=hv.1;show ⟨a,o,its,m,rfl,hk a o (qD6 (qL3 (qB4 h1))) (qA6 _ (gk a o h1)),h2,h3,h4⟩
end
def rf (ok:Q0 ss o) (r:Vals ys its) (hl:ys.length=ss.length):Vals (K0 o V.non ys) (K0 o Value.none its):=V0 λi hi=>by
 have I:i<ys.length:=by have:=ok.1.mem_iff.mp hi;rw[qG1]at this;omega
 obtain ⟨u,e,q⟩:=L6 (d:=V.non) r I;rw[show its.getD i Value.none=u by rw[qA0,e];rfl];show q
def qG (hK:X.K=K:=by rfl):C8 X (.builtin "sorted") (λxs H Q=>∃p ys ss,xs = [.ref p]/\SqL K H p ys/\Paired (λv zs=>(∃a,v=.ref a/\SqT K H a (zs.map V.int))/\zs ≠ []) ys ss/\ss.length<=1000/\∀l o,Q0 ss o->H l=none->Q (.ref l) (upd H l (.lst (K0 o V.non ys)))):=by
 subst hK;intro pins s σ H xs us Q I r h;obtain ⟨p,ys,ss,rfl,hq,ht,a4,q⟩:=h;obtain ⟨u,rfl,ru⟩:=K6 r;cases ru;obtain ⟨its,rv,pl,hz⟩:=I.list hq;have hlen:=rv.length;have a8:ys.length=ss.length:=Paired.length ht;have tt:Paired (λv xs=>TupI s.heap v xs/\xs ≠ []) its ss:=eA rv ht λv u zs r1 r2=>by
  obtain ⟨⟨a,rfl,hs⟩,a6⟩:=r2;cases r1;obtain ⟨a5,a7,⟨o,e,c,k,dd⟩,_⟩:=I.tuple hs;show ⟨⟨a,o,a5,k,rfl,e,c,dd,a7⟩,a6⟩
 refine kO pl.isList ox a4 tt λo ok=>?_;obtain ⟨e,he⟩:=PyProof.Rows.sortedAll_at s.heap its (K0 o Value.none its).toArray;have a3:s.heap.objs.size<=s.heap.objs.size+1:=Nat.le_succ _;refine ⟨.ref (s.heap.objs.size+1),_,I.laid (t':=s.toks) (λb o q=>PyProof.Rows.sortedAll_old q) a3 (show ObjOk X.prog X.w _ _ _ (.lst (K0 o V.non ys)) from ⟨by rw[lC ok];show qA5 a4 Zz,K0 o Value.none its,e,rf ok rv ox,he⟩),rfl,q _ o ok (I.hok.fresh a3)⟩
def fSortA:List W->R W
 | [w]=>match lstOf w with
  | some ws=>match U4 ws with
   |some ss=>if ss.length<=1000/\ss.all (λx=>!x.isEmpty)=true then .ok (.lst ((L3 ss).map λx=>W.tup (x.map W.int))) else .stuck
   |none=>.stuck
  |none=>.stuck
 |_=>.stuck
def sr (ok:Q0 ss o) (r:Reps K F ys (ss.map λx=>W.tup (x.map W.int))):Reps K F (K0 o V.non ys) ((L3 ss).map λx=>W.tup (x.map W.int)):=by
 have hl:=r.length;rw[qA7]at hl;rw[<- ok.2,qC5];refine lh λi hi=>?_;have I:i<ss.length:=by have:=ok.1.mem_iff.mp hi;rwa [qG1]at this
 obtain ⟨w,e,q⟩:=nY (i:=i) r ox;rw[qC0]at e
 have:ss[i]?=some (ss.getD i []):=by rw[qA0];simp [I]
 rw[this]at e;cases e;show q
def BW:Cal K (cb c) .F (λxs H Q=>∃p ys ss,xs = [.ref p]/\SqL K H p ys/\Paired (λv zs=>(∃a,v=.ref a/\SqT K H a (zs.map V.int))/\zs ≠ []) ys ss/\ss.length<=1000/\∀l o,Q0 ss o->H l=none->Q (.ref l) (upd H l (.lst (K0 o V.non ys)))) fSortA:=by
 intro EX H0 Hs G H ρ σ Ha vs ws Q I s m o;cases m with
 |nil=>show o.elim
 | cons a t=>
  cases t with
  |cons _ _=>show o.elim
  | nil=>
   rename_i w v
   unfold fSortA at o;cases hl:lstOf w with
   |none=>simp only [hl]at o;show o.elim
   | some us=>
    simp only [hl]at o;cases ht:U4 us with
    |none=>simp only [ht]at o;show o.elim
    | some ss=>
     simp only [ht]at o;by_cases hc:ss.length<=1000/\ss.all (λx=>!x.isEmpty)=true
     .rw [qA2 hc]at o
      obtain ⟨p,ys,rfl,hs,r⟩:=Md.lstOf I a hl;rw[vt ht]at r;have a3:∀x∈ss,x ≠ []:=λx hx=>by
       have:=qI1.mp hc.2 x hx
       intro e;subst e;simp at this
      have sm:Same (if c then G else join H0 G) H:=by
       cases c with
       |true=>rw[qA2 rfl];show I.gh
       |false=>rw[qA4 qA3];show I.join_H
      refine ⟨p,ys,ss,rfl,hs,Paired.mapP (ji r a3) λv zs h=>⟨?_,h.2⟩,hc.1,λl od ok=>Out.chks (EX:=EX) (c:=c) I s (sr ok r) ?_ l⟩
      .obtain ⟨b,e,q⟩:=h.1;show ⟨b,e,SqT.of (sm _ _ q)⟩
      .have e:TP.chks c ((L3 ss).map λx=>W.tup (x.map W.int))=.ok (.lst ((L3 ss).map λx=>W.tup (x.map W.int))):=by
        unfold TP.chks;rw[lT,qO8,qA2 rfl]
       rw[e];show o
     .rw[qA4 hc]at o;show o.elim
def spX (K:Frag) (n:Nat) (f:List W->R W):Sp:=λvs H Q E=>vs.length=n/\∃F ws,Same F H/\Reps K F vs ws/\match f ws with
 | .ok w=>∀v G' H',Same F G'->Same H H'->Same G' H'->(∀a o,H a=some o->isL o=true->F a=none->G' a=none)->Rep K G' v w->Q v H'
 | .ex e=>∀H',Same H H'->XE E e H'
 | .stuck=>False
def M9 (n N:Nat) (m:Vg) (ws:Vp):R W:=if ws.length=n then (m (ws.map Sl.val++List.replicate (N-n) Sl.un)>>=λf=>match f with
 | .rt w=>.ok w
 | .nx _=>.ok .non
 |_=>.stuck) else .stuck
def kY (ws:Vp) (h:M9 n N m ws≠.stuck):ws.length=n:=by
 unfold M9 at h;by_cases e:ws.length=n
 .show e
 .rw[qA4 e]at h;show absurd rfl h
def less (H F:Hp):Hp:=λa=>match F a with
 |some _=>none
 |none=>H a
def mD (h:F a=none):less H F a=H a:=by unfold less;rw[h]
def mB (h:less H F a=some o):F a=none/\H a=some o:=by
 unfold less at h;cases q:F a with
 |none=>rw[q]at h;show ⟨rfl,h⟩
 |some u=>rw[q]at h;cases h
def jh (sF:Same F H) (h1:Same (less H F) H') (I:Same F H'):Same H H':=λa o e=>by
 cases q:F a with
 |none=>show h1 a o (by rw[mD q];show e)
 | some u=>
  have:=sF a u q
  rw[e]at this;cases this;show I a o q
def ES (h:B9 H a=some o):H a=some o/\isL o=false:=by
 unfold B9 at h;cases q:H a with
 |none=>rw[q]at h;cases h
 | some u=>
  rw[q]at h;dsimp only at h;cases I:isL u
  .rw[I]at h;cases h;show ⟨rfl,I⟩
  .rw[I]at h;cases h
def rL:∀{vs:List V}{ws:Vp}{i:Nat}{x:Sl}{o:Option V}{k k':Nat},Reps K F vs ws->(ws.map Sl.val++List.replicate k Sl.un)[i]?=some x->(vs.map some++List.replicate k' none)[i]?=some o->x=.un\/∃v w,x=.val w/\o=some v/\Rep K F v w
 | _,_,i,x,o,k,k',.nil,h1,h2=>by
  simp only [qN5,qO6,qG0]at h1
  split at h1 <;> simp only [qF9,reduceCtorEq]at h1
  show .inl h1.symm
 | _,_,0,x,o,k,k',.cons r _,h1,h2=>by
  simp at h1 h2;show .inr ⟨_,_,h1.symm,h2.symm,r⟩
 | _,_,i+1,x,o,k,k',.cons _ t,h1,h2=>by
  simp only [qB9,qO1,qT3]at h1 h2;show rL t h1 h2
def PIv.beginX (sF:Same F H) (r:Reps K F vs ws) (hk:k=k'):PIv K (less H F) (both F (B9 H)) (ws.map Sl.val++List.replicate k Sl.un) (vs.map some++List.replicate k' none) H where
 g0 a o e l:=by
  obtain ⟨I,h2⟩:=mB e;unfold both;rw[I];dsimp only;unfold B9;rw[h2];dsimp only;rw[l];rfl
 gl a o e l:=by
  obtain ⟨I,h2⟩:=mB e;unfold both;rw[I];dsimp only;unfold B9;rw[h2];dsimp only;rw[l];rfl
 gh a o e:=by
  unfold both at e;cases q:F a with
  |none=>rw[q]at e;show (ES e).1
  |some u=>rw[q]at e;cases e;show sF a _ q
 hh a o e:=(mB e).2
 len:=by subst hk;simp [r.length]
 sl i x o I h2:=by
  rcases rL r I h2 with rfl|⟨v,w,rfl,rfl,q⟩
  .trivial
  .show ⟨v,rfl,q.same λb u e=>by unfold both;rw[e]⟩
 ne i j us xs a hij I _ _ _:=by
  have:∀(i:Nat) (us:Vp),(ws.map Sl.val++List.replicate k Sl.un)[i]?≠some (Sl.own us):=λi us q=>by
   rw[List.getElem?_append]at q
   split at q
   .rw [qC0]at q
    cases hh:ws[i]? <;> rw[hh]at q <;> cases q
   .rw [qG0]at q
    split at q <;> cases q
  show absurd I (this i us)
def BS (h:spX K n (M9 n Nl.length m) vs H Q E):tSt K (λ_ _=>False) .V m { nx:=λ_ H'=>Q .non H',rt:=Q } (L2.start Nl vs) H:=by
 obtain ⟨hl,F,ws,sF,r,o⟩:=h;have hw:ws.length=n:=by rw[<- r.length];show hl
 unfold M9 at o;rw[qA2 hw]at o;have I:Same F (both F (B9 H)):=λb u e=>by unfold both;rw[e]
 refine ⟨less H F,both F (B9 H),_,PIv.beginX (k:=Nl.length-n) sF r (by rw[hl]),?_⟩
 revert o
 cases m (ws.map Sl.val++List.replicate (Nl.length-n) Sl.un) with
 |stuck=>show id
 |ex e=>show λo=>(o H (Same.refl H)).elim
 | ok f=>
  cases f with
  |nx a4=>show λo G' a3 H' s' I'=>o .non G' H' (I.trans s') (jh sF I'.hh ((I.trans s').trans I'.gh)) I'.gh (λa o e l q=>I'.gl a o (by rw[mD q];show e) l) .non
  |rt w=>show λo v G' H' s0 s1 s2 c md=>o v G' H' (I.trans s0) (jh sF s2 ((I.trans s0).trans s1)) s1 (λa o e l q=>c a o (by rw[mD q];show e) l) md
  |bk _=>show λo=>o.elim
  |ct _=>show λo=>o.elim
def frzL:List Nat->Rho->Rho
 | [],ρ=>ρ
 |j::js,ρ=>frzL js (frz j ρ)
def PIv.frzL:∀{js:Vy}{G:Hp}{ρ:Rho},PIv K H0 G ρ σ H->∃G',Same G G'/\PIv K H0 G' (frzL js ρ) σ H
 | [],G,ρ,I=>⟨G,Same.refl G,I⟩
 | j::js,G,ρ,I=>by
  obtain ⟨G1,s1,I1⟩:=I.frz (i:=j);obtain ⟨G2,s2,I2⟩:=PIv.frzL (js:=js) I1;show ⟨G2,s1.trans s2,I2⟩
def fg (i:Nat)(js:Vy)(w:W)(ρ:Rho):Rho:=if noL w=true then ρ.set i (.val w) else (frzL js ρ).set i (.val w)
def sCX (i:Nat)(js:Vy)(f:List W->R W)(ma:VQ):Vg:=λρ=>ma (frzL js ρ)>>=λws=>f ws>>=λw=>.ok (.nx (fg i js w ρ))
def MdA.repsV:∀{ws:Vp}{vs:List V},MdA K .V H0 Hs G H ws vs->Reps K G vs ws
 |_,_,.nil=>.nil
 |_,_,.cons h t=>.cons h (MdA.repsV t)
def BR (hf:∀ws,f ws≠.stuck->ws.length=n) (hE:∀e H,EX e H->XE E e H) (h:tSt K EX d (sCX i js f ma) D σ H):
  bv (jW (spX K n f) [] E (tA K EX .V ma)) (M8 i) D σ H:=by
 obtain ⟨H0,G,ρ,I,o⟩:=h;obtain ⟨G2,s2,I2⟩:=I.frzL (js:=js);refine ⟨H0,G2,frzL js ρ,I2,?_⟩;unfold sCX at o;cases a4:ma (frzL js ρ) with
 |stuck=>rw[a4]at o;show o.elim
 |ex e=>rw[a4]at o;show λH' s=>o H' (I.hh.trans s)
 | ok ws=>
  rw[a4,R.ok_bind]at o;intro xs G1 H1 e1 m1;have I1:=I2.ext e1;have r:=MdA.repsV m1;rw[qG2];refine ⟨?_,G1,ws,I1.gh,r,?_⟩
  .rw [r.length]
   refine hf ws λz=>?_;rw[z]at o;show o
  .revert o
   cases f ws with
   |stuck=>show id
   |ex e=>show λo H' s=>hE e H' (o H' (I1.hh.trans s))
   | ok w=>
    intro o v G' H' sG sH gH cl md;rw[R.ok_bind]at o;by_cases hn:noL w=true
    .have hs:fg i js w ρ=ρ.set i (.val w):=qA2 hn;rw[hs]at o;have a3:Same H H':=e1.hh.trans sH;have rH:Rep K H' v w:=md.same gH;have sN:Same (B9 H') H':=ET K H';have sB:Same G (both G (B9 H')):=λb o q=>by unfold both;rw[q]
     have a6:Same (B9 H') (both G (B9 H')):=λb o q=>by
      unfold both;cases q1:G b with
      |none=>show q
      | some y=>
       have a1:=a3 b y (I.gh b y q1);rw[sN b o q]at a1;show a1.symm
     have a5:Same (both G (B9 H')) H':=λb o q=>by
      unfold both at q;cases q1:G b with
      |none=>rw[q1]at q;show sN b o q
      |some y=>rw[q1]at q;cases q;show a3 b _ (I.gh b _ q1)
     have ex:Ext G H (both G (B9 H')) H':=⟨sB,a3,a5,λb o q l g=>by
      unfold both;rw[g];dsimp only;unfold B9;rw[a3 b o q];dsimp only;rw[qA2 l]⟩
     show o _ _ H' sB ((I.ext ex).setV ((Rep.ofNoL rH hn).same a6))
    .have hs:fg i js w ρ=(frzL js ρ).set i (.val w):=qA4 hn;rw[hs]at o;have ex:Ext G1 H1 G' H':=⟨sG,sH,gH,cl⟩;show o G' _ H' ((s2.trans e1.gg).trans sG) ((I1.ext ex).setV md)
def xQ (hf:∀ws,f ws≠.stuck->ws.length=n) (hE:∀e H,EX e H->XE E e H) (h:tM K EX .V (λρ=>ma ρ>>=λws=>f ws) σ H Q):
  jW (spX K n f) [] E (tA K EX .V ma) σ H Q:=by
 obtain ⟨H0,G,ρ,I,o⟩:=h;refine ⟨H0,G,ρ,I,Out.bind o λxs G1 H1 ws e1 m1 o1=>?_⟩;have I1:=I.ext e1;have r:=MdA.repsV m1;rw[qG2];refine ⟨?_,G1,ws,I1.gh,r,?_⟩
 .rw [r.length]
  refine hf ws λz=>?_;rw[z]at o1;show o1
 .revert o1
  cases f ws with
  |stuck=>show id
  |ex e=>show λo1 H' s=>hE e H' (o1 H' s)
  |ok w=>show λo1 v G' H' sG sH gH cl md=>o1 v G' H' ⟨sG,sH,gH,cl⟩ md
def zS {X:Cx}{K:Frag}{e:Expr}{es:Vz}{pos:Pos}{mr:VQ}{k:Nat}{f:Addr}{fd:FuncData}{ps:Vq}{x:Str}{p:Pos}{n N:Nat}{m:Vg}(F:FnOk X.prog X.w X.K X.mg X.base CX0 k f fd ps (spX K n (M9 n N m))) (hr:Room k X.A) (hg:Gl X x) (hm:X.mg x=some (.ref f)) (hk:PySem.W.keepIn X.K (.ref f)=true) (hb:Binds X.K fd ps []) (ha:PA X (e::es) (tA K (λ_ _=>False) .V mr)) (I:(x == ("__debug__" : Str))=false:=by decide) (he:starEach (e::es) X.env=(false,eval e X.env)::starEach es X.env:=by rfl) (a3:(backTo pos (starEach es X.env)).any (·.1)=false:=by rfl):
  PE X (.Call (.Name x p) (e::es) [] pos) (tM K (λ_ _=>False) .V (bA (M9 n N m) mr)):=
 (iu F hr hg hm hk hb .nil pO ha I he a3).mono λ_ _ _ q=>xQ (λws h=>kY ws h) (λ_ _ z=>z) q
def zQ {X:Cx}{K:Frag}{d:Mode}{e:Expr}{es:Vz}{pos:Pos}{mr:VQ}{i k:Nat}{js:Vy}{y:Str}{pos':Pos}{f:Addr}{fd:FuncData}{ps:Vq}{x:Str}{p I:Pos}{n N:Nat}{m:Vg}(hN:X.N.Nodup) (hi:X.N[i]?=some y) (hy:Loc X.env.scope y) (F:FnOk X.prog X.w X.K X.mg X.base CX0 k f fd ps (spX K n (M9 n N m))) (hr:Room k X.A) (hg:Gl X x) (hm:X.mg x=some (.ref f)) (hk:PySem.W.keepIn X.K (.ref f)=true) (hb:Binds X.K fd ps []) (ha:PA X (e::es) (tA K (λ_ _=>False) .V mr)) (a3:(x == ("__debug__" : Str))=false:=by decide) (he:starEach (e::es) X.env=(false,eval e X.env)::starEach es X.env:=by rfl) (a4:(backTo I (starEach es X.env)).any (·.1)=false:=by rfl) (hs:swapsWith (.Call (.Name x p) (e::es) [] I) (some (.Name y pos')) pos.line X.env=pure false:=by rfl) (hf:X.fn y=true\/X.env.scope.names.lookup y=some .local:=by first|show .inl rfl|show .inr rfl|assumption):
  PS X (.Assign [.Name y pos'] (.Call (.Name x p) (e::es) [] I) pos) (tSt K (λ_ _=>False) d (sCX i js (M9 n N m) mr)):=
 (cK hN hi hy (iu F hr hg hm hk hb .nil pO ha a3 he a4) hs hf).mono λ_ _ _ q=>BR (λws h=>kY ws h) (λ_ _ z=>z) q
def xv (ρ:Rho):frzL [] ρ=ρ:=rfl
def uo (j:Nat)(js:Vy)(ρ:Rho):frzL (j::js) ρ=frzL js (frz j ρ):=rfl
def RcX (f:List W->R W) (i:Nat) (js:Vy) (ρ:Rho):R Vp->R Fl
 | .ok ws=>f ws>>=λw=>.ok (.nx (fg i js w ρ))
 | .ex e=>.ex e
 | .stuck=>.stuck
def CY (i:Nat) (js:Vy) (f:List W->R W) (ma:VQ) (ρ:Rho):sCX i js f ma ρ=RcX f i js ρ (ma (frzL js ρ)):=by
 unfold sCX;cases ma (frzL js ρ) <;> rfl
def HQ (f:List W->R W)(i:Nat)(js:Vy)(ρ:Rho)(ws:Vp):RcX f i js ρ (.ok ws)=(f ws>>=λw=>.ok (.nx (fg i js w ρ))):=rfl
def JG (H:Hp):Prop:=∀a vs,H a≠some (.lst vs)
def OutN (K:Frag) (d:Mode) (I:Hp) (r:R Fl) (D:Ends):Prop:=match r with
 | .ok (.nx ρ)=>∀H0 G' a3 H',Same I H0->PIv K H0 G' ρ a3 H'->D.nx a3 H'
 | .ok (.rt w)=>∀v G' H',Same G' H'->Same I H'->(∀a o,I a=some o->isL o=true->G' a=none)->Md K I I G' H' v w d->D.rt v H'
 |_=>False
def tStN (K:Frag)(EX:EXT)(d:Mode)(m:Vg):TS:=λD σ H=>∃I H0 G ρ,JG I/\Same I H0/\PIv K H0 G ρ σ H/\OutN K d I (m ρ) D
end TP
namespace TP
open PySem L2
open PyProof.Rows (envOfC)
def XE1 (K:Frag)(E:XK):EXT:=λe H=>∀(C:Addr)(od:Option Addr),PySem.W.nsIn K mainGlobals e.cls=some (some (.ref C))->XD H od e.at_->E (.ref C) od H
def spR (K:Frag) (n:Nat) (d:Mode) (f:List W->R W):Sp:=λvs H Q E=>vs.length=n/\∃ws,Reps K H vs ws/\match f ws with
 | .ok w=>∀v G' H',Same H H'->Same G' H'->(∀a o,H a=some o->isL o=true->G' a=none)->Md K H H G' H' v w d->Q v H'
 | .ex e=>∀H',Same H H'->XE1 K E e H'
 | .stuck=>False
def calm (f:List W->R W):List W->R W:=λws=>match f ws with
 | .ok w=>.ok w
 |_=>.stuck
def flUn (j:Nat):Fl->R Fl
 | .nx ρ=>.ok (.nx (ρ.set j .un))
 | .bk ρ=>.ok (.bk (ρ.set j .un))
 | .ct ρ=>.ok (.ct (ρ.set j .un))
 | .rt w=>.ok (.rt w)
def mExc (c:Str)(j:Nat)(mb:Vg)(e:XW)(ρ:Rho):R Fl:=if e.cls=c then mb (ρ.set j (.val (.exc e.cls e.at_)))>>=flUn j else .stuck
end TP
namespace TP
open PySem L2
def big8:Int:=2^2000
def yV (_ j:Int):Prop:=0<j/\j<big8
instance (i j:Int):Decidable (yV i j):=by unfold yV;infer_instance
def ao (_ j:Int):Prop:=j≠0/\j.natAbs<2^8999
instance (i j:Int):Decidable (ao i j):=by unfold ao;infer_instance
def gFz (i j:Int):W:=.int (i.fdiv j)
def wu:OpR X (binaryOp .FloorDiv) (rI ao λi j=>.int (i.fdiv j)):=opI λi j _ _ _ _ _ hc q=>by
 refine PyProof.Rows.floordiv_int hc.1 q (.inl (PyProof.noPylong_of_log2 ?_));have h0:j.natAbs≠0:=by have:=hc.1;omega
 show Nat.lt_trans ((Nat.log2_lt h0).mpr hc.2) Zz
def BJ (h0:j≠0) (h:j.natAbs<2^8999):fI ao gFz (.int i) (.int j)=.ok (.int (i.fdiv j)):=by
 change (if ao i j then _ else _)=_;rw[qA2 ⟨h0,h⟩];rfl
def yL (_ j:Int):Prop:=j≠0
instance (i j:Int):Decidable (yL i j):=by unfold yL;infer_instance
end TP
namespace HT
open PySem PySem.Spec PyProof.Rows PySem.W
end HT
namespace TP
open PySem L2
section
open PySem.W PyProof.Rows
end
end TP
namespace L2
open PySem PySem.Spec PyProof.Rows
end L2
namespace TP
open PySem L2
end TP
namespace L2
open PySem PySem.Spec PyProof.Rows
end L2
namespace TP
open PySem L2
def gNr (i j:Int):W:=.bl (!(decide (0<=i)&&decide (i<j)))
def zZ (i j:Int):(Builtin.Range.rangePlace? 0 j 1 i).isSome=(decide (0<=i)&&decide (i<j)):=by
 unfold Builtin.Range.rangePlace?;by_cases h0:0<=i <;> by_cases I:i<j <;> simp [h0,I] <;> omega
def wN:Meets (Builtin.«range.__contains__» ⟨[.ref r,.int i ti],[]⟩) (λ_ R s=>IsRange s.heap r 0 j 1 t u v/\R (.ok (.ret (.bool (decide (0<=i)&&decide (i<j))))) s):=
 .of_wp λprog w A R s I=>by
  obtain ⟨hp,g,d,tk,os⟩:=s;obtain ⟨hr,I⟩:=I;rw[<- zZ]at I
  wp_walk using qI2 hr
  show ⟨_,rfl,I⟩
def Ag (hg:Gl X "range") (hm:X.mg "range" = none) (ha:PE X a ta) (hb:PE X b tb) (hs:starEach [b] X.env = [(false,eval b X.env)]:=by rfl):PC X .NotIn a (.Call (.Name "range" p2) [b] [] pos2) (tOp (rI0 λi j=>.bl (!(decide (0<=i)&&decide (i<j)))) ta tb):=by
 intro pins s σ H Q I h;refine thn (ha pins s σ H _ I h) λv s1 a3=>?_;obtain ⟨x,H1,I1,r1,q1⟩:=a3;refine qQ6 (M5 I1 hg hm PyProof.Rows.boot_range ?_ Zz Zz);have a4:PA X [b] (jV tb tNil):=dH hb pa_nil (by rw[hs];rfl);refine qF4 (thn (a4 pos2 pins s1 σ H1 (λxs H2=>match xs with | [y]=>rI0 (λi j=>.bl (!(decide (0<=i)&&decide (i<j)))) x y H2 Q|_=>False) I1 ?_) λus s2 ⟨vs,H2,I2,r2,q2⟩=>?_) hs Zo
 .show q1
 dsimp only at q2
 split at q2
 rotate_left
 .show q2.elim
 obtain ⟨i,j,rfl,rfl,q⟩:=q2;obtain ⟨u,rfl,ru⟩:=K6 r2;obtain ⟨t,rfl⟩:=ru;obtain ⟨ti,rfl⟩:=r1;refine call_range_1 ?_;have hR:=IsRange.new s2.heap 0 j 1 s2.toks t (s2.toks+1);refine SeqRoads2.notIn_meets ⟨_,hR,rfl⟩ F.slot_range_contains F.entry_range_contains (F.args_range_contains_2 _ _) wN ⟨hR,_,rfl,?_⟩;show ⟨.bl _,H2,I2.kept (t':=s2.toks+1+1) λb o e=>qA6 _ e,rfl,q⟩
def zP {X:Cx}{K:Frag}{EX:EXT}{a b:Expr}{pos:Pos}{ma mb:Vo}{p2 pos2:Pos}(hg:Gl X "range") (hm:X.mg "range" = none) (ha:PE X a (tM K EX .B ma)) (hb:PE X b (tM K EX .B mb)) (hs:starEach [b] X.env = [(false,eval b X.env)]:=by rfl) (h1:behindInMarks .NotIn (.Call (.Name "range" p2) [b] [] pos2)=false:=by rfl):PT X (.Compare a [.NotIn] [.Call (.Name "range" p2) [b] [] pos2] pos) (tT K EX (e9 (b2 (fI0 gNr) ma mb))):=
 (sC (Ag hg hm ha hb hs) h1).mono λσ H Q q=>by
  obtain ⟨H0,G,ρ,I,o⟩:=q;show jb (dL (g:=gNr) (λ_ _=>rfl) (λ_ _ _=>.bl)) (hJ (ma:=b2 (fI0 gNr) ma mb) ⟨H0,G,ρ,I,o⟩)
abbrev tI (ns:Vk):W:=.tup (ns.map W.int)
abbrev lI (ns:Vk):W:=.lst (ns.map W.int)
def B5 (ns:Vk):m8 (ns.map W.int)=true:=by
 induction ns with
 |nil=>rfl
 |cons n ns I=>rw[qB9];simp only [m8,noL,I,qM7]
def BA (n:Bool) (i j:Int):m5 n (.int i) (.int j)=.ok (.bl (if n then !decide (i=j) else decide (i=j))):=by
 change R.ok (W.bl (if n then !decide (V.int i=V.int j) else decide (V.int i=V.int j)))=_;rw[show decide (V.int i=V.int j)=decide (i=j) from qY3.mpr ⟨V.int.inj,congrArg _⟩]
def BB (n:Bool) (i j:Bool):m5 n (.bl i) (.bl j)=.ok (.bl (if n then !decide (i=j) else decide (i=j))):=by
 change R.ok (W.bl (if n then !decide (V.bl i=V.bl j) else decide (V.bl i=V.bl j)))=_;rw[show decide (V.bl i=V.bl j)=decide (i=j) from qY3.mpr ⟨V.bl.inj,congrArg _⟩]
def Bw (n:Bool) (i j:Str):m5 n (.str i) (.str j)=.ok (.bl (if n then !decide (i=j) else decide (i=j))):=by
 change R.ok (W.bl (if n then !decide (V.str i=V.str j) else decide (V.str i=V.str j)))=_;rw[show decide (V.str i=V.str j)=decide (i=j) from qY3.mpr ⟨V.str.inj,congrArg _⟩]
def Bx (n:Bool):m5 n .non .non=.ok (.bl (!n)):=by cases n <;> rfl
def By (n:Bool) (i:Int):m5 n .non (.int i)=.ok (.bl n):=by cases n <;> rfl
def Bz (n:Bool) (i:Int):m5 n (.int i) .non=.ok (.bl n):=by cases n <;> rfl
def atW {ns:Vk}{i:Int}(h0:0<=i) (I:i<ns.length):L2.atI (ns.map W.int) i=some (.int (ns.getD i.toNat 0)):=by
 unfold L2.atI;rw[qA7,aU h0 I]
 change (ns.map W.int)[i.toNat]?=_;rw[qC0,N4 ox];rfl
def dy {k:Nat}{w:W}(h:ws[k]?=some w):L2.atI ws (k:Int)=some w:=by
 have hk:=(qA9.mp h).1;unfold L2.atI;rw[aU ox ox,qF8];show h
def andThen (r:R Fl) (n:Vg):R Fl:=r>>=λf=>match f with
 | .nx I=>n I
 | .rt w=>.ok (.rt w)
 | .bk I=>.ok (.bk I)
 | .ct I=>.ok (.ct I)
def AG (m n:Vg)(ρ:Rho):d4 m n ρ=andThen (m ρ) n:=rfl
def qM (ρ:Rho)(n:Vg):andThen (.ok (.nx ρ)) n=n ρ:=rfl
def qL (w:W)(n:Vg):andThen (.ok (.rt w)) n=.ok (.rt w):=rfl
def qO (ρ:Rho)(n:Vg):andThen (.ok (.bk ρ)) n=.ok (.bk ρ):=rfl
def qN (ρ:Rho)(n:Vg):andThen (.ok (.ct ρ)) n=.ok (.ct ρ):=rfl
def II (w:W)(ρ:Rho):mC w ρ=.ok w:=rfl
def Jz (f:W->R W)(ma:Vo)(ρ:Rho):b1 f ma ρ=(ma ρ>>=f):=rfl
def R2b (a b:R W)(f:W->W->R W):R W:=a>>=λx=>b>>=λy=>f x y
def Jy (f:W->W->R W)(ma mb:Vo)(ρ:Rho):b2 f ma mb ρ=R2b (ma ρ) (mb ρ) f:=rfl
def HS (x y:W)(f:W->W->R W):R2b (.ok x) (.ok y) f=f x y:=rfl
def Jx (f:List W->R W)(ma:VQ)(ρ:Rho):bA f ma ρ=(ma ρ>>=f):=rfl
def Jw (f:List W->R Vp)(ma:VQ)(ρ:Rho):bI f ma ρ=(ma ρ>>=f):=rfl
def Jv (ma:Vo)(ρ:Rho):bS ma ρ=(ma ρ>>=B1):=rfl
def JC (ρ:Rho):aN ρ=.ok []:=rfl
def ic (a:R W)(b:R Vp):R Vp:=a>>=λx=>b>>=λxs=>.ok (x::xs)
def JD (ma:Vo)(I:VQ)(ρ:Rho):aC ma I ρ=ic (ma ρ) (I ρ):=rfl
def xW (x:W)(xs:Vp):ic (.ok x) (.ok xs)=.ok (x::xs):=rfl
def BX (ma:Vo)(ρ:Rho):U3 ma ρ=(ma ρ>>=chk):=rfl
def xS (ma:Vo)(ρ:Rho):e9 ma ρ=(ma ρ>>=toB):=rfl
def zh (a b:VZ)(ρ:Rho):dB a b ρ=rAnd (a ρ) (b ρ):=rfl
def Ct (a b:VZ)(ρ:Rho):Q3 a b ρ=rOr (a ρ) (b ρ):=rfl
def zg (a:VZ)(ρ:Rho):z9 a ρ=pH (a ρ):=rfl
def zN (x y:Bool):rAnd (.ok x) (.ok y)=.ok (x&&y):=by cases x <;> rfl
def zO (r:R Bool):rAnd (.ok false) r=.ok false:=rfl
def zM (r:R Bool):rAnd (.ok true) r=r:=rfl
def DU (x y:Bool):rOr (.ok x) (.ok y)=.ok (x||y):=by cases x <;> rfl
def DT (r:R Bool):rOr (.ok true) r=.ok true:=rfl
def DV (r:R Bool):rOr (.ok false) r=r:=rfl
def zI (x:Bool):pH (.ok x)=.ok (!x):=rfl
def zc (a b:Vo)(ρ:Rho):kH a b ρ=dF (a ρ) (b ρ):=rfl
def Cm (a b:Vo)(ρ:Rho):vOr a b ρ=ll (a ρ) (b ρ):=rfl
def za (a:Vo)(ρ:Rho):vNot a ρ=pG (a ρ):=rfl
def vZ (x y:Bool):dF (.ok (.bl x)) (.ok (.bl y))=.ok (.bl (x&&y)):=by cases x <;> rfl
def wa (r:R W):dF (.ok (.bl false)) r=.ok (.bl false):=rfl
def vY (r:R W):dF (.ok (.bl true)) r=r:=rfl
def zG (x y:Bool):ll (.ok (.bl x)) (.ok (.bl y))=.ok (.bl (x||y)):=by cases x <;> rfl
def zF (r:R W):ll (.ok (.bl true)) r=.ok (.bl true):=rfl
def zH (r:R W):ll (.ok (.bl false)) r=r:=rfl
def vW (x:Bool):pG (.ok (.bl x))=.ok (.bl (!x)):=rfl
def pI (c:R Bool)(a b:R W):R W:=c>>=λt=>if t then a else b
def Cn (c:VZ)(a b:Vo)(ρ:Rho):vIf c a b ρ=pI (c ρ) (a ρ) (b ρ):=rfl
def zJ (a b:R W):pI (.ok true) a b=a:=rfl
def zL (a b:R W):pI (.ok false) a b=b:=rfl
def zK (t:Bool)(x y:W):pI (.ok t) (.ok x) (.ok y)=.ok (if t then x else y):=by cases t <;> rfl
def nq (f I:W->W->R W)(a b c:R W):R W:=a>>=λx=>b>>=λy=>f x y>>=λz=>toB z>>=λt=>if t then c>>=λu=>I y u else .ok (.bl false)
def rp (f I:W->W->R W)(ma mb mc:Vo)(ρ:Rho):fQ f I ma mb mc ρ=nq f I (ma ρ) (mb ρ) (mc ρ):=rfl
def vg (g g':Int->Int->Bool) (i j k:Int):nq (fI0 λi j=>.bl (g i j)) (fI0 λi j=>.bl (g' i j)) (.ok (.int i)) (.ok (.int j)) (.ok (.int k))=.ok (.bl (g i j&&g' j k)):=by
 unfold nq
 change (if g i j=true then _ else _)=_;cases h:g i j <;> simp [fI0]
def qe (ws:Vp):R W:=lim ws.length (.tup ws)
def qf (ws:Vp):R W:=lim ws.length (.lst ws)
def yZ (ma:VQ)(ρ:Rho):A0 ma ρ=(ma ρ>>=qe):=rfl
def zb (ma:VQ)(ρ:Rho):C9 ma ρ=(ma ρ>>=qf):=rfl
def IB (ρ:Rho):pN ρ=.ok none:=rfl
def IA (m:Vo)(ρ:Rho):pS m ρ=(m ρ>>=jX):=rfl
def sT (i:Int):jX (.int i)=.ok (some i):=rfl
def Rsl (c:Bool)(x:R W)(l u:R JX):R W:=x>>=λx=>l>>=λl=>u>>=λu=>toR (lstOf x)>>=λws=>chks c (F8 ws l u)
def Cl (c:Bool)(m:Vo)(I mh:Rho->R JX)(ρ:Rho):vSl c m I mh ρ=Rsl c (m ρ) (I ρ) (mh ρ):=rfl
def Cd (c:Bool)(ws:Vp)(l u:JX):Rsl c (.ok (.lst ws)) (.ok l) (.ok u)=chks c (F8 ws l u):=rfl
def Cc (c:Bool)(ws:Vp)(l u:JX):Rsl c (.ok (.scr ws)) (.ok l) (.ok u)=chks c (F8 ws l u):=rfl
def yQ (r:R Vp)(n:Nat)(mg:VJ)(mc:VZ)(me:Vo)(ρ:Rho):R W:=r>>=λws=>j7 n mg mc me ws ρ
def vo (n:Nat)(I:VQ)(mg:VJ)(mc:VZ)(me:Vo)(ρ:Rho):l6 n I mg mc me ρ=yQ (I ρ) n mg mc me ρ:=rfl
def xX (ws:Vp)(n:Nat)(mg:VJ)(mc:VZ)(me:Vo)(ρ:Rho):yQ (.ok ws) n mg mc me ρ=j7 n mg mc me ws ρ:=rfl
def CV (ρ:Rho):sNx ρ=.ok (.nx ρ):=rfl
def Da (ρ:Rho):sBk ρ=.ok (.bk ρ):=rfl
def CW (ρ:Rho):sCt ρ=.ok (.ct ρ):=rfl
def yP (r:R W)(ρ:Rho):R Fl:=r>>=λ_=>.ok (.nx ρ)
def vK (m:Vo)(ρ:Rho):Ig m ρ=yP (m ρ) ρ:=rfl
def xV (w:W)(ρ:Rho):yP (.ok w) ρ=.ok (.nx ρ):=rfl
def lg (w:W):R Fl:=.ok (.rt w)
def zu (m:Vo)(ρ:Rho):g8 m ρ=(m ρ>>=lg):=rfl
def zE (w:W):lg w=.ok (.rt w):=rfl
def vJ (ρ:Rho):Ic ρ=.ok (.rt .non):=rfl
def jd (r:R W)(f:W->Sl)(i:Nat)(ρ:Rho):R Fl:=r>>=λw=>.ok (.nx (ρ.set i (f w)))
def Ia (i:Nat)(m:Vo)(ρ:Rho):sV i m ρ=jd (m ρ) Sl.val i ρ:=rfl
def Ib (i:Nat)(m:Vo)(ρ:Rho):sU i m ρ=jd (m ρ) Sl.par i ρ:=rfl
def Ie (i:Nat)(m:Vo)(ρ:Rho):sF i m ρ=jd (m ρ) O0 i ρ:=rfl
def Ce (w:W)(f:W->Sl)(i:Nat)(ρ:Rho):jd (.ok w) f i ρ=.ok (.nx (ρ.set i (f w))):=rfl
def rP (ws:Vp):O0 (.lst ws)=.own ws:=rfl
def rM (ws:Vp):O0 (.tup ws)=.val (.tup ws):=rfl
def rQ (i:Int):O0 (.int i)=.val (.int i):=rfl
def vD (i:Bool):O0 (.bl i)=.val (.bl i):=rfl
def rO:O0 .non=.val .non:=rfl
def rN (i:Str):O0 (.str i)=.val (.str i):=rfl
def Cq:Option Rho->R Fl
 |some ρ=>.ok (.nx ρ)
 |none=>.stuck
def HR (r:R W)(mg:VJ)(ρ:Rho):R Fl:=r>>=λw=>toR (mg w ρ)>>=λI=>.ok (.nx I)
def Id (mg:VJ)(m:Vo)(ρ:Rho):sG mg m ρ=HR (m ρ) mg ρ:=rfl
def Ch (w:W) (mg:VJ) (ρ:Rho):HR (.ok w) mg ρ=Cq (mg w ρ):=by
 change (toR (mg w ρ)>>=_)=_;cases mg w ρ <;> rfl
def rG (ρ:Rho):Cq (some ρ)=.ok (.nx ρ):=rfl
def HM (r:R Vp)(mg:VJ)(mb:Vg)(ρ:Rho):R Fl:=r>>=λws=>D8 mg mb ws ρ
def zA (I:VQ)(mg:VJ)(mb:Vg)(ρ:Rho):A9 I mg mb ρ=HM (I ρ) mg mb ρ:=rfl
def Cf (ws:Vp)(mg:VJ)(mb:Vg)(ρ:Rho):HM (.ok ws) mg mb ρ=D8 mg mb ws ρ:=rfl
def zw (i:Nat)(m:Vg)(ρ:Rho):au i m ρ=m (frz i ρ):=rfl
def iT:Option Sl->Nat->Rho->Rho
 |some (.own ws),i,ρ=>ρ.set i (.val (.lst ws))
 |_,_,ρ=>ρ
def Ga (i:Nat) (ρ:Rho):frz i ρ=iT (ρ[i]?) i ρ:=by
 unfold frz iT;rcases h:ρ[i]? with _|s
 .rfl
 .cases s <;> rfl
def xu (ws:Vp)(i:Nat)(ρ:Rho):iT (some (.own ws)) i ρ=ρ.set i (.val (.lst ws)):=rfl
def xr (w:W)(i:Nat)(ρ:Rho):iT (some (.val w)) i ρ=ρ:=rfl
def xt (w:W)(i:Nat)(ρ:Rho):iT (some (.par w)) i ρ=ρ:=rfl
def Bo (i:Nat)(ρ:Rho):iT (some .un) i ρ=ρ:=rfl
def rdS (d:Mode):Option Sl->R W
 |some (.val w)=>(match d with | .F=>chk w|_=>.ok w)
 |some (.par w)=>(match d with | .F=>chk w | .V=>chk w | .C=>chk w|_=>.ok w)
 |some (.own ws)=>(match d with | .C=>.ok (.lst ws) | .B=>.ok (.lst ws)|_=>.stuck)
 |some (.iop _ ws)=>(match d with | .B=>.ok (.lst ws) | .U=>.ok (.lst ws)|_=>.stuck)
 |some (.hz w)=>(match d with | .B=>.ok w | .U=>.ok w|_=>.stuck)
 |_=>.stuck
def iH (d:Mode) (i:Nat) (ρ:Rho):b7 d i ρ=rdS d (ρ[i]?):=by
 unfold b7 rdS;rfl
def DG (w:W):rdS .F (some (.val w))=chk w:=rfl
def DE (w:W):rdS .V (some (.val w))=.ok w:=rfl
def DF (w:W):rdS .U (some (.val w))=.ok w:=rfl
def DH (w:W):rdS .C (some (.val w))=.ok w:=rfl
def DI (w:W):rdS .B (some (.val w))=.ok w:=rfl
def DL (w:W):rdS .F (some (.par w))=chk w:=rfl
def DJ (w:W):rdS .V (some (.par w))=chk w:=rfl
def DK (w:W):rdS .U (some (.par w))=.ok w:=rfl
def DM (w:W):rdS .C (some (.par w))=chk w:=rfl
def DN (w:W):rdS .B (some (.par w))=.ok w:=rfl
def DO (ws:Vp):rdS .C (some (.own ws))=.ok (.lst ws):=rfl
def DP (ws:Vp):rdS .B (some (.own ws))=.ok (.lst ws):=rfl
def retS (d:Mode):Option Sl->R Fl
 |some (.own ws)=>.ok (.rt (.lst ws))
 |o=>rdS d o>>=lg
def qj (d:Mode) (i:Nat) (ρ:Rho):v5 d i ρ=retS d (ρ[i]?):=by
 unfold v5 retS;rw[iH];rcases h:ρ[i]? with _|s
 .rfl
 .cases s <;> rfl
def vR (d:Mode)(ws:Vp):retS d (some (.own ws))=.ok (.rt (.lst ws)):=rfl
def vP (d:Mode)(w:W):retS d (some (.val w))=(rdS d (some (.val w))>>=lg):=rfl
def vQ (d:Mode)(w:W):retS d (some (.par w))=(rdS d (some (.par w))>>=lg):=rfl
def xT (o:Option Sl) (r:R W) (i:Nat) (ρ:Rho):R Fl:=match o with
 |some (.own ws)=>r>>=λw=>if ws.length<1000 then .ok (.nx (ρ.set i (.own (ws ++ [w])))) else .stuck
 |_=>.stuck
def AK (i:Nat)(m:Vo)(ρ:Rho):Q7 i m ρ=xT (ρ[i]?) (m ρ) i ρ:=rfl
def BZ (ws:Vp)(w:W)(i:Nat)(ρ:Rho):xT (some (.own ws)) (.ok w) i ρ=if ws.length<1000 then .ok (.nx (ρ.set i (.own (ws ++ [w])))) else .stuck:=rfl
def CL (o:Option Sl) (a b:R W) (i:Nat) (ρ:Rho):R Fl:=match o with
 | some (.own ws)=>b>>=λw=>a>>=λk=>(match k with
  | .int k=>(match ixN ws.length k with
   |some j=>.ok (.nx (ρ.set i (.own (ws.set j w))))
   |none=>.stuck)
  |_=>.stuck)
 |_=>.stuck
def AF (i:Nat)(I me:Vo)(ρ:Rho):mn i I me ρ=CL (ρ[i]?) (I ρ) (me ρ) i ρ:=rfl
def CM (o:Option Nat) (ws:Vp) (w:W) (i:Nat) (ρ:Rho):R Fl:=match o with
 |some j=>.ok (.nx (ρ.set i (.own (ws.set j w))))
 |none=>.stuck
def zp (ws:Vp)(w:W) (k:Int)(i:Nat)(ρ:Rho):CL (some (.own ws)) (.ok (.int k)) (.ok w) i ρ=CM (ixN ws.length k) ws w i ρ:=rfl
def rT (j:Nat)(ws:Vp)(w:W)(i:Nat)(ρ:Rho):CM (some j) ws w i ρ=.ok (.nx (ρ.set i (.own (ws.set j w)))):=rfl
def HG (f:Int->Int->Int) (a b:R W) (i:Nat) (ρ:Rho):R Fl:=a>>=λx=>b>>=λy=>match x,y with
 | .int a,.int b=>.ok (.nx (ρ.set i (.val (.int (f a b)))))
 |_,_=>.stuck
def AJ (i:Nat) (f:Int->Int->Int) (m:Vo) (ρ:Rho):iJ i f m ρ=HG f (rdS .B (ρ[i]?)) (m ρ) i ρ:=by
 rw[<- iH];rfl
def BY (f:Int->Int->Int) (a b:Int)(i:Nat)(ρ:Rho):HG f (.ok (.int a)) (.ok (.int b)) i ρ=.ok (.nx (ρ.set i (.val (.int (f a b))))):=rfl
def ifS (c:R Bool)(m n:Vg)(ρ:Rho):R Fl:=c>>=λb=>if b then m ρ else n ρ
def Fb (c:VZ)(m n:Vg)(ρ:Rho):mIf c m n ρ=ifS (c ρ) m n ρ:=rfl
def FN (m n:Vg)(ρ:Rho):ifS (.ok true) m n ρ=m ρ:=rfl
def FO (m n:Vg)(ρ:Rho):ifS (.ok false) m n ρ=n ρ:=rfl
def T9 (r:R Fl):R W:=r>>=λf=>match f with
 | .rt w=>.ok w
 | .nx _=>.ok .non
 |_=>.stuck
def aJ (h:ws.length=n):i5 n N m ws=T9 (m (ws.map Sl.par++List.replicate (N-n) Sl.un)):=by unfold i5;rw[qA2 h];rfl
def Dn {N:Nat}{m:Vg}(a:W):i5 1 N m [a]=T9 (m (Sl.par a::List.replicate (N-1) Sl.un)):=aJ rfl
def Dm {N:Nat}{m:Vg}(a b:W):i5 2 N m [a,b]=T9 (m (Sl.par a::Sl.par b::List.replicate (N-2) Sl.un)):=aJ rfl
def Dl {N:Nat}{m:Vg}(a b c:W):i5 3 N m [a,b,c]=T9 (m (Sl.par a::Sl.par b::Sl.par c::List.replicate (N-3) Sl.un)):=aJ rfl
def Dj {N:Nat}{m:Vg}(a b c d:W):i5 4 N m [a,b,c,d]=T9 (m (Sl.par a::Sl.par b::Sl.par c::Sl.par d::List.replicate (N-4) Sl.un)):=aJ rfl
def Di {N:Nat}{m:Vg}(a b c d e:W):i5 5 N m [a,b,c,d,e]=T9 (m (Sl.par a::Sl.par b::Sl.par c::Sl.par d::Sl.par e::List.replicate (N-5) Sl.un)):=aJ rfl
def BG (w:W):T9 (.ok (.rt w))=.ok w:=rfl
def BH (ρ:Rho):T9 (.ok (.nx ρ))=.ok .non:=rfl
def Gp (g:Int->Int->W) (i j:Int):fI0 g (.int i) (.int j)=.ok (g i j):=rfl
def fU_i (g:Int->W) (i:Int):fU g (.int i)=.ok (g i):=rfl
def IU (ws:Vp) (i:Int):fIx (.lst ws) (.int i)=toR (L2.atI ws i):=rfl
def IS (ws:Vp) (i:Int):fIx (.tup ws) (.int i)=toR (L2.atI ws i):=rfl
def IT (ws:Vp) (i:Int):fIx (.scr ws) (.int i)=toR (L2.atI ws i):=rfl
def vx {α:Type}(a:α):toR (some a)=.ok a:=rfl
def Cr (b:Bool):toB (.bl b)=.ok b:=rfl
def Gj (ws:Vp):fLen [.lst ws]=.ok (.int ws.length):=rfl
def Gh (ws:Vp):fLen [.tup ws]=.ok (.int ws.length):=rfl
def Gi (ws:Vp):fLen [.scr ws]=.ok (.int ws.length):=rfl
def Bt (c:Bool)(ws:Vp):gP c [.lst ws]=chks c ws:=rfl
def Bs (c:Bool)(ws:Vp):gP c [.tup ws]=chks c ws:=rfl
def uu (c:Bool)(ws:Vp):E2 c [.lst ws]=Z2 c ws:=rfl
def Ge (c:Bool)(ws:Vp):E2 c [.tup ws]=Z2 c ws:=rfl
def GT (ws:Vp):chks true ws=.ok (.lst ws):=rfl
def Hc (ws:Vp):Z2 true ws=.ok (.tup ws):=rfl
def ja (h:m8 ws=true):chks c ws=.ok (.lst ws):=by unfold chks;rw[h,qO8,qA2 rfl]
def dZ (h:m8 ws=true):Z2 c ws=.ok (.tup ws):=by unfold Z2;rw[h,qO8,qA2 rfl]
def GW (c:Bool)(ns:Vk):chks c (ns.map W.int)=.ok (.lst (ns.map W.int)):=ja (B5 ns)
def uP (c:Bool)(ns:Vk):Z2 c (ns.map W.int)=.ok (.tup (ns.map W.int)):=dZ (B5 ns)
def n5 (h:noL w=true):chk w=.ok w:=by unfold chk;rw[qA2 h]
def BM (i:Int):chk (.int i)=.ok (.int i):=rfl
def GZ (i:Bool):chk (.bl i)=.ok (.bl i):=rfl
def BK (i:Str):chk (.str i)=.ok (.str i):=rfl
def BL:chk .non=.ok .non:=rfl
def GX (ns:Vk):chk (.tup (ns.map W.int))=.ok (.tup (ns.map W.int)):=n5 (B5 ns)
def IV (g:Int->Int->Int) (i j:Int):f2 g [.int i,.int j]=.ok (.int (g i j)):=rfl
def CP (ws:Vp):B1 (.lst ws)=.ok ws:=rfl
def CN (ws:Vp):B1 (.tup ws)=.ok ws:=rfl
def CO (ws:Vp):B1 (.scr ws)=.ok ws:=rfl
def Dw (j:Int):M2 [.int j]=O5 0 j:=rfl
def Du (i j:Int):rng2 [.int i,.int j]=O5 i j:=rfl
def gN_U (i:Nat)(w:W)(ρ:Rho):gN .U i w ρ=some (ρ.set i (.par w)):=rfl
def gN_V (i:Nat)(w:W)(ρ:Rho):gN .V i w ρ=some (ρ.set i (.val w)):=rfl
def gT_t (n:Nat)(g:List W->Rho->Option Rho)(ws:Vp)(ρ:Rho):gT n g (.tup ws) ρ=if ws.length=n then g ws ρ else none:=rfl
def xj (f:VJ)(g:List W->Rho->Option Rho)(w:W)(ws:Vp)(ρ:Rho):o6 f g (w::ws) ρ=(f w ρ).bind (g ws):=rfl
def Bg (ρ:Rho):gsNil [] ρ=some ρ:=rfl
def wJ (ws:Vp):qe ws=if ws.length<=1000 then .ok (.tup ws) else .stuck:=rfl
def wK (ws:Vp):qf ws=if ws.length<=1000 then .ok (.lst ws) else .stuck:=rfl
def Bu (x:W)(T:String):fIsi [x,.ty T]=(toR ((tyW x).bind λA=>z7 A T)>>=λb=>.ok (.bl b)):=rfl
def Ft:z7 "NoneType" "tuple" = some false:=Zz
def Fu:z7 "NoneType" "list" = some false:=Zz
def Fx:z7 "list" "tuple" = some false:=Zz
def Fn:z7 "tuple" "list" = some false:=Zz
def Gk (n:Bool)(u:W):bP n u .non=.ok (.bl (if n then !isN u else isN u)):=rfl
def wO {α:Type}(g:α->W) (s:α->W):∀(as:List α),(∀a∈as,f (s a)=.ok (some (g a)))->mapR f (as.map s)=.ok (as.map g):=by
 intro as
 induction as with
 |nil=>show λ_=>rfl
 | cons a as I=>
  intro h;rw[qB9,mapR,h a qB8,I λb hb=>h b (qB0 _ hb)];rfl
def nG {α:Type}(g:α->W) (s:α->W) (c:α->Bool):∀(as:List α),(∀a∈as,f (s a)=.ok (if c a then some (g a) else none))->mapR f (as.map s)=.ok ((as.filter c).map g):=by
 intro as
 induction as with
 |nil=>show λ_=>rfl
 | cons a as I=>
  intro h;rw[qB9,mapR,h a qB8,I λb hb=>h b (qB0 _ hb),qY4];cases c a <;> rfl
def l5 {α:Type}(g:α->W) (s:α->W) (as:List α) (ρ:Rho) (hl:as.length<=1000) (h:∀a∈as,∃I,mg (s a) (ρ++List.replicate (N'-ρ.length) Sl.un)=some I/\me I=.ok (g a)):j7 N' mg yes me (as.map s) ρ=.ok (.lst (as.map g)):=by
 unfold j7;rw[qA7,qA2 hl,wO g s as];intro a ha;obtain ⟨I,e1,e2⟩:=h a ha;unfold elR;rw[e1];have hy:yes I=.ok true:=rfl;dsimp only;rw[hy];dsimp only;rw[e2]
def y9 {α:Type}(g:α->W) (s:α->W) (c:α->Bool) (as:List α) (ρ:Rho) (hl:as.length<=1000) (h:∀a∈as,∃I,mg (s a) (ρ++List.replicate (N'-ρ.length) Sl.un)=some I/\mc I=.ok (c a)/\(c a=true->me I=.ok (g a))):j7 N' mg mc me (as.map s) ρ=.ok (.lst ((as.filter c).map g)):=by
 unfold j7;rw[qA7,qA2 hl,nG g s c as];intro a ha;obtain ⟨I,e1,e2,e3⟩:=h a ha;unfold elR;rw[e1];dsimp only;rw[e2];cases hc:c a with
 |false=>rfl
 |true=>dsimp only;rw[e3 hc];rfl
def vO (h0:-1000000<=z) (h:z<=1000000):O5 0 z=.ok ((List.range z.toNat).map λk=>W.int (k:Nat)):=by
 unfold O5;rw[qA2 ox];simp
def cH (h:((List.range n).map λk=>W.int (k:Nat))[i]?=some w):i<n/\w=.int (i:Nat):=by
 rw[qC0]at h;cases q:(List.range n)[i]? with
 |none=>rw[q]at h;cases h
 | some k=>
  rw[q]at h;obtain ⟨h1,I⟩:=qA9.mp q;simp at h1 I;subst I;cases h;show ⟨h1,rfl⟩
def Fa {ns:Vk}(h:(ns.map W.int)[i]?=some w):i<ns.length/\w=.int (ns.getD i 0):=by
 rw[qC0]at h;cases q:ns[i]? with
 |none=>rw[q]at h;cases h
 | some k=>
  rw[q]at h;cases h;show ⟨(qA9.mp q).1,by rw[Bh q]⟩
def iZ (xs:Vk)(lo hi:JX):List Int:=(xs.drop (HT.sIx xs.length 0 lo)).take (HT.sIx xs.length xs.length hi-HT.sIx xs.length 0 lo)
def GK (ns:Vk) (lo hi:JX):F8 (ns.map W.int) lo hi=(iZ ns lo hi).map W.int:=by
 unfold F8 iZ;rw[qA7,<- List.map_drop,<- List.map_take]
def CK (ns:Vk)(j:Nat) (z:Int):(ns.map W.int).set j (.int z)=(ns.set j z).map W.int:=by rw[List.map_set]
def HJ (ns:Vk) (z:Int):ns.map W.int ++ [.int z]=(ns ++ [z]).map W.int:=by rw[qC9];rfl
def DD (k:Nat) (z:Int):(List.replicate k [W.int z]).flatten=(List.replicate k z).map W.int:=by
 induction k with
 |zero=>rfl
 |succ k I=>rw[qV3,List.flatten_cons,I,qV3,qB9];rfl
def av {α:Type}(as:List α)(f:α->Int):(as.map λa=>W.int (f a))=(as.map f).map W.int:=by rw[qC5];rfl
def D7 {f:Vx}(h:k<n):((List.range n).map f).getD k 0=f k:=by
 rw[qA0,qC0];simp [h]
def Q2 {a b:Vk}(h:b.length=a.length):(eP [a.map W.int,b.map W.int]).map W.tup=(List.range a.length).map λk=>W.tup [.int (a.getD k 0),.int (b.getD k 0)]:=by
 apply qP4;intro i;simp only [eP,qC0,qL0];by_cases hi:i<a.length
 .rw[N4 hi,N4 (ns:=b) ox];simp [hi]
 .simp [hi]
def yW {a b c:Vk}(h:b.length=a.length) (h':c.length=a.length):(eP [a.map W.int,b.map W.int,c.map W.int]).map W.tup=(List.range a.length).map λk=>W.tup [.int (a.getD k 0),.int (b.getD k 0),.int (c.getD k 0)]:=by
 apply qP4;intro i;simp only [eP,qC0,qL0,List.zip];by_cases hi:i<a.length
 .rw[N4 hi,N4 (ns:=b) ox,N4 (ns:=c) ox];simp [hi]
 .simp [hi]
def W7 (x y:W) (xs I:Vp) (hx:B1 x=.ok xs) (hy:B1 y=.ok I):M1 [x,y]=.ok ((eP [xs,I]).map W.tup):=by
 unfold M1;simp only [qD1,qM9,U6,hx,hy,Nat.reduceAdd,true_or,qQ2]
def Cj (x y z:W) (xs ys I:Vp) (hx:B1 x=.ok xs) (hy:B1 y=.ok ys) (hz:B1 z=.ok I):M1 [x,y,z]=.ok ((eP [xs,ys,I]).map W.tup):=by
 unfold M1;simp only [qD1,qM9,U6,hx,hy,hz,Nat.reduceAdd,or_true,qQ2]
def IH {i j:Int}(h:-18446744073709551616<i/\i<18446744073709551616):fI CMul r9 (.int i) (.int j)=.ok (.int (i*j)):=by
 change (if CMul i j then _ else _)=_;rw[qA2 (.inl (by simpa using h))]
def IG {i j:Int}(h:-18446744073709551616<j/\j<18446744073709551616):fI CMul r9 (.int i) (.int j)=.ok (.int (i*j)):=by
 change (if CMul i j then _ else _)=_;rw[qA2 (.inr (by simpa using h))]
def EY {i j:Int}(h:0<j):fI t8 u7 (.int i) (.int j)=.ok (.int (i%j)):=by
 change (if t8 i j then _ else _)=_;rw[qA2 h]
def div_ii {i j:Int}(h:0<j/\j<1073741824):fI B4 G8 (.int i) (.int j)=.ok (.int (i/j)):=by
 change (if B4 i j then _ else _)=_;rw[qA2 (show B4 i j from h)]
def Ev {i j:Int}(h:0<=j/\j<=1000000 /\ -18446744073709551616<i/\i<18446744073709551616):fI fO xl (.int i) (.int j)=.ok (.int (i^j.toNat)):=by
 change (if fO i j then _ else _)=_;rw[qA2 ⟨h.1,h.2.1,ox⟩]
def HK {ws:Vp}{w:W}{i:Nat}{ρ:Rho}(h:ws.length<1000):xT (some (.own ws)) (.ok w) i ρ=.ok (.nx (ρ.set i (.own (ws ++ [w])))):=by rw[BZ,qA2 h]
def AC {ws:Vp}(h:ws.length<=1000):qe ws=.ok (.tup ws):=by rw[wJ,qA2 h]
def AD {ws:Vp}(h:ws.length<=1000):qf ws=.ok (.lst ws):=by rw[wK,qA2 h]
def uC {c:Bool}{us vs:Vp}(h:us.length+vs.length<=1000):aA c (.lst us) (.lst vs)=chks c (us++vs):=by
 change (if us.length+vs.length<=1000 then _ else _)=_;rw[qA2 h]
def Gg {c:Bool}{z:W}{k:Int}(h:0<=k/\k<=1000):fRep c (.lst [z]) (.int k)=chks c (List.replicate k.toNat [z]).flatten:=by
 change (if [z].length*k.toNat<=1000 /\ -1000<=k/\k<=1000 then _ else _)=_;rw[qA2 ⟨by simp only [qD1,qM9];omega,ox,h.2⟩]
def JA {ns:Vk}{i:Int}(h:0<=i/\i<ns.length):L2.atI (ns.map W.int) i=some (.int (ns.getD i.toNat 0)):=atW h.1 h.2
def IM {n:Nat}{i:Int}(h:0<=i/\i<n):ixN n i=some i.toNat:=aU h.1 h.2
def Ds {z:Int}(h:-1000000<=z/\z<=1000000):O5 0 z=.ok ((List.range z.toNat).map λk=>W.int (k:Nat)):=vO h.1 h.2
def Ok (r:R W)(P:W->Prop):Prop:=∃w,r=.ok w/\P w
def Po (r:R Fl) (I:Rho->Prop) (Jr:W->Prop):Prop:=match r with
 | .ok (.nx ρ)=>I ρ
 | .ok (.rt w)=>Jr w
 |_=>False
def p7 (h:Po r (λ_=>P .non) P):Ok (T9 r) P:=by
 cases r with
 |ex _=>show h.elim
 |stuck=>show h.elim
 | ok f=>cases f with
  |nx ρ=>show ⟨_,rfl,h⟩
  |rt w=>show ⟨_,rfl,h⟩
  |bk _=>show h.elim
  |ct _=>show h.elim
def M3 (h:Po r (λρ=>Po (n ρ) Jn Jr) Jr):Po (andThen r n) Jn Jr:=by
 cases r with
 |ex _=>show h.elim
 |stuck=>show h.elim
 | ok f=>cases f with
  |nx ρ=>show h
  |rt w=>show h
  |bk _=>show h.elim
  |ct _=>show h.elim
def Iu {ρ:Rho}{I:Rho->Prop}{Jr:W->Prop}:Po (.ok (.nx ρ)) I Jr=I ρ:=rfl
def Ir {w:W}{I:Rho->Prop}{Jr:W->Prop}:Po (.ok (.rt w)) I Jr=Jr w:=rfl
def bF (I:b=true->Po (m ρ) Jn Jr) (h2:b=false->Po (n ρ) Jn Jr):Po (ifS (.ok b) m n ρ) Jn Jr:=by
 cases b with
 |true=>show I rfl
 |false=>show h2 rfl
def S6 (I:b=true->Po (andThen (m ρ) k) Jn Jr) (h2:b=false->Po (andThen (n ρ) k) Jn Jr):Po (andThen (ifS (.ok b) m n ρ) k) Jn Jr:=by
 cases b with
 |true=>show I rfl
 |false=>show h2 rfl
def Po.mono (h:Po r Jn Jr) (h1:∀ρ,Jn ρ->Jn' ρ) (I:∀w,Jr w->Jr' w):Po r Jn' Jr':=by
 cases r with
 |ex _=>show h
 |stuck=>show h
 | ok f=>cases f with
  |nx ρ=>show h1 ρ h
  |rt w=>show I w h
  |bk _=>show h
  |ct _=>show h
def sJ (I:Nat->Rho->Prop):∀(ws:Vp) (k:Nat) (ρ:Rho),I k ρ ->
  (∀(i:Nat) (w:W) (ρ:Rho),ws[i]?=some w->I (k+i) ρ->∃a3,mg w ρ=some a3/\Po (mb a3) (I (k+i+1)) Jr)->Po (D8 mg mb ws ρ) (I (k+ws.length)) Jr:=by
 intro ws
 induction ws with
 |nil=>show λk ρ h _=>h
 | cons w ws ih=>
  intro k ρ h st;obtain ⟨a3,e1,p⟩:=st 0 w ρ rfl h;unfold D8;rw[e1]
  change Po (mb a3>>=_) _ _
  revert p
  cases mb a3 with
  |ex _=>show λp=>p.elim
  |stuck=>show λp=>p.elim
  | ok f=>cases f with
   |bk _=>show λp=>p.elim
   |ct _=>show λp=>p.elim
   |rt w=>show λp=>p
   | nx a4=>
    intro p
    have:=ih (k+1) a4 p λi w ρ hw hp=>by
     have:=st (i+1) w ρ hw (by rw[<- qT0 k i];show hp)
     rw[<- qT0 k i]at this;show this
    rw[qD1,<- qT0 k ws.length];show this
def lw (I:Nat->Rho->Prop) (h0:I 0 ρ) (st:∀(i:Nat) (w:W) (ρ:Rho),ws[i]?=some w->I i ρ->∃a3,mg w ρ=some a3/\Po (mb a3) (I (i+1)) Jr) (hn:∀ρ,I ws.length ρ->Jn ρ):Po (D8 mg mb ws ρ) Jn Jr:=by
 have:=sJ (mg:=mg) (mb:=mb) (Jr:=Jr) I ws 0 ρ h0 λi w ρ hw hp=>by rw[qN9]at hp ⊢;show st i w ρ hw hp
 rw[qN9]at this;show this.mono hn λ_ h=>h
def t9 (I:Nat->Rho->Prop)(h0:I 0 ρ)(st:∀(i:Nat)(w:W)(ρ:Rho),ws[i]?=some w->I i ρ->∃a3,mg w ρ=some a3/\Po (mb a3) (I (i+1)) Jr)(hn:∀ρ,I ws.length ρ->Po (n ρ) Jn Jr):Po (andThen (D8 mg mb ws ρ) n) Jn Jr:=M3 (lw I h0 st hn)
def Q6 (I:Nat->Rho->Prop) (st:∀m ρ,I m ρ->∃t,c ρ=.ok t/\if t=true then Po (b ρ) (λa3=>∃m',m'<m/\I m' a3) Jr else Jn ρ):∀(m:Nat) (ρ:Rho),I m ρ->Po (J3 c b ρ) Jn Jr:=by
 have key:∀(m:Nat) (ρ:Rho),I m ρ->∃r,K4 c b (m+1) ρ=some r/\Po r Jn Jr:=by
  intro m
  induction m using Nat.strongRecOn with
  | ind m ih=>
   intro ρ h;obtain ⟨t,e,q⟩:=st m ρ h;unfold K4;rw[e];cases t with
   |false=>rw[qA4 qA3]at q;show ⟨_,rfl,q⟩
   | true=>
    rw[qA2 rfl]at q;dsimp only
    revert q
    cases b ρ with
    |ex _=>show λq=>q.elim
    |stuck=>show λq=>q.elim
    | ok f=>cases f with
     |bk _=>show λq=>q.elim
     |ct _=>show λq=>q.elim
     |rt w=>show λq=>⟨_,rfl,q⟩
     | nx a3=>
      intro ⟨m',hm,h'⟩;obtain ⟨r,e',q'⟩:=ih m' hm a3 h';show ⟨r,bK (m'+1) a3 r e' m ox,q'⟩
 intro m ρ h;obtain ⟨r,e,q⟩:=key m ρ h;rw[jz e];show q
def ou (s:α->W) (p:α->Int->Prop):∀(as:List α),(∀a∈as,∃z,f (s a)=.ok (some (.int z))/\p a z)->∃I:List Int,mapR f (as.map s)=.ok (I.map W.int)/\Paired p as I
 | [],_=>⟨[],rfl,.nil⟩
 | a::as,h=>by
  obtain ⟨z,e,hz⟩:=h a Zy;obtain ⟨I,e2,hp⟩:=ou s p as λb hb=>h b (by simp [hb]);refine ⟨z::I,?_,.cons hz hp⟩;rw[qB9,mapR,e,e2];rfl
def qm (p:α->Int->Prop) (hl:as.length<=1000) (h:∀a∈as,∃I,mg (s a) (ρ++List.replicate (N'-ρ.length) Sl.un)=some I/\Ok (me I) λw=>∃z,w=.int z/\p a z):∃zs:List Int,j7 N' mg yes me (as.map s) ρ=.ok (lI zs)/\Paired p as zs:=by
 obtain ⟨zs,e,hp⟩:=ou (f:=elR mg yes me (ρ++List.replicate (N'-ρ.length) Sl.un)) s p as λa ha=>by
  obtain ⟨I,e1,w,e2,z,rfl,hz⟩:=h a ha;refine ⟨z,?_,hz⟩;unfold elR;rw[e1];have hy:yes I=.ok true:=rfl;dsimp only;rw[hy];dsimp only;rw[e2]
 refine ⟨zs,?_,hp⟩;unfold j7;rw[qA7,qA2 hl,e]
def lB {p:Nat->Int->Prop}(h:Paired p (List.range n) I):I.length=n/\∀k,k<n->p k (I.getD k 0):=by
 have hl:(List.range n).length=I.length:=Paired.length h;rw[qF5]at hl;refine ⟨hl.symm,λk hk=>?_⟩;have key:∀(l:Vy) (I:Vk) (k:Nat) (a:Nat),Paired p l I->l[k]?=some a->p a (I.getD k 0):=by
  intro l
  induction l with
  |nil=>intro I k a _ e;simp at e
  | cons b l ih=>
   intro I k a q e;cases q with
   | cons h1 h2=>
    cases k with
    |zero=>simp at e;subst e;show h1
    |succ k=>simp at e;simpa using ih _ k a h2 e
 show key _ I k k h (by simp [hk])
def OkL (r:R Vp)(P:List W->Prop):Prop:=∃w,r=.ok w/\P w
def sI (h:Ok r λw=>Jn (ρ.set i (f w))):Po (jd r f i ρ) Jn Jr:=by
 obtain ⟨w,rfl,q⟩:=h;show q
def oh (h:Ok r λw=>Po (n (ρ.set i (f w))) Jn Jr):Po (andThen (jd r f i ρ) n) Jn Jr:=M3 (sI h)
def wC (h:OkL r λw=>Ok (f w) P):Ok (r>>=f) P:=by
 obtain ⟨w,rfl,q⟩:=h;show q
def IF (h:Ok a λx=>P (x::xs)):OkL (ic a (.ok xs)) P:=by
 obtain ⟨w,rfl,q⟩:=h;show ⟨_,rfl,q⟩
def iB (p:α->Int->Prop) (hl:as.length<=1000) (h:∀a∈as,∃I,mg (s a) (ρ++List.replicate (N'-ρ.length) Sl.un)=some I/\Ok (me I) λw=>∃z,w=.int z/\p a z) (hp:∀zs,Paired p as zs->P (lI zs)):Ok (j7 N' mg yes me (as.map s) ρ) P:=by
 obtain ⟨zs,e,q⟩:=qm (mg:=mg) (me:=me) (ρ:=ρ) (N':=N') p hl h;show ⟨_,e,hp zs q⟩
def wB (p:α->Int->Prop) (hl:as.length<=1000) (h:∀a∈as,∃I,mg (s a) (ρ++List.replicate (N'-ρ.length) Sl.un)=some I/\Ok (me I) λw=>∃z,w=.int z/\p a z) (hp:∀zs,Paired p as zs->P (tI zs)):Ok (ic (j7 N' mg yes me (as.map s) ρ) (.ok [])>>=E2 c) P:=
 wC (IF (iB p hl h λzs q=>⟨_,by rw[uu,uP],hp zs q⟩))
def tj (p:Nat->Int->Prop) (hl:n<=1000) (h:∀k,k<n->∃a3,mg (.int (k:Nat)) (ρ++List.replicate (N'-ρ.length) Sl.un)=some a3/\Ok (me a3) λw=>∃z,w=.int z/\p k z) (hp:∀I:List Int,I.length=n->(∀k,k<n->p k (I.getD k 0))->P (tI I)):Ok (ic (j7 N' mg yes me ((List.range n).map λk=>W.int (k:Nat)) ρ) (.ok [])>>=E2 c) P:=
 wB p (by simpa using hl) (λa ha=>h a (by simpa using ha)) λI q=>let ⟨a,b⟩:=lB q;hp I a b
def xn (i j:Int):de i j=max i j:=by unfold de;omega
def xm (i j:Int):iS i j=min i j:=by unfold iS;omega
def oW:Option Int->W
 |none=>.non
 |some i=>.int i
def oW_n:oW none=.non:=rfl
def oW_s (i:Int):oW (some i)=.int i:=rfl
def tz (o:JX):noL (oW o)=true:=by cases o <;> rfl
def GY (o:JX):chk (oW o)=.ok (oW o):=n5 (tz o)
def fv {α:Type}(f:α->W) (h:∀a,noL (f a)=true) (as:List α):m8 (as.map f)=true:=by
 induction as with
 |nil=>rfl
 |cons a as I=>rw[qB9];simp only [m8,h,I,qM7]
def iD (cs:JW):m8 (cs.map oW)=true:=fv oW tz cs
def GV (c:Bool)(cs:JW):chks c (cs.map oW)=.ok (.lst (cs.map oW)):=ja (iD cs)
def He (c:Bool)(cs:JW):Z2 c (cs.map oW)=.ok (.tup (cs.map oW)):=dZ (iD cs)
def FG (o:JX):isN (oW o)=o.isNone:=by cases o <;> rfl
def vC (o:JX):O0 (oW o)=.val (oW o):=by cases o <;> rfl
def bp {α:Type}(f:α->W){as:List α}{d:α}{i:Int}(h:0<=i/\i<as.length):L2.atI (as.map f) i=some (f (as.getD i.toNat d)):=by
 unfold L2.atI;rw[qA7,aU h.1 h.2]
 change (as.map f)[i.toNat]?=_;have hi:i.toNat<as.length:=ox;rw[qC0,qA0];simp [hi]
def JB {cs:JW}{i:Int}(h:0<=i/\i<cs.length):L2.atI (cs.map oW) i=some (oW (cs.getD i.toNat none)):=bp oW h
def appO (cs:JW)(o:JX):cs.map oW ++ [oW o]=(cs ++ [o]).map oW:=by rw[qC9];rfl
def vU {f:Nat->W}(h:((List.range n).map f)[i]?=some w):i<n/\w=f i:=by
 rw[qC0]at h;cases q:(List.range n)[i]? with
 |none=>rw[q]at h;cases h
 | some k=>
  rw[q]at h;obtain ⟨h1,I⟩:=qA9.mp q;simp at h1 I;subst I;cases h;show ⟨h1,rfl⟩
def t4 (ns:Vk):noL (tI ns)=true:=B5 ns
def gq (ss:Vw):m8 (ss.map tI)=true:=fv tI t4 ss
def GU (c:Bool)(ss:Vw):chks c (ss.map tI)=.ok (.lst (ss.map tI)):=ja (gq ss)
def Hd (c:Bool)(ss:Vw):Z2 c (ss.map tI)=.ok (.tup (ss.map tI)):=dZ (gq ss)
def yN {ss:Vw}{i:Int}(h:0<=i/\i<ss.length):L2.atI (ss.map tI) i=some (tI (ss.getD i.toNat [])):=bp tI h
def HI (ss:Vw)(s:Vk):ss.map tI ++ [tI s]=(ss ++ [s]).map tI:=by rw[qC9];rfl
def fM {α:Type}(xs:List α)(lo hi:JX):List α:=(xs.drop (HT.sIx xs.length 0 lo)).take (HT.sIx xs.length xs.length hi-HT.sIx xs.length 0 lo)
def xI (f:α->W) (as:List α) (lo hi:JX):F8 (as.map f) lo hi=(fM as lo hi).map f:=by
 unfold F8 fM;rw[qA7,<- List.map_drop,<- List.map_take]
def GJ (ss:Vw)(lo hi:JX):F8 (ss.map tI) lo hi=(fM ss lo hi).map tI:=xI tI ss lo hi
def Hg (ss I:Vw):ss.map tI++I.map tI=(ss++I).map tI:=by rw[qC9]
def Hi (ss I:Vk):ss.map W.int++I.map W.int=(ss++I).map W.int:=by rw[qC9]
def Dt {lo hi:Int}(h:-1000000<=lo/\lo<=1000000 /\ -1000000<=hi/\hi<=1000000):O5 lo hi=.ok ((List.range (hi-lo).toNat).map λk=>W.int (lo+(k:Nat))):=by
 unfold O5;rw[qA2 h]
def eqv_refl:∀w:W,PyData.eqv (pd w) (pd w)=true:=by
 intro w;refine W.rec (motive_1:=λw=>PyData.eqv (pd w) (pd w)=true) (motive_2:=λws=>PyData.eqvAll (pds ws) (pds ws)=true) ?_ ?_ ?_ ?_ ?_ ?_ ?_ ?_ ?_ ?_ ?_ ?_ w
 .rfl
 .intro b;cases b <;> rfl
 .intro b;show qT7 b
 .intro b;show qT7 b
 .intro b;rfl
 .show λws h=>h
 .show λws h=>h
 .show λws h=>h
 .intro b c;rfl
 .intro b;rfl
 .rfl
 .intro w ws h1 I;show (qG5 _ _).mpr ⟨h1,I⟩
def xB (w:W):eqW w w=true:=eqv_refl w
def Q4 {α:Type}(f:α->W) (n:Nat) (h:∀a,shp n (f a)=true) (as:List α):E9 n (as.map f)=true:=by
 induction as with
 |nil=>rfl
 |cons a as I=>rw[qB9];simp only [E9,h,I,qM7]
def Q5 (n:Nat) (i:Int):shp n (.int i)=true:=by cases n <;> rfl
def rS (n:Nat)(b:Bool):shp n (.bl b)=true:=by cases n <;> rfl
def O1 (n:Nat)(ns:Vk):shp (n+1) (tI ns)=true:=Q4 W.int n (Q5 n) ns
def rR (n:Nat)(ns:Vk):shp (n+1) (lI ns)=true:=Q4 W.int n (Q5 n) ns
def cC (n:Nat)(ss:Vw):shp (n+2) (.lst (ss.map tI))=true:=Q4 tI (n+1) (O1 n) ss
def xy (h:shp 8 w=true):fEq neg w w=.ok (.bl (!neg)):=by
 unfold fEq;rw[h,xB];cases neg <;> rfl
def eqI:∀(a b:Vk),PyData.eqvAll (pds (a.map W.int)) (pds (b.map W.int))=decide (a=b)
 | [],[]=>by simp [pds,PyData.eqvAll]
 | [],_::_=>by simp [pds,PyData.eqvAll]
 |_::_,[]=>by simp [pds,PyData.eqvAll]
 | x::a,y::b=>by
  simp only [qB9,pds,pd,PyData.eqvAll,PyData.eqv,eqI a b];by_cases h:x=y <;> by_cases h':a=b <;> simp [h,h']
def uv (neg:Bool) (a b:Vk):fEq neg (tI a) (tI b)=.ok (.bl (if neg then !decide (a=b) else decide (a=b))):=by
 unfold fEq;rw[O1,O1]
 have:eqW (tI a) (tI b)=decide (a=b):=eqI a b
 rw[this];rfl
def Gu (neg:Bool) (a b:Vk):fEq neg (lI a) (lI b)=.ok (.bl (if neg then !decide (a=b) else decide (a=b))):=by
 unfold fEq;rw[rR,rR]
 have:eqW (lI a) (lI b)=decide (a=b):=eqI a b
 rw[this];rfl
def GC:∀(a b:Vw),PyData.eqvAll (pds (a.map tI)) (pds (b.map tI))=decide (a=b)
 | [],[]=>by simp [pds,PyData.eqvAll]
 | [],_::_=>by simp [pds,PyData.eqvAll]
 |_::_,[]=>by simp [pds,PyData.eqvAll]
 | x::a,y::b=>by
  simp only [qB9,pds,pd,PyData.eqvAll,PyData.eqv,GC a b,eqI];by_cases h:x=y <;> by_cases h':a=b <;> simp [h,h']
def Gs (neg:Bool) (a b:Vw):fEq neg (.lst (a.map tI)) (.lst (b.map tI))=.ok (.bl (if neg then !decide (a=b) else decide (a=b))):=by
 unfold fEq;rw[cC,cC]
 have:eqW (.lst (a.map tI)) (.lst (b.map tI))=decide (a=b):=GC a b
 rw[this];rfl
def P6 (neg:Bool) (i j:Int):fEq neg (.int i) (.int j)=.ok (.bl (if neg then !decide (i=j) else decide (i=j))):=by
 unfold fEq;rw[Q5,Q5]
 have:eqW (.int i) (.int j)=decide (i=j):=by
  by_cases h:i=j <;> simp [eqW,pd,PyData.eqv,h]
 rw[this];rfl
def Gw (neg:Bool) (i j:Bool):fEq neg (.bl i) (.bl j)=.ok (.bl (if neg then !decide (i=j) else decide (i=j))):=by
 unfold fEq;rw[rS,rS]
 have:eqW (.bl i) (.bl j)=decide (i=j):=by cases i <;> cases j <;> rfl
 rw[this];rfl
def Gr (neg:Bool) (j:Int):fEq neg .non (.int j)=.ok (.bl neg):=by cases neg <;> rfl
def Gv (neg:Bool) (j:Int):fEq neg (.int j) .non=.ok (.bl neg):=by cases neg <;> rfl
def Gq (neg:Bool):fEq neg .non .non=.ok (.bl (!neg)):=by cases neg <;> rfl
def xA (g:List Bool->Bool) (bs:List Bool):gQ g [.lst (bs.map W.bl)]=.ok (.bl (g bs)):=by
 change (toR (Z3 (bs.map W.bl))>>=_)=_;rw[BU];rfl
def Bv (g:List Int->Int) (ns:Vk):aj g [.lst (ns.map W.int)]=.ok (.int (g ns)):=by
 change (toR (w4 (ns.map W.int))>>=_)=_;rw[ints_map];rfl
def Gn (i:Int):fInt [.int i]=.ok (.int i):=rfl
def Go (b:Bool):fInt [.bl b]=.ok (.int (if b then 1 else 0)):=rfl
def Gx (i:Int):fAbs [.int i]=.ok (.int (if i<0 then -i else i)):=rfl
def Gz (o:Option Sl) (r:R W) (c:Bool) (i:Nat) (ρ:Rho):R Fl:=match o with
 | some (.own ws)=>r>>=λw=>(match w with
  | .lst us=>if ws.length+us.length<=1000 then (if c||m8 us then .ok (.nx (ρ.set i (.own (ws++us)))) else .stuck) else .stuck
  |_=>.stuck)
 |_=>.stuck
def AI (i:Nat)(c:Bool)(m:Vo)(ρ:Rho):mq i c m ρ=Gz (ρ[i]?) (m ρ) c i ρ:=rfl
def Gy {ws us:Vp}{c:Bool}{i:Nat}{ρ:Rho}(h:ws.length+us.length<=1000):Gz (some (.own ws)) (.ok (.lst us)) c i ρ=if c||m8 us then .ok (.nx (ρ.set i (.own (ws++us)))) else .stuck:=by
 change (if ws.length+us.length<=1000 then _ else _)=_;rw[qA2 h]
def DC (o:Option Sl) (i:Nat) (ρ:Rho):R Fl:=match o with
 |some (.own ws)=>.ok (.nx (ρ.set i (.own ws.reverse)))
 |_=>.stuck
def AH (i:Nat)(ρ:Rho):mRev i ρ=DC (ρ[i]?) i ρ:=rfl
def zD (ws:Vp)(i:Nat)(ρ:Rho):DC (some (.own ws)) i ρ=.ok (.nx (ρ.set i (.own ws.reverse))):=rfl
def sK (J:Rho->Prop)(h1:Po r J Jr)(I:∀ρ,J ρ->Po (n ρ) Jn Jr):Po (andThen r n) Jn Jr:=M3 (h1.mono I λ_ h=>h)
def Bm (i j:Int):C4 i j=.int (i+j):=rfl
def Bj (i j:Int):TP.gSub i j=.int (i-j):=rfl
def FV (i j:Int):gLt i j=.bl (decide (i<j)):=rfl
def FW (i j:Int):gLe i j=.bl (decide (i<=j)):=rfl
def FX (i j:Int):gGt i j=.bl (decide (j<i)):=rfl
def FY (i j:Int):gGe i j=.bl (decide (j<=i)):=rfl
def Bl (i:Int):C0 i=.int (-i):=rfl
def xq (i j:Int):qy i j=i+j:=rfl
def xk (i j:Int):IO i j=i-j:=rfl
def Gf {i:Int}(h:0<=i/\i<1000):fStr [.int i]=.ok (.str (toString i)):=by
 change (if i.natAbs.log2<1920 then _ else _)=_;rw[qA2];refine qD4 (Nat.log2_le_self _) ?_;omega
def Gm (neg:Bool)(u:W)(b:Bool):fIsB neg u (.bl b)=.ok (.bl (if neg then !ax u b else ax u b)):=rfl
def FL (i:Int)(b:Bool):ax (.int i) b=false:=rfl
def FJ (b:Bool):ax .non b=false:=rfl
def FI (x:Str)(b:Bool):ax (.str x) b=false:=rfl
def FH (x:Vp)(b:Bool):ax (.tup x) b=false:=rfl
def FK (x:Vp)(b:Bool):ax (.lst x) b=false:=rfl
def FM (a b:Bool):ax (.bl a) b=(a == b):=rfl
def Rcu (c:Bool)(r:R Vp)(f:List W->R W)(i:Nat)(ρ:Rho):R Fl:=if c then (r>>=λws=>f ws>>=λw=>.ok (.nx (ρ.set i (.par w)))) else .stuck
def CZ (i:Nat)(f:List W->R W)(ma:VQ)(ρ:Rho):sCU i f ma ρ=Rcu (noOwn ρ) (ma ρ) f i ρ:=rfl
def HP (r:R W)(i:Nat)(ρ:Rho):R Fl:=r>>=λw=>.ok (.nx (ρ.set i (.par w)))
def JE (ws:Vp)(f:List W->R W)(i:Nat)(ρ:Rho):Rcu true (.ok ws) f i ρ=HP (f ws) i ρ:=rfl
def Cg (w:W)(i:Nat)(ρ:Rho):HP (.ok w) i ρ=.ok (.nx (ρ.set i (.par w))):=rfl
def tw:noOwn []=true:=rfl
def Ap (w:W)(ρ:Rho):noOwn (.val w::ρ)=noOwn ρ:=rfl
def Ar (w:W)(ρ:Rho):noOwn (.par w::ρ)=noOwn ρ:=rfl
def Aq (ρ:Rho):noOwn (.un::ρ)=noOwn ρ:=rfl
def BC {g:List Int->Int}{ns:Vk}(h:0<ns.length):yD g [tI ns]=.ok (.int (g ns)):=by
 change (toR (w4 (ns.map W.int))>>=_)=_;rw[ints_map]
 change (if 0<ns.length then _ else _)=_;rw[qA2 h]
def BD {g:List Int->Int}{ns:Vk}(h:0<ns.length):yD g [lI ns]=.ok (.int (g ns)):=by
 change (toR (w4 (ns.map W.int))>>=_)=_;rw[ints_map]
 change (if 0<ns.length then _ else _)=_;rw[qA2 h]
def DB (ws:Vp):ip [.lst ws]=.ok ws.reverse:=rfl
def rp0:=Z1 (@xn) (Z1 (@xm) (Z1 (@Iu) (Z1 (@Ir) (Z1 (@IH) (Z1 (@IG) (Z1 (@EY) (Z1 (@div_ii) (Z1 (@Ev) (Z1 (@HK) (Z1 (@AC) (Z1 (@AD) (Z1 (@uC) (Z1 (@Gg) (Z1 (@JA) (Z1 (@IM) (Z1 (@Ds) (Z1 (@GK) (Z1 (@CK) (Z1 (@HJ) (Z1 (@DD) (Z1 (@AG) (Z1 (@qM) (Z1 (@qL) (@qO))))))))))))))))))))))))
def rp1:=Z1 (@qN) (Z1 (@II) (Z1 (@Jz) (Z1 (@Jy) (Z1 (@HS) (Z1 (@Jx) (Z1 (@Jw) (Z1 (@Jv) (Z1 (@JC) (Z1 (@JD) (Z1 (@xW) (Z1 (@BX) (Z1 (@xS) (Z1 (@zh) (Z1 (@Ct) (Z1 (@zg) (Z1 (@zN) (Z1 (@zO) (Z1 (@zM) (Z1 (@DU) (Z1 (@DT) (Z1 (@DV) (Z1 (@zI) (Z1 (@zc) (@Cm))))))))))))))))))))))))
def rp2:=Z1 (@za) (Z1 (@vZ) (Z1 (@wa) (Z1 (@vY) (Z1 (@zG) (Z1 (@zF) (Z1 (@zH) (Z1 (@vW) (Z1 (@Cn) (Z1 (@zJ) (Z1 (@zL) (Z1 (@zK) (Z1 (@rp) (Z1 (@vg) (Z1 (@yZ) (Z1 (@zb) (Z1 (@IB) (Z1 (@IA) (Z1 (@sT) (Z1 (@Cl) (Z1 (@Cd) (Z1 (@Cc) (Z1 (@vo) (Z1 (@xX) (@CV))))))))))))))))))))))))
def rp3:=Z1 (@Da) (Z1 (@CW) (Z1 (@vK) (Z1 (@xV) (Z1 (@zu) (Z1 (@zE) (Z1 (@vJ) (Z1 (@Ia) (Z1 (@Ib) (Z1 (@Ie) (Z1 (@Ce) (Z1 (@rP) (Z1 (@rM) (Z1 (@rQ) (Z1 (@vD) (Z1 (@rO) (Z1 (@rN) (Z1 (@Id) (Z1 (@Ch) (Z1 (@rG) (Z1 (@zA) (Z1 (@Cf) (Z1 (@zw) (Z1 (@Ga) (@xu))))))))))))))))))))))))
def rp4:=Z1 (@xr) (Z1 (@xt) (Z1 (@Bo) (Z1 (@iH) (Z1 (@DG) (Z1 (@DE) (Z1 (@DF) (Z1 (@DH) (Z1 (@DI) (Z1 (@DL) (Z1 (@DJ) (Z1 (@DK) (Z1 (@DM) (Z1 (@DN) (Z1 (@DO) (Z1 (@DP) (Z1 (@qj) (Z1 (@vR) (Z1 (@vP) (Z1 (@vQ) (Z1 (@AK) (Z1 (@AF) (Z1 (@zp) (Z1 (@rT) (@AJ))))))))))))))))))))))))
def rp5:=Z1 (@BY) (Z1 (@Fb) (Z1 (@FN) (Z1 (@FO) ((((((Z1 (@BG) (Z1 (@BH) (Z1 (@Gp) (Z1 (@fU_i) (Z1 (@IU) (Z1 (@IS) (Z1 (@IT) (Z1 (@vx) (Z1 (@Cr) (Z1 (@Gj) (Z1 (@Gh) (Z1 (@Gi) (Z1 (@Bt) (Z1 (@Bs) (Z1 (@uu) (@Ge))))))))))))))))))))))))
def rp6:=Z1 (@GT) (Z1 (@Hc) (Z1 (@GW) (Z1 (@uP) (Z1 (@BM) (Z1 (@GZ) (Z1 (@BK) (Z1 (@BL) (Z1 (@GX) (Z1 (@IV) (Z1 (@CP) (Z1 (@CN) (Z1 (@CO) (Z1 (@Dw) (Z1 (@Du) (Z1 (@gN_U) (Z1 (@gN_V) (Z1 (@gT_t) (Z1 (@xj) (Z1 (@Bg) (Z1 (@Bu) (Z1 (@Ft) (Z1 (@Fu) (Z1 (@Fx) (@Fn))))))))))))))))))))))))
def rp7:=Z1 (@Gk) (Z1 (@B5) (Z1 (@BA) (Z1 (@BB) (Z1 (@Bw) (Z1 (@Bx) (Z1 (@By) (@Bz)))))))
def rp8:=Z1 (@oW_n) (Z1 (@oW_s) (Z1 (@GY) (Z1 (@iD) (Z1 (@GV) (Z1 (@He) (Z1 (@FG) (Z1 (@vC) (Z1 (@JB) (@appO)))))))))
def rp9:=Z1 (@gq) (Z1 (@GU) (Z1 (@Hd) (Z1 (@yN) (Z1 (@HI) (Z1 (@GJ) (Z1 (@Hg) (Z1 (@Hi) (Z1 (@Dt) (Z1 (@uv) (Z1 (@Gu) (Z1 (@Gs) (Z1 (@P6) (Z1 (@Gw) (Z1 (@Gr) (Z1 (@Gv) (Z1 (@Gq) ((Z1 (@xA) (Z1 (@Bv) (Z1 (@Gn) (Z1 (@Go) (Z1 (@Gx) (Z1 (@AI) (Z1 (@Gy) (Z1 (@AH) (@zD))))))))))))))))))))))))))
def rp10:=Z1 (@Bm) (Z1 (@Bj) (Z1 (@FV) (Z1 (@FW) (Z1 (@FX) (Z1 (@FY) (Z1 (@Bl) (Z1 (@xq) (@xk))))))))
def rp11:=Z1 (@Gf) (Z1 (@Gm) (Z1 (@FL) (Z1 (@FJ) (Z1 (@FI) (Z1 (@FH) (Z1 (@FK) (@FM)))))))
def rp12:=Z1 (@CZ) (Z1 (@JE) (Z1 (@Cg) (Z1 (@tw) (Z1 (@Ap) (Z1 (@Ar) (@Aq))))))
def rp13:=Z1 (@BC) (Z1 (@BD) (@DB))
end TP
set_option maxHeartbeats 4000000
open PySem L2 TP
namespace K88
def mj:Vg:=
 (d4 (A9 (bI M1 (aC (b7 .U 0) (aC (b7 .U 1) aN))) (gT 2 (o6 (gN .U 2) (o6 (gN .U 3) gsNil)))
   (mIf (e9 (b2 (fI0 gLt) (b7 .B 2) (b7 .B 3))) (g8 (mC (.bl false))) sNx))
  (g8 (mC (.bl true))))
abbrev Y7:List W->R W:=i5 2 4 mj
def tJ:Vg:=
 (g8 (bA Y7 (aC (b7 .B 0) (aC (b2 fIx (b7 .B 1) (mC (.int 0))) aN))))
abbrev di:List W->R W:=i5 2 2 tJ
def fy:Vg:=
 (g8 (bA (E2 true) (aC (l6 3 (bI M1 (aC (b2 fIx (b7 .B 0) (mC (.int 0))) (aC (b2 fIx (b7 .B 0) (mC (.int 1))) aN))) (gT 2 (o6 (gN .U 1) (o6 (gN .U 2) gsNil))) yes (b2 (fI0 gSub) (b7 .B 2) (b7 .B 1))) aN)))
abbrev Y8:List W->R W:=i5 1 1 fy
def iG:Vg:=
 (d4 (mIf (z9 (e9 (bA di (aC (b7 .B 0) (aC (b7 .B 1) aN))))) sf sNx)
  (g8 (bA (E2 true) (aC (l6 4 (bI M1 (aC (b7 .B 0) (aC (bA Y8 (aC (b7 .B 1) aN)) aN))) (gT 2 (o6 (gN .U 2) (o6 (gN .U 3) gsNil))) yes (b2 (fI0 C4) (b7 .B 2) (b7 .B 3))) aN))))
abbrev Q9:List W->R W:=i5 2 2 iG
def lZ:Vg:=
 (d4 (A9 (bS (b7 .U 1)) (gN .U 2)
   (mIf (e9 (bA Y7 (aC (b7 .B 0) (aC (b7 .B 2) aN)))) (g8 (mC (.bl true))) sNx))
  (g8 (mC (.bl false))))
abbrev N2:List W->R W:=i5 2 3 lZ
def oz:Vg:=
 (d4 (sF 1 (C9 aN))
  (d4 (A9 (bS (bA fSortA (aC (b7 .B 0) aN))) (gN .U 2)
   (mIf (z9 (e9 (bA N2 (aC (b7 .B 2) (aC (b7 .B 1) aN))))) (Q7 1 (b7 .V 2)) sNx))
  (v5 .F 1)))
abbrev dX:List W->R W:=i5 1 3 oz
def lX:Vg:=
 (g8 (bA (E2 true) (aC (l6 5 (bI M1 (aC (b7 .B 0) (aC (b2 fIx (b7 .B 1) (mC (.int 0))) (aC (b2 fIx (b7 .B 1) (mC (.int 1))) aN)))) (gT 3 (o6 (gN .U 2) (o6 (gN .U 3) (o6 (gN .U 4) gsNil)))) yes (bA (f2 de) (aC (b7 .B 3) (aC (b2 (fI0 C4) (b2 (fI0 gSub) (b7 .B 2) (b7 .B 4)) (b7 .B 3)) aN)))) aN)))
abbrev fG:List W->R W:=i5 2 2 lX
def jt:Vg:=
 (d4 (sF 2 (C9 aN))
  (d4 (A9 (bS (b7 .U 0)) (gN .U 3)
   (mq 2 true (l6 5 (bS (b7 .B 1)) (gN .U 4) yes (bA fG (aC (b7 .B 4) (aC (b7 .B 3) aN))))))
  (v5 .F 2)))
abbrev S7:List W->R W:=i5 2 4 jt
def eB:Vg:=
 (g8 (bA dX (aC (b2 (aA true) (bA (gP false) (aC (b7 .B 1) aN)) (bA S7 (aC (b7 .B 0) (aC (b7 .B 1) aN)))) aN)))
abbrev R9:List W->R W:=i5 2 2 eB
def jx:Vg:=
 (g8 (bA (gQ xp) (aC (l6 3 (bS (bA S7 (aC (b7 .B 0) (aC (b7 .B 1) aN)))) (gN .U 2) yes (bA N2 (aC (b7 .B 2) (aC (b7 .B 1) aN)))) aN)))
abbrev dg:List W->R W:=i5 2 2 jx
def mf:Vg:=
 (d4 (sV 4 (b2 fIx (b7 .C 1) (b1 (fU C0) (mC (.int 1)))))
  (d4 (sV 5 (b2 (fI0 gSub) (bA fLen (aC (b7 .B 1) aN)) (mC (.int 1))))
  (d4 (mIf (e9 (b2 (fI0 gGt) (bA fLen (aC (b7 .B 4) aN)) (b7 .B 2))) (g8 (A0 (aC (mC (.str "open")) (aC (b7 .V 5) aN)))) sNx)
  (d4 (mIf (e9 (bA dg (aC (b7 .B 0) (aC (b7 .B 4) aN)))) (g8 (A0 (aC (b7 .V 3) (aC (b7 .V 4) aN)))) sNx)
  (d4 (mIf (e9 (b2 (fEq false) (b7 .B 5) (b7 .B 2))) (g8 (A0 (aC (mC (.str "open")) (aC (b7 .V 5) aN)))) sNx)
  (g8 (mC .non)))))))
abbrev bO:List W->R W:=M9 4 6 mf
def cT:Vg:=
 (g8 (l6 5 (bI R0 (aC (b7 .B 1) aN)) (gT 2 (o6 (gN .U 3) (o6 (gN .U 4) gsNil))) (dB (e9 (bA di (aC (b7 .B 0) (aC (b7 .B 4) aN)))) (e9 (bA N2 (aC (bA Q9 (aC (b7 .B 0) (aC (b7 .B 4) aN))) (aC (b7 .B 2) aN))))) (b7 .V 3)))
abbrev Y6:List W->R W:=i5 3 3 cT
def cS:Vg:=
 (d4 (sF 2 (C9 aN))
  (d4 (sV 3 (b2 fIx (b7 .C 0) (mC (.int 0))))
  (d4 (A9 (bI ip (aC (vSl true (b7 .C 1) pN (pS (b1 (fU C0) (mC (.int 1))))) aN)) (gN .U 4)
   (d4 (sV 5 (b2 fIx (bA Y6 (aC (b7 .B 3) (aC (b2 fIx (b7 .B 0) (mC (.int 1))) (aC (b7 .B 4) aN)))) (mC (.int 0))))
   (d4 (Q7 2 (b7 .V 5))
   (sF 3 (bA Q9 (aC (b7 .B 3) (aC (b2 fIx (b2 fIx (b7 .B 0) (mC (.int 1))) (b7 .B 5)) aN)))))))
  (v5 .V 2))))
abbrev P3:List W->R W:=M9 2 6 cS
def oB:Vg:=
 (d4 (sF 3 (C9 (aC (C9 (aC (b7 .V 1) aN)) aN)))
  (d4 (J3 (z9 (e9 (bA N2 (aC (b2 fIx (b7 .B 0) (mC (.int 0))) (aC (b2 fIx (b7 .B 3) (b1 (fU C0) (mC (.int 1)))) aN))))) (d4 (sCX 4 [3] bO (aC (U3 (b2 fIx (b7 .B 0) (mC (.int 1)))) (aC (b7 .V 3) (aC (b7 .V 2) (aC (mC (.str "wall")) aN)))))
   (d4 (mIf (e9 (b2 (bP true) (b7 .B 4) (mC .non))) (v5 .V 4) sNx)
   (Q7 3 (bA R9 (aC (b2 fIx (b7 .B 0) (mC (.int 1))) (aC (b2 fIx (b7 .B 3) (b1 (fU C0) (mC (.int 1)))) aN)))))))
  (au 3 (g8 (A0 (aC (mC (.str "row")) (aC (bA P3 (aC (b7 .V 0) (aC (b7 .V 3) aN))) aN)))))))
abbrev iV:List W->R W:=i5 3 5 oB
def ju:Vg:=
 (g8 (bA (E2 true) (aC (l6 5 (bI M1 (aC (b7 .B 0) (aC (b7 .B 1) aN))) (gT 2 (o6 (gN .U 3) (o6 (gN .U 4) gsNil))) yes (b2 (fI0 C4) (b7 .B 3) (b2 (fI CMulB r9) (b7 .B 2) (b7 .B 4)))) aN)))
abbrev df:List W->R W:=i5 3 3 ju
def oy:Vg:=
 (g8 (bA (aj G7) (aC (l6 4 (bI M1 (aC (b7 .B 0) (aC (b7 .B 1) aN))) (gT 2 (o6 (gN .U 2) (o6 (gN .U 3) gsNil))) yes (b2 (fI CMulB r9) (b7 .B 2) (b7 .B 3))) aN)))
abbrev aV:List W->R W:=i5 2 2 oy
def tG:Vg:=
 (g8 (bA (E2 true) (aC (l6 3 (bI M2 (aC (b7 .B 1) aN)) (gN .U 2) yes (vIf (e9 (b2 (fEq false) (b7 .B 2) (b7 .B 0))) (mC (.int 1)) (mC (.int 0)))) aN)))
abbrev mM:List W->R W:=i5 2 2 tG
def jw:Vg:=
 (g8 (bA df (aC (b7 .B 0) (aC (b7 .B 1) (aC (b1 (fU C0) (b2 (fI ao gFz) (b2 fIx (b7 .B 0) (b7 .B 2)) (b2 fIx (b7 .B 1) (b7 .B 2)))) aN)))))
abbrev ai:List W->R W:=i5 3 3 jw
def jy:Vg:=
 (d4 (J3 (e9 (b2 (m5 true) (b2 fIx (b7 .B 1) (b7 .B 2)) (mC (.int 0)))) (d4 (sF 3 (bA ai (aC (b7 .B 0) (aC (b7 .B 1) (aC (b7 .B 2) aN)))))
   (d4 (sV 0 (b7 .V 1))
   (au 3 (sV 1 (b7 .V 3))))))
  (g8 (A0 (aC (b7 .V 0) (aC (b7 .V 1) aN)))))
abbrev dh:List W->R W:=i5 3 4 jy
def gA:Vg:=
 (d4 (sF 2 (vSl false (b7 .B 0) pN (pS (mC (.int 1)))))
  (d4 (A9 (bS (vSl false (b7 .B 0) (pS (mC (.int 1))) pN)) (gN .U 3)
   (d4 (sF 4 (bA dh (aC (b2 fIx (b7 .B 2) (mC (.int 0))) (aC (b7 .B 3) (aC (b7 .B 1) aN)))))
   (sF 2 (b2 (aA true) (b2 (aA true) (C9 (aC (b2 fIx (b7 .C 4) (mC (.int 0))) aN)) (vSl true (b7 .C 2) (pS (mC (.int 1))) pN)) (C9 (aC (b2 fIx (b7 .C 4) (mC (.int 1))) aN))))))
  (v5 .F 2)))
abbrev bN:List W->R W:=i5 2 5 gA
def cR:Vg:=
 (g8 (vIf (e9 (b2 (fI0 gGt) (b2 fIx (b7 .B 0) (b7 .B 1)) (mC (.int 0)))) (b7 .F 0) (bA (E2 true) (aC (l6 3 (bS (b7 .B 0)) (gN .U 2) yes (b1 (fU C0) (b7 .B 2))) aN))))
abbrev ah:List W->R W:=i5 2 2 cR
def tH:Vg:=
 (d4 (sF 1 (C9 aN))
  (d4 (sU 2 (b7 .U 0))
  (d4 (sV 3 (mC (.int 0)))
  (d4 (J3 (e9 (b2 (fI0 gGt) (bA fLen (aC (b7 .B 2) aN)) (mC (.int 0)))) (d4 (sF 2 (bA bN (aC (b7 .B 2) (aC (b7 .B 3) aN))))
   (d4 (mIf (e9 (b2 (m5 true) (b2 fIx (b2 fIx (b7 .B 2) (mC (.int 0))) (b7 .B 3)) (mC (.int 0)))) (d4 (sF 4 (bA ah (aC (b2 fIx (b7 .B 2) (mC (.int 0))) (aC (b7 .B 3) aN))))
    (d4 (au 4 (sF 1 (b2 (aA true) (l6 6 (bS (b7 .B 1)) (gN .U 5) yes (bA ai (aC (b7 .B 5) (aC (b7 .B 4) (aC (b7 .B 3) aN))))) (C9 (aC (b7 .V 4) aN)))))
    (sF 2 (vSl true (b7 .C 2) (pS (mC (.int 1))) pN)))) sNx)
   (iJ 3 qy (mC (.int 1))))))
  (v5 .F 1)))))
abbrev mN:List W->R W:=i5 1 5 tH
def gB:Vg:=
 (d4 (sF 2 (l6 7 (bI M2 (aC (b7 .B 1) aN)) (gN .U 6) yes (bA mM (aC (b7 .B 6) (aC (b7 .B 1) aN)))))
  (d4 (A9 (bS (b7 .U 0)) (gN .U 3)
   (d4 (sF 4 (bA Y8 (aC (b7 .B 3) aN)))
   (d4 (sF 5 (bA mN (aC (l6 7 (bS (b7 .B 2)) (gN .U 6) yes (b2 fCatT (A0 (aC (bA aV (aC (b7 .B 6) (aC (b7 .B 4) aN))) aN)) (b7 .B 6))) aN)))
   (sF 2 (l6 7 (bS (b7 .B 5)) (gN .U 6) (e9 (b2 (m5 false) (b2 fIx (b7 .B 6) (mC (.int 0))) (mC (.int 0)))) (kG (b7 .B 6) (pS (mC (.int 1))) pN))))))
  (v5 .F 2)))
abbrev P4:List W->R W:=i5 2 6 gB
def gx:Vg:=
 (d4 (sF 2 (C9 aN))
  (d4 (sV 3 (b7 .V 1))
  (d4 (J3 (e9 (b2 (bP true) (b7 .B 3) (mC .non))) (d4 (Q7 2 (b7 .V 3))
   (sU 3 (b2 fIx (b2 fIx (b7 .B 0) (b7 .B 3)) (mC (.int 1))))))
  (v5 .F 2))))
abbrev V4:List W->R W:=i5 2 4 gx
def yu:Vg:=
 (g8 (bA gO (aC (bA V4 (aC (b7 .B 0) (aC (b7 .B 1) aN))) aN)))
abbrev qz:List W->R W:=i5 2 2 yu
def bX:Vg:=
 (d4 (sF 3 (bA qz (aC (b7 .B 0) (aC (b7 .B 2) aN))))
  (g8 (l6 5 (bS (vSl true (b7 .C 3) (pS (b2 (fI0 C4) (iI (b7 .B 3) (b7 .B 1)) (mC (.int 1)))) pN)) (gN .U 4) yes (U3 (b2 fIx (b2 fIx (b7 .B 0) (b7 .B 4)) (mC (.int 2)))))))
abbrev T8:List W->R W:=i5 3 4 bX
def ae:Vg:=
 (g8 (l6 4 (bI R0 (aC (b2 fIx (b7 .B 0) (mC (.int 1))) aN)) (gT 2 (o6 (gN .U 2) (o6 (gN .U 3) gsNil))) (e9 (bA di (aC (b7 .B 1) (aC (b7 .B 3) aN)))) (A0 (aC (bA Q9 (aC (b7 .B 1) (aC (b7 .B 3) aN))) (aC (b7 .V 2) aN)))))
abbrev P2:List W->R W:=i5 2 2 ae
def oA:Vg:=
 (d4 (sF 2 (C9 (aC (A0 (aC (U3 (b2 fIx (b7 .B 0) (mC (.int 0)))) (aC (mC .non) (aC (mC .non) aN)))) aN)))
  (d4 (kg 3 (b2 fIx (b7 .B 0) (mC (.int 0))) (mC (.bl true)))
  (d4 (sV 4 (mC (.int 0)))
  (d4 (J3 (e9 (b2 (fI0 gLt) (b7 .B 4) (bA fLen (aC (b7 .B 2) aN)))) (d4 (sV 5 (b2 fIx (b2 fIx (b7 .C 2) (b7 .C 4)) (mC (.int 0))))
   (d4 (A9 (bS (bA P2 (aC (b7 .B 0) (aC (b7 .B 5) aN)))) (gT 2 (o6 (gN .U 6) (o6 (gN .U 7) gsNil)))
    (d4 (mIf (mIn false 3 (b7 .B 6)) sCt sNx)
    (d4 (mIf (e9 (b2 (m5 false) (bA fLen (aC (b7 .B 2) aN)) (b7 .B 1))) (au 2 (g8 (A0 (aC (b7 .V 2) (aC (mC (.bl false)) aN))))) sNx)
    (d4 (gE 3 (b7 .B 6) (mC (.bl true)))
    (Q7 2 (A0 (aC (b7 .V 6) (aC (b7 .V 4) (aC (b7 .V 7) aN)))))))))
   (iJ 4 qy (mC (.int 1))))))
  (au 2 (g8 (A0 (aC (b7 .V 2) (aC (mC (.bl true)) aN)))))))))
abbrev iU:List W->R W:=i5 2 8 oA
def eC:Vg:=
 (g8 (l6 2 (bS (b7 .B 0)) (gN .U 1) yes (U3 (b2 fIx (b7 .B 1) (mC (.int 0))))))
abbrev ay:List W->R W:=i5 1 1 eC
def lY:Vg:=
 (g8 (bA T8 (aC (b7 .B 0) (aC (mC (.int 0)) (aC (b7 .B 1) aN)))))
abbrev fH:List W->R W:=i5 2 2 lY
def jr:Vg:=
 (g8 (bA (gQ xo) (aC (l6 3 (bS (b7 .B 1)) (gN .U 2) yes (b2 (fI0 gGt) (b2 fIx (b7 .B 0) (b7 .B 2)) (mC (.int 0)))) aN)))
abbrev N8:List W->R W:=i5 2 2 jr
def cU:Vg:=
 (d4 (A9 (bI R0 (aC (b7 .U 0) aN)) (gT 2 (o6 (gN .U 2) (o6 (gN .U 3) gsNil)))
   (mIf (dB (e9 (bA N8 (aC (b2 fIx (b7 .B 3) (mC (.int 1))) (aC (b7 .B 1) aN)))) (z9 (e9 (bA N8 (aC (b2 fIx (b7 .B 3) (mC (.int 0))) (aC (b7 .B 1) aN)))))) (v5 .F 2) sNx))
  (g8 (mC .non)))
abbrev K9:List W->R W:=i5 2 4 cU
def aR:Vg:=
 (d4 (sV 2 (b7 .V 1))
  (d4 (sF 3 (bA K9 (aC (b7 .B 0) (aC (b7 .B 2) aN))))
  (d4 (J3 (e9 (b2 (bP true) (b7 .B 3) (mC .non))) (d4 (sF 2 (bA (E2 true) (aC (l6 5 (bS (b7 .B 2)) (gN .U 4) (e9 (b2 (m5 false) (b2 fIx (b2 fIx (b2 fIx (b7 .B 0) (b7 .B 3)) (mC (.int 1))) (b7 .B 4)) (mC (.int 0)))) (b7 .V 4)) aN)))
   (sF 3 (bA K9 (aC (b7 .B 0) (aC (b7 .B 2) aN))))))
  (v5 .F 2))))
abbrev B6:List W->R W:=i5 2 4 aR
def lW:Vg:=
 (g8 (bA (E2 true) (aC (l6 3 (bS (b7 .B 0)) (gT 2 (o6 (gN .U 1) (o6 (gN .U 2) gsNil))) yes (A0 (aC (b7 .V 2) (aC (b7 .V 1) aN)))) aN)))
abbrev fF:List W->R W:=i5 1 1 lW
def aQ:Vg:=
 (g8 (bA B6 (aC (bA fF (aC (b7 .B 0) aN)) (aC (b7 .B 1) aN))))
abbrev Q8:List W->R W:=i5 2 2 aQ
def Y1:Vg:=
 (d4 (A9 (bS (bA P4 (aC (b2 fIx (b7 .B 0) (mC (.int 1))) (aC (bA fLen (aC (b7 .B 1) aN)) aN)))) (gN .U 2)
   (mIf (e9 (b2 (fEq true) (bA aV (aC (b7 .B 2) (aC (b7 .B 1) aN))) (bA aV (aC (b7 .B 2) (aC (b2 fIx (b7 .B 0) (mC (.int 0))) aN))))) (g8 (A0 (aC (mC (.str "balance")) (aC (b7 .V 2) aN)))) sNx))
  (g8 (mC .non)))
abbrev G9:List W->R W:=i5 2 3 Y1
def aS:Vg:=
 (g8 (bA (E2 true) (aC (l6 3 (bI R0 (aC (b7 .B 0) aN)) (gT 2 (o6 (gN .U 1) (o6 (gN .U 2) gsNil))) (e9 (b2 (m5 false) (b7 .B 2) (mC (.int 0)))) (b7 .V 1)) aN)))
abbrev L9:List W->R W:=i5 1 1 aS
def gy:Vg:=
 (d4 (sF 2 (bA B6 (aC (b2 fIx (b7 .B 0) (mC (.int 1))) (aC (bA L9 (aC (b2 fIx (b7 .B 0) (mC (.int 0))) aN)) aN))))
  (d4 (mIf (e9 (bA N8 (aC (b7 .B 1) (aC (b7 .B 2) aN)))) (au 2 (g8 (A0 (aC (mC (.str "dry")) (aC (b7 .V 2) aN))))) sNx)
  (d4 (sF 3 (bA Q8 (aC (b2 fIx (b7 .B 0) (mC (.int 1))) (aC (bA L9 (aC (b7 .B 1) aN)) aN))))
  (d4 (mIf (e9 (bA N8 (aC (b2 fIx (b7 .B 0) (mC (.int 0))) (aC (b7 .B 3) aN)))) (au 3 (g8 (A0 (aC (mC (.str "wet")) (aC (b7 .V 3) aN))))) sNx)
  (g8 (mC .non))))))
abbrev V5:List W->R W:=i5 2 4 gy
def O9:Vg:=
 (d4 (sV 3 (bA iV (aC (b7 .B 0) (aC (b7 .B 1) (aC (b7 .B 2) aN)))))
  (g8 (vIf (e9 (b2 (m5 false) (b2 fIx (b7 .B 3) (mC (.int 0))) (mC (.str "wall")))) (b7 .V 3) (mC .non))))
abbrev Y5:List W->R W:=i5 3 4 O9
def jv:Vg:=
 (d4 (sF 3 (bA iU (aC (b7 .B 0) (aC (b7 .B 2) aN))))
  (d4 (sF 4 (bA ay (aC (b2 fIx (b7 .B 3) (mC (.int 0))) aN)))
  (d4 (mIf (e9 (b2 (fIn false) (b7 .B 1) (b7 .B 4))) (g8 (A0 (aC (mC (.str "row")) (aC (bA fH (aC (b2 fIx (b7 .B 3) (mC (.int 0))) (aC (iI (b7 .B 4) (b7 .B 1)) aN))) aN)))) sNx)
  (d4 (mIf (e9 (b2 fIx (b7 .B 3) (mC (.int 1)))) (au 4 (g8 (A0 (aC (mC (.str "all")) (aC (b7 .V 4) aN))))) sNx)
  (d4 (sV 5 (bA G9 (aC (b7 .B 0) (aC (b7 .B 1) aN))))
  (d4 (mIf (e9 (b2 (bP false) (b7 .B 5) (mC .non))) (sV 5 (bA V5 (aC (b7 .B 0) (aC (b7 .B 1) aN)))) sNx)
  (d4 (mIf (e9 (b2 (bP false) (b7 .B 5) (mC .non))) (sV 5 (bA Y5 (aC (b7 .B 0) (aC (b7 .B 1) (aC (b7 .B 2) aN))))) sNx)
  (g8 (vIf (e9 (b2 (bP false) (b7 .B 5) (mC .non))) (A0 (aC (mC (.str "open")) aN)) (b7 .V 5))))))))))
abbrev K8:List W->R W:=i5 3 6 jv
def R7:Vg:=
 (d4 (mIf (e9 (b2 (fI0 gLt) (b7 .B 1) (bA fLen (aC (b7 .B 0) aN)))) (g8 (U3 (b2 fIx (b7 .B 0) (b7 .B 1)))) sNx)
  (d4 (sV 2 (b2 (fI0 C4) (b2 (fI CMulB r9) (mC (.int 70001)) (b7 .B 1)) (mC (.int 9))))
  (d4 (mIf (e9 (b2 (fI0 gGt) (bA fLen (aC (b7 .B 0) aN)) (mC (.int 0)))) (sV 2 (b2 (fI0 C4) (b2 (fI0 C4) (b2 (fI CMulB r9) (b2 fIx (b7 .B 0) (b2 (fI t8 u7) (b2 (fI CMulB r9) (b7 .B 1) (mC (.int 23))) (bA fLen (aC (b7 .B 0) aN)))) (mC (.int 16807))) (b2 (fI CMulB r9) (b2 (fI CMulB r9) (b7 .B 1) (b7 .B 1)) (mC (.int 4001)))) (mC (.int 21)))) sNx)
  (g8 (b2 (fI t8 u7) (b2 (fI CMulB r9) (b7 .B 2) (b7 .B 2)) (mC (.int 2147483423)))))))
abbrev o5:List W->R W:=i5 2 3 R7
def eD:Vg:=
 (d4 (sF 5 (C9 aN))
  (d4 (sF 6 (C9 aN))
  (d4 (A9 (bI M2 (aC (b7 .B 2) aN)) (gN .U 7)
   (d4 (sF 8 (bA o5 (aC (b7 .B 0) (aC (b2 (fI0 C4) (b7 .B 1) (b7 .B 7)) aN))))
   (d4 (Q7 5 (b2 (fI CMulB r9) (b2 fIx (C9 (aC (mC (.int 0)) (aC (mC (.int 1)) (aC (mC (.int 0)) (aC (mC (.int 0)) (aC (mC (.int 1)) (aC (mC (.int 2)) (aC (mC (.int 0)) aN)))))))) (b2 (fI t8 u7) (b7 .B 8) (mC (.int 7)))) (b7 .B 4)))
   (Q7 6 (b2 (fI CMulB r9) (b2 fIx (C9 (aC (mC (.int 0)) (aC (mC (.int 1)) (aC (mC (.int 0)) (aC (mC (.int 0)) (aC (mC (.int 1)) (aC (mC (.int 0)) (aC (mC (.int 2)) (aC (mC (.int 0)) (aC (mC (.int 1)) aN)))))))))) (b2 (fI t8 u7) (b2 (fI B4 G8) (b7 .B 8) (mC (.int 7))) (mC (.int 9)))) (b7 .B 4))))))
  (d4 (mIf (e9 (b7 .B 3)) (d4 (sV 9 (b2 (fI t8 u7) (b2 (fI B4 G8) (bA o5 (aC (b7 .B 0) (aC (b7 .B 1) aN))) (mC (.int 63))) (b7 .B 2)))
   (d4 (sV 10 (b2 (fI t8 u7) (b2 (fI B4 G8) (bA o5 (aC (b7 .B 0) (aC (b2 (fI0 C4) (b7 .B 1) (mC (.int 1))) aN))) (mC (.int 63))) (b7 .B 2)))
   (d4 (sF 5 (l6 12 (bI M2 (aC (b7 .B 2) aN)) (gN .U 11) yes (b2 (fI CMulB r9) (bA fInt (aC (b2 (fEq false) (b7 .B 11) (b7 .B 9)) aN)) (b7 .B 4))))
   (sF 6 (l6 12 (bI M2 (aC (b7 .B 2) aN)) (gN .U 11) yes (b2 (fI CMulB r9) (bA fInt (aC (b2 (fEq false) (b7 .B 11) (b7 .B 10)) aN)) (b7 .B 4))))))) sNx)
  (g8 (A0 (aC (bA (E2 true) (aC (b7 .C 5) aN)) (aC (bA (E2 true) (aC (b7 .C 6) aN)) aN))))))))
abbrev az:List W->R W:=i5 5 11 eD
def bZ:Vg:=
 (d4 (A9 (bI M2 (aC (bA fLen (aC (b7 .B 0) aN)) aN)) (gN .U 2)
   (mIf (e9 (b2 (fI0 gLt) (b2 fIx (b7 .B 0) (b7 .B 2)) (b2 fIx (b7 .B 1) (b7 .B 2)))) (g8 (mC (.bl false))) sNx))
  (g8 (mC (.bl true))))
abbrev B0:List W->R W:=i5 2 3 bZ
def ca:Vg:=
 (g8 (bA (E2 true) (aC (l6 3 (bI M2 (aC (bA fLen (aC (b7 .B 0) aN)) aN)) (gN .U 2) yes (b2 (fI0 C4) (b2 (fI0 gSub) (b2 fIx (b7 .B 0) (b7 .B 2)) (b2 fIx (b2 fIx (b7 .B 1) (mC (.int 0))) (b7 .B 2))) (b2 fIx (b2 fIx (b7 .B 1) (mC (.int 1))) (b7 .B 2)))) aN)))
abbrev J7:List W->R W:=i5 2 2 ca
def cZ:Vg:=
 (d4 (sF 5 (C9 (aC (b7 .V 3) aN)))
  (d4 (A9 (bI M2 (aC (b7 .B 2) aN)) (gN .U 6)
   (d4 (sF 7 (l6 9 (bS (b7 .B 4)) (gN .U 8) (e9 (bA B0 (aC (b2 fIx (b7 .B 5) (b1 (fU C0) (mC (.int 1)))) (aC (b2 fIx (b7 .B 8) (mC (.int 0))) aN)))) (b7 .V 8)))
   (d4 (mIf (e9 (b2 (fEq false) (b7 .B 7) (C9 aN))) (v5 .F 5) sNx)
   (Q7 5 (bA J7 (aC (b2 fIx (b7 .B 5) (b1 (fU C0) (mC (.int 1)))) (aC (b2 fIx (b7 .B 7) (b2 (fI t8 u7) (b2 (fI B4 G8) (bA o5 (aC (b7 .B 0) (aC (b2 (fI0 C4) (b7 .B 1) (b7 .B 6)) aN))) (mC (.int 3))) (bA fLen (aC (b7 .B 7) aN)))) aN)))))))
  (v5 .F 5)))
abbrev F7:List W->R W:=i5 5 8 cZ
def gC:Vg:=
 (d4 (mIf (z9 (e9 (bA fIsi (aC (b7 .B 0) (aC (mC (.ty "list")) aN))))) (g8 (mC .non)) sNx)
  (d4 (A9 (bS (b7 .U 0)) (gN .U 3)
   (d4 (mIf (Q3 (z9 (e9 (bA fIsi (aC (b7 .B 3) (aC (mC (.ty "int")) aN))))) (Q3 (e9 (bA fIsi (aC (b7 .B 3) (aC (mC (.ty "bool")) aN)))) (z9 (e9 (fQ (fI0 gLe) (fI0 gLt) (mC (.int 0)) (b7 .B 3) (bA fLen (aC (b7 .B 2) aN))))))) (g8 (mC .non)) sNx)
   (d4 (mIf (z9 (e9 (bA B0 (aC (b7 .B 1) (aC (b2 fIx (b2 fIx (b7 .B 2) (b7 .B 3)) (mC (.int 0))) aN))))) (g8 (mC .non)) sNx)
   (sF 1 (bA J7 (aC (b7 .B 1) (aC (b2 fIx (b7 .B 2) (b7 .B 3)) aN)))))))
  (v5 .F 1)))
abbrev V6:List W->R W:=i5 3 4 gC
def V3:Vg:=
 (d4 (mIf (e9 (b2 (fEq false) (b7 .B 0) (A0 (aC (mC (.str "open")) aN)))) (g8 (mC (.bl true))) sNx)
  (d4 (mIf (Q3 (z9 (e9 (bA fIsi (aC (b7 .B 0) (aC (mC (.ty "tuple")) aN))))) (Q3 (e9 (b2 (m5 true) (bA fLen (aC (b7 .B 0) aN)) (mC (.int 2)))) (e9 (b2 (m5 true) (b2 fIx (b7 .B 0) (mC (.int 0))) (mC (.str "row")))))) (g8 (mC (.bl false))) sNx)
  (g8 (b2 (fEq false) (bA V6 (aC (b2 fIx (b7 .B 0) (mC (.int 1))) (aC (b7 .B 1) (aC (b7 .B 2) aN)))) (b7 .B 3)))))
abbrev J0:List W->R W:=i5 4 4 V3
def cV:Vg:=
 (g8 (bA (aj G7) (aC (l6 3 (bI M2 (aC (bA fLen (aC (b7 .B 1) aN)) aN)) (gN .U 2) yes (b2 (fI CMulB r9) (b2 fIx (b7 .B 0) (b7 .B 2)) (b2 fIx (b7 .B 1) (b7 .B 2)))) aN)))
abbrev F6:List W->R W:=i5 2 2 cV
def gD:Vg:=
 (d4 (mIf (Q3 (z9 (e9 (bA fIsi (aC (b7 .B 0) (aC (mC (.ty "list")) aN))))) (Q3 (e9 (b2 (fIn true) (b7 .B 1) (b7 .B 0))) (e9 (b2 (fIn false) (b7 .B 3) (b7 .B 0))))) (g8 (mC (.bl false))) sNx)
  (d4 (A9 (bS (b7 .U 0)) (gN .U 4)
   (A9 (bS (b7 .U 2)) (gN .U 5)
    (mIf (dB (e9 (bA B0 (aC (b7 .B 4) (aC (b2 fIx (b7 .B 5) (mC (.int 0))) aN)))) (e9 (b2 (fIn true) (bA J7 (aC (b7 .B 4) (aC (b7 .B 5) aN))) (b7 .B 0)))) (g8 (mC (.bl false))) sNx)))
  (g8 (mC (.bl true)))))
abbrev V7:List W->R W:=i5 4 6 gD
def aT:Vg:=
 (d4 (mIf (Q3 (z9 (e9 (bA fIsi (aC (b7 .B 0) (aC (mC (.ty "tuple")) aN))))) (e9 (b2 (m5 true) (bA fLen (aC (b7 .B 0) aN)) (bA fLen (aC (b7 .B 1) aN))))) (g8 (mC (.bl false))) sNx)
  (d4 (A9 (bS (b7 .U 2)) (gN .U 4)
   (mIf (e9 (b2 (fEq true) (bA F6 (aC (b7 .B 0) (aC (b2 fIx (b7 .B 4) (mC (.int 0))) aN))) (bA F6 (aC (b7 .B 0) (aC (b2 fIx (b7 .B 4) (mC (.int 1))) aN))))) (g8 (mC (.bl false))) sNx))
  (g8 (b2 (fEq true) (bA F6 (aC (b7 .B 0) (aC (b7 .B 1) aN))) (bA F6 (aC (b7 .B 0) (aC (b7 .B 3) aN)))))))
abbrev M0:List W->R W:=i5 4 5 aT
def cW:Vg:=
 (d4 (mIf (Q3 (z9 (e9 (bA fIsi (aC (b7 .B 0) (aC (mC (.ty "tuple")) aN))))) (e9 (b2 (fI0 gGt) (bA fLen (aC (l6 7 (bS (b7 .B 0)) (gN .U 6) (e9 (b2 (fI0 gNr) (b7 .B 6) (bA fLen (aC (b7 .B 3) aN)))) (b7 .V 6)) aN)) (mC (.int 0))))) (g8 (mC (.bl false))) sNx)
  (d4 (A9 (bS (b7 .U 1)) (gN .U 5)
   (mIf (dB (e9 (b2 (fI0 gGt) (bA (aj G7) (aC (l6 7 (bS (b7 .B 0)) (gN .U 6) yes (U3 (b2 fIx (b2 fIx (b7 .B 5) (b2 (fI0 gSub) (mC (.int 1)) (b7 .B 2))) (b7 .B 6)))) aN)) (mC (.int 0)))) (e9 (b2 (m5 false) (bA (aj G7) (aC (l6 7 (bS (b7 .B 0)) (gN .U 6) yes (U3 (b2 fIx (b2 fIx (b7 .B 5) (b7 .B 2)) (b7 .B 6)))) aN)) (mC (.int 0))))) (g8 (mC (.bl false))) sNx))
  (g8 (kH (b2 (m5 false) (bA (aj G7) (aC (l6 7 (bS (b7 .B 0)) (gN .U 6) yes (U3 (b2 fIx (b7 .B 3) (b7 .B 6)))) aN)) (mC (.int 0))) (b2 (fI0 gGt) (bA (aj G7) (aC (l6 7 (bS (b7 .B 0)) (gN .U 6) yes (U3 (b2 fIx (b7 .B 4) (b7 .B 6)))) aN)) (mC (.int 0)))))))
abbrev L0:List W->R W:=i5 5 6 cW
def bY:Vg:=
 (g8 (b2 (fI0 gGt) (bA fLen (aC (l6 3 (bS (b7 .B 1)) (gN .U 2) (e9 (bA B0 (aC (b7 .B 0) (aC (b7 .B 2) aN)))) (b7 .V 2)) aN)) (mC (.int 0))))
abbrev J5:List W->R W:=i5 2 2 bY
def cY:Vg:=
 (d4 (mIf (Q3 (z9 (e9 (bA fIsi (aC (b7 .B 0) (aC (mC (.ty "list")) aN))))) (Q3 (e9 (bA J5 (aC (b7 .B 1) (aC (b7 .B 0) aN)))) (z9 (e9 (bA J5 (aC (b7 .B 3) (aC (b7 .B 0) aN))))))) (g8 (mC (.bl false))) sNx)
  (d4 (A9 (bS (b7 .U 0)) (gN .U 4)
   (A9 (bS (b7 .U 2)) (gN .U 5)
    (mIf (z9 (e9 (bA J5 (aC (bA (E2 true) (aC (l6 7 (bI M2 (aC (bA fLen (aC (b7 .B 4) aN)) aN)) (gN .U 6) yes (b2 (fI0 C4) (b2 fIx (b2 fIx (b7 .B 5) (mC (.int 0))) (b7 .B 6)) (bA (f2 de) (aC (mC (.int 0)) (aC (b2 (fI0 gSub) (b2 fIx (b7 .B 4) (b7 .B 6)) (b2 fIx (b2 fIx (b7 .B 5) (mC (.int 1))) (b7 .B 6))) aN))))) aN)) (aC (b7 .B 0) aN))))) (g8 (mC (.bl false))) sNx)))
  (g8 (mC (.bl true)))))
abbrev P5:List W->R W:=i5 4 6 cY
def N7:Vg:=
 (d4 (mIf (Q3 (z9 (e9 (bA fIsi (aC (b7 .B 0) (aC (mC (.ty "tuple")) aN))))) (e9 (b2 (m5 true) (bA fLen (aC (b7 .B 0) aN)) (mC (.int 2))))) (g8 (mC (.bl false))) sNx)
  (d4 (mIf (e9 (b2 (m5 false) (b2 fIx (b7 .B 0) (mC (.int 0))) (mC (.str "all")))) (g8 (bA V7 (aC (b2 fIx (b7 .B 0) (mC (.int 1))) (aC (b7 .B 1) (aC (b7 .B 2) (aC (b7 .B 3) aN)))))) sNx)
  (d4 (mIf (e9 (b2 (m5 false) (b2 fIx (b7 .B 0) (mC (.int 0))) (mC (.str "balance")))) (g8 (bA M0 (aC (b2 fIx (b7 .B 0) (mC (.int 1))) (aC (b7 .B 1) (aC (b7 .B 2) (aC (b7 .B 3) aN)))))) sNx)
  (d4 (mIf (e9 (b2 (m5 false) (b2 fIx (b7 .B 0) (mC (.int 0))) (mC (.str "dry")))) (g8 (bA L0 (aC (b2 fIx (b7 .B 0) (mC (.int 1))) (aC (b7 .B 2) (aC (mC (.int 0)) (aC (b7 .B 1) (aC (b7 .B 3) aN))))))) sNx)
  (d4 (mIf (e9 (b2 (m5 false) (b2 fIx (b7 .B 0) (mC (.int 0))) (mC (.str "wet")))) (g8 (bA L0 (aC (b2 fIx (b7 .B 0) (mC (.int 1))) (aC (b7 .B 2) (aC (mC (.int 1)) (aC (b7 .B 3) (aC (b7 .B 1) aN))))))) sNx)
  (g8 (kH (b2 (m5 false) (b2 fIx (b7 .B 0) (mC (.int 0))) (mC (.str "wall"))) (bA P5 (aC (b2 fIx (b7 .B 0) (mC (.int 1))) (aC (b7 .B 1) (aC (b7 .B 2) (aC (b7 .B 3) aN))))))))))))
abbrev dj:List W->R W:=i5 4 4 N7
def cX:Vg:=
 (d4 (sV 2 (b2 (fI t8 u7) (b2 (fI B4 G8) (b7 .B 1) (mC (.int 2))) (bA fLen (aC (b7 .B 0) aN))))
  (d4 (sF 3 (bA (gP false) (aC (b7 .B 0) aN)))
  (d4 (mn 3 (b7 .B 2) (bA (f2 de) (aC (mC (.int 0)) (aC (b2 (fI0 gSub) (b2 (fI0 C4) (b2 fIx (b7 .B 3) (b7 .B 2)) (b2 (fI CMulB r9) (mC (.int 2)) (b2 (fI t8 u7) (b7 .B 1) (mC (.int 2))))) (mC (.int 1))) aN))))
  (g8 (bA (E2 true) (aC (b7 .C 3) aN))))))
abbrev Y9:List W->R W:=i5 2 4 cX
def yw:Vg:=
 (d4 (sV 1 (b2 (fI0 C4) (mC (.int 1)) (b2 (fI t8 u7) (bA o5 (aC (b7 .B 0) (aC (mC (.int 0)) aN))) (mC (.int 5)))))
  (d4 (sV 2 (b2 (fI0 C4) (mC (.int 1)) (b2 (fI t8 u7) (bA o5 (aC (b7 .B 0) (aC (mC (.int 1)) aN))) (mC (.int 12)))))
  (d4 (sV 3 (b2 (m5 false) (b2 (fI t8 u7) (bA o5 (aC (b7 .B 0) (aC (mC (.int 2)) aN))) (mC (.int 3))) (mC (.int 1))))
  (d4 (sV 4 (mC (.int 1)))
  (d4 (mIf (e9 (b2 (m5 false) (b2 (fI t8 u7) (bA o5 (aC (b7 .B 0) (aC (mC (.int 3)) aN))) (mC (.int 4))) (mC (.int 1)))) (sV 4 (b2 (fI0 C4) (mC (.int 1)) (b2 (fI t8 u7) (b2 (fI B4 G8) (bA o5 (aC (b7 .B 0) (aC (mC (.int 3)) aN))) (mC (.int 4))) (b2 (fI fO xl) (mC (.int 10)) (mC (.int 8)))))) sNx)
  (d4 (sF 5 (C9 aN))
  (d4 (A9 (bI M2 (aC (b2 (fI0 C4) (mC (.int 1)) (b2 (fI t8 u7) (bA o5 (aC (b7 .B 0) (aC (mC (.int 4)) aN))) (mC (.int 6)))) aN)) (gN .U 6)
   (Q7 5 (bA az (aC (b7 .B 0) (aC (b2 (fI0 C4) (mC (.int 11)) (b2 (fI CMulB r9) (b7 .B 1) (b7 .B 6))) (aC (b7 .B 1) (aC (b7 .B 3) (aC (b7 .B 4) aN))))))))
  (d4 (sF 7 (bA (E2 true) (aC (l6 15 (bI M2 (aC (b7 .B 1) aN)) (gN .U 14) yes (b2 (fI CMulB r9) (b2 (fI t8 u7) (b2 (fI B4 G8) (bA o5 (aC (b7 .B 0) (aC (b2 (fI0 C4) (mC (.int 5)) (b7 .B 14)) aN))) (mC (.int 7))) (mC (.int 3))) (b7 .B 4))) aN)))
  (d4 (sF 8 (A0 (aC (b7 .V 7) (aC (bA (E2 true) (aC (b7 .C 5) aN)) aN))))
  (d4 (sF 9 (bA F7 (aC (b7 .B 0) (aC (mC (.int 1)) (aC (bA (f2 iS) (aC (mC (.int 40)) (aC (b2 (fI0 C4) (mC (.int 6)) (bA fLen (aC (b7 .B 0) aN))) aN))) (aC (b7 .B 7) (aC (b7 .B 5) aN)))))))
  (d4 (A9 (bS (C9 (aC (b2 fIx (b7 .C 9) (b1 (fU C0) (mC (.int 1)))) (aC (b2 fIx (b7 .C 9) (b2 (fI B4 G8) (bA fLen (aC (b7 .B 9) aN)) (mC (.int 2)))) aN)))) (gN .U 10)
   (mIf (z9 (e9 (bA J0 (aC (bA K8 (aC (b7 .B 8) (aC (b7 .B 10) (aC (b7 .B 2) aN)))) (aC (b7 .B 7) (aC (b7 .B 5) (aC (b7 .B 10) aN))))))) (g8 (mC (.bl false))) sNx))
  (d4 (sV 11 (b2 fIx (b7 .C 9) (b2 (fI B4 G8) (bA fLen (aC (b7 .B 9) aN)) (mC (.int 3)))))
  (d4 (mIf (z9 (e9 (bA J0 (aC (bA K8 (aC (A0 (aC (b7 .U 11) (aC (b2 fIx (b7 .B 8) (mC (.int 1))) aN))) (aC (b2 fIx (b7 .B 9) (b1 (fU C0) (mC (.int 1)))) (aC (b7 .B 2) aN)))) (aC (b7 .B 11) (aC (b7 .B 5) (aC (b2 fIx (b7 .B 9) (b1 (fU C0) (mC (.int 1)))) aN))))))) (g8 (mC (.bl false))) sNx)
  (d4 (sF 12 (bA Y9 (aC (b2 fIx (b7 .B 9) (b2 (fI t8 u7) (bA o5 (aC (b7 .B 0) (aC (mC (.int 5)) aN))) (bA fLen (aC (b7 .B 9) aN)))) (aC (bA o5 (aC (b7 .B 0) (aC (mC (.int 6)) aN))) aN))))
  (d4 (sV 13 (bA K8 (aC (b7 .B 8) (aC (b7 .B 12) (aC (b7 .B 2) aN)))))
  (d4 (mIf (e9 (bA J0 (aC (b7 .B 13) (aC (b7 .B 7) (aC (b7 .B 5) (aC (b7 .B 12) aN)))))) (g8 (mC (.bl true))) sNx)
  (d4 (A9 (bI M2 (aC (mC (.int 3)) aN)) (gN .U 6)
   (mIf (e9 (b2 (fIn false) (b7 .B 12) (bA F7 (aC (b7 .B 0) (aC (b2 (fI0 C4) (mC (.int 9)) (b2 (fI CMulB r9) (mC (.int 13)) (b7 .B 6))) (aC (mC (.int 20)) (aC (b7 .B 7) (aC (b7 .B 5) aN)))))))) (g8 (mC (.bl false))) sNx))
  (g8 (kH (b2 (fIn true) (b7 .B 12) (b7 .B 9)) (bA dj (aC (b7 .B 13) (aC (b7 .B 7) (aC (b7 .B 5) (aC (b7 .B 12) aN))))))))))))))))))))))))
abbrev kq:List W->R W:=i5 1 14 yw
end K88
set_option maxHeartbeats 4000000
open PySem L2 TP
namespace K88
def rp14:=Z1 (@FF) (Z1 (@FE) (Z1 (@FC) (Z1 (@FB) (Z1 (@Fm) (Z1 (@Fy) (Z1 (@Fv) (Z1 (@Fw) (Z1 (@Fq) (Z1 (@Fs) (Z1 (@Fz) (Z1 (@FA) (Z1 (@Fo) (@Fp)))))))))))))
def rp15:=Z1 (@xC5) (Z1 (@Bool.not_false) (Z1 (@Bool.true_or) (Z1 (@qO8) (Z1 (@xC3) (Z1 (@xC2) (Z1 (@qM6) (Z1 (@qO2) (Z1 (@qV4) (Z1 (@Bool.and_false) (Z1 (@Int.sub_zero) (Z1 (@qU7) (Z1 (@qF8) (Z1 (@qD7) (Z1 (@Bool.true_eq_false) (Z1 (@and_true) (Z1 (@true_and) (Z1 (@or_true) (Z1 (@true_or) (@and_self)))))))))))))))))))
def rp18:=Z1 (@qD1.{0}) (Z1 (@qM9.{0}) (Z1 (@qA7.{0,0}) (Z1 (@qC3.{0}) (Z1 (@qF2.{0}) (@qF5)))))
def rp16:=Z1 rp14 (Z1 rp15 (Z1 rp13 (Z1 rp12 (Z1 rp11 (Z1 rp10 (Z1 rp9 (Z1 rp8 (Z1 rp0 (Z1 rp1 (Z1 rp2 (Z1 rp3 (Z1 rp4 (Z1 rp5 (Z1 rp6 rp7))))))))))))))
def rp17:=Z1 (@qB9.{0,0}) (Z1 (@qN5.{0,0}) (Z1 (@qV3.{0}) (Z1 (@List.replicate_zero.{0}) (Z1 (@qO1.{0}) (Z1 (@qO6.{0}) (Z1 (@qG2.{0}) (Z1 (@R.ok_bind) (Z1 (@R.stuck_bind) (@R.ex_bind)))))))))
def rp19:=Z1 (@qT7.{0}) (Z1 (@Option.isNone_none.{0}) (Z1 (@Option.isNone_some.{0}) (Z1 (@Option.bind_some.{0,0}) (Z1 (@qQ2.{1}) (Z1 (@qQ4.{1}) (Z1 (@decide_true) (@decide_false)))))))
def cr (r:R Fl):R Fl:=match r with
 | .ok (.ct ρ)=>.ok (.nx ρ)
 |r=>r
def nN (ρ:Rho):cr (.ok (.nx ρ))=.ok (.nx ρ):=rfl
def nO (ρ:Rho):cr (.ok (.ct ρ))=.ok (.nx ρ):=rfl
def nM (w:W):cr (.ok (.rt w))=.ok (.rt w):=rfl
def gc (I:Nat->Rho->Prop):∀(ws:Vp) (k:Nat) (ρ:Rho),I k ρ ->
  (∀(i:Nat) (w:W) (ρ:Rho),ws[i]?=some w->I (k+i) ρ->∃a4,mg w ρ=some a4/\Po (cr (mb a4)) (I (k+i+1)) Jr)->Po (D8 mg mb ws ρ) (I (k+ws.length)) Jr
 | [],k,ρ,h,_=>h
 | w::ws,k,ρ,h,st=>by
  obtain ⟨a4,e1,p⟩:=st 0 w ρ rfl h;unfold D8;rw[e1]
  change Po (mb a4>>=_) _ _;have go:∀a3,I (k+0+1) a3->Po (D8 mg mb ws a3) (I (k+(w::ws).length)) Jr:=λa3 p=>by
   have:=gc (mg:=mg) (mb:=mb) I ws (k+1) a3 p λi w ρ hw hp=>by
    have:=st (i+1) w ρ (by simpa using hw) (by rw[show k+(i+1)=k+1+i by omega];show hp)
    rw[show k+(i+1)+1=k+1+i+1 by omega]at this;show this
   rw[qD1,show k+(ws.length+1)=k+1+ws.length by omega];show this
  revert p
  cases mb a4 with
  |ex _=>show λp=>p.elim
  |stuck=>show λp=>p.elim
  | ok f=>cases f with
   |bk _=>show λp=>p.elim
   |ct a3=>show λp=>go a3 p
   |rt w=>show λp=>p
   |nx a3=>show λp=>go a3 p
def wg (I:Nat->Rho->Prop) (h0:I 0 ρ) (st:∀(i:Nat) (w:W) (ρ:Rho),ws[i]?=some w->I i ρ->∃a3,mg w ρ=some a3/\Po (cr (mb a3)) (I (i+1)) Jr) (hn:∀ρ,I ws.length ρ->Po (n ρ) Jn Jr):Po (andThen (D8 mg mb ws ρ) n) Jn Jr:=by
 have:=gc (mg:=mg) (mb:=mb) (Jr:=Jr) I ws 0 ρ h0 λi w ρ hw hp=>by rw[qN9]at hp ⊢;show st i w ρ hw hp
 rw[qN9]at this;show M3 (this.mono hn λ_ h=>h)
def oj (I:b=true->Po (cr (andThen (m ρ) k)) Jn Jr) (h2:b=false->Po (cr (andThen (n ρ) k)) Jn Jr):Po (cr (andThen (ifS (.ok b) m n ρ) k)) Jn Jr:=by
 cases b with
 |true=>show I rfl
 |false=>show h2 rfl
def yO (ns:Vk)(l u:JX):Rst (.ok (.tup (ns.map W.int))) (.ok l) (.ok u)=.ok (.tup (F8 (ns.map W.int) l u)):=HL (B5 ns) l u
def rpZ:=Z1 rp19 (Z1 rp16 (Z1 rp17 (Z1 rp18 (Z1 @oI (Z1 @oC (Z1 @vf (Z1 @nL (Z1 @yO (Z1 @tL (Z1 @uj (Z1 @mw (Z1 @fK (Z1 @nN (Z1 @nO (Z1 @nM (Z1 @tE (Z1 @gw (Z1 @lU (@decide_eq_true_eq)))))))))))))))))))
def rpB:=Z1 (@Dn) (Z1 (@Dm) (Z1 (@Dl) (Z1 (@Dj) (@Di))))
local macro_rules | `(tactic| exists $[$es],*)=>`(tactic| simp (disch:=first | with_reducible assumption | omega | (simp only [rp18]; omega)) only [List.getElem?_cons_zero,qT3,List.set_cons_succ,List.set_cons_zero,tyW,isN,simprocAttr,rpZ,$[$es:term],*])
abbrev Mv:=List Int×List Int
abbrev mW (m:Mv):W:=.tup [tI m.1,tI m.2]
abbrev lS (ss:Vw):W:=.lst (ss.map tI)
abbrev tM_ (ms:List Mv):W:=.tup (ms.map mW)
def tD (m:Mv):noL (mW m)=true:=by simp [noL,m8,B5]
def gr (ms:List Mv):m8 (ms.map mW)=true:=fv mW tD ms
def W3 {ms:List Mv}{i:Nat}(h:(ms.map mW)[i]?=some w):∃m,m∈ms/\ms[i]?=some m/\w=mW m:=by
 rw[qC0]at h;cases q:ms[i]? with
 |none=>rw[q]at h;cases h
 |some m=>rw[q]at h;cases h;show ⟨m,qG3 q,rfl,rfl⟩
def okM (n:Nat)(m:Mv):Prop:=m.1.length=n/\m.2.length=n
def HY {k:Int}(h0:0<=k) (I:k<=1000):0<=k*k/\k*k<=1000000:=⟨qV8 h0 h0,by
 have:=Int.mul_le_mul I I h0 (by omega:(0:Int)<=1000)
 omega⟩
def memD {ns:Vk}{P:Int->Prop}(h:∀x∈ns,P x)(hi:i<ns.length):P (ns.getD i 0):=mem_getD h hi
def nn (xs:Vk):Prop:=∀x∈xs,0<=x
def okN (n:Nat)(m:Mv):Prop:=m.1.length=n/\m.2.length=n/\nn m.1/\nn m.2
def dM (h:nn xs) (k:Nat):0<=xs.getD k 0:=by
 by_cases hk:k<xs.length
 .show memD h hk
 .rw[qA0];simp [hk]
def atM {ms:List Mv}{r:Int}(h0:0<=r) (I:r<ms.length):L2.atI (ms.map mW) r=some (mW (ms.getD r.toNat ([],[]))):=by
 unfold L2.atI;rw[aU h0 (by rw[qA7];show I)]
 change (ms.map mW)[r.toNat]?=_;have hi:r.toNat<ms.length:=ox;rw[qC0,qA0];simp [hi]
def getM {ms:List Mv}(hm:∀m∈ms,okN n m) (I:i<ms.length):okN n (ms.getD i ([],[])):=by
 refine hm _ ?_;rw[qA0];simp [I]
def setN (c:Int)(n:Nat):List Nat:=(List.range n).filter λk=>decide (c/2^k%2=1)
abbrev okP (n:Nat)(ps:Vk):Prop:=(∀p∈ps,0<=p/\p<(n:Int))/\ps.length<=6
def l9 (c ps:Vk):Bool:=ps.any λp=>decide (0<c.getD p.toNat 0)
def U5 (hp:okP c.length ps):N8 [tI c,tI ps]=.ok (.bl (l9 c ps)):=by
 have e:∀N mg me ρ (h:∀p∈ps,∃I,mg (.int p) (ρ++List.replicate (N-ρ.length) Sl.un)=some I/\me I=.ok (.bl (decide (0<c.getD p.toNat 0)))),j7 N mg yes me (ps.map W.int) ρ=.ok (.lst ((ps.map λp=>decide (0<c.getD p.toNat 0)).map W.bl)):=λN mg me ρ h=>by
  rw[l5 (λp=>W.bl (decide (0<c.getD p.toNat 0))) _ _ ρ (by have:=hp.2;omega) h,qC5];rfl
 exists rpB,jr;rw[e]
 .exists rp18;unfold xo l9;rw[List.any_map];rfl
 .intro p a3
  have:=hp.1 p a3
  refine ⟨_,rfl,?_⟩;exists rp18
def brB (ps:Vk)(m:Mv):Bool:=l9 m.2 ps&&!l9 m.1 ps
def nW:Option Nat->W
 |none=>.non
 |some i=>.int (i:Int)
def Bp {ms:List Mv}(h:ms[i]?=some m) (hb:f m=true) (I:∀k m,k<i->ms[k]?=some m->f m=false):ms.findIdx? f=some i:=by
 rw[qI9];obtain ⟨hi,he⟩:=qA9.mp h;refine ⟨hi,by rw[he];show hb,λj hj=>?_⟩;rw[I j ms[j] hj Zy];show qA3
def Bq {ms:List Mv}(I:∀k m,k<ms.length->ms[k]?=some m->f m=false):ms.findIdx? f=none:=by
 rw[qS5];intro x hx;obtain ⟨q,hq,e⟩:=qE2.mp hx;show I q x hq (by simp [hq,e])
def GD {ms:List Mv}{i:Nat}(h:((ms.map mW).mapIdx λi x=>W.tup [.int (i:Int),x])[i]?=some w):∃m,m∈ms/\ms[i]?=some m/\w=.tup [.int (i:Int),mW m]:=by
 rw[List.getElem?_mapIdx,qC0]at h;cases q:ms[i]? with
 |none=>rw[q]at h;cases h
 |some m=>rw[q]at h;cases h;show ⟨m,qG3 q,rfl,rfl⟩
def jO (hm:∀m∈ms,okN n m) (hp:okP n ps):K9 [tM_ ms,tI ps]=.ok (nW (ms.findIdx? (brB ps))):=by
 have fin:Ok (K9 [tM_ ms,tI ps]) λv=>v=nW (ms.findIdx? (brB ps)):=by
  have he:R0 [tM_ ms]=.ok ((ms.map mW).mapIdx λi x=>W.tup [.int (i:Int),x]):=rfl;exists rpB,cU,he;refine p7 (t9 (λi ρ=>∃a b:Sl,ρ = [.par (tM_ ms),.par (tI ps),a,b]/\∀k m,k<i->ms[k]?=some m->brB ps m=false) ⟨_,_,rfl,λk m hk=>absurd hk (qD3 _)⟩ ?_ ?_)
  .rintro i u ρ hu ⟨a,b,rfl,I⟩;obtain ⟨m,a5,a4,rfl⟩:=GD hu;have hk:=hm m a5;have a0:L2.atI [tI m.1,tI m.2] 0=some (tI m.1):=rfl;have a1:L2.atI [tI m.1,tI m.2] 1=some (tI m.2):=rfl;have k1:=U5 (c:=m.1) (ps:=ps) (by rw[hk.1];show hp);have k2:=U5 (c:=m.2) (ps:=ps) (by rw[hk.2.1];show hp);refine ⟨_,rfl,?_⟩;exists a0,a1,k1,k2;refine bF (λh=>?_) (λh=>?_)
   .exists rp18;rw[Bp a4 h I];rfl
   .exists rp18;refine ⟨_,_,rfl,λk m' hk a3=>?_⟩;by_cases e:k=i
    .subst e;rw[a4]at a3;cases a3;show h
    .show I k m' ox a3
  .rintro ρ ⟨a,b,rfl,I⟩;rw[qW4,qA7]at I;exists rp18;rw[Bq I];rfl
 obtain ⟨v,e,rfl⟩:=fin;show e
def aB (ms:List Mv)(ps:Vk):Prop:=∀m∈ms,brB ps m=false
def br_none:ms.findIdx? (brB ps)=none↔aB ms ps:=by
 rw[qS5];show ⟨λh m hm=>by simpa using h m hm,λh m hm=>by simpa using h m hm⟩
def Be (h:∀p∈ps,p∈qs) (hh:l9 c ps=true):l9 c qs=true:=by
 unfold l9 at hh ⊢;rw[qD5]at hh ⊢;obtain ⟨p,I,e⟩:=hh;show ⟨p,h p I,e⟩
def Bf (I:p∈ps) (h:0<c.getD p.toNat 0):l9 c ps=true:=by
 unfold l9;rw[qD5];show ⟨p,I,qQ0 h⟩
def dW (c ps:Vk):List Int:=ps.filter λp=>decide (c.getD p.toNat 0=0)
def mJ (hm:∀m∈ms,okN n m) (hp:okP n ps):Ok (B6 [tM_ ms,tI ps]) λv=>∃qs:List Int,v=tI qs/\qs.Sublist ps/\aB ms qs/\∀zs:List Int,(∀p∈zs,p∈ps)->aB ms zs->∀p∈zs,p∈qs:=by
 have k0:=jO hm hp;have c0:∀o:Option Nat,O0 (nW o)=.val (nW o):=λo=>by cases o <;> rfl
 exists rpB,aR,k0,c0;refine p7 (M3 ?_);refine Q6 (λk ρ=>∃qs:List Int,ρ = [.par (tM_ ms),.par (tI ps),.val (tI qs),.val (nW (ms.findIdx? (brB qs)))]/\qs.length=k/\qs.Sublist ps/\∀zs:List Int,(∀p∈zs,p∈ps)->aB ms zs->∀p∈zs,p∈qs) ?_ ps.length _ ⟨ps,rfl,rfl,List.Sublist.refl _,λzs h _=>h⟩;rintro k ρ ⟨qs,rfl,hk,hs,hz⟩;have hq:okP n qs:=⟨λp h=>hp.1 p (hs.subset h),qA5 hs.length_le hp.2⟩;cases hf:ms.findIdx? (brB qs) with
 | none=>
  have b0:nW none=W.non:=rfl;refine ⟨false,?_,?_⟩
  .exists b0
  .rw [qA4 qA3]
   exists rp18;show ⟨qs,rfl,hs,br_none.mp hf,hz⟩
 | some i=>
  have b0:nW (some i)=W.int (i:Int):=rfl;refine ⟨true,?_,?_⟩
  .exists b0
  rw[qI9]at hf;obtain ⟨hi,hb,_⟩:=hf;have hg:ms[i]=ms.getD i ([],[]):=by rw[qA0];simp [hi]
  have I:ms[i]∈ms:=qK1 hi;rw[hg]at hb I;have e1:=atM (ms:=ms) (r:=(i:Int)) ox ox;rw[qF8]at e1;clear hg;generalize ms.getD i ([],[])=m at hb I e1
  have hok:=hm m I;have a1:L2.atI [tI m.1,tI m.2] 1=some (tI m.2):=rfl;have b1:l9 m.2 qs=true:=by unfold brB at hb;rw[qG5]at hb;show hb.1
  have b2:l9 m.1 qs=false:=by unfold brB at hb;rw[qG5]at hb;simpa using hb.2
  have a6:(dW m.2 qs).Sublist qs:=List.filter_sublist;have a9:okP n (dW m.2 qs):=⟨λp h=>hq.1 p (a6.subset h),qA5 a6.length_le hq.2⟩;have k1:=jO hm a9;have e:∀N mg mc me ρ,(∀p∈qs,∃a3,mg (.int p) (ρ++List.replicate (N-ρ.length) Sl.un)=some a3/\mc a3=.ok (decide (m.2.getD p.toNat 0=0))/\me a3=.ok (.int p)) ->
    j7 N mg mc me (qs.map W.int) ρ=.ok (lI (dW m.2 qs)):=λN mg mc me ρ h=>by
   refine y9 W.int W.int (λp=>decide (m.2.getD p.toNat 0=0)) qs ρ (by have:=hq.2;omega) λp hp=>?_;obtain ⟨a3,x1,x2,x3⟩:=h p hp;show ⟨a3,x1,x2,λ_=>x3⟩
  rw[qA2 rfl];exists b0;rw[e]
  .exists k1,c0;refine ⟨(dW m.2 qs).length,?_,dW m.2 qs,rfl,rfl,a6.trans hs,λzs h1 h2 p a7=>?_⟩
   .subst hk;unfold l9 at b1;rw[qD5]at b1;obtain ⟨p,a5,a4⟩:=b1;have a4:=qQ3 a4;unfold dW;refine qW5 (qO0 _ _) λe=>?_
    have:=List.length_filter_eq_length_iff.mp e p a5
    have:=qQ3 this
    omega
   .have a5:=hz zs h1 h2 p a7;refine qG8.mpr ⟨a5,qQ0 ?_⟩;have h0:=dM hok.2.2.2 p.toNat;by_cases a8:m.2.getD p.toNat 0=0
    .show a8
    .exfalso;have d:=h2 m I;unfold brB at d;rw[Bf a7 ox,qM6]at d;have d':l9 m.1 zs=true:=by simpa using d
     rw[Be (hz zs h1 h2) d']at b2;cases b2
  .intro p a4
   have:=hq.1 p a4
   have ab:p<(m.2.length:Int):=by rw[hok.2.1];show this.2
   refine ⟨_,rfl,?_⟩;exists e1,a1
def oo (ns:Vk):noL (tI ns)=true:=B5 ns
abbrev swp (m:Mv):Mv:=(m.2,m.1)
def rD (hl:ms.length<=8):fF [tM_ ms]=.ok (tM_ (ms.map swp)):=by
 have e:∀N mg me ρ (h:∀m∈ms,∃I,mg (mW m) (ρ++List.replicate (N-ρ.length) Sl.un)=some I/\me I=.ok (mW (swp m))),j7 N mg yes me (ms.map mW) ρ=.ok (.lst ((ms.map swp).map mW)):=λN mg me ρ h=>by
  rw[l5 (λm=>mW (swp m)) _ _ ρ ox h,qC5];rfl
 exists rpB,lW;rw[e]
 .exists dZ (gr (ms.map swp))
 .intro m hm;refine ⟨_,rfl,?_⟩;exists n5 (oo m.1),n5 (oo m.2)
def CG {ms:List Mv}(hm:∀m∈ms,okN n m):∀m∈ms.map swp,okN n m:=λm h=>by
 obtain ⟨q,I,rfl⟩:=qB1.mp h
 have:=hm q I
 show ⟨this.2.1,this.1,this.2.2.2,this.2.2.1⟩
def i8 (a b:Vk):Bool:=(List.range a.length).all λk=>decide (b.getD k 0<=a.getD k 0)
def yJ (hi:i<a.length) (h:a.getD i 0<b.getD i 0):i8 a b=false:=by
 unfold i8;rw[List.all_eq_false];show ⟨i,by simpa using hi,λh'=>by have:=qQ3 h';omega⟩
def kC (h:∀k,k<a.length->b.getD k 0<=a.getD k 0):i8 a b=true:=by
 unfold i8;rw[qI1];show λk hk=>qQ0 (h k (by simpa using hk))
def jJ (hl:b.length=a.length):Y7 [tI a,tI b]=.ok (.bl (i8 a b)):=by
 have fin:Ok (Y7 [tI a,tI b]) λv=>v=.bl (i8 a b):=by
  have hz:=W7 (tI a) (tI b) _ _ rfl rfl;rw[Q2 hl]at hz;exists rpB,mj,hz;refine p7 (t9 (λi ρ=>∃u v,ρ = [.par (tI a),.par (tI b),u,v]/\∀k,k<i->b.getD k 0<=a.getD k 0) ⟨_,_,rfl,λk hk=>absurd hk (qD3 _)⟩ ?_ ?_)
  .rintro i u ρ hu ⟨_,_,rfl,I⟩;obtain ⟨hi,rfl⟩:=vU hu;refine ⟨_,rfl,?_⟩;exists rp18;refine bF (λh=>?_) (λh=>?_)
   .exists rp18;rw[yJ hi (by simpa using h)]
   .exists rp18;refine ⟨_,_,rfl,λk hk=>?_⟩;by_cases e:k=i
    .subst e;simpa using h
    .show I k ox
  .rintro ρ ⟨_,_,rfl,I⟩;rw[qA7,qF5]at I;exists rp18;rw[kC I]
 obtain ⟨v,e,rfl⟩:=fin;show e
def eh (h:m.1.length=s.length):di [tI s,mW m]=.ok (.bl (i8 s m.1)):=by
 have a0:L2.atI [tI m.1,tI m.2] 0=some (tI m.1):=rfl;have k:=jJ (a:=s) (b:=m.1) h;exists rpB,tJ,a0,k
def jM (h6:n<=6) (h:okN n m):Y8 [mW m]=.ok (tI ((List.range n).map λk=>m.2.getD k 0-m.1.getD k 0)):=by
 have a0:L2.atI [tI m.1,tI m.2] 0=some (tI m.1):=rfl;have a1:L2.atI [tI m.1,tI m.2] 1=some (tI m.2):=rfl;have hz:=W7 (tI m.1) (tI m.2) _ _ rfl rfl;rw[Q2 (by rw[h.1,h.2.1]),h.1]at hz;exists rpB,fy,a0,a1,hz;have e:∀N mg me ρ (h:∀k,k<n->∃I,mg (.tup [.int (m.1.getD k 0),.int (m.2.getD k 0)]) (ρ++List.replicate (N-ρ.length) Sl.un)=some I/\me I=.ok (.int (m.2.getD k 0-m.1.getD k 0))),j7 N mg yes me ((List.range n).map λk=>W.tup [.int (m.1.getD k 0),.int (m.2.getD k 0)]) ρ=.ok (lI ((List.range n).map λk=>m.2.getD k 0-m.1.getD k 0)):=λN mg me ρ h=>by
  rw[l5 (λk=>.int (m.2.getD k 0-m.1.getD k 0)) _ _ ρ (by simpa using (by omega:n<=1000)) (λk hk=>h k (by simpa using hk)),av]
 rw[e]
 .exists rp18
 .intro k hk;refine ⟨_,rfl,?_⟩;exists rp18
def vd (h6:n<=6) (h:okN n m) (hs:s.length=n) (hc:i8 s m.1=true):Q9 [tI s,mW m]=.ok (tI ((List.range n).map λk=>s.getD k 0+(m.2.getD k 0-m.1.getD k 0))):=by
 have k1:=eh (s:=s) (m:=m) (by rw[hs,h.1]);rw[hc]at k1;have k2:=jM h6 h;have hz:=W7 (tI s) (tI ((List.range n).map λk=>m.2.getD k 0-m.1.getD k 0)) _ _ rfl rfl;rw[Q2 (by simp [hs]),hs]at hz;exists rpB,iG,k1,k2,hz;have e:∀N mg me ρ (h:∀k,k<n->∃I,mg (.tup [.int (s.getD k 0),.int (((List.range n).map λk=>m.2.getD k 0-m.1.getD k 0).getD k 0)]) (ρ++List.replicate (N-ρ.length) Sl.un)=some I/\me I=.ok (.int (s.getD k 0+(m.2.getD k 0-m.1.getD k 0)))),j7 N mg yes me ((List.range n).map λk=>W.tup [.int (s.getD k 0),.int (((List.range n).map λk=>m.2.getD k 0-m.1.getD k 0).getD k 0)]) ρ=.ok (lI ((List.range n).map λk=>s.getD k 0+(m.2.getD k 0-m.1.getD k 0))):=λN mg me ρ h=>by
  rw[l5 (λk=>.int (s.getD k 0+(m.2.getD k 0-m.1.getD k 0))) _ _ ρ (by simpa using (by omega:n<=1000)) (λk hk=>h k (by simpa using hk)),av]
 rw[e]
 .exists rp18
 .intro k hk;refine ⟨_,rfl,?_⟩;exists rp18;rw[D7 hk]
def u8 (s:Vk)(m:Mv):List Int:=(List.range s.length).map λk=>s.getD k 0+(m.2.getD k 0-m.1.getD k 0)
def fN (s:Vk)(m:Mv):(u8 s m).length=s.length:=by simp [u8]
abbrev Ent:=List Int×Nat×Nat
abbrev eW (e:Ent):W:=.tup [tI e.1,.int (e.2.1:Int),.int (e.2.2:Int)]
abbrev r0 (b:Vk):W:=.tup [tI b,.non,.non]
abbrev C6 (b:Vk)(es:List Ent):Vp:=r0 b::es.map eW
def stS (b:Vk)(es:List Ent):List Vk:=b::es.map (·.1)
def cd (e:Ent):Nat:=e.2.1*8+e.2.2
def mvN (ms:List Mv)(k:Nat):Mv:=ms.getD k ([],[])
def sA (b:Vk)(es:List Ent)(a:Nat):List Int:=(stS b es).getD a []
def dC (b:Vk)(es:List Ent):(stS b es).length=es.length+1:=by simp [stS]
def nS (h:a<es.length+1):sA b (es ++ [e]) a=sA b es a:=by
 unfold sA stS;rw[qC9,<- qO1,qA0,qA0,qE8 (by simpa using h)]
def De (h:a<es.length+1):sA b es a∈stS b es:=by
 unfold sA;rw[qA0,qA8 (by rw[dC];show h)];show qK1 _
def abN (b:Vk)(ms:List Mv)(es:List Ent)(a k:Nat):Bool:=i8 (sA b es a) (mvN ms k).1
def bhN (b:Vk)(ms:List Mv)(es:List Ent)(a k:Nat):List Int:=u8 (sA b es a) (mvN ms k)
structure FlK (b:Vk) (ms:List Mv) (es:List Ent) (A:Nat) (T:Vy):Prop where
 len:∀e∈es,e.1.length=b.length
 k8:∀e∈es,e.2.2<ms.length
 lt:∀e∈es,e.2.1<A\/(e.2.1=A/\e.2.2∈T)
 inc:es.Pairwise λx y=>cd x<cd y
 par:∀(i:Nat) (e:Ent),es[i]?=some e->e.2.1<=i
 beh:∀e∈es,abN b ms es e.2.1 e.2.2=true/\e.1=bhN b ms es e.2.1 e.2.2
 nod:(stS b es).Nodup
 cl:∀t∈T,∀k,k<t->abN b ms es A k=true->k∈T
 set:∀a k,a<A\/(a=A/\k∈T)->k<ms.length->abN b ms es a k=true->(∃e∈es,e.2=(a,k))\/bhN b ms es a k=b\/∃e∈es,cd e<a*8+k/\e.1=bhN b ms es a k
def FlK.start (b:Vk) (ms:List Mv):FlK b ms [] 0 [] where
 len:=Zy
 k8:=Zy
 lt:=Zy
 inc:=List.Pairwise.nil
 par:=Zy
 beh:=Zy
 nod:=by simp [stS]
 cl:=Zy
 set:=λa k h=>by simp at h
def FlK.below (h:FlK b ms es A T) (h8:ms.length<=8) (hT:∀t∈T,t<k):∀e∈es,cd e<A*8+k:=λe I=>by
 have:=h.k8 e I
 unfold cd;rcases h.lt e I with q|⟨q,q'⟩
 .omega
 .have:=hT _ q';omega
def FlK.known (h:FlK b ms es A T) (h8:ms.length<=8) (hT:∀t∈T,t<k) (a5:∀j,j<k->abN b ms es A j=true->j∈T) (a3:bhN b ms es A k∈stS b es):FlK b ms es A (T ++ [k]) where
 len:=h.len
 k8:=h.k8
 lt:=λe he=>by
  rcases h.lt e he with q|⟨q,q'⟩
  .show .inl q
  .show .inr ⟨q,qE1 _ q'⟩
 inc:=h.inc
 par:=h.par
 beh:=h.beh
 nod:=h.nod
 cl:=λt ht j hj I=>by
  rcases qC8.mp ht with q|q
  .show qE1 _ (h.cl t q j hj I)
  .rw [qC4.mp q]at hj
   show qE1 _ (a5 j hj I)
 set:=λa j hj a4 I=>by
  rcases hj with q|⟨q,q'⟩
  .show h.set a j (.inl q) a4 I
  .rcases qC8.mp q' with q2|q2
   .show h.set a j (.inr ⟨q,q2⟩) a4 I
   .have ek:=qC4.mp q2;subst q ek;unfold stS at a3;rcases qB5.mp a3 with e|e
    .show .inr (.inl e)
    .obtain ⟨x,hx,ex⟩:=qB1.mp e;show .inr (.inr ⟨x,hx,h.below h8 hT x hx,ex⟩)
def FlK.snoc (h:FlK b ms es A T) (h8:ms.length<=8) (hA:A<es.length+1) (hk:k<ms.length) (hT:∀t∈T,t<k) (a7:∀j,j<k->abN b ms es A j=true->j∈T) (a8:abN b ms es A k=true) (a6:(bhN b ms es A k).length=b.length) (a5:bhN b ms es A k∉stS b es):FlK b ms (es ++ [(bhN b ms es A k,A,k)]) A (T ++ [k]):=by
 have hS:∀a j,a<es.length+1->abN b ms (es ++ [(bhN b ms es A k,A,k)]) a j=abN b ms es a j/\bhN b ms (es ++ [(bhN b ms es A k,A,k)]) a j=bhN b ms es a j:=λa j ha=>by
  unfold abN bhN;rw[nS ha];show ⟨rfl,rfl⟩
 have a3:∀e∈es,e.2.1<es.length+1:=λe he=>by
  obtain ⟨i,hi,ei⟩:=qE2.mp he
  have:=h.par i e (by rw[qA8 hi,ei])
  omega
 refine ⟨λe he=>?_,λe he=>?_,λe he=>?_,?_,λi e he=>?_,λe he=>?_,?_,λt ht j hj I=>?_,λa j hj ab I=>?_⟩
 .rcases qC8.mp he with q|q
  .show h.len e q
  .rw[qC4.mp q];show a6
 .rcases qC8.mp he with q|q
  .show h.k8 e q
  .rw[qC4.mp q];show hk
 .rcases qC8.mp he with q|q
  .rcases h.lt e q with q1|⟨q1,q2⟩
   .show .inl q1
   .show .inr ⟨q1,qE1 _ q2⟩
  .rw[qC4.mp q];show .inr ⟨rfl,Zy⟩
 .refine qE6.mpr ⟨h.inc,qI4 _ _,λx hx y hy=>?_⟩;rw[qC4.mp hy];show h.below h8 hT x hx
 .by_cases hi:i<es.length
  .rw [qE8 hi]at he
   show h.par i e he
  .have a9:=(qA9.mp he).1;rw[qC3,qG6]at a9
   have:i=es.length:=ox
   subst this;rw[qH3 (qB2 _),Nat.sub_self]at he;cases he
   change A<=es.length;omega
 .rcases qC8.mp he with q|q
  .rw[(hS _ _ (a3 e q)).1,(hS _ _ (a3 e q)).2];show h.beh e q
  .rw [qC4.mp q]
   rw[(hS A k hA).1,(hS A k hA).2];show ⟨a8,rfl⟩
 .unfold stS;rw[qC9,<- qO1];refine List.nodup_append.mpr ⟨h.nod,Zy,λx hx y hy=>?_⟩;rw[List.map_singleton,qC4]at hy;subst hy;intro e;have e:x=bhN b ms es A k:=e;rw[e]at hx;show a5 hx
 .rw [(hS A j hA).1]at I
  rcases qC8.mp ht with q|q
  .show qE1 _ (h.cl t q j hj I)
  .rw [qC4.mp q]at hj
   show qE1 _ (a7 j hj I)
 .have ha:a<es.length+1:=by
   rcases hj with q|⟨q,_⟩
   .omega
   .omega
  rw[(hS a j ha).1]at I;rw[(hS a j ha).2];have a4:(a<A\/(a=A/\j∈T))->(∃e∈es ++ [(bhN b ms es A k,A,k)],e.2=(a,j))\/bhN b ms es a j=b\/∃e∈es ++ [(bhN b ms es A k,A,k)],cd e<a*8+j/\e.1=bhN b ms es a j:=λhj=>by
   rcases h.set a j hj ab I with ⟨e,he,q⟩|q|⟨e,he,q⟩
   .show .inl ⟨e,qE1 _ he,q⟩
   .show .inr (.inl q)
   .show .inr (.inr ⟨e,qE1 _ he,q⟩)
  rcases hj with q|⟨q,q'⟩
  .show a4 (.inl q)
  .rcases qC8.mp q' with q2|q2
   .show a4 (.inr ⟨q,q2⟩)
   .have ek:=qC4.mp q2;subst q ek;show .inl ⟨_,qE3 _ (List.mem_singleton_self _),rfl⟩
def FlK.next (h:FlK b ms es A T) (hT:∀k,k<ms.length->abN b ms es A k=true->k∈T):FlK b ms es (A+1) [] where
 len:=h.len
 k8:=h.k8
 lt:=λe he=>by
  rcases h.lt e he with q|⟨q,q'⟩
  .show .inl ox
  .show .inl ox
 inc:=h.inc
 par:=h.par
 beh:=h.beh
 nod:=h.nod
 cl:=Zy
 set:=λa k hj hk I=>by
  rcases hj with q|⟨_,q⟩
  .by_cases e:a=A
   .subst e;show h.set a k (.inr ⟨rfl,hT k hk I⟩) hk I
   .show h.set a k (.inl ox) hk I
  .simp at q
def fsN (ms:List Mv)(s:Vk):List Nat:=(List.range ms.length).filter λk=>i8 s (mvN ms k).1
def um (ms:List Mv)(s:Vk):(fsN ms s).Pairwise (·<·):=List.Pairwise.filter _ List.pairwise_lt_range
def fs_mem:k∈fsN ms s↔k<ms.length/\i8 s (mvN ms k).1=true:=by
 unfold fsN;rw[qG8,qG1]
def zf {l:Vy}(h:l.Pairwise (·<·)) (hi:i<l.length):∀t∈l.take i,t<l[i]:=λt ht=>by
 obtain ⟨j,I,e⟩:=qE2.mp ht;rw[qF6]at I;rw[List.getElem_take]at e;subst e;show qR5.mp h j i ox hi ox
def AM {l:Vy}(h:l.Pairwise (·<·)) (hi:i<l.length) (ht:t∈l) (a4:t<l[i]):t∈l.take i:=by
 obtain ⟨j,I,e⟩:=qE2.mp ht;subst e;have a3:j<i:=by
  rcases qH5 j i with q|q|q
  .show q
  .subst q;omega
  .have:=qR5.mp h i j hi I q;omega
 show qE2.mpr ⟨j,by rw[qF6];omega,by rw[List.getElem_take]⟩
def BF (ms:List Mv):((ms.map mW).mapIdx λi x=>W.tup [.int (i:Int),x])=(List.range ms.length).map λ(k:Nat)=>W.tup [.int (k:Int),mW (mvN ms k)]:=by
 apply qK3
 .simp
 .intro i I h2;have hi:i<ms.length:=by simpa using I
  simp [mvN,qA0,qA8 hi]
def BV (h6:s.length<=6) (hm:∀m∈ms,okN s.length m) (hl:ms.length<=8):P2 [.tup [tI b,tM_ ms],tI s]=.ok (.lst ((fsN ms s).map λ(k:Nat)=>W.tup [tI (u8 s (mvN ms k)),.int (k:Int)])):=by
 have a1:L2.atI [tI b,tM_ ms] 1=some (tM_ ms):=rfl;have he:R0 [tM_ ms]=.ok ((List.range ms.length).map λ(k:Nat)=>W.tup [.int (k:Int),mW (mvN ms k)]):=by rw[<- BF];rfl
 exists rpB,ae,a1,he;have e:∀N mg mc me ρ,(∀k,k<ms.length->∃I,mg (.tup [.int (k:Int),mW (mvN ms k)]) (ρ++List.replicate (N-ρ.length) Sl.un)=some I/\mc I=.ok (i8 s (mvN ms k).1)/\(i8 s (mvN ms k).1=true->me I=.ok (.tup [tI (u8 s (mvN ms k)),.int (k:Int)]))) ->
   j7 N mg mc me ((List.range ms.length).map λ(k:Nat)=>W.tup [.int (k:Int),mW (mvN ms k)]) ρ=.ok (.lst ((fsN ms s).map λ(k:Nat)=>W.tup [tI (u8 s (mvN ms k)),.int (k:Int)])):=λN mg mc me ρ h=>
  y9 (N':=N) (mg:=mg) (mc:=mc) (me:=me) (λk=>W.tup [tI (u8 s (mvN ms k)),.int (k:Int)]) (λk=>W.tup [.int (k:Int),mW (mvN ms k)]) (λk=>i8 s (mvN ms k).1) (List.range ms.length) ρ (by rw[qF5];omega) λk hk=>h k (qG1.mp hk)
 rw[e]
 .exists rp18
 .intro k hk;have a3:okN s.length (mvN ms k):=getM hm hk;generalize mvN ms k=m at a3
  have k1:=eh (s:=s) (m:=m) (by rw[a3.1]);refine ⟨_,rfl,?_,λhc=>?_⟩
  .exists k1
  .have k2:=vd h6 a3 rfl hc;have k3:(List.range s.length).map (λk=>s.getD k 0+(m.2.getD k 0-m.1.getD k 0))=u8 s m:=rfl;rw[k3]at k2;exists k2,n5 (t4 (u8 s m))
def FlEnd (b:Vk) (ms:List Mv) (most:Nat) (es:List Ent) (wh:Bool):Prop:=
 es.length+1<=most/\((wh=true/\FlK b ms es (es.length+1) []) \/
  (wh=false/\es.length+1=most/\∃A T k,FlK b ms es A T/\A<es.length+1/\k<ms.length/\(∀t∈T,t<k)/\abN b ms es A k=true/\bhN b ms es A k∉stS b es))
def xU (h:k∉ks):nj ks k=ks ++ [k]:=qA4 h
def zB {es:List Ent}(h:a<es.length+1):∃x y:W,L2.atI (C6 b es) (a:Int)=some (.tup [tI (sA b es a),x,y]):=by
 cases a with
 |zero=>show ⟨.non,.non,dy (k:=0) rfl⟩
 | succ a=>
  have ha:a<es.length:=ox;have e1:(C6 b es)[a+1]?=some (eW es[a]):=by simp [ha]
  have e2:sA b es (a+1)=es[a].1:=by
   unfold sA stS;simp [qA0,ha]
  rw[e2];show ⟨_,_,dy (k:=a+1) e1⟩
def xw {most:Nat}(h6:b.length<=6) (hm:∀m∈ms,okN b.length m) (hl:ms.length<=8) (h1:1<=most) (c2:most<=100):Ok (iU [.tup [tI b,tM_ ms],.int (most:Int)]) λw=>∃(es:List Ent) (wh:Bool),w=.tup [.lst (C6 b es),.bl wh]/\FlEnd b ms most es wh:=by
 have a0:L2.atI [tI b,tM_ ms] 0=some (tI b):=rfl;have nw:=oq;exists rpB,oA,a0,n5 (t4 b),wP,oq;refine p7 (M3 ?_);refine Q6 (λm ρ=>∃(es:List Ent) (at_:Nat) (a5 a6 a7:Sl),ρ = [.par (.tup [tI b,tM_ ms]),.par (.int (most:Int)),.own (C6 b es),.dic (stS b es),.val (.int (at_:Int)),a5,a6,a7]/\bL a5=false/\bL a6=false/\bL a7=false/\FlK b ms es at_ []/\at_<=es.length+1/\es.length+1<=most/\m+at_=102) ?_ 102 _ ⟨[],0,.un,.un,.un,rfl,rfl,rfl,rfl,FlK.start b ms,ox,by simpa using h1,rfl⟩;rintro m ρ ⟨es,at_,a5,a6,a7,rfl,d5,d6,d7,hK,c4,bt,c3⟩;by_cases b5:at_<es.length+1
 .refine ⟨true,?_,?_⟩
  .exists rp18;rw[show decide ((at_:Int)<((es.length+1:Nat):Int))=true from qQ0 ox]
  rw[qA2 rfl];obtain ⟨x,y,er⟩:=zB (b:=b) (es:=es) b5;have bq:(sA b es at_).length=b.length:=by
   have:=De (b:=b) (es:=es) b5
   unfold stS at this;rcases qB5.mp this with e|e
   .rw[e]
   .obtain ⟨z,hz,ez⟩:=qB1.mp e;rw[<- ez];show hK.len z hz
  have kb:=BV (b:=b) (s:=sA b es at_) ox (by rw[bq];show hm) hl;have c1:L2.atI [tI (sA b es at_),x,y] 0=some (tI (sA b es at_)):=rfl;exists er,c1,kb;generalize hs:sA b es at_=s at *
  have c5:(fsN ms s).length<=8:=by
   have:=qO0 (λk=>i8 s (mvN ms k).1) (List.range ms.length)
   rw[qF5]at this;unfold fsN;omega
  refine wg (λi ρ=>∃(I:List Ent) (a6 a7:Sl),ρ = [.par (.tup [tI b,tM_ ms]),.par (.int (most:Int)),.own (C6 b I),.dic (stS b I),.val (.int (at_:Int)),.val (tI s),a6,a7]/\bL a6=false/\bL a7=false/\FlK b ms I at_ ((fsN ms s).take i)/\at_<I.length+1/\I.length+1<=most/\sA b I at_=s) ⟨es,a6,a7,rfl,d6,d7,hK,b5,bt,hs⟩ ?_ ?_
  .rintro i u ρ hu ⟨I,a6,a7,rfl,d6,d7,ab,a4,a9,a8⟩;rw[qC0]at hu;cases hq:(fsN ms s)[i]? with
   |none=>rw[hq]at hu;cases hu
   | some k=>
    rw[hq]at hu;cases hu;obtain ⟨hi,ba⟩:=qA9.mp hq;have b4:=fs_mem.mp (qG3 hq);have htk:(fsN ms s).take (i+1)=(fsN ms s).take i ++ [k]:=by rw[qL9,hq];rfl
    have hT:∀t∈(fsN ms s).take i,t<k:=λt ht=>by rw[<- ba];show zf (um ms s) hi t ht
    have bc:∀j,j<k->abN b ms I at_ j=true->j∈(fsN ms s).take i:=λj hj a3=>by
     unfold abN at a3;rw[a8]at a3;show AM (um ms s) hi (fs_mem.mpr ⟨ox,a3⟩) (by rw[ba];show hj)
    have a3:abN b ms I at_ k=true:=by unfold abN;rw[a8];show b4.2
    have b0:bhN b ms I at_ k=u8 s (mvN ms k):=by unfold bhN;rw[a8]
    have c0:(u8 s (mvN ms k)).length=b.length:=by rw[fN];show bq
    have b3:=fK (stS b I) (.bl true) (u8 s (mvN ms k)) 3 [.par (.tup [tI b,tM_ ms]),.par (.int (most:Int)),.own (C6 b I),.dic (stS b I),.val (.int (at_:Int)),.val (tI s),.par (tI (u8 s (mvN ms k))),.par (.int (k:Int))] rfl (by rw[dC];omega);dsimp only;generalize hB:u8 s (mvN ms k)=B at *
    refine ⟨_,rfl,?_⟩;exists rp18;refine oj (λh=>?_) (λh=>?_)
    .have h:=qQ3 h;exists rp18;show ⟨I,_,_,rfl,rfl,rfl,by rw[htk];show ab.known hl hT bc (by rw[b0];show h),a4,a9,a8⟩
    .have h:=qQ9 h;rw[xU h]at b3;exists rp18;refine oj (λh2=>?_) (λh2=>?_)
     .have h2:=qQ3 h2;exists rp18;show ⟨I,false,rfl,a9,.inr ⟨rfl,ox,at_,_,k,ab,a4,b4.1,hT,a3,by rw[b0];show h⟩⟩
     .have h2:=qQ9 h2;exists b3,n5 (t4 B);refine ⟨I ++ [(B,at_,k)],.par (tI B),.par (.int (k:Int)),?_,rfl,rfl,?_,?_,?_,?_⟩
      .simp [C6,stS]
      .rw [htk,<- b0]
       show ab.snoc hl a4 b4.1 hT bc a3 (by rw[b0];show c0) (by rw[b0];show h)
      .rw[qC3];omega
      .rw[qC3,qG6];omega
      .rw[nS a4];show a8
  .rintro ρ ⟨I,a6,a7,rfl,d6,d7,ab,a4,a9,a8⟩;rw[qA7,qK2]at ab;exists rp18;refine ⟨m-1,ox,I,at_+1,_,_,_,rfl,rfl,d6,d7,ab.next λk hk a3=>fs_mem.mpr ⟨hk,?_⟩,ox,a9,ox⟩;unfold abN at a3;rw[a8]at a3;show a3
 .refine ⟨false,?_,?_⟩
  .exists rp18;rw[show decide ((at_:Int)<((es.length+1:Nat):Int))=false from qQ1 ox]
  .rw [qA4 qA3]
   have e:at_=es.length+1:=ox;subst e;exists rp18;show ⟨es,true,rfl,bt,.inl ⟨rfl,hK⟩⟩
def pE (b:Vk):Option Ent->W
 |none=>r0 b
 |some e=>eW e
def stO (b:Vk):Option Ent->List Int
 |none=>b
 |some e=>e.1
def Dp (b:Vk) (es:List Ent):C6 b es=(none::es.map some).map (pE b):=by
 rw[qB9,qC5];rfl
def st_O (b:Vk) (es:List Ent):(none::es.map some).map (stO b)=stS b es:=by
 rw[qB9,qC5];rfl
inductive Pt (es:List Ent):Nat->List Int->List Int->Prop where
 |zero:Pt es 0 [0] []
 |succ {i:Nat}{e:Ent}{l r:Vk}:es[i]?=some e->Pt es e.2.1 l r->Pt es (i+1) (((i+1:Nat):Int)::l) (r ++ [(e.2.2:Int)])
def Pt.ex (hp:∀(i:Nat) (e:Ent),es[i]?=some e->e.2.1<=i):∀n,n<=es.length->∃l r,Pt es n l r:=by
 intro n
 induction n using Nat.strongRecOn with
 | _ n I=>
  intro hn;cases n with
  |zero=>show ⟨_,_,.zero⟩
  | succ i=>
   have hi:es[i]?=some es[i]:=qA8 ox
   have:=hp i _ hi
   obtain ⟨l,r,p⟩:=I es[i].2.1 ox ox;show ⟨_,_,.succ hi p⟩
def Pt.len (I:∀(i:Nat) (e:Ent),es[i]?=some e->e.2.1<=i):∀{n:Nat}{l r:Vk},Pt es n l r->l.length=r.length+1/\r.length<=n
 |_,_,_,.zero=>⟨rfl,qB2 _⟩
 | _,_,_,.succ h p=>by
  have:=Pt.len I p
  have:=I _ _ h
  rw[qD1,qC3,qG6];omega
def Pt.rev:∀{n:Nat}{l r:Vk},Pt es n l r->∃t:List Nat,l.reverse=0::t.map (λ(k:Nat)=>((k+1:Nat):Int))/\(∀k∈t,k<es.length)/\r=t.map λk=>((es.getD k ([],0,0)).2.2:Int)
 |_,_,_,.zero=>⟨[],rfl,Zy,rfl⟩
 | _,_,_,.succ (i:=i) (e:=e) h p=>by
  obtain ⟨t,h1,I,h3⟩:=Pt.rev p;have hi:=(qA9.mp h).1;refine ⟨t ++ [i],?_,λk hk=>?_,?_⟩
  .rw[qN4,h1,qC9];rfl
  .rcases qC8.mp hk with q|q
   .show I k q
   .rw[qC4.mp q];show hi
  .rw [qC9,<- h3]
   have:es.getD i ([],0,0)=e:=by rw[qA0,h];rfl
   rw[List.map_singleton,this]
def ru (ms:List Mv)(b r:Vk):List Int:=r.foldl (λs k=>u8 s (mvN ms k.toNat)) b
def nU (ms:List Mv)(b r:Vk) (k:Int):ru ms b (r ++ [k])=u8 (ru ms b r) (mvN ms k.toNat):=by unfold ru;rw[List.foldl_append];rfl
def sk (ms:List Mv):∀(r b:Vk),(ru ms b r).length=b.length
 | [],b=>rfl
 | k::r,b=>by
  change (ru ms (u8 b (mvN ms k.toNat)) r).length=_;rw[sk ms r,fN]
def Db (h:es[i]?=some e):sA b es (i+1)=e.1:=by
 unfold sA stS;rw[qA0,qT3,qC0,h];rfl
def Pt.run (hK:FlK b ms es A T):∀{n:Nat}{l r:Vk},Pt es n l r->ru ms b r=sA b es n/\∀j,j<r.length->(0<=r.getD j 0/\r.getD j 0<(ms.length:Int))/\i8 (ru ms b (r.take j)) (mvN ms (r.getD j 0).toNat).1=true
 |_,_,_,.zero=>⟨rfl,λj hj=>absurd hj (qD3 _)⟩
 | _,_,_,.succ (i:=i) (e:=e) (l:=l) (r:=r) h p=>by
  obtain ⟨h1,h2⟩:=Pt.run hK p;have he:=qG3 h;have hb:=hK.beh e he;have hk:=hK.k8 e he;refine ⟨?_,λj hj=>?_⟩
  .rw [nU,h1,Db h,hb.2]
   unfold bhN;rw[qF8]
  .rw [qC3,qG6]at hj
   by_cases e1:j=r.length
   .subst e1;have g:(r ++ [(e.2.2:Int)]).getD r.length 0=(e.2.2:Int):=by rw[qA0];simp
    have g2:(r ++ [(e.2.2:Int)]).take r.length=r:=Zy;rw[g,g2,h1,qF8];show ⟨ox,hb.1⟩
   .have I:j<r.length:=ox;have g:(r ++ [(e.2.2:Int)]).getD j 0=r.getD j 0:=by rw[qA0,qA0,qE8 I]
    have g2:(r ++ [(e.2.2:Int)]).take j=r.take j:=qV1 ox;rw[g,g2];show h2 j I
def nV (h:es[i]?=some e):L2.atI (C6 b es) ((i+1:Nat):Int)=some (eW e):=dy (k:=i+1) (by change (es.map eW)[i]?=_;rw[qC0,h];rfl)
def yY (hp:∀(i:Nat) (e:Ent),es[i]?=some e->e.2.1<=i) (hl:es.length<=100) (hn:n<=es.length) (p:Pt es n l r):V4 [.lst (C6 b es),.int (n:Int)]=.ok (lI l):=by
 have fin:Ok (V4 [.lst (C6 b es),.int (n:Int)]) λv=>v=lI l:=by
  have a6:=(Pt.len hp p).1;have a7:=(Pt.len hp p).2;exists rpB,gx;refine p7 (M3 ?_);refine Q6 (λm ρ=>∃(xs l':Vk) (w:W) (a3:Sl),ρ = [.par (.lst (C6 b es)),.par (.int (n:Int)),.own (xs.map W.int),a3]/\(a3=.val w\/a3=.par w)/\xs++l'=l/\((w=.non/\l' = [])\/∃(n':Nat) (r':Vk),w=.int (n':Int)/\Pt es n' l' r'/\n'<m)) ?_ (n+1) _ ⟨[],l,.int (n:Int),.val (.int (n:Int)),rfl,.inl rfl,rfl,.inr ⟨n,r,rfl,p,qM1 n⟩⟩;rintro m ρ ⟨xs,l',w,a3,rfl,ha,hx,hc⟩;rcases hc with ⟨rfl,rfl⟩|⟨n',r',rfl,p',hm⟩
  .refine ⟨false,?_,?_⟩
   .rcases ha with rfl|rfl
    .exists rp18
    .exists rp18
   .rw [qA4 qA3]
    rw[qG2]at hx;subst hx;exists rp18
  .refine ⟨true,?_,?_⟩
   .rcases ha with rfl|rfl
    .exists rp18
    .exists rp18
   .rw [qA2 rfl]
    have a9:xs.length<=l.length:=by rw[<- hx,qC3];omega
    cases p' with
    | zero=>
     have I:L2.atI (C6 b es) (((0:Nat)):Int)=some (r0 b):=dy (k:=0) rfl;have a4:L2.atI (C6 b es) 0=some (r0 b):=I;have b1:L2.atI [tI b,W.non,W.non] 1=some W.non:=rfl;rcases ha with rfl|rfl
     .exists I,a4,b1;show ⟨0,ox,xs ++ [0],[],.non,_,by rw[qC9],.inr rfl,by simpa using hx,.inl ⟨rfl,rfl⟩⟩
     .exists I,a4,b1;show ⟨0,ox,xs ++ [0],[],.non,_,by rw[qC9],.inr rfl,by simpa using hx,.inl ⟨rfl,rfl⟩⟩
    | @succ i e l2 r2 h p2=>
     have r1:=nV (b:=b) h;have b1:L2.atI [tI e.1,.int (e.2.1:Int),.int (e.2.2:Int)] 1=some (.int (e.2.1:Int)):=rfl;have a8:=hp i e h;have a5:(xs ++ [((i+1:Nat):Int)])++l2=l:=by rw[<- hx];simp
     rcases ha with rfl|rfl
     .exists r1,b1;show ⟨i+1,ox,xs ++ [((i+1:Nat):Int)],l2,.int (e.2.1:Int),_,by rw[qC9],.inr rfl,a5,.inr ⟨e.2.1,r2,rfl,p2,ox⟩⟩
     .exists r1,b1;show ⟨i+1,ox,xs ++ [((i+1:Nat):Int)],l2,.int (e.2.1:Int),_,by rw[qC9],.inr rfl,a5,.inr ⟨e.2.1,r2,rfl,p2,ox⟩⟩
 obtain ⟨v,e,rfl⟩:=fin;show e
def vM (hp:∀(i:Nat) (e:Ent),es[i]?=some e->e.2.1<=i) (hl:es.length<=100) (hn:n<=es.length) (p:Pt es n l r):fH [.lst (C6 b es),.int (n:Int)]=.ok (lI r):=by
 have k1:=yY (b:=b) hp hl hn p;obtain ⟨t,h1,h2,h3⟩:=Pt.rev p;have a7:=Pt.len hp p;have a6:t.length=r.length:=by rw[h3,qA7]
 have k2:qz [.lst (C6 b es),.int (n:Int)]=.ok (lI l.reverse):=by
  exists rpB,yu,k1
 have k3:T8 [.lst (C6 b es),.int 0,.int (n:Int)]=.ok (lI r):=by
  have a4:fE (l.reverse.map W.int) (.int 0)=.ok (.int 0):=by
   rw[h1];have hs:(shp 8 (.int 0)&&shp 8 (.lst ((0::t.map λ(k:Nat)=>((k+1:Nat):Int)).map W.int)))=true:=by
    rw[Q5,qM6];show Q4 W.int 7 (Q5 7) _
   unfold fE;rw[qA2 hs];rfl
  have a3:iZ l.reverse (some 1) none=t.map λ(k:Nat)=>((k+1:Nat):Int):=by
   rw[h1];unfold iZ;rw[show (1:Int)=((1:Nat):Int) from rfl,HT.sIx_nat,HT.sIx_none];simp;show qK5 Zy
  have e:∀N mg me ρ,(∀k∈t,∃I,mg (.int ((k+1:Nat):Int)) (ρ++List.replicate (N-ρ.length) Sl.un)=some I/\me I=.ok (.int ((es.getD k ([],0,0)).2.2:Int)))->j7 N mg yes me ((t.map λ(k:Nat)=>((k+1:Nat):Int)).map W.int) ρ=.ok (lI r):=λN mg me ρ h=>by
   rw[qC5];refine (l5 (λk=>W.int ((es.getD k ([],0,0)).2.2:Int)) (W.int∘λ(k:Nat)=>((k+1:Nat):Int)) t ρ ox h).trans ?_;rw[h3];show congrArg (λz=>R.ok (W.lst z)) (by rw[qC5];rfl)
  exists rpB,bX,k2,a4;rw[a3,e]
  .exists rp18
  .intro k hk;have a5:=h2 k hk;have hg:es[k]?=some (es.getD k ([],0,0)):=by rw[qA0,qA8 a5];rfl
   have r1:=nV (b:=b) hg;generalize es.getD k ([],0,0)=e at r1
   have b2:L2.atI [tI e.1,.int (e.2.1:Int),.int (e.2.2:Int)] 2=some (.int (e.2.2:Int)):=rfl;refine ⟨_,rfl,?_⟩;exists r1,b2
 exists rpB,lY,k3
def j1 (s:Vk)(ss:Vw):Bool:=ss.any (i8 s)
def fx {ss:Vw}(h:i<ss.length):ss.getD i []∈ss:=by
 rw[qA0];simp [h]
def aP {ss:Vw}(h:(ss.map tI)[i]?=some w):i<ss.length/\w=tI (ss.getD i []):=by
 rw[qC0]at h;cases q:ss[i]? with
 |none=>rw[q]at h;cases h
 | some k=>
  rw[q]at h;cases h;show ⟨(qA9.mp q).1,by rw[qA0,q];rfl⟩
def IJ (hi:i<ss.length) (h:i8 s (ss.getD i [])=true):j1 s ss=true:=by
 unfold j1;rw[qD5];show ⟨_,fx hi,h⟩
def IK (h:∀k,k<ss.length->i8 s (ss.getD k [])=false):j1 s ss=false:=by
 unfold j1;rw[qP3];intro x I;obtain ⟨i,hi,e⟩:=qE2.mp I
 have:=h i hi
 rw[qA0]at this;simp [hi,e]at this;simp [this]
def af (hl:∀x∈ss,x.length=s.length):N2 [tI s,.lst (ss.map tI)]=.ok (.bl (j1 s ss)):=by
 have fin:Ok (N2 [tI s,.lst (ss.map tI)]) λv=>v=.bl (j1 s ss):=by
  exists rpB,lZ;refine p7 (t9 (λi ρ=>∃u,ρ = [.par (tI s),.par (.lst (ss.map tI)),u]/\∀k,k<i->i8 s (ss.getD k [])=false) ⟨_,rfl,λk hk=>absurd hk (qD3 _)⟩ ?_ ?_)
  .rintro i u ρ hu ⟨_,rfl,I⟩;obtain ⟨hi,rfl⟩:=aP hu;have hc:=jJ (a:=s) (b:=ss.getD i []) (hl _ (fx hi));refine ⟨_,rfl,?_⟩;exists hc;refine bF (λh=>?_) (λh=>?_)
   .exists rp18;rw[IJ hi h]
   .exists rp18;refine ⟨_,rfl,λk hk=>?_⟩;by_cases e:k=i
    .subst e;show h
    .show I k ox
  .rintro ρ ⟨_,rfl,I⟩;rw[qA7]at I;exists rp18;rw[IK I]
 obtain ⟨v,e,rfl⟩:=fin;show e
def srcL (g t p:Vk):List Int:=(List.range g.length).map λk=>max (t.getD k 0) (g.getD k 0-p.getD k 0+t.getD k 0)
def ff (g t p:Vk):(srcL g t p).length=g.length:=by simp [srcL]
def ii (h:k<g.length):(srcL g t p).getD k 0=max (t.getD k 0) (g.getD k 0-p.getD k 0+t.getD k 0):=D7 h
def rK (ht:t.length=g.length) (hp:p.length=g.length) (hg:g.length<=6):fG [tI g,.tup [tI t,tI p]]=.ok (tI (srcL g t p)):=by
 have a0:L2.atI [tI t,tI p] 0=some (tI t):=rfl;have a1:L2.atI [tI t,tI p] 1=some (tI p):=rfl;have hz:=Cj (tI g) (tI t) (tI p) _ _ _ rfl rfl rfl;rw[yW ht hp]at hz;exists rpB,lX,a0,a1,hz;have e:∀N mg me ρ (h:∀k,k<g.length->∃I,mg (.tup [.int (g.getD k 0),.int (t.getD k 0),.int (p.getD k 0)]) (ρ++List.replicate (N-ρ.length) Sl.un)=some I/\me I=.ok (.int (max (t.getD k 0) (g.getD k 0-p.getD k 0+t.getD k 0)))),j7 N mg yes me ((List.range g.length).map λk=>.tup [.int (g.getD k 0),.int (t.getD k 0),.int (p.getD k 0)]) ρ=.ok (lI (srcL g t p)):=λN mg me ρ h=>by
  rw[l5 (λk=>.int (max (t.getD k 0) (g.getD k 0-p.getD k 0+t.getD k 0))) _ _ ρ (by simpa using (by omega:g.length<=1000)) (λk hk=>h k (by simpa using hk)),av];rfl
 rw[e]
 .exists rp18
 .intro k hk;refine ⟨_,rfl,?_⟩;exists rp18
def A8 (ms:List Mv)(ss:Vw):List Vk:=ms.flatMap λm=>ss.map λs=>srcL s m.1 m.2
def bw:(A8 ms ss).length=ms.length*ss.length:=by
 unfold A8
 induction ms with
 |nil=>simp
 |cons m ms I=>rw[List.flatMap_cons,qC3,I,qA7,qD1,Nat.succ_mul,qN7]
def fc (hs:∀x∈ss,x.length=n):∀x∈A8 ms ss,x.length=n:=λx I=>by
 unfold A8 at I;obtain ⟨m,_,I⟩:=qS2.mp I;obtain ⟨s,a3,rfl⟩:=qB1.mp I;rw[ff];show hs s a3
def fS (h6:n<=6) (hm:∀m∈ms,okM n m) (hs:∀x∈ss,x.length=n) (a8:ms.length<=8) (a7:ss.length<=100):S7 [tM_ ms,lS ss]=.ok (lS (A8 ms ss)):=by
 have fin:Ok (S7 [tM_ ms,lS ss]) λv=>v=lS (A8 ms ss):=by
  exists rpB,jt;refine p7 (t9 (λi ρ=>∃(u:Sl),ρ = [.par (tM_ ms),.par (lS ss),.own ((A8 (ms.take i) ss).map tI),u]/\i<=ms.length) ⟨_,rfl,qC6 _⟩ ?_ ?_)
  .rintro i w ρ hw ⟨u,rfl,hi⟩;obtain ⟨m,a4,a5,rfl⟩:=W3 hw;have a6:i<ms.length:=(qA9.mp a5).1;refine ⟨_,rfl,?_⟩;have e:∀N mg me ρ (h:∀s∈ss,∃a3,mg (tI s) (ρ++List.replicate (N-ρ.length) Sl.un)=some a3/\me a3=.ok (tI (srcL s m.1 m.2))),j7 N mg yes me (ss.map tI) ρ=.ok (lS (ss.map λs=>srcL s m.1 m.2)):=λN mg me ρ h=>by
    rw[l5 (λs=>tI (srcL s m.1 m.2)) _ _ ρ ox h];show congrArg (λl=>R.ok (W.lst l)) (by rw[qC5];rfl)
   exists rp18;rw[e]
   .have hl:(A8 (ms.take i) ss).length+ss.length<=1000:=by
     rw[bw,qF6,qO5 ox]
     have:=qG7 (show i<=8 by omega) a7
     omega
    exists rp18;refine ⟨.par (mW m),?_,a6⟩
    have:A8 (ms.take (i+1)) ss=A8 (ms.take i) ss++ss.map λs=>srcL s m.1 m.2:=by
     unfold A8;rw[qL9,a5];simp
    rw[this]
   .intro s I;have hk:=rK (g:=s) (t:=m.1) (p:=m.2) (by rw[hs s I,(hm m a4).1]) (by rw[hs s I,(hm m a4).2]) (by rw[hs s I];show h6);refine ⟨_,rfl,?_⟩;exists hk
  .rintro ρ ⟨u,rfl,hi⟩;rw[qA7,qK2];exists rp18
 obtain ⟨v,e,rfl⟩:=fin;show e
def cov_iff:i8 a b=true↔∀k,k<a.length->b.getD k 0<=a.getD k 0:=by
 unfold i8;rw[qI1];show ⟨λh k hk=>qQ3 (h k (by simpa using hk)),λh k hk=>qQ0 (h k (by simpa using hk))⟩
def bst (I:Vw)(s:Vk):List Vk:=if j1 s I then I else I ++ [s]
def Y0 (ss:Vw):List Vk:=(L3 ss).foldl bst []
def hU:∀(l I:Vw),(I.Pairwise λa b=>i8 b a=false) ->
  (∃t,t.Sublist l/\l.foldl bst I=I++t)/\((l.foldl bst I).Pairwise λa b=>i8 b a=false)/\∀z∈l,∃s∈l.foldl bst I,i8 z s=true
 | [],I,h2=>⟨⟨[],.slnil,Zy⟩,h2,λ_ h=>nomatch h⟩
 | z::l,I,h2=>by
  rw[List.foldl_cons];cases c:j1 z I with
  | true=>
   have e:bst I z=I:=by unfold bst;rw[qA2 c]
   rw[e];obtain ⟨⟨t,ht,et⟩,i3,i4⟩:=hU l I h2;refine ⟨⟨t,ht.cons z,et⟩,i3,λy hy=>?_⟩;rcases qB5.mp hy with rfl|hy
   .unfold j1 at c;obtain ⟨s,hs,hw⟩:=qD5.mp c;show ⟨s,by rw[et];show qE1 _ hs,hw⟩
   .show i4 y hy
  | false=>
   have e:bst I z=I ++ [z]:=by unfold bst;rw[qA4 (by rw[c];show qA3)]
   rw[e];have a3:∀s∈I,i8 z s=false:=λs hs=>by
    unfold j1 at c;rw[qP3]at c;simpa using c s hs
   obtain ⟨⟨t,ht,et⟩,i3,i4⟩:=hU l (I ++ [z]) (by
    rw[qE6];refine ⟨h2,qI4 _ _,λa ha b hb=>?_⟩;rw[qC4.mp hb];show a3 a ha)
   refine ⟨⟨z::t,ht.cons₂ z,by rw[et];simp⟩,i3,λy hy=>?_⟩;rcases qB5.mp hy with rfl|hy
   .refine ⟨y,?_,kC λk hk=>qH0 _⟩;rw[et];simp
   .show i4 y hy
structure Bas (n:Nat) (B:Vw):Prop where
 len:∀b∈B,b.length=n
 up:B.Pairwise λa b=>TP.lexLt b a=false
 a1:B.Pairwise λa b=>i8 b a=false
def xL (a:Vk):i8 a a=true:=kC λk hk=>qH0 _
def ot (h:∀s∈ss,s.length=n):Bas n (Y0 ss)/\(∀b∈Y0 ss,b∈ss)/\(∀s∈ss,∃b∈Y0 ss,i8 s b=true)/\(Y0 ss).length<=ss.length:=by
 have I:=cA ss;obtain ⟨⟨t,ht,et⟩,i3,i4⟩:=hU (L3 ss) [] .nil;rw[qO6]at et;have hs:(Y0 ss).Sublist (L3 ss):=by unfold Y0;rw[et];show ht
 refine ⟨⟨λb hb=>h b (I.mem_iff.mp (hs.subset hb)),(nR ss).sublist hs,i3⟩,λb hb=>I.mem_iff.mp (hs.subset hb),λs q=>i4 s (I.mem_iff.mpr q),?_⟩
 have:=hs.length_le
 rw[I.length_eq]at this;show this
def Br (h:ss.length<=1000) (a3:∀z∈ss,z ≠ []):fSortA [lS ss]=.ok (lS (L3 ss)):=by
 have I:ss.all (λx=>!x.isEmpty)=true:=by
  rw[qI1];intro x hx
  have:=a3 x hx
  cases x with
  |nil=>show absurd rfl this
  |cons _ _=>rfl
 change (match U4 (ss.map λx=>W.tup (x.map W.int)) with|some ss=>_|none=>_)=_;rw[kJ]
 change (if _ then _ else _)=_;rw[qA2 ⟨h,I⟩]
def vz {l:Vw}(hi:i<l.length):(l.take (i+1)).foldl bst []=bst ((l.take i).foldl bst []) (l.getD i []):=by
 rw[qL9,List.foldl_append,qA0];simp [qA8 hi]
def fold_subB {l:Vw}:(l.foldl bst []).Sublist l:=by
 obtain ⟨⟨t,ht,I⟩,_⟩:=hU l [] .nil;rw[qO6]at I;rw[I];show ht
def wS (h1:1<=n) (h:∀s∈ss,s.length=n) (a6:ss.length<=900):dX [lS ss]=.ok (lS (Y0 ss)):=by
 have fin:Ok (dX [lS ss]) λv=>v=lS (Y0 ss):=by
  have k0:=Br (ss:=ss) ox λz hz e=>by have:=h z hz;rw[e]at this;simp at this;omega
  have hp:=cA ss;have hlen:=hp.length_eq;have a5:∀s∈L3 ss,s.length=n:=λs hs=>h s (hp.mem_iff.mp hs);exists rpB,oz,k0;unfold Y0;generalize L3 ss=S at hlen a5
  refine p7 (t9 (λi ρ=>∃a:Sl,ρ = [.par (lS ss),.own (((S.take i).foldl bst []).map tI),a]) ⟨_,rfl⟩ ?_ ?_)
  .rintro i u ρ hu ⟨a,rfl⟩;obtain ⟨hi,rfl⟩:=aP hu;have a4:=fx hi;have a3:=vz hi;have I:((S.take i).foldl bst []).Sublist S:=fold_subB.trans (List.take_sublist _ _);generalize (S.take i).foldl bst []=F at a3 I
   generalize S.getD i []=z at a4 a3
   have a7:F.length<=900:=by have:=I.length_le;omega
   have k1:=af (s:=z) (ss:=F) λx hx=>by rw[a5 x (I.subset hx),a5 z a4]
   refine ⟨_,rfl,?_⟩;exists k1;refine bF (λh=>?_) (λh=>?_)
   .exists n5 (t4 z);refine ⟨.par (tI z),?_⟩;rw[a3];unfold bst;rw[qA4 (by simpa using h),qC9]
   .exists rp18;refine ⟨.par (tI z),?_⟩;rw[a3];unfold bst;rw[qA2 (by simpa using h)]
  .rintro ρ ⟨a,rfl⟩;rw[qA7,qK2];exists rp18
 obtain ⟨v,e,rfl⟩:=fin;show e
def atS {ss:Vw}(h:i<ss.length):L2.atI (ss.map tI) (i:Int)=some (tI (ss.getD i [])):=by
 have:=bp tI (as:=ss) (d:=[]) (i:=(i:Int)) ox
 rw[qF8]at this;show this
def oH (p:Vk):∀qs:List Vk,((pds (qs.map tI)).any λy=>PyData.eqv y (pd (tI p)))=decide (p∈qs)
 | []=>by simp [pds]
 | q::qs=>by
  have g:=oH p qs;have e:PyData.eqv (pd (tI q)) (pd (tI p))=decide (q=p):=eqI q p;simp only [qB9,pds,qW9,g,e];by_cases h:q=p
  .subst h;simp
  .have h':¬ p=q:=λe=>h e.symm;simp [h,h']
def aW (neg:Bool) (p:Vk) (qs:Vw):fIn neg (tI p) (lS qs)=.ok (.bl (if neg then !decide (p∈qs) else decide (p∈qs))):=by
 have e:inW (tI p) (lS qs)=some (decide (p∈qs)):=congrArg some (oH p qs);unfold fIn;rw[O1,cC,qM7,qA2 rfl,e]
def J2 (s:Vk)(m:Mv):List Int:=(List.range s.length).map λk=>s.getD k 0-m.1.getD k 0+m.2.getD k 0
def Z4 (s:Vk)(m:Mv):(J2 s m).length=s.length:=by simp [J2]
def E3 (ss:Vw)(s:Vk)(m:Mv):Bool:=i8 s m.1&&j1 (J2 s m) ss
def qp (ms:List Mv)(ss:Vw)(s:Vk):Bool:=j1 s ss||ms.any (E3 ss s)
def IL (s t:Vk):j1 s [t]=i8 s t:=by unfold j1;simp
def jK (I:a.length=b.length) (x:i8 a b=true) (y:i8 b c=true):i8 a c=true:=cov_iff.mpr λk hk=>by
 have p:=cov_iff.mp x k hk;have q:=cov_iff.mp y k ox;omega
def ig (hz:z.length=n) (hs:s.length=n):i8 z (srcL s m.1 m.2)=true↔i8 z m.1=true/\i8 (J2 z m) s=true:=by
 constructor
 .intro h;have h:=cov_iff.mp h;refine ⟨cov_iff.mpr λk hk=>?_,cov_iff.mpr λk hk=>?_⟩
  .have:=h k hk
   rw[ii ox]at this;omega
  .rw [Z4]at hk
   have:=h k hk
   rw[ii ox]at this;rw[show (J2 z m).getD k 0=_ from D7 hk];omega
 .rintro ⟨h,h'⟩;have h:=cov_iff.mp h;have h':=cov_iff.mp h';refine cov_iff.mpr λk hk=>?_;have p:=h k hk;have q:=h' k (by rw[Z4];show hk);rw[show (J2 z m).getD k 0=_ from D7 hk]at q;rw[ii ox];omega
section
variable {n:Nat}{ms:List Mv}{ss:Vw}(hs:∀x∈ss,x.length=n)
include hs
def kD:∀x∈ss++A8 ms ss,x.length=n:=λx I=>by
 rcases qC8.mp I with q|q
 .show hs x q
 .show fc hs x q
def wT (hz:z.length=n):qp ms ss z=true↔∃d∈ss++A8 ms ss,i8 z d=true:=by
 unfold qp;rw[Bool.or_eq_true];constructor
 .rintro (h|h)
  .unfold j1 at h;obtain ⟨s,h1,I⟩:=qD5.mp h;show ⟨s,qE1 _ h1,I⟩
  .obtain ⟨m,h1,I⟩:=qD5.mp h;unfold E3 at I;rw[qG5]at I;unfold j1 at I;obtain ⟨s,h3,h4⟩:=qD5.mp I.2;refine ⟨srcL s m.1 m.2,qE3 _ ?_,(ig hz (hs s h3)).mpr ⟨I.1,h4⟩⟩;unfold A8;show qS2.mpr ⟨m,h1,qB1.mpr ⟨s,h3,rfl⟩⟩
 .rintro ⟨d,hd,hc⟩;rcases qC8.mp hd with q|q
  .show .inl (qD5.mpr ⟨d,q,hc⟩)
  .unfold A8 at q;obtain ⟨m,h1,q⟩:=qS2.mp q;obtain ⟨s,h3,rfl⟩:=qB1.mp q
   have:=(ig hz (hs s h3)).mp hc
   refine .inr (qD5.mpr ⟨m,h1,?_⟩);unfold E3;rw[this.1,qM6];show qD5.mpr ⟨s,h3,this.2⟩
end
def zk (h1:1<=n) (h6:n<=6) (hm:∀m∈ms,okM n m) (hs:∀x∈ss,x.length=n) (a3:ms.length<=8) (a4:ss.length<=100) (I:ss.length+ms.length*ss.length<=900):R9 [tM_ ms,lS ss]=.ok (lS (Y0 (ss++A8 ms ss))):=by
 have k1:=fS h6 hm hs a3 a4;have k2:=wS (ss:=ss++A8 ms ss) h1 (kD hs) (by rw[qC3,bw];show I);have k3:aA true (.lst (ss.map tI)) (lS (A8 ms ss))=.ok (lS (ss++A8 ms ss)):=by
  rw[uC (by simp [bw];omega),<- qC9];rfl
 exists rpB,eB,k1,k3,k2
def C5 (ms:List Mv)(ss:Vw):Bool:=(A8 ms ss).all λs=>j1 s ss
def zo (h6:n<=6) (hm:∀m∈ms,okM n m) (hs:∀x∈ss,x.length=n) (I:ms.length<=8) (a4:ss.length<=100):dg [tM_ ms,lS ss]=.ok (.bl (C5 ms ss)):=by
 have k1:=fS h6 hm hs I a4;have e:∀N mg me ρ (h:∀s∈A8 ms ss,∃a3,mg (tI s) (ρ++List.replicate (N-ρ.length) Sl.un)=some a3/\me a3=.ok (.bl (j1 s ss))),j7 N mg yes me ((A8 ms ss).map tI) ρ=.ok (.lst (((A8 ms ss).map λs=>j1 s ss).map W.bl)):=λN mg me ρ h=>by
  rw[l5 (λs=>W.bl (j1 s ss)) _ _ ρ (by rw[bw];have:=qG7 I a4;omega) h,qC5];rfl
 exists rpB,jx,k1;rw[e]
 .exists rp18;unfold xp C5;rw[List.all_map];rfl
 .intro s a5;have hk:=af (s:=s) (ss:=ss) (λx hx=>by rw[hs x hx,fc hs s a5]);refine ⟨_,rfl,?_⟩;exists hk
def Bk (ms:List Mv) (t:Vk):Nat->List Vk
 |0=>[t]
 |k+1=>Y0 (Bk ms t k++A8 ms (Bk ms t k))
def br (ht:t.length=n):∀k,Bas n (Bk ms t k)
 |0=>⟨λb hb=>by rw[qC4.mp hb];show ht,qI4 _ _,qI4 _ _⟩
 |k+1=>(ot (kD (ms:=ms) (br ht k).len)).1
section
variable {n:Nat}{ms:List Mv}{t:Vk}(ht:t.length=n)
include ht
def fB (k:Nat) (hs:s.length=n):j1 s (Bk ms t (k+1))=(j1 s (Bk ms t k)||ms.any (E3 (Bk ms t k) s)):=by
 have hB:=br (ms:=ms) ht k;have hm:=ot (kD (ms:=ms) hB.len);have e:j1 s (Bk ms t (k+1))=true↔qp ms (Bk ms t k) s=true:=by
  rw[wT hB.len hs];unfold j1;rw[qD5];constructor
  .rintro ⟨b,hb,hc⟩;show ⟨b,hm.2.1 b hb,hc⟩
  .rintro ⟨d,hd,hc⟩;obtain ⟨b,hb,I⟩:=hm.2.2.1 d hd;show ⟨b,hb,jK (by rw[hs,kD (ms:=ms) hB.len d hd]) hc I⟩
 show qH7.mpr e
def wQ (k:Nat) (hs:s.length=n) (h:j1 s (Bk ms t k)=true):j1 s (Bk ms t (k+1))=true:=by
 rw[fB ht k hs,h];rfl
def oD:∀(k:Nat){s:Vk},s.length=n->i8 s t=true->j1 s (Bk ms t k)=true
 |0,s,_,h=>by change j1 s [t]=true;rw[IL];show h
 |k+1,s,hs,h=>wQ ht k hs (oD k hs h)
end
def qF (h6:n<=6) (h:okM n m):Y8 [mW m]=.ok (tI ((List.range n).map λk=>m.2.getD k 0-m.1.getD k 0)):=by
 have a0:L2.atI [tI m.1,tI m.2] 0=some (tI m.1):=rfl;have a1:L2.atI [tI m.1,tI m.2] 1=some (tI m.2):=rfl;have hz:=W7 (tI m.1) (tI m.2) _ _ rfl rfl;rw[Q2 (by rw[h.1,h.2]),h.1]at hz;exists rpB,fy,a0,a1,hz;have e:∀N mg me ρ (h:∀k,k<n->∃I,mg (.tup [.int (m.1.getD k 0),.int (m.2.getD k 0)]) (ρ++List.replicate (N-ρ.length) Sl.un)=some I/\me I=.ok (.int (m.2.getD k 0-m.1.getD k 0))),j7 N mg yes me ((List.range n).map λk=>W.tup [.int (m.1.getD k 0),.int (m.2.getD k 0)]) ρ=.ok (lI ((List.range n).map λk=>m.2.getD k 0-m.1.getD k 0)):=λN mg me ρ h=>by
  rw[l5 (λk=>.int (m.2.getD k 0-m.1.getD k 0)) _ _ ρ (by simpa using (by omega:n<=1000)) (λk hk=>h k (by simpa using hk)),av]
 rw[e]
 .exists rp18
 .intro k hk;refine ⟨_,rfl,?_⟩;exists rp18
def qP (h6:n<=6) (h:okM n m) (hs:s.length=n) (hc:i8 s m.1=true):Q9 [tI s,mW m]=.ok (tI ((List.range n).map λk=>s.getD k 0+(m.2.getD k 0-m.1.getD k 0))):=by
 have k1:=eh (s:=s) (m:=m) (by rw[hs,h.1]);rw[hc]at k1;have k2:=qF h6 h;have hz:=W7 (tI s) (tI ((List.range n).map λk=>m.2.getD k 0-m.1.getD k 0)) _ _ rfl rfl;rw[Q2 (by simp [hs]),hs]at hz;exists rpB,iG,k1,k2,hz;have e:∀N mg me ρ (h:∀k,k<n->∃I,mg (.tup [.int (s.getD k 0),.int (((List.range n).map λk=>m.2.getD k 0-m.1.getD k 0).getD k 0)]) (ρ++List.replicate (N-ρ.length) Sl.un)=some I/\me I=.ok (.int (s.getD k 0+(m.2.getD k 0-m.1.getD k 0)))),j7 N mg yes me ((List.range n).map λk=>W.tup [.int (s.getD k 0),.int (((List.range n).map λk=>m.2.getD k 0-m.1.getD k 0).getD k 0)]) ρ=.ok (lI ((List.range n).map λk=>s.getD k 0+(m.2.getD k 0-m.1.getD k 0))):=λN mg me ρ h=>by
  rw[l5 (λk=>.int (s.getD k 0+(m.2.getD k 0-m.1.getD k 0))) _ _ ρ (by simpa using (by omega:n<=1000)) (λk hk=>h k (by simpa using hk)),av]
 rw[e]
 .exists rp18
 .intro k hk;refine ⟨_,rfl,?_⟩;exists rp18;rw[D7 hk]
def nT (h:ws.length=n):M9 n N m ws=T9 (m (ws.map Sl.val++List.replicate (N-n) Sl.un)):=by unfold M9;rw[qA2 h];rfl
def Dh (a b:W):M9 2 N m [a,b]=T9 (m (Sl.val a::Sl.val b::List.replicate (N-2) Sl.un)):=nT rfl
def Dg (a b c d:W):M9 4 N m [a,b,c,d]=T9 (m (Sl.val a::Sl.val b::Sl.val c::Sl.val d::List.replicate (N-4) Sl.un)):=nT rfl
def rgW (ms:List Mv)(t:Vk)(j:Nat):Vp:=(List.range (j+1)).map λi=>lS (Bk ms t i)
def lf (ms:List Mv)(t:Vk)(j:Nat):(rgW ms t j).length=j+1:=by simp [rgW]
def Dy (ms:List Mv) (t:Vk) (j:Nat):rgW ms t (j+1)=rgW ms t j ++ [lS (Bk ms t (j+1))]:=by
 unfold rgW;rw[qZ1,qC9];rfl
def yi (ms:List Mv) (t:Vk) (j:Nat):L2.atI (rgW ms t j) (-1)=some (lS (Bk ms t j)):=by
 unfold L2.atI
 have:L2.ixN (rgW ms t j).length (-1)=some j:=by
  unfold L2.ixN;rw[lf];simp;omega
 rw[this]
 change (rgW ms t j)[j]?=_;unfold rgW;simp
def z8 (ms:List Mv)(t:Vk)(most:Nat)(word:String)(j:Nat):W:=if decide ((most:Int)<((Bk ms t j).length:Int))=true then .tup [.str "open",.int (j:Int)] else if C5 ms (Bk ms t j)=true then .tup [.str word,lS (Bk ms t j)] else if decide ((j:Int)=(most:Int))=true then .tup [.str "open",.int (j:Int)] else .non
def end_non:z8 ms t most word j=.non↔((Bk ms t j).length<=most/\C5 ms (Bk ms t j)=false/\j≠most):=by
 unfold z8;constructor
 .intro h
  split at h
  .cases h
  .rename_i h1
   split at h
   .cases h
   .rename_i I
    split at h
    .cases h
    .rename_i h3
     simp at h1 I h3;show ⟨ox,I,ox⟩
 .rintro ⟨h1,I,h3⟩;rw[qA4 (by simp;omega),I,qA4 qA3,qA4 (by simp;omega)]
def uD {most:Nat}{word:String}(h6:n<=6) (hm:∀m∈ms,okM n m) (a3:ms.length<=8) (ht:t.length=n) (a4:most<=30):bO [tM_ ms,.lst (rgW ms t j),.int (most:Int),.str word]=.ok (z8 ms t most word j):=by
 have fin:Ok (bO [tM_ ms,.lst (rgW ms t j),.int (most:Int),.str word]) λv=>v=z8 ms t most word j:=by
  have a1:=yi ms t j;have l1:=lf ms t j;have hB:=br (ms:=ms) ht j;have I:(((j+1:Nat):Int))-1=(j:Int):=ox;have ee:fEq false (.int (j:Int)) (.int (most:Int))=.ok (.bl (decide ((j:Int)=(most:Int)))):=P6 false _ _;have n1:m8 ((Bk ms t j).map tI)=true:=gq _;exists Dg,mf,a1,l1,I;refine p7 (S6 (λh=>?_) (λh=>?_))
  .exists rp18;unfold z8;rw[qA2 h]
  have a5:(Bk ms t j).length<=most:=by have:=qQ9 h;omega
  have k1:=zo h6 hm hB.len a3 ox;exists k1;refine S6 (λh2=>?_) (λh2=>?_)
  .exists rp18;unfold z8;rw[qA4 (by rw[h];show qA3),qA2 h2]
  exists ee;refine S6 (λh3=>?_) (λh3=>?_)
  .exists rp18;unfold z8;rw[qA4 (by rw[h];show qA3),qA4 (by rw[h2];show qA3),qA2 h3]
  .exists rp18;unfold z8;rw[qA4 (by rw[h];show qA3),qA4 (by rw[h2];show qA3),qA4 (by rw[h3];show qA3)]
 obtain ⟨v,e,rfl⟩:=fin;show e
def CJ {R:Vp}:fg 4 [3] w [a,b,c,.own R,x] = [a,b,c,if noL w=true then .own R else .val (.lst R),.val w]:=by
 unfold fg
 split <;> rfl
def Dr {n:Nat}(I:ms.length<=8) (a3:most<=30) (h:z8 ms t most word j=.non):(Bk ms t j).length<=100/\(Bk ms t j).length+ms.length*(Bk ms t j).length<=900:=by
 have h:=(end_non.mp h).1
 have:=qG7 I (show (Bk ms t j).length<=30 by omega)
 omega
def GI (ws:Vp) (w:W):F8 (ws ++ [w]) none (some (-1))=ws:=by
 unfold F8;rw[HT.sIx_none]
 have:HT.sIx (ws ++ [w]).length (ws ++ [w]).length (some (-1))=ws.length:=by
  change (if (-1:Int)<0 then ((-1:Int)+(((ws ++ [w]).length:Nat):Int)).toNat else min (-1:Int).toNat (ws ++ [w]).length)=_;rw[qA2 ox,qC3,qG6];omega
 rw[this];simp
def HF (hs:s.length=n):(List.range n).map (λk=>s.getD k 0+(m.2.getD k 0-m.1.getD k 0))=J2 s m:=by
 unfold J2;rw[hs];refine qM4 λk _=>?_;omega
def ve (I:n<=6) (h:okM n m) (hs:s.length=n) (hc:i8 s m.1=true):Q9 [tI s,mW m]=.ok (tI (J2 s m)):=by
 rw[qP I h hs hc,HF hs]
def R8 (ms:List Mv)(B:Vw)(s:Vk):List Nat:=(List.range ms.length).filter λk=>E3 B s (ms.getD k ([],[]))
def xD (ms:List Mv):((ms.map mW).mapIdx λi x=>W.tup [.int (i:Int),x])=(List.range ms.length).map λ(k:Nat)=>W.tup [.int (k:Int),mW (ms.getD k ([],[]))]:=by
 apply qK3
 .simp
 .intro i I h2;have hi:i<ms.length:=by simpa using I
  simp [hi]
def Ba (h6:n<=6) (hm:∀m∈ms,okM n m) (a4:ms.length<=8) (hB:∀x∈B,x.length=n) (hs:s.length=n):Y6 [tI s,tM_ ms,lS B]=.ok (lI ((R8 ms B s).map λ(k:Nat)=>(k:Int))):=by
 have he:R0 [tM_ ms]=.ok ((List.range ms.length).map λ(k:Nat)=>W.tup [.int (k:Int),mW (ms.getD k ([],[]))]):=congrArg R.ok (xD ms);have e:∀N mg mc me ρ,(∀k:Nat,k<ms.length->∃I,mg (.tup [.int (k:Int),mW (ms.getD k ([],[]))]) (ρ++List.replicate (N-ρ.length) Sl.un)=some I/\mc I=.ok (E3 B s (ms.getD k ([],[])))/\me I=.ok (.int (k:Int))) ->
   j7 N mg mc me ((List.range ms.length).map λ(k:Nat)=>W.tup [.int (k:Int),mW (ms.getD k ([],[]))]) ρ=.ok (lI ((R8 ms B s).map λ(k:Nat)=>(k:Int))):=λN mg mc me ρ h=>by
  have:=y9 (N':=N) (mg:=mg) (mc:=mc) (me:=me) (λk:Nat=>W.int (k:Int)) (λk:Nat=>W.tup [.int (k:Int),mW (ms.getD k ([],[]))]) (λk=>E3 B s (ms.getD k ([],[]))) (List.range ms.length) ρ (by simp;omega) λk hk=>by
   obtain ⟨I,e1,e2,e3⟩:=h k (by simpa using hk);show ⟨I,e1,e2,λ_=>e3⟩
  rw[this];unfold lI R8;rw[qC5];rfl
 exists rpB,cT,he;rw[e]
 .exists rp18
 intro k hk;have a3:ms.getD k ([],[])∈ms:=by rw[qA0];simp [hk]
 have hok:=hm _ a3;generalize ms.getD k ([],[])=m at hok
 have k1:=eh (s:=s) (m:=m) (by rw[hs];show hok.1);refine ⟨_,rfl,?_⟩;cases q:i8 s m.1 with
 | false=>
  have a0:∀r:R Bool,TP.rAnd (.ok false) r=.ok false:=λr=>rfl;have st:E3 B s m=false:=by unfold E3;rw[q];rfl
  rw[q]at k1;exists k1,a0,st
 | true=>
  have k2:=ve h6 hok hs q;have k3:=af (s:=J2 s m) (ss:=B) λx hx=>by rw[hB x hx,Z4,hs]
  have st:E3 B s m=j1 (J2 s m) B:=by unfold E3;rw[q];rfl
  rw[q]at k1;exists k1,k2,k3,st
def cG (ms:List Mv) (t:Vk):Nat->List Int->List Int
 |0,_=>[]
 |k+1,s=>(((R8 ms (Bk ms t k) s).getD 0 0:Nat):Int)::cG ms t k (J2 s (ms.getD ((R8 ms (Bk ms t k) s).getD 0 0) ([],[])))
def ui (ht:t.length=n) (hs:s.length=n) (h1:j1 s (Bk ms t (k+1))=true) (h0:j1 s (Bk ms t k)=false):∃r tl,R8 ms (Bk ms t k) s=r::tl/\r<ms.length/\E3 (Bk ms t k) s (ms.getD r ([],[]))=true:=by
 rw[fB ht k hs,h0,xC3]at h1;obtain ⟨m,hm,hq⟩:=qD5.mp h1;obtain ⟨i,hi,e⟩:=qE2.mp hm;have I:i∈R8 ms (Bk ms t k) s:=qG8.mpr ⟨qG1.mpr hi,by
  rw[qA0,qA8 hi]
  change E3 _ s ms[i]=true;rw[e];show hq⟩
 cases q:R8 ms (Bk ms t k) s with
 |nil=>rw[q]at I;cases I
 | cons r tl=>
  have hr:r∈R8 ms (Bk ms t k) s:=by rw[q];show qB8
  obtain ⟨g1,g2⟩:=qG8.mp hr;show ⟨r,tl,rfl,qG1.mp g1,g2⟩
def Dz {f:Nat->W}(h:((List.range j).map f).reverse[i]?=some w):i<j/\w=f (j-1-i):=by
 have hi:i<j:=by have:=(qA9.mp h).1;simpa using this
 rw[qT9 (by simpa using hi)]at h;simp at h;obtain ⟨a,ha,e⟩:=h;rw[List.getElem?_range ox]at ha;cases ha;show ⟨hi,e.symm⟩
def Dq (h6:n<=6) (hm:∀m∈ms,okM n m) (b4:ms.length<=8) (hb:b.length=n) (ht:t.length=n) (hj:j<=100) (hl:j1 b (Bk ms t j)=true) (hn:∀i,i<j->j1 b (Bk ms t i)=false):P3 [.tup [tI b,tM_ ms],.lst (rgW ms t j)]=.ok (lI (cG ms t j b)):=by
 have fin:Ok (P3 [.tup [tI b,tM_ ms],.lst (rgW ms t j)]) λw=>w=lI (cG ms t j b):=by
  have a0:L2.atI [tI b,tM_ ms] 0=some (tI b):=rfl;have a1:L2.atI [tI b,tM_ ms] 1=some (tM_ ms):=rfl;have cut:F8 (rgW ms t j) none (some (-1))=(List.range j).map λi=>lS (Bk ms t i):=by
   have:rgW ms t j=((List.range j).map λi=>lS (Bk ms t i)) ++ [lS (Bk ms t j)]:=by
    unfold rgW;rw[qZ1,qC9];rfl
   rw[this,GI]
  exists Dh,cS,a0,cut;refine p7 (t9 (λi ρ=>∃(R s:Vk) (a4 a5:Sl),ρ = [.val (.tup [tI b,tM_ ms]),.val (.lst (rgW ms t j)),.own (R.map W.int),.val (tI s),a4,a5]/\R.length=i/\i<=j/\cG ms t j b=R++cG ms t (j-i) s/\s.length=n/\j1 s (Bk ms t (j-i))=true/\(i<j->j1 s (Bk ms t (j-1-i))=false)) ⟨[],b,_,_,rfl,rfl,qC6 _,rfl,hb,hl,λh=>hn _ ox⟩ ?_ ?_)
  .rintro i w ρ hw ⟨R,s,a4,a5,rfl,hR,b3,I,hs,a7,hl0⟩;obtain ⟨hi,rfl⟩:=Dz hw;obtain ⟨k,hk⟩:∃k,j-i=k+1:=⟨j-i-1,ox⟩;have a9:j-1-i=k:=ox;have a8:j-(i+1)=k:=ox;have hl0:=hl0 hi;rw[hk]at I a7;rw[a9]at hl0;obtain ⟨r,tl,er,hr,a3⟩:=ui ht hs a7 hl0;have k1:=Ba h6 hm b4 (br (ms:=ms) ht k).len hs;rw[er]at k1;have b0:L2.atI ((((r::tl).map λ(k:Nat)=>(k:Int))).map W.int) 0=some (.int (r:Int)):=bp W.int (as:=(r::tl).map λ(k:Nat)=>(k:Int)) (d:=0) (i:=0) ⟨ox,Zy⟩;have b1:L2.atI (ms.map mW) (r:Int)=some (mW (ms.getD r ([],[]))):=by
    have:=bp mW (as:=ms) (d:=([],[])) (i:=(r:Int)) ox
    rw[qF8]at this;show this
   have hok:=hm (ms.getD r ([],[])) (by rw[qA0];simp [hr]);have ab:cG ms t (k+1) s=(r:Int)::cG ms t k (J2 s (ms.getD r ([],[]))):=by
    change (((R8 ms (Bk ms t k) s).getD 0 0:Nat):Int)::_=_;rw[er];rfl
   have a6:ms.getD r ([],[])∈ms:=by rw[qA0];simp [hr]
   generalize ms.getD r ([],[])=m at a3 b1 hok ab a6
   have ba:=a3;unfold E3 at a3;rw[qG5]at a3;have k2:=ve h6 hok hs a3.1;refine ⟨_,rfl,?_⟩;rw[a9];generalize ((r::tl).map λ(k:Nat)=>(k:Int))=ql at k1 b0
   exists a1,k1,b0,b1,k2;refine ⟨R ++ [(r:Int)],J2 s m,_,_,by rw[qC9],by simp [hR],hi,?_,by rw[Z4];show hs,by rw[a8];show a3.2,λh=>?_⟩
   .rw[a8,I,ab,qF3];rfl
   .obtain ⟨k',b5⟩:∃k',k=k'+1:=⟨k-1,ox⟩;rw[show j-1-(i+1)=k' by omega];cases q:j1 (J2 s m) (Bk ms t k') with
    |false=>rfl
    | true=>
     exfalso
     have:E3 (Bk ms t k') s m=true:=by unfold E3;rw[a3.1,q];rfl
     have l2:j1 s (Bk ms t (k'+1))=true:=by
      rw[fB ht k' hs,qD5.mpr ⟨m,a6,this⟩,qO8]
     rw[b5]at hl0;rw[l2]at hl0;cases hl0
  .rintro ρ ⟨R,s,a4,a5,rfl,hR,b3,I,hs,a7,hl0⟩;rw[qM3,qA7,qF5]at I;exists rp18;rw[I,Nat.sub_self]
   change lI R=lI (R ++ []);rw[qG2]
 obtain ⟨v,e,rfl⟩:=fin;show e
def xK {most:Nat}(h1:1<=n) (h6:n<=6) (hm:∀m∈ms,okM n m) (a6:ms.length<=8) (hb:b.length=n) (ht:t.length=n) (a4:most<=30):Ok (iV [.tup [tI b,tM_ ms],tI t,.int (most:Int)]) λw=>∃j,(∀i,i<j->j1 b (Bk ms t i)=false/\z8 ms t most "wall" i=.non)/\((j1 b (Bk ms t j)=true/\w=.tup [.str "row",lI (cG ms t j b)])\/(j1 b (Bk ms t j)=false/\z8 ms t most "wall" j≠.non/\w=z8 ms t most "wall" j)):=by
 have a7:∀w:W,isN w=true↔w=.non:=λw=>by cases w <;> simp [isN]
 have a0:L2.atI [tI b,tM_ ms] 0=some (tI b):=rfl;have a1:L2.atI [tI b,tM_ ms] 1=some (tM_ ms):=rfl;have cm:chk (tM_ ms)=.ok (tM_ ms):=n5 (gr ms);have ct:=n5 (t4 t);have cb:chk (.tup [tI b,tM_ ms])=.ok (.tup [tI b,tM_ ms]):=n5 (by
  change m8 [tI b,tM_ ms]=true;simp only [m8,t4,qM6,qO2];show gr ms)
 exists rpB,oB,ct;refine p7 (M3 ?_);refine Q6 (λk ρ=>∃(j:Nat) (x:Sl),ρ = [.par (.tup [tI b,tM_ ms]),.par (tI t),.par (.int (most:Int)),.own (rgW ms t j),x]/\k=most-j/\j<=most/\∀i,i<j->j1 b (Bk ms t i)=false/\z8 ms t most "wall" i=.non) ?_ most _ ⟨0,_,rfl,rfl,qC6 _,λi hi=>absurd hi (qD3 _)⟩;rintro k ρ ⟨j,x,rfl,hk,a9,I⟩;have r0:=yi ms t j;have l1:=lf ms t j;have hB:=br (ms:=ms) ht j;have k1:=af (s:=b) (ss:=Bk ms t j) λy hy=>by rw[hB.len y hy,hb]
 cases q:j1 b (Bk ms t j) with
 | true=>
  rw[q]at k1;have k2:=Dq h6 hm ox hb ht ox q λi hi=>(I i hi).1;refine ⟨false,?_,?_⟩
  .exists a0,r0,k1
  rw[qA4 qA3];exists cb,k2;show ⟨j,I,.inl ⟨q,rfl⟩⟩
 | false=>
  rw[q]at k1;refine ⟨true,?_,?_⟩
  .exists a0,r0,k1
  rw[qA2 rfl];have e1:=uD (j:=j) (word := "wall") h6 hm ox ht a4;exists CY,uo,xv,HQ,a1,cm,e1,CJ;by_cases hw:z8 ms t most "wall" j=.non
  .have rm:=Dr (n:=n) a6 a4 hw;have hj:=(end_non.mp hw).2.2;have k3:=zk h1 h6 hm hB.len ox rm.1 rm.2;have a5:R9 [tM_ ms,lS (Bk ms t j)]=.ok (lS (Bk ms t (j+1))):=k3;have r1:=Dy ms t j;have a8:noL W.non=true:=rfl;rw[hw];exists a8,a1,r0,a5;refine ⟨most-(j+1),ox,j+1,_,by rw[<- r1],rfl,ox,λi hi=>?_⟩;by_cases e:i=j
   .rw[e];show ⟨q,hw⟩
   .show I i ox
  .have a3:isN (z8 ms t most "wall" j)=false:=by
    cases q:isN (z8 ms t most "wall" j) with
    |false=>rfl
    |true=>show absurd ((a7 _).mp q) hw
   generalize hE:z8 ms t most "wall" j=w at hw a3
   exists a3;show ⟨j,I,.inr ⟨q,by rw[hE];show hw,hE.symm⟩⟩
def uE (ms:List Mv) (t:Vk) (most:Nat) (word:String) (j:Nat):z8 ms t most word j=.non\/z8 ms t most word j=.tup [.str "open",.int (j:Int)]\/(z8 ms t most word j=.tup [.str word,lS (Bk ms t j)]/\(Bk ms t j).length<=most/\C5 ms (Bk ms t j)=true):=by
 unfold z8
 split
 .show .inr (.inl rfl)
 .rename_i h1
  split
  .rename_i h2
   show .inr (.inr ⟨rfl,by simp at h1;omega,h2⟩)
  .split
   .show .inr (.inl rfl)
   .show .inl rfl
def mP (h1:(Bk ms t j).length<=most) (I:C5 ms (Bk ms t j)=true):z8 ms t most word j=.tup [.str word,lS (Bk ms t j)]:=by
 unfold z8;rw[qA4 (by simp;omega),qA2 I]
def EL:PyData.strOk "row" = true:=Zv
def Am:PyData.strOk "wall" = true:=Zv
def on:PyData.strOk "open" = true:=Zv
def wW (hs:∀x∈ss,x.length=n) (I:C5 ms ss=true) (hm:m∈ms) (hl:s.length=n) (hc:i8 s m.1=true) (h0:j1 s ss=false):j1 (J2 s m) ss=false:=by
 cases q:j1 (J2 s m) ss with
 |false=>rfl
 | true=>
  exfalso;unfold j1 at q;obtain ⟨b,hb,cb⟩:=qD5.mp q;have c1:=(ig (m:=m) hl (hs b hb)).mpr ⟨hc,cb⟩;have a3:srcL b m.1 m.2∈A8 ms ss:=qS2.mpr ⟨m,hm,qB1.mpr ⟨b,hb,rfl⟩⟩;unfold C5 at I;have c2:=qI1.mp I _ a3;unfold j1 at c2;obtain ⟨d,hd,cd⟩:=qD5.mp c2
  have:j1 s ss=true:=qD5.mpr ⟨d,hd,jK (by rw[hl];show (fc hs _ a3).symm) c1 cd⟩
  rw[this]at h0;cases h0
inductive Rch (ms:List Mv) (b:Vk):List Int->Prop where
 |beg:Rch ms b b
 |go {s:Vk}{m:Mv}:Rch ms b s->m∈ms->i8 s m.1=true->Rch ms b (J2 s m)
def Rch.len (h:Rch ms b s):s.length=b.length:=by
 induction h with
 |beg=>rfl
 |go _ _ _ I=>rw[Z4];show I
def Rch.out (hs:∀x∈ss,x.length=n) (I:C5 ms ss=true) (hb:b.length=n) (h0:j1 b ss=false) (h:Rch ms b s):j1 s ss=false:=by
 induction h with
 |beg=>show h0
 |go r hm hc ih=>show wW hs I hm (by rw[r.len];show hb) hc ih
def B7:Nat->Vx->Int
 |0,_=>0
 |n+1,f=>B7 n f+f n
def G0:∀{n:Nat},(∀k,k<n->f k=g k)->B7 n f=B7 n g
 |0,_=>rfl
 | n+1,h=>by
  change B7 n f+f n=B7 n g+g n;rw[h n (qM1 n),G0 λk hk=>h k (qL3 hk)]
def eX (a:Int) (f:Vx):∀n:Nat,B7 n (λk=>a*f k)=a*B7 n f
 |0=>by simp [B7]
 | n+1=>by
  change B7 n (λk=>a*f k)+a*f n=a*(B7 n f+f n);rw[eX a f n,qL8]
def eY (f g:Vx):∀n:Nat,B7 n (λk=>f k+g k)=B7 n f+B7 n g
 |0=>rfl
 | n+1=>by
  change B7 n (λk=>f k+g k)+(f n+g n)=B7 n f+f n+(B7 n g+g n);rw[eY f g n];omega
def S3:∀{n:Nat},(∀k,k<n->f k=0)->B7 n f=0
 |0,_=>rfl
 | n+1,h=>by
  change B7 n f+f n=0;rw[h n (qM1 n),S3 λk hk=>h k (qL3 hk)];rfl
def cc (xs:Vk):Prop:=∀x∈xs,0<=x/\x<=1000000000
def okC (n:Nat)(m:Mv):Prop:=m.1.length=n/\m.2.length=n/\cc m.1/\cc m.2
def cc.nn (h:cc xs):nn xs:=λx I=>(h x I).1
def okC.N (h:okC n m):okN n m:=⟨h.1,h.2.1,h.2.2.1.nn,h.2.2.2.nn⟩
def ent (r:Vk)(p:Nat):Int:=r.getD p 0
def lc:List Int->List Vk->Nat->Int
 |c::cs,r::rs,p=>c*ent r p+lc cs rs p
 |_,_,_=>0
def tV:∀{cs I:Vk}{rs ss:Vw},cs.length=rs.length->∀p,lc (cs++I) (rs++ss) p=lc cs rs p+lc I ss p
 | [],_,[],_,_,p=>(qU7 _).symm
 | c::cs,I,r::rs,ss,h,p=>by
  change c*ent r p+lc (cs++I) (rs++ss) p=c*ent r p+lc cs rs p+lc I ss p;rw[tV (by simpa using h) p];omega
 | [],_,_::_,_,h,_=>by cases h
 |_::_,_,[],_,h,_=>by cases h
def iM:∀{rs:Vw}{p:Nat}(cs:Vk),(∀c∈cs,c=0)->lc cs rs p=0
 | [],_,[],_=>rfl
 |_::_,_,[],_=>rfl
 | [],_,_::_,_=>rfl
 | r::rs,p,c::cs,h=>by
  change c*ent r p+lc cs rs p=0;rw[h c qB8,iM cs λx I=>h x (qB0 _ I),qJ0];rfl
def Spn (m:Nat)(rs:Vw)(v:Vx):Prop:=∃cs:List Int,cs.length=rs.length/\∀p,p<m->v p=lc cs rs p
def Ind (m:Nat)(rs:Vw):Prop:=∀cs:List Int,cs.length=rs.length->(∀p,p<m->lc cs rs p=0)->∀c∈cs,c=0
def Ind.tail (h:Ind m (r::rs)):Ind m rs:=λcs I hz c hc=>h (0::cs) (by simp [I]) (λp hp=>by
 change 0*ent r p+lc cs rs p=0;rw[hz p hp,qJ0];rfl) c (qB0 _ hc)
structure Two (m:Nat) (a b a' b':Vk):Prop where
 ex:∃x y z w e:Int,(e=1\/e = -1)/\x*w-y*z=e/\∀p,p<m->ent a' p=x*ent a p+y*ent b p/\ent b' p=z*ent a p+w*ent b p
def Two.refl (m:Nat)(a b:Vk):Two m a b a b:=⟨1,0,0,1,1,.inl rfl,Zz,λp _=>⟨ox,ox⟩⟩
def Two.step (h:Two m a b a' b') (hc:∀p,p<m->ent c p=ent a' p-q*ent b' p):Two m a b b' c:=by
 obtain ⟨x,y,z,w,e,he,hd,I⟩:=h;refine ⟨z,w,x-q*z,y-q*w,-e,ox,?_,λp hm=>⟨(I p hm).2,?_⟩⟩
 .rw [qP6,qP6,<- qD2 z,<- qD2 w,qD9 z q,qD9 w q,qD2 q,qD2 q,qD9 w z,qD9 z y,qD9 w x]
  omega
 .rw [hc p hm,(I p hm).1,(I p hm).2,qN2,qN2,qL8,qD2,qD2]
  omega
def jZ (h:e=1\/e = -1):e*(e*x)=x:=by
 rcases h with rfl|rfl <;> omega
def Two.rel (h:Two m a b a' b') (c d:Int):∃c' d':Int,(∀p,p<m->c'*ent a p+d'*ent b p=c*ent a' p+d*ent b' p)/\(c'=0->d'=0->c=0/\d=0):=by
 obtain ⟨x,y,z,w,e,I,hd,hp⟩:=h;refine ⟨c*x+d*z,c*y+d*w,λp hm=>?_,λh1 h2=>?_⟩
 .rw [(hp p hm).1,(hp p hm).2,qN3,qN3,qL8,qL8,qD2,qD2,qD2,qD2]
  omega
 .have e1:e*c=(c*x+d*z)*w-(c*y+d*w)*z:=by
   rw[<- hd,qN2,qN3,qN3];rw[show x*w*c=c*x*w by rw[qD9 (x*w),qD2],show y*z*c=c*y*z by rw[qD9 (y*z),qD2],show d*z*w=d*w*z by rw[qD2,qD2,qD9 z w]];omega
  have e2:e*d=(c*y+d*w)*x-(c*x+d*z)*y:=by
   rw[<- hd,qN2,qN3,qN3];rw[show x*w*d=d*w*x by rw[qD9 (x*w),qD9 x w,<- qD2],show y*z*d=d*z*y by rw[qD9 (y*z),qD9 y z,<- qD2],show c*y*x=c*x*y by rw[qD2,qD2,qD9 x y]];omega
  rw[h1,h2,qJ0,qJ0]at e1 e2;have q1:=jZ I (x:=c);have q2:=jZ I (x:=d);rw[e1]at q1;rw[e2]at q2;constructor <;> omega
def Two.back (h:Two m a b a' b') (c d:Int):∃c' d':Int,∀p,p<m->c*ent a p+d*ent b p=c'*ent a' p+d'*ent b' p:=by
 obtain ⟨x,y,z,w,e,I,hd,hp⟩:=h;have key:∀p,p<m->e*ent a p=w*ent a' p-y*ent b' p/\e*ent b p=x*ent b' p-z*ent a' p:=λp hm=>by
  rw[(hp p hm).1,(hp p hm).2,<- hd,qL8,qL8,qL8,qL8,qN2,qN2];simp only [<- qD2];rw[qD9 w x,qD9 w y,qD9 z y,qD9 z x];omega
 refine ⟨e*(c*w-d*z),e*(d*x-c*y),λp hm=>?_⟩;have k1:=jZ I (x:=c*ent a p);have k2:=jZ I (x:=d*ent b p);have k3:e*(c*ent a p)=c*w*ent a' p-c*y*ent b' p:=by
  rw[Int.mul_left_comm,(key p hm).1,qP6,qD2,qD2]
 have k4:e*(d*ent b p)=d*x*ent b' p-d*z*ent a' p:=by
  rw[Int.mul_left_comm,(key p hm).2,qP6,qD2,qD2]
 rw[qD2,qD2,qN2,qN2];rw[k3]at k1;rw[k4]at k2;rw[qP6]at k1 k2 ⊢;rw[qP6];omega
structure Lat (L:Vx->Prop):Prop where
 lin:∀{v w:Vx}(a b:Int),L v->L w->L λp=>a*v p+b*w p
abbrev rA (rs:Vw)(i p:Nat):Int:=ent (rs.getD i []) p
structure Ech (m:Nat) (rs:Vw) (q:Nat->Nat):Prop where
 lt:∀i,i<rs.length->q i<m
 inc:∀i j,i<j->j<rs.length->q i<q j
 z:∀i,i<rs.length->∀p,p<q i->rA rs i p=0
 pos:∀i,i<rs.length->1<=rA rs i (q i)
 red:∀i j,i<j->j<rs.length->0<=rA rs i (q j)/\rA rs i (q j)<rA rs j (q j)
def Ld (q:Nat->Nat)(rs:Vw)(v:Vx)(i:Nat):Prop:=i<rs.length/\(∀p,p<q i->v p=0)/\v (q i)≠0/\rA rs i (q i)∣v (q i)
def Gen (m:Nat)(L:Vx->Prop)(rs:Vw)(q:Nat->Nat):Prop:=∀v,L v->(∀p,p<m->v p=0)\/∃i,Ld q rs v i
structure Dia (m:Nat) (L:Vx->Prop) (r:Nat) (q:Nat->Nat) (u:Nat->Nat->Int) (B:Nat):Prop where
 mem:∀i,i<r->L (u i)
 ne:∀i,i<r->u i (q i)≠0
 off:∀i k,i<r->k<r->i≠k->u i (q k)=0
 bd:∀i,i<r->∀p,p<m->(u i p).natAbs<=B
def Dia.lead (hE:Ech m rs q) (hG:Gen m L rs q) (I:Dia m L rs.length q u B) (hi:i<rs.length):(rA rs i (q i)).natAbs<=(u i (q i)).natAbs:=by
 rcases hG _ (I.mem i hi) with h|⟨k,hk,_,h2,h3⟩
 .show absurd (h _ (hE.lt i hi)) (I.ne i hi)
 .by_cases e:i=k
  .subst e;show Nat.le_of_dvd (qV9.mpr h2) (Int.natAbs_dvd_natAbs.mpr h3)
  .show absurd (I.off i k hi hk e) h2
def U2 (u:Nat->Nat->Int) (p:Nat):Nat->Nat->Nat
 |_,0=>0
 |t,d+1=>(u t p).natAbs+U2 u p (t+1) d
def Dia.claim (hL:Lat L) (hG:Gen m L rs q) (hD:Dia m L rs.length q u B):∀(d t:Nat),t+d=rs.length->∀(D:Nat) (w:Vx),L w->(∀k,k<rs.length->(w (q k)).natAbs<=D*(u k (q k)).natAbs)->(∀k,k<t->w (q k)=0)->∀p,p<m->(w p).natAbs<=D*U2 u p t d
 | 0,t,ht,D,w,hw,_,hz,p,hp=>by
  rcases hG w hw with h|⟨k,hk,_,h2,_⟩
  .rw[h p hp];show qC6 _
  .show absurd (hz k ox) h2
 | d+1,t,ht,D,w,hw,hb,hz,p,hp=>by
  have I:t<rs.length:=ox;have h:=Dia.claim hL hG hD d (t+1) ox (D*(u t (q t)).natAbs) _ (hL.lin (u t (q t)) (- w (q t)) hw (hD.mem t I)) (λk hk=>?_) (λk hk=>?_) p hp
  .have h1:(u t (q t)).natAbs*(w p).natAbs<=D*(u t (q t)).natAbs*U2 u p (t+1) d+(w (q t)).natAbs*(u t p).natAbs:=by
    rw[<- qH4,<- qH4];have e:u t (q t)*w p=(u t (q t)*w p +-w (q t)*u t p)+w (q t)*u t p:=by rw[qK6];omega
    rw[e];show qA5 (qX4 _ _) (qU5 h _)
   have h2:(w (q t)).natAbs*(u t p).natAbs<=D*(u t (q t)).natAbs*(u t p).natAbs:=qL7 _ (hb t I);have h3:(u t (q t)).natAbs*(w p).natAbs<=(u t (q t)).natAbs*(D*((u t p).natAbs+U2 u p (t+1) d)):=by
    refine qA5 h1 ?_;rw[show (u t (q t)).natAbs*(D*((u t p).natAbs+U2 u p (t+1) d))=D*(u t (q t)).natAbs*U2 u p (t+1) d+D*(u t (q t)).natAbs*(u t p).natAbs by rw[<- qX1,qY5 (u t (q t)).natAbs D,Nat.mul_add];omega];omega
   show Nat.le_of_mul_le_mul_left h3 (qV9.mpr (hD.ne t I))
  .change (u t (q t)*w (q k) +-w (q t)*u t (q k)).natAbs<=_;by_cases e:t=k
   .subst e;rw[show u t (q t)*w (q t) +-w (q t)*u t (q t)=0 by rw[qK6,qD9];omega];show qC6 _
   .rw [hD.off t k I hk e,qM2,qU8,qH4]
    have:=qH6 (u t (q t)).natAbs (hb k hk)
    rw[qY5 D,qX1];show this
  .change u t (q t)*w (q k) +-w (q t)*u t (q k)=0;by_cases e:t=k
   .subst e;rw[qK6,qD9];omega
   .rw[hD.off t k I ox e,hz k ox];omega
def Dia.bound (hL:Lat L) (I:Ech m rs q) (hG:Gen m L rs q) (hM:∀i,i<rs.length->L (rA rs i)) (hD:Dia m L rs.length q u B) (hi:i<rs.length) (hp:p<m):(rA rs i p).natAbs<=U2 u p 0 rs.length:=by
 have:=Dia.claim hL hG hD rs.length 0 ox 1 (rA rs i) (hM i hi) (λk hk=>?_) (λk hk=>absurd hk (qD3 _)) p hp
 .rwa [qW0]at this
 .rw [qW0]
  have hl:=hD.lead I hG hk;rcases qH5 i k with h|h|h
  .have:=I.red i k h hk
   omega
  .subst h;show hl
  .rw[I.z i hi _ (I.inc k i h hi)];show qC6 _
def oU (I:∀i,i<r->(u i p).natAbs<=B):∀(d t:Nat),t+d<=r->U2 u p t d<=d*B
 |0,_,_=>qC6 _
 | d+1,t,h=>by
  have h1:=oU I d (t+1) ox;have h2:=I t ox
  change (u t p).natAbs+U2 u p (t+1) d<=(d+1)*B;rw[qW1,qW0];omega
def dt (n:Nat)(v s:Vx):Int:=B7 n λp=>v p*s p
def aZ (n:Nat) (v w s:Vx) (a b:Int):dt n (λp=>a*v p+b*w p) s=a*dt n v s+b*dt n w s:=by
 unfold dt;rw[<- eX,<- eX,<- eY];show G0 λp _=>by rw[qN3,qD2,qD2]
def Dia.still (hL:Lat L) (hG:Gen m L rs q) (hD:Dia m L rs.length q u B):∀(d t:Nat),t+d=rs.length->(∀k,t<=k->k<rs.length->dt m (u k) s=0)->∀w,L w->(∀k,k<t->w (q k)=0)->dt m w s=0
 | 0,t,ht,_,w,hw,hz=>by
  rcases hG w hw with h|⟨k,hk,_,h2,_⟩
  .show S3 λp hp=>by rw[h p hp,qJ0]
  .show absurd (hz k ox) h2
 | d+1,t,ht,hc,w,hw,hz=>by
  have I:t<rs.length:=ox;have h:=Dia.still hL hG hD (s:=s) d (t+1) ox (λk h1 h2=>hc k ox h2) _ (hL.lin (u t (q t)) (- w (q t)) hw (hD.mem t I)) λk hk=>by
   change u t (q t)*w (q k) +-w (q t)*u t (q k)=0;by_cases e:t=k
   .subst e;rw[qK6,qD9];omega
   .rw[hD.off t k I ox e,hz k ox];omega
  rw[aZ,hc t (qB2 _) I,qM2,qU8]at h;rcases qZ2.mp h with q|q
  .show absurd q (hD.ne t I)
  .show q
def oE {c:Vx}:∀{r:Nat},(∀k,k<r->c k=0)\/∃k,k<r/\c k≠0/\∀j,k<j->j<r->c j=0
 |0=>.inl λk hk=>absurd hk (qD3 _)
 | r+1=>by
  by_cases e:c r=0
  .rcases oE (c:=c) (r:=r) with h|⟨k,hk,h1,I⟩
   .show .inl λk hk=>if q:k=r then q ▸ e else h k ox
   .show .inr ⟨k,ox,h1,λj hj hr=>if q:j=r then q ▸ e else I j hj ox⟩
  .show .inr ⟨r,ox,e,λj h1 I=>ox⟩
def qA (I:∀p,p<n->(v p).natAbs<=B) (hs:∀p,p<n->(s p).natAbs<=S):(dt n v s).natAbs<=n*(B*S):=by
 unfold dt
 induction n with
 |zero=>show qC6 _
 | succ n ih=>
  have h1:=ih (λp hp=>I p ox) (λp hp=>hs p ox);have h2:=qG7 (I n ox) (hs n ox);rw[<- qH4]at h2
  change (B7 n (λp=>v p*s p)+v n*s n).natAbs<=_;have h3:=qX4 (B7 n λp=>v p*s p) (v n*s n);rw[qW1,qW0];omega
def Dia.next (hL:Lat L) (hE:Ech m rs q) (hG:Gen m L rs q) (hD:Dia m L rs.length q u B) (hs:∀p,p<m->(s p).natAbs<=S) (a3:Ech m rs' q') (a5:∀i,i<rs'.length->L (rA rs' i)/\dt m (rA rs' i) s=0):
  ((∀k,k<rs.length->dt m (u k) s=0)/\∃u',(∀i,i<rs'.length->∃k,k<rs.length/\u' i=u k)/\Dia m (λv=>L v/\dt m v s=0) rs'.length q' u' B)\/((∃k,k<rs.length/\dt m (u k) s≠0)/\∃u',Dia m (λv=>L v/\dt m v s=0) rs'.length q' u' (2*(m*(B*S)*B))):=by
 have I:∃σ:Nat->Nat,∀i,i<rs'.length->σ i<rs.length/\q' i=q (σ i):=by
  have:∀i,∃k,i<rs'.length->k<rs.length/\q' i=q k:=λi=>by
   by_cases hi:i<rs'.length
   .rcases hG _ (a5 i hi).1 with h|⟨k,hk,h1,h2,_⟩
    .have:=a3.pos i hi
     rw[h _ (a3.lt i hi)]at this;show absurd this Zz
    .refine ⟨k,λ_=>⟨hk,?_⟩⟩;have p1:=a3.pos i hi;rcases qH5 (q' i) (q k) with h|h|h
     .rw[h1 _ h]at p1;show absurd p1 Zz
     .show h
     .show absurd (a3.z i hi _ h) h2
   .show ⟨0,λh=>absurd h hi⟩
  show ⟨λi=>(this i).choose,λi=>(this i).choose_spec⟩
 obtain ⟨σ,I⟩:=I;have inj:∀i k,i<rs'.length->k<rs'.length->i≠k->σ i≠σ k:=λi k hi hk e h=>by
  have e1:q' i=q' k:=by rw[(I i hi).2,(I k hk).2,h]
  rcases Nat.lt_or_gt_of_ne e with z|z
  .have:=a3.inc i k z hk;omega
  .have:=a3.inc k i z hi;omega
 rcases oE (c:=λk=>dt m (u k) s) (r:=rs.length) with h|⟨k,hk,h1,h2⟩
 .refine .inl ⟨h,λi=>u (σ i),λi hi=>⟨σ i,(I i hi).1,rfl⟩,⟨λi hi=>⟨hD.mem _ (I i hi).1,h _ (I i hi).1⟩,λi hi=>?_,λi k hi hk e=>?_,λi hi p hp=>hD.bd _ (I i hi).1 p hp⟩⟩
  .change u (σ i) (q' i)≠0;rw[(I i hi).2];show hD.ne _ (I i hi).1
  .change u (σ i) (q' k)=0;rw[(I k hk).2];show hD.off _ _ (I i hi).1 (I k hk).1 (inj i k hi hk e)
 .have a4:∀i,i<rs'.length->k≠σ i:=λi hi e=>by
   have hq:q' i=q k:=by rw[(I i hi).2,<- e]
   have hv:=a5 i hi;have hz:=a3.z i hi;have hp:=a3.pos i hi;rw[hq]at hz hp;have st:=Dia.still hL hG hD (s:=s) (rs.length-(k+1)) (k+1) ox (λj a b=>h2 j ox b) _ (hL.lin (u k (q k)) (- rA rs' i (q k)) hv.1 (hD.mem k hk)) λj hj=>by
    change u k (q k)*rA rs' i (q j) +-rA rs' i (q k)*u k (q j)=0;by_cases e2:k=j
    .subst e2;rw[qK6,qD9];omega
    .rw[hD.off k j hk ox e2,hz _ (hE.inc j k ox hk)];omega
   rw[aZ,hv.2,qM2,qU7]at st;rcases qZ2.mp st with z|z
   .omega
   .show h1 z
  refine .inr ⟨⟨k,hk,h1⟩,λi p=>dt m (u k) s*u (σ i) p +-dt m (u (σ i)) s*u k p,⟨λi hi=>⟨hL.lin _ _ (hD.mem _ (I i hi).1) (hD.mem k hk),?_⟩,λi hi=>?_,λi j hi hj e=>?_,λi hi p hp=>?_⟩⟩
  .rw[aZ,qK6,qD9];omega
  .change dt m (u k) s*u (σ i) (q' i) +-dt m (u (σ i)) s*u k (q' i)≠0;rw[(I i hi).2,hD.off k (σ i) hk (I i hi).1 (a4 i hi),qM2,qU8];show Int.mul_ne_zero h1 (hD.ne _ (I i hi).1)
  .change dt m (u k) s*u (σ i) (q' j) +-dt m (u (σ i)) s*u k (q' j)=0;rw[(I j hj).2,hD.off k (σ j) hk (I j hj).1 (a4 j hj),hD.off _ _ (I i hi).1 (I j hj).1 (inj i j hi hj e)];omega
  .change (dt m (u k) s*u (σ i) p +-dt m (u (σ i)) s*u k p).natAbs<=_;have a1:=qA (λp hp=>hD.bd k hk p hp) hs;have a2:=qA (λp hp=>hD.bd _ (I i hi).1 p hp) hs;have b1:=qG7 a1 (hD.bd _ (I i hi).1 p hp);have b2:=qG7 a2 (hD.bd k hk p hp);have b3:=qX4 (dt m (u k) s*u (σ i) p) (- dt m (u (σ i)) s*u k p);rw[qH4,qH4,xB1]at b3;omega
def Y4 {b:Int}(h:b≠0):(0<b->0<=a-a.fdiv b*b/\a-a.fdiv b*b<b)/\(b<0->b<a-a.fdiv b*b/\a-a.fdiv b*b<=0):=by
 have e:a-a.fdiv b*b=a.fmod b:=by
  have:=Int.fmod_add_mul_fdiv a b
  rw[qD9 b]at this;omega
 rw[e];refine ⟨λh0=>⟨Int.fmod_nonneg_of_pos a h0,Int.fmod_lt_of_pos a h0⟩,λh0=>?_⟩;have h1:=Int.fmod_nonneg_of_pos (-a) (show 0 < -b by omega);have I:=Int.fmod_lt_of_pos (-a) (show 0 < -b by omega);rw[Int.neg_fmod_neg]at h1 I;omega
def ur {a:Int}(h:b≠0):(a.fdiv b).natAbs*b.natAbs<=a.natAbs+b.natAbs:=by
 have I:=Y4 (a:=a) h;rw[<- qH4];rcases qN1 h with q|q
 .have:=I.2 q;omega
 .have:=I.1 q;omega
def uq {b:Int}(h:(0<b/\0<=a)\/(b<0/\a<=0)):(a-a.fdiv b*b).natAbs+(a.fdiv b).natAbs*b.natAbs=a.natAbs:=by
 have hb:b≠0:=ox;have I:=Y4 (a:=a) hb;rw[<- qH4];rcases h with ⟨q,z⟩|⟨q,z⟩
 .have h2:=I.1 q
  have:0<=a.fdiv b*b:=qV8 (Int.fdiv_nonneg z ox) ox
  omega
 .have h2:=I.2 q
  have:a.fdiv b*b<=0:=by
   have e:a.fdiv b=(-a).fdiv (-b):=by rw[Int.neg_fdiv_neg]
   rw[e]
   have:=qV8 (Int.fdiv_nonneg (show 0 <= -a by omega) (show 0 <= -b by omega)) (show 0 <= -b by omega)
   rw[Int.mul_neg]at this;omega
  omega
def phi (u v a b:Int):Nat:=v.natAbs*a.natAbs+u.natAbs*b.natAbs
def wk (h:(0<b/\0<=a)\/(b<0/\a<=0)):phi v (u-a.fdiv b*v) b (a-a.fdiv b*b)<=phi u v a b:=by
 unfold phi;have h1:=uq h;have I:(u-a.fdiv b*v).natAbs<=u.natAbs+(a.fdiv b).natAbs*v.natAbs:=by
  rw[<- qH4];omega
 have h3:=qL7 b.natAbs I;have h4:v.natAbs*a.natAbs=v.natAbs*(a-a.fdiv b*b).natAbs+(a.fdiv b).natAbs*v.natAbs*b.natAbs:=by
  rw[<- h1,Nat.mul_add,qY5 (a.fdiv b).natAbs v.natAbs,qX1]
 rw[qW1]at h3;omega
def sM (h:b≠0):phi v (u-a.fdiv b*v) b (a-a.fdiv b*b)<=phi u v a b+2*(v.natAbs*b.natAbs):=by
 unfold phi;have h2:(u-a.fdiv b*v).natAbs<=u.natAbs+(a.fdiv b).natAbs*v.natAbs:=by
  rw[<- qH4];omega
 have I:=qL7 b.natAbs h2;have h5:=qH6 v.natAbs (ur (a:=a) h);have h6:(a-a.fdiv b*b).natAbs<=b.natAbs:=by
  have:=Y4 (a:=a) h
  rcases qN1 h with q|q
  .have:=this.2 q;omega
  .have:=this.1 q;omega
 have h7:=qH6 v.natAbs h6;rw[qW1]at I;rw[Nat.mul_add,Nat.mul_left_comm]at h5;rw[qX1]at I;omega
def hV (h:z.natAbs<=2^k):Builtin.Int.intBits z<=k+1:=intBits_le_iff.mpr (qD4 h (qU9 Zz (qM1 k)))
structure Rb (m k:Nat) (r:Vk):Prop where
 len:r.length=m
 bd:∀p,p<m->(ent r p).natAbs<=2^k
def Rb.mono (h:Rb m k r)(hl:k<=l):Rb m l r:=⟨h.len,λp I=>qA5 (h.bd p I) (qI3 Zz hl)⟩
def n9 (m:Nat)(row lead:Vk)(c:Nat):List Int:=(List.range m).map λp=>ent row p + -((ent row c).fdiv (ent lead c))*ent lead p
def F5 (h:p<m):ent (n9 m row lead c) p=ent row p-(ent row c).fdiv (ent lead c)*ent lead p:=by
 change (n9 m row lead c).getD p 0=_;unfold n9;rw[D7 h,qK6];omega
def dP (m:Nat)(row lead:Vk)(c:Nat):(n9 m row lead c).length=m:=by simp [n9]
def Ew (k:Nat):1<=2^k:=qW6
def yx {a:Int}(hb:b≠0) (ha:a.natAbs<=2^k):(a.fdiv b).natAbs<=2^(k+1):=by
 have h:=ur (a:=a) hb;have I:1<=b.natAbs:=qV9.mpr hb;have h2:(a.fdiv b).natAbs*b.natAbs<=(a.natAbs+1)*b.natAbs:=by
  rw[qW1,qW0]
  have:=qH6 a.natAbs I
  omega
 have h3:=Nat.le_of_mul_le_mul_right h2 I
 have:=Ew k
 rw[Nat.pow_succ];omega
def mz (hm:m<=7) (hc:c<m) (hr:Rb m k row) (hl:Rb m l lead) (h0:ent lead c≠0) (h9:(ent lead c).natAbs<2^8999) (hk:k<=1000000) (a3:l<=1000000):ai [tI row,tI lead,.int (c:Int)]=.ok (tI (n9 m row lead c)):=by
 have l1:=hr.len;have l2:=hl.len;have hq:=yx (a:=ent row c) h0 (hr.bd c hc);have bq:=hV (z:=-((ent row c).fdiv (ent lead c))) (k:=k+1) (by rw[xB1];show hq);have k1:df [tI row,tI lead,.int (-((ent row c).fdiv (ent lead c)))]=.ok (tI (n9 m row lead c)):=by
  have hz:=W7 (tI row) (tI lead) _ _ rfl rfl;rw[Q2 ox,l1]at hz;have e:∀N mg me ρ (h:∀j∈List.range m,∃I,mg (.tup [.int (row.getD j 0),.int (lead.getD j 0)]) (ρ++List.replicate (N-ρ.length) Sl.un)=some I/\me I=.ok (.int (ent row j + -((ent row c).fdiv (ent lead c))*ent lead j))),j7 N mg yes me ((List.range m).map λj=>W.tup [.int (row.getD j 0),.int (lead.getD j 0)]) ρ=.ok (lI (n9 m row lead c)):=λN mg me ρ h=>by
   rw[l5 (λj=>.int (ent row j + -((ent row c).fdiv (ent lead c))*ent lead j)) _ _ ρ (by simp;omega) h,av];rfl
  exists rpB,ju,hz;rw[e]
  .exists rp18
  .intro j hj;have hj:j<m:=by simpa using hj
   have bl:=hV (z:=lead.getD j 0) (k:=l) (hl.bd j hj);have mm:=lU (i:=-((ent row c).fdiv (ent lead c))) (j:=lead.getD j 0) ox;refine ⟨_,rfl,?_⟩;exists mm;rfl
 have dv:fI ao gFz (.int (row.getD c 0)) (.int (lead.getD c 0))=.ok (.int ((ent row c).fdiv (ent lead c))):=BJ h0 h9;exists rpB,jw,dv,k1
structure Eu (m c:Nat) (R O:Vk) (k:Nat) (row other:Vk):Prop where
 two:Two m R O row other
 rb:Rb m k row
 rb2:Rb m k other
 sg:(0<ent row c/\0<=ent other c)\/(ent row c<0/\ent other c<=0)
 ph:∀p,p<m->phi (ent row p) (ent other p) (ent row c) (ent other c)<=2^k
def tS (h:a≠0):v.natAbs<=phi u v a b:=by
 unfold phi
 have:=qH6 v.natAbs (show 1<=a.natAbs from qV9.mpr h)
 omega
def Eu.first {R:Vk}(hc:c<m) (hR:Rb m κ R) (hO:Rb m b O) (h0:ent O c≠0):Eu m c R O (max κ b+b+2) O (n9 m R O c):=by
 have ph:∀p,p<m->phi (ent O p) (ent (n9 m R O c) p) (ent O c) (ent (n9 m R O c) c)<=2^(max κ b+b+2):=λp I=>by
  rw[F5 I,F5 hc];refine qA5 (sM h0) ?_;unfold phi;have e1:=qG7 (hO.bd p I) (hR.bd c hc);have e2:=qG7 (hR.bd p I) (hO.bd c hc);have e3:=qG7 (hO.bd p I) (hO.bd c hc);rw[<- qO3]at e1 e2 e3;have f1:2^(b+κ)<=2^(max κ b+b):=qI3 Zz ox;have f2:2^(κ+b)<=2^(max κ b+b):=qI3 Zz ox;have f3:2^(b+b)<=2^(max κ b+b):=qI3 Zz ox;rw[qO3 _ _ 2];omega
 refine ⟨(Two.refl m R O).step (q:=(ent R c).fdiv (ent O c)) λp I=>F5 I,hO.mono ox,⟨dP _ _ _ _,λp I=>qA5 (tS h0) (ph p I)⟩,?_,ph⟩;rw[F5 hc]
 have:=Y4 (a:=ent R c) h0
 rcases qN1 h0 with q|q
 .have:=this.2 q;omega
 .have:=this.1 q;omega
def Eu.next {R:Vk}(hc:c<m) (h:Eu m c R O k row other) (h0:ent other c≠0):Eu m c R O k other (n9 m row other c):=by
 have sg:(0<ent other c/\0<=ent row c)\/(ent other c<0/\ent row c<=0):=by
  have:=h.sg;omega
 have ph:∀p,p<m->phi (ent other p) (ent (n9 m row other c) p) (ent other c) (ent (n9 m row other c) c)<=2^k:=λp I=>by
  rw[F5 I,F5 hc];show qA5 (wk sg) (h.ph p I)
 refine ⟨h.two.step (q:=(ent row c).fdiv (ent other c)) λp I=>F5 I,h.rb2,⟨dP _ _ _ _,λp I=>qA5 (tS h0) (ph p I)⟩,?_,ph⟩;rw[F5 hc]
 have:=Y4 (a:=ent row c) h0
 rcases qN1 h0 with q|q
 .have:=this.2 q;omega
 .have:=this.1 q;omega
def tO (hc:c<m) (h0:ent other c≠0):(ent (n9 m row other c) c).natAbs<(ent other c).natAbs:=by
 rw[F5 hc]
 have:=Y4 (a:=ent row c) h0
 rcases qN1 h0 with q|q
 .have:=this.2 q;omega
 .have:=this.1 q;omega
structure Dv (m c:Nat) (R O:Vk) (k:Nat) (p0 p1:Vk):Prop where
 two:Two m R O p0 p1
 z:ent p1 c=0
 or:(p0=R/\p1=O)\/ent p0 c≠0
 rb:Rb m k p0
 rb2:Rb m k p1
def qC {R:Vk}(hm:m<=7) (hc:c<m) (hR:Rb m κ R) (hO:Rb m b O) (h9:max κ b+b+2<=8998):Ok (dh [tI R,tI O,.int (c:Int)]) λv=>∃p0 p1,v=.tup [tI p0,tI p1]/\Dv m c R O (max κ b+b+2) p0 p1:=by
 have a3:∀{z:Int}{k:Nat},z.natAbs<=2^k->k<=8998->z.natAbs<2^8999:=λ{z k} h hk=>qD4 h (qU9 Zz ox);exists rpB,jy;refine p7 (M3 ?_);refine Q6 (λM ρ=>∃(row other:Vk) (z:Sl),((ρ = [.par (tI row),.par (tI other),.par (.int (c:Int)),z]/\row=R/\other=O)\/(ρ = [.val (tI row),.val (tI other),.par (.int (c:Int)),z]/\Eu m c R O (max κ b+b+2) row other))/\M=(ent other c).natAbs) ?_ (ent O c).natAbs _ ⟨R,O,.un,.inl ⟨rfl,rfl,rfl⟩,rfl⟩;rintro M ρ ⟨row,other,z,I,rfl⟩;have hlen:row.length=m/\other.length=m:=by
  rcases I with ⟨_,rfl,rfl⟩|⟨_,h⟩
  .show ⟨hR.len,hO.len⟩
  .show ⟨h.rb.len,h.rb2.len⟩
 obtain ⟨l1,l2⟩:=hlen;by_cases h0:ent other c=0
 .have d1:decide (other.getD c 0=0)=true:=qQ0 h0;refine ⟨false,?_,?_⟩
  .rcases I with ⟨rfl,_,_⟩|⟨rfl,_⟩
   all_goals exists d1
  rw[qA4 Zz];rcases I with ⟨rfl,rfl,rfl⟩|⟨rfl,h⟩
  .exists n5 (t4 row),n5 (t4 other);show ⟨row,other,rfl,Two.refl _ _ _,h0,.inl ⟨rfl,rfl⟩,hR.mono ox,hO.mono ox⟩
  .exists n5 (t4 row),n5 (t4 other);refine ⟨row,other,rfl,h.two,h0,.inr ?_,h.rb,h.rb2⟩
   have:=h.sg;omega
 .have d1:decide (other.getD c 0=0)=false:=qQ1 h0;refine ⟨true,?_,?_⟩
  .rcases I with ⟨rfl,_,_⟩|⟨rfl,_⟩
   all_goals exists d1
  rw[qA2 rfl];rcases I with ⟨rfl,rfl,rfl⟩|⟨rfl,h⟩
  .have k1:=mz (c:=c) hm hc hR hO h0 (a3 (hO.bd c hc) ox) ox ox;exists k1,n5 (t4 other),n5 (t4 (n9 m row other c));show ⟨_,tO hc h0,other,n9 m row other c,_,.inr ⟨rfl,Eu.first hc hR hO h0⟩,rfl⟩
  .have k1:=mz (c:=c) hm hc h.rb h.rb2 h0 (a3 (h.rb2.bd c hc) ox) ox ox;exists k1,n5 (t4 other),n5 (t4 (n9 m row other c));show ⟨_,tO hc h0,other,n9 m row other c,_,.inr ⟨rfl,h.next hc h0⟩,rfl⟩
def kp (bs:Nat->Nat):Nat->Nat
 |0=>bs 0
 |i+1=>max (kp bs i) (bs (i+1))+bs (i+1)+2
structure Gth (m c:Nat) (M:Vx->Prop) (bs:Nat->Nat) (rows:Vw) (i:Nat) (kept:Vw):Prop where
 len:kept.length=i+1
 sp:∀v,Spn m rows v->Spn m (kept++rows.drop (i+1)) v
 ind:Ind m rows->Ind m (kept++rows.drop (i+1))
 z:∀j,1<=j->j<=i->rA kept j c=0
 or:(kept=rows.take (i+1)/\rA kept 0 c=0)\/rA kept 0 c≠0
 mem:∀j,j<=i->M (rA kept j)
 rb:Rb m (kp bs i) (kept.getD 0 [])
 rb2:∀j,1<=j->j<=i->Rb m (kp bs j) (kept.getD j [])
def bh {cs:Vk}(h:cs.length=n+1):∃c t,cs=c::t/\t.length=n:=by
 cases cs with
 |nil=>cases h
 |cons c t=>show ⟨c,t,rfl,by simpa using h⟩
def uN {cs:Vk}(h:cs.length=n+(k+1)):∃x c y,cs=x++c::y/\x.length=n/\y.length=k:=by
 have h1:(cs.drop n).length=k+1:=by rw[qH1];omega
 obtain ⟨c,y,e,I⟩:=bh h1;show ⟨cs.take n,c,y,by rw[<- e,qJ4],by rw[qF6];omega,I⟩
def gF {rest:Vw}(I c1:Int) (hx:x.length=K.length) (p:Nat):lc (I::x++c1::y) (a::K++b::rest) p=I*ent a p+c1*ent b p+(lc x K p+lc y rest p):=by
 have h:lc ((I::x)++(c1::y)) ((a::K)++(b::rest)) p=_:=tV (by simp [hx]) p;rw[h]
 change I*ent a p+lc x K p+(c1*ent b p+lc y rest p)=_;omega
def Spn.swap {rest:Vw}(h:Two m a b a' b') (hs:Spn m (a::K++b::rest) v):Spn m ((a'::K ++ [b'])++rest) v:=by
 obtain ⟨cs,hl,hv⟩:=hs;obtain ⟨c0,t,rfl,ht⟩:=bh (n:=K.length+(rest.length+1)) (by rw[hl];simp);obtain ⟨x,c1,y,rfl,I,hy⟩:=uN ht;obtain ⟨c',d',hc⟩:=h.back c0 c1;refine ⟨c'::x++d'::y,by simp [I,hy],λp hp=>?_⟩;rw[hv p hp,qF3];have e1:=gF (a:=a) (b:=b) (rest:=rest) c0 c1 (y:=y) I p;have e2:=gF (a:=a') (b:=b') (rest:=rest) c' d' (y:=y) I p
 have:=hc p hp
 change lc (c0::x++c1::y) (a::K++b::rest) p=lc (c'::x++d'::y) (a'::K++b'::rest) p;omega
def Ind.swap {rest:Vw}(h:Two m a b a' b') (hi:Ind m (a::K++b::rest)):Ind m ((a'::K ++ [b'])++rest):=λcs hl hz c hc=>by
 obtain ⟨c0,t,rfl,ht⟩:=bh (n:=K.length+(rest.length+1)) (by rw[hl];simp);obtain ⟨x,c1,y,rfl,I,hy⟩:=uN ht;obtain ⟨c',d',hr,a3⟩:=h.rel c0 c1;have key:=hi (c'::x++d'::y) (by simp [I,hy]) λp hp=>by
  have e1:=gF (a:=a) (b:=b) (rest:=rest) c' d' (y:=y) I p;have e2:=gF (a:=a') (b:=b') (rest:=rest) c0 c1 (y:=y) I p;have e3:=hz p hp;rw[qF3]at e3;change lc (c0::x++c1::y) (a'::K++b'::rest) p=0 at e3
  have:=hr p hp
  omega
 obtain ⟨z0,z1⟩:=a3 (key c' Zy) (key d' Zy);rcases qB5.mp hc with q|q
 .rw[q,z0]
 .rcases qC8.mp q with q|q
  .show key c (by simp [q])
  .rcases qB5.mp q with q|q
   .rw[q,z1]
   .show key c (by simp [q])
def ze (h:Two m a b a' b') (la:a.length=m) (lb:b.length=m) (I:a'.length=m) (a3:b'.length=m):∃x y z w:Int,(ent a'=λp=>x*ent a p+y*ent b p)/\ent b'=λp=>z*ent a p+w*ent b p:=by
 obtain ⟨x,y,z,w,e,_,_,hp⟩:=h;have out:∀{r:Vk},r.length=m->∀p,¬ p<m->ent r p=0:=λ{r} hl p hp=>by
  unfold ent;rw[qA0,qJ3 ox];rfl
 refine ⟨x,y,z,w,funext λp=>?_,funext λp=>?_⟩
 .by_cases q:p<m
  .show (hp p q).1
  .rw[out I p q,out la p q,out lb p q];omega
 .by_cases q:p<m
  .show (hp p q).2
  .rw[out a3 p q,out la p q,out lb p q];omega
def GL (rows:Vw):fM rows none (some 1)=rows.take 1:=by
 unfold fM;rw[HT.sIx_none,show ((1:Int))=((1:Nat):Int) from rfl,HT.sIx_nat,xA6];cases rows with
 |nil=>rfl
 |cons r rs=>simp
def mX (rows:Vw):fM rows (some 1) none=rows.drop 1:=by
 unfold fM;rw[HT.sIx_none,show ((1:Int))=((1:Nat):Int) from rfl,HT.sIx_nat];cases rows with
 |nil=>rfl
 |cons r rs=>simp
def w6 {α:Type}(a:α)(l:List α)(i:Nat)(d:α):(a::l).getD (i+1) d=l.getD i d:=Zy
def mL {α:Type}{xs I:List α}{d:α}(h:i<xs.length):(xs++I).getD i d=xs.getD i d:=by
 rw[qA0,qA0,qE8 h]
def mK {α:Type}{xs:List α}{y d:α}(h:xs.length=i):(xs ++ [y]).getD i d=y:=by
 subst h;rw[qA0,qH3 (qB2 _),Nat.sub_self];rfl
def xH {α:Type}{l:List α}{d:α}(h:i<l.length):l.drop i=l.getD i d::l.drop (i+1):=by
 rw[qJ5 h,qA0,qA8 h];rfl
def vy {α:Type}{l:List α}{d:α}(h:i<l.length):l.take (i+1)=l.take i ++ [l.getD i d]:=by
 rw[qL9,qA8 h,qA0,qA8 h];rfl
def Gth.start (a3:0<rows.length) (a4:∀j,j<rows.length->Rb m (bs j) (rows.getD j [])) (I:∀j,j<rows.length->M (rA rows j)):Gth m c M bs rows 0 (rows.take 1):=by
 have e:(rows.take 1).getD 0 []=rows.getD 0 []:=by
  rw[qA0,List.getElem?_take,qA2 Zz,qA0]
 refine ⟨by rw[qF6];omega,λv h=>by rw[qJ4];show h,λh=>by rw[qJ4];show h,λj h1 h2=>ox,?_,λj hj=>?_,by rw[e];show a4 0 a3,λj h1 h2=>ox⟩
 .by_cases q:rA (rows.take 1) 0 c=0
  .show .inl ⟨rfl,q⟩
  .show .inr q
 .have:j=0:=ox
  subst this
  change M (ent ((rows.take 1).getD 0 []));rw[e];show I 0 a3
def Gth.go (hM:Lat M) (a8:∀j,j<rows.length->Rb m (bs j) (rows.getD j [])) (a6:∀j,j<rows.length->M (rA rows j)) (hi:i+1<rows.length) (h:Gth m c M bs rows i (k0::K)) (hd:Dv m c k0 (rows.getD (i+1) []) (kp bs (i+1)) p0 p1):Gth m c M bs rows (i+1) (p0::K ++ [p1]):=by
 have hK:K.length=i:=by have:=h.len;simpa using this
 have a5:=xH (d:=[]) hi;obtain ⟨x,y,z,w,e0,e1⟩:=ze hd.two h.rb.len (a8 _ hi).len hd.rb.len hd.rb2.len;have a4:M (ent k0):=h.mem 0 (qC6 _);have I:M (ent (rows.getD (i+1) [])):=a6 (i+1) hi;have a3:∀j,1<=j->j<=i->(p0::K ++ [p1]).getD j []=(k0::K).getD j []:=λj h1 h2=>by
  obtain ⟨j,rfl⟩:∃j',j=j'+1:=⟨j-1,ox⟩;rw[qO1,w6,w6,mL ox]
 have last:(p0::K ++ [p1]).getD (i+1) []=p1:=mK (by simp [hK]);refine ⟨by simp [hK],λv hv=>?_,λa7=>?_,λj h1 h2=>?_,?_,λj hj=>?_,hd.rb,λj h1 h2=>?_⟩
 .have:=h.sp v hv
  rw[a5]at this;show Spn.swap hd.two this
 .have:=h.ind a7
  rw[a5]at this;show Ind.swap hd.two this
 .by_cases q:j=i+1
  .subst q
   change ent ((p0::K ++ [p1]).getD (i+1) []) c=0;rw[last];show hd.z
  .change ent ((p0::K ++ [p1]).getD j []) c=0;rw[a3 j h1 ox];show h.z j h1 ox
 .rcases hd.or with ⟨q0,q1⟩|q
  .rcases h.or with ⟨r1,r2⟩|r
   .refine .inl ⟨?_,?_⟩
    .rw[vy (d:=[]) hi,<- r1,q0,q1]
    .change ent p0 c=0;rw[q0];show r2
   .refine .inr ?_
    change ent p0 c≠0;rw[q0];show r
  .show .inr q
 .change M (ent ((p0::K ++ [p1]).getD j []));by_cases q:j=i+1
  .subst q;rw[last,e1];show hM.lin z w a4 I
  .by_cases q0:j=0
   .subst q0
    change M (ent p0);rw[e0];show hM.lin x y a4 I
   .rw[a3 j ox ox];show h.mem j ox
 .by_cases q:j=i+1
  .subst q;rw[last];show hd.rb2
  .rw[a3 j h1 ox];show h.rb2 j h1 ox
def nI (hm:m<=7) (hc:c<m) (hM:Lat M) (a8:0<rows.length) (b3:rows.length<=6) (a6:∀j,j<rows.length->Rb m (bs j) (rows.getD j [])) (a5:∀j,j<rows.length->M (rA rows j)) (h9:∀j,j<rows.length->kp bs j<=8998) (hX:X=lS rows):Ok (bN [X,.int (c:Int)]) λv=>∃gs,v=lS gs/\Gth m c M bs rows (rows.length-1) gs:=by
 subst hX;exists rpB,gA;rw[GL,mX];refine p7 (t9 (λi ρ=>∃(kept:Vw) (a3 a4:Sl),ρ = [.par (lS rows),.par (.int (c:Int)),.own (kept.map tI),a3,a4]/\Gth m c M bs rows i kept) ⟨_,_,_,rfl,Gth.start a8 a6 a5⟩ ?_ ?_)
 .rintro i u ρ hu ⟨kept,a3,a4,rfl,h⟩;rw[qC0]at hu;have hi:i+1<rows.length:=by
   rcases Nat.lt_or_ge (i+1) rows.length with q|q
   .show q
   .rw[qJ3 (by rw[qH1];omega)]at hu;cases hu
  have ab:u=tI (rows.getD (i+1) []):=by
   rw[qG4,qN7 1 i,qA8 hi]at hu;cases hu;rw[qA0,qA8 hi];rfl
  subst ab;obtain ⟨k0,K,a7,a9,hk⟩:∃k0 K,kept.getD 0 []=k0/\kept.drop 1=K/\kept=k0::K:=by
   cases kept with
   |nil=>have:=h.len;simp at this
   |cons k0 K=>show ⟨k0,K,rfl,rfl,rfl⟩
  have b4:0<kept.length:=by rw[h.len];omega
  have I:=h.rb;rw[a7]at I;obtain ⟨_,k1,p0,p1,rfl,hd⟩:=qC hm hc I (a6 _ hi) (h9 (i+1) hi);have a0:L2.atI (kept.map tI) 0=some (tI k0):=by rw[hk];show dy (k:=0) rfl
  have b0:L2.atI [tI p0,tI p1] 0=some (tI p0):=rfl;have b1:L2.atI [tI p0,tI p1] 1=some (tI p1):=rfl;rw[hk]at h;have hK:K.length=i:=by have:=h.len;simpa using this
  have c1:aA true (.lst [tI p0]) (.lst (K.map tI))=.ok (lS (p0::K)):=by
   exists rp18;rfl
  have c2:aA true (lS (p0::K)) (.lst [tI p1])=.ok (lS (p0::K ++ [p1])):=by
   exists rp18;rfl
  refine ⟨_,rfl,?_⟩;exists a0;rw[k1];exists b0,b1,mX,a9,c1,c2;show ⟨p0::K ++ [p1],_,_,rfl,Gth.go hM a6 a5 hi h hd⟩
 .rintro ρ ⟨kept,a3,a4,rfl,h⟩;rw[qA7,qH1]at h;exists rp18;show ⟨kept,rfl,h⟩
def bsT (b:Nat):Nat->Nat->Nat
 |0=>λ_=>b
 |t+1=>λj=>kp (bsT b t) (j+1)
structure Nt (m:Nat) (M:Vx->Prop) (r b c:Nat) (fs:Vw) (q:Nat->Nat) (ls:Vw):Prop where
 tot:fs.length+ls.length=r
 ech:Ech m fs q
 qc:∀i,i<fs.length->q i<c
 fm:∀i,i<fs.length->M (rA fs i)
 lm:∀j,j<ls.length->M (rA ls j)
 lz:∀j,j<ls.length->∀p,p<c->rA ls j p=0
 ind:Ind m ls
 gn:∀x,M x->(∃i,Ld q fs x i)\/((∀p,p<c->x p=0)/\Spn m ls x)
 lb:∀j,j<ls.length->Rb m (bsT b fs.length j) (ls.getD j [])
 fb:∀i,i<fs.length->Rb m (9000*fs.length) (fs.getD i [])
def pP (hl:r.length=m) (I:¬ p<m):ent r p=0:=by
 unfold ent;rw[qA0,qJ3 ox];rfl
def gG:∀{cs:Vk}{rs:Vw},(∀j,j<rs.length->rA rs j p=0)->lc cs rs p=0
 | [],[],_=>rfl
 |_::_,[],_=>rfl
 | [],_::_,_=>rfl
 | c::cs,r::rs,h=>by
  change c*ent r p+lc cs rs p=0;have h0:ent r p=0:=h 0 Zy
  rw [h0,qM2,gG λj I=>by
   have:=h (j+1) (by simpa using I)
   simpa [rA]using this];rfl
def upr (row:Vk)(c:Nat):List Int:=if 0<ent row c then row else row.map λx=>-x
def aH (p:Nat):ent (upr row c) p=if 0<ent row c then ent row p else-ent row p:=by
 unfold upr
 split
 .rfl
 .unfold ent;rw[qA0,qC0,qA0];cases row[p]? <;> simp
def rq (h:Rb m k row):Rb m k (upr row c):=by
 refine ⟨?_,λp I=>?_⟩
 .unfold upr
  split
  .show h.len
  .rw[qA7];show h.len
 .rw [aH]
  split
  .show h.bd p I
  .rw[xB1];show h.bd p I
def dO {rs:Vw}{f:List Int->List Int}(h:i<rs.length):(rs.map f).getD i []=f (rs.getD i []):=by
 rw[qA0,qC0,qA8 h,qA0,qA8 h];rfl
abbrev MZ (M:Vx->Prop)(c:Nat)(x:Vx):Prop:=M x/\∀p,p<c->x p=0
def Lat.z (hM:Lat M) (c:Nat):Lat (MZ M c):=⟨λa b h1 I=>⟨hM.lin a b h1.1 I.1,λp hp=>by
 change a*_+b*_=0;rw[h1.2 p hp,I.2 p hp,qM2,qM2];rfl⟩⟩
def Nt.flat (hc:c<m) (h:Nt m M r b c fs q ls) (hl:0<ls.length) (hg:Gth m c (MZ M c) (bsT b fs.length) ls (ls.length-1) gs) (h0:rA gs 0 c=0):gs=ls/\Nt m M r b (c+1) fs q ls:=by
 have e:gs=ls:=by
  rcases hg.or with ⟨e,_⟩|e
  .rw[e,qK5 ox]
  .show absurd h0 e
 subst e;have hz:∀j,j<gs.length->rA gs j c=0:=λj I=>by
  by_cases q:j=0
  .subst q;show h0
  .show hg.z j ox ox
 refine ⟨rfl,h.tot,h.ech,λi hi=>qL3 (h.qc i hi),h.fm,h.lm,λj I p hp=>?_,h.ind,λx hx=>?_,h.lb,h.fb⟩
 .by_cases q:p=c
  .subst q;show hz j I
  .show h.lz j I p ox
 .rcases h.gn x hx with a|⟨a,cs,hl,hv⟩
  .show .inl a
  .refine .inr ⟨λp hp=>?_,cs,hl,hv⟩;by_cases q:p=c
   .subst q;rw[hv p hc];show gG hz
   .show a p ox
def Nt.pivot (hM:Lat M) (hc:c<m) (h9:∀t j,t+j<r->kp (bsT b t) j<=8998) (h:Nt m M r b c fs q ls) (hl:0<ls.length) (hg:Gth m c (MZ M c) (bsT b fs.length) ls (ls.length-1) gs) (h0:rA gs 0 c≠0):Nt m M r b (c+1) (fs.map (λrow=>n9 m row (upr (gs.getD 0 []) c) c) ++ [upr (gs.getD 0 []) c]) (λi=>if i<fs.length then q i else c) (gs.drop 1):=by
 have a5:gs.length=ls.length:=by rw[hg.len];omega
 obtain ⟨g0,G,rfl⟩:∃g0 G,gs=g0::G:=by
  cases gs with
  |nil=>simp at a5;omega
  |cons g0 G=>show ⟨_,_,rfl⟩
 change Nt m M r b (c+1) (fs.map (λrow=>n9 m row (upr g0 c) c) ++ [upr g0 c]) _ G;have h0:ent g0 c≠0:=h0;obtain ⟨a8,b0⟩:=hg.mem 0 (qC6 _);change M (ent g0) at a8;change ∀p,p<c->ent g0 p=0 at b0;have bc:Rb m 8998 g0:=hg.rb.mono (h9 _ _ (by have:=h.tot;omega));obtain ⟨I,a7⟩:∃I,I=upr g0 c:=⟨_,rfl⟩;have lp:1<=ent I c:=by
  rw[a7,aH];split <;> omega
 have lz:∀p,p<c->ent I p=0:=λp hp=>by
  rw[a7,aH,b0 p hp];split <;> rfl
 have a9:Rb m 8998 I:=by rw[a7];show rq bc
 have lm:M (ent I):=by
  have e:ent I=λp=>(if 0<ent g0 c then 1 else -1)*ent g0 p+0*ent g0 p:=funext λp=>by
   rw[a7,aH];split <;> omega
  rw[e];show hM.lin _ _ a8 a8
 have ba:∀x:Int,ent g0 c∣x->ent I c∣x:=λx hx=>by
  rw[a7,aH]
  split
  .show hx
  .show Int.neg_dvd.mpr hx
 rw[<- a7];have b5:(fs.map λrow=>n9 m row I c).length=fs.length:=qA7 _;have f1:∀i,i<fs.length->(fs.map (λrow=>n9 m row I c) ++ [I]).getD i []=n9 m (fs.getD i []) I c:=λi hi=>by
  rw[mL ox,dO hi]
 have f2:(fs.map (λrow=>n9 m row I c) ++ [I]).getD fs.length []=I:=mK b5;have r1:∀i,i<fs.length->∀p,p<c->rA (fs.map (λrow=>n9 m row I c) ++ [I]) i p=rA fs i p:=λi hi p hp=>by
  change ent ((fs.map (λrow=>n9 m row I c) ++ [I]).getD i []) p=_;rw[f1 i hi,F5 ox,lz p hp,qM2,Int.sub_zero]
 have r2:∀p,rA (fs.map (λrow=>n9 m row I c) ++ [I]) fs.length p=ent I p:=λp=>by
  change ent ((fs.map (λrow=>n9 m row I c) ++ [I]).getD fs.length []) p=_;rw[f2]
 have tl:(fs.map (λrow=>n9 m row I c) ++ [I]).length=fs.length+1:=Zy;have qi:∀i,i<fs.length->(if i<fs.length then q i else c)=q i:=λi hi=>qA2 hi;have qt:(if fs.length<fs.length then q fs.length else c)=c:=qA4 (qF1 _);have a4:∀i,i<fs.length+1->i<fs.length\/i=fs.length:=λi hi=>ox;refine ⟨?_,⟨λi hi=>?_,λi j a6 hj=>?_,λi hi p hp=>?_,λi hi=>?_,λi j a6 hj=>?_⟩,λi hi=>?_,λi hi=>?_,λj hj=>?_,λj hj p hp=>?_,?_,λx hx=>?_,λj hj=>?_,λi hi=>?_⟩
 .rw [tl]
  have:=h.tot
  simp at a5;omega
 .rw [tl]at hi
  rcases a4 i hi with z|rfl
  .rw[qi i z];show h.ech.lt i z
  .rw[qt];show hc
 .rw [tl]at hj
  rcases a4 j hj with z|rfl
  .rw[qi j z,qi i ox];show h.ech.inc i j a6 z
  .rw[qt,qi i a6];show h.qc i a6
 .rw [tl]at hi
  rcases a4 i hi with z|rfl
  .rw [qi i z]at hp
   rw[r1 i z p (Nat.lt_trans hp (h.qc i z))];show h.ech.z i z p hp
  .rw [qt]at hp
   rw[r2];show lz p hp
 .rw [tl]at hi
  rcases a4 i hi with z|rfl
  .rw[qi i z,r1 i z _ (h.qc i z)];show h.ech.pos i z
  .rw[qt,r2];show lp
 .rw [tl]at hj
  rcases a4 j hj with z|rfl
  .rw[qi j z,r1 i ox _ (h.qc j z),r1 j z _ (h.qc j z)];show h.ech.red i j a6 z
  .rw [qt,r2]
   change 0<=ent ((fs.map (λrow=>n9 m row I c) ++ [I]).getD i []) c/\ent ((fs.map (λrow=>n9 m row I c) ++ [I]).getD i []) c<_;rw[f1 i a6,F5 hc];show (Y4 ox).1 ox
 .rw [tl]at hi
  rcases a4 i hi with z|rfl
  .rw[qi i z];show qL3 (h.qc i z)
  .rw[qt];show qM1 c
 .rw [tl]at hi
  rcases a4 i hi with z|rfl
  .have e:rA (fs.map (λrow=>n9 m row I c) ++ [I]) i=λp=>1*rA fs i p + -((rA fs i c).fdiv (ent I c))*ent I p:=funext λp=>by
    change ent ((fs.map (λrow=>n9 m row I c) ++ [I]).getD i []) p=_;rw[f1 i z];by_cases hp:p<m
    .rw [F5 hp,qK6]
     change _=1*ent (fs.getD i []) p + -(((ent (fs.getD i []) c).fdiv (ent I c))*ent I p);omega
    .rw [pP (dP m _ I c) hp,pP a9.len hp]
     change 0=1*ent (fs.getD i []) p+_;rw[pP (h.fb i z).len hp];omega
   rw[e];show hM.lin _ _ (h.fm i z) lm
  .have e:rA (fs.map (λrow=>n9 m row I c) ++ [I]) fs.length=ent I:=funext r2;rw[e];show lm
 .have:=hg.mem (j+1) (by simp at a5;omega)
  have e:rA (g0::G) (j+1)=rA G j:=by unfold rA;rw[w6]
  rw[e]at this;show this.1
 .have h1:=hg.mem (j+1) (by simp at a5;omega);have h2:=hg.z (j+1) ox (by simp at a5;omega);have e:rA (g0::G) (j+1)=rA G j:=by unfold rA;rw[w6]
  rw[e]at h1 h2;by_cases z:p=c
  .subst z;show h2
  .show h1.2 p ox
 .have:=hg.ind h.ind
  rw[qF0 ox,qG2]at this;show this.tail
 .rcases h.gn x hx with ⟨i,hi,a1,a2,a3⟩|⟨a,hs⟩
  .refine .inl ⟨i,by rw[tl];omega,?_⟩;dsimp only;rw[qi i hi,r1 i hi _ (h.qc i hi)];show ⟨a1,a2,a3⟩
  .have:=hg.sp x hs
   rw[qF0 ox,qG2]at this;obtain ⟨cs,b3,hv⟩:=this;obtain ⟨t0,ds,rfl,b4⟩:=bh b3;have bq:∀j,j<G.length->rA G j c=0:=λj hj=>by
    have h2:=hg.z (j+1) ox (by simp at a5;omega);have e:rA (g0::G) (j+1)=rA G j:=by unfold rA;rw[w6]
    rwa [e]at h2
   have ab:x c=t0*ent g0 c:=by
    rw[hv c hc]
    change t0*ent g0 c+lc ds G c=_;rw[gG bq,qU8]
   by_cases ht:t0=0
   .refine .inr ⟨λp hp=>?_,ds,b4,λp hp=>?_⟩
    .by_cases z:p=c
     .subst z;rw[ab,ht,qJ0]
     .show a p ox
    .rw [hv p hp]
     change t0*ent g0 p+lc ds G p=_;rw[ht,qJ0,qU7]
   .refine .inl ⟨fs.length,by rw[tl];omega,?_⟩;dsimp only;rw[qt,r2];show ⟨a,by rw[ab];show Int.mul_ne_zero ht h0,ba _ (by rw[ab];show Int.dvd_mul_left _ _)⟩
 .have:=hg.rb2 (j+1) ox (by simp at a5;omega)
  rw[w6]at this;rw[tl];show this
 .rw [tl]at hi
  rcases a4 i hi with z|rfl
  .rw [f1 i z,tl]
   refine ⟨dP _ _ _ _,λp hp=>?_⟩;rw[F5 hp];have hb:=h.fb i z;have k1:=yx (a:=ent (fs.getD i []) c) (b:=ent I c) ox (hb.bd c hc);have k2:=qG7 k1 (a9.bd p hp);rw[<- qO3,<- qH4]at k2;have k3:=hb.bd p hp;have k4:2^(9000*fs.length+1+8998)+2^(9000*fs.length)<=2^(9000*(fs.length+1)):=by
    have e1:2^(9000*fs.length)<=2^(9000*fs.length+1+8998):=qI3 Zz ox;have e2:2^(9000*(fs.length+1))=2^(9000*fs.length+1+8998)*2:=by rw[<- Nat.pow_succ];congr 1
    omega
   have k5:(ent (fs.getD i []) p-(ent (fs.getD i []) c).fdiv (ent I c)*ent I p).natAbs<=(ent (fs.getD i []) p).natAbs+((ent (fs.getD i []) c).fdiv (ent I c)*ent I p).natAbs:=ox;omega
  .rw[f2,tl];show a9.mono ox
def pj {m:Nat}(hm:m<=7) (hc:c<m) (hl:row.length=m):ah [tI row,.int (c:Int)]=.ok (tI (upr row c)):=by
 have e:∀N mg me ρ (h:∀x∈row,∃I,mg (.int x) (ρ++List.replicate (N-ρ.length) Sl.un)=some I/\me I=.ok (.int (-x))),j7 N mg yes me (row.map W.int) ρ=.ok (lI (row.map λx=>-x)):=λN mg me ρ h=>by
  rw[l5 (λx=>.int (-x)) _ _ ρ ox h,av]
 have fin:Ok (ah [tI row,.int (c:Int)]) λv=>v=tI (upr row c):=by
  by_cases h:0<row.getD c 0
  .exists rpB,cR,qQ0 h;refine ⟨_,rfl,?_⟩
   change _=tI (upr row c);unfold upr;rw[qA2 (show 0<ent row c from h)]
  .exists rpB,cR,qQ1 h;rw[e];rotate_left
   .intro x hx;refine ⟨_,rfl,?_⟩;exists rp18
   exists rp18;refine ⟨_,rfl,?_⟩
   change _=tI (upr row c);unfold upr;rw[qA4 (show ¬ 0<ent row c from h)]
 obtain ⟨v,e,rfl⟩:=fin;show e
def Au (hm:m<=7) (hM:Lat M) (hr:rows.length<=6) (ab:∀j,j<rows.length->Rb m b (rows.getD j [])) (a6:∀j,j<rows.length->M (rA rows j)) (a8:Ind m rows) (a7:∀x,M x->Spn m rows x) (h9:∀t j,t+j<rows.length->kp (bsT b t) j<=8998):Ok (mN [lS rows]) λv=>∃fs q,v=lS fs/\fs.length=rows.length/\Ech m fs q/\(∀i,i<fs.length->M (rA fs i))/\(∀i,i<fs.length->(fs.getD i []).length=m)/\Gen m M fs q:=by
 have n0:∀{i:Nat}{P:Prop},i<([]:Vw).length->P:=λ{i P} hi=>absurd hi (qD3 _);have start:Nt m M rows.length b 0 [] (λ_=>0) rows:=⟨Zy,⟨λi hi=>n0 hi,λi j _ hj=>n0 hj,λi hi=>n0 hi,λi hi=>n0 hi,λi j _ hj=>n0 hj⟩,λi hi=>n0 hi,λi hi=>n0 hi,a6,λj _ p hp=>absurd hp (qD3 _),a8,λx hx=>.inr ⟨λp hp=>absurd hp (qD3 _),a7 x hx⟩,ab,λi hi=>n0 hi⟩;exists rpB,tH;refine p7 (M3 ?_);refine Q6 (λK ρ=>∃(fs ls:Vw) (q:Nat->Nat) (c:Nat) (s a4:Sl),ρ = [.par (lS rows),.own (fs.map tI),s,.val (.int (c:Int)),a4]/\(s=.par (lS ls)\/s=.own (ls.map tI))/\Nt m M rows.length b c fs q ls/\c<=m/\K=m-c) ?_ m _ ⟨[],rows,_,0,_,_,rfl,.inl rfl,start,qC6 _,rfl⟩;rintro K ρ ⟨fs,ls,q,c,s,a4,rfl,hs,h,b0,rfl⟩;have b3:=h.tot;by_cases hl:0<ls.length
 .have hc:c<m:=by
   refine qW5 b0 λe=>?_;subst e;cases ls with
   |nil=>simp at hl
   | cons l ls=>
    have:=h.ind (1::ls.map λ_=>0) Zy (λp hp=>?_) 1 qB8
    .show absurd this Zz
    .change 1*ent l p+lc (ls.map λ_=>0) ls p=0;rw[iM _ λx hx=>by obtain ⟨_,_,rfl⟩:=qB1.mp hx;rfl]
     have:ent l p=0:=h.lz 0 Zy p hp
     omega
  have d1:decide (0<(ls.length:Int))=true:=qQ0 ox;obtain ⟨_,k1,I,rfl,hg⟩:=nI (c:=c) (M:=MZ M c) (bs:=bsT b fs.length) (rows:=ls) hm hc (hM.z c) hl ox h.lb (λj hj=>⟨h.lm j hj,h.lz j hj⟩) (λj hj=>h9 _ _ ox) rfl;have b4:I.length=ls.length:=by rw[hg.len];omega
  have a0:L2.atI (I.map tI) 0=some (tI (I.getD 0 [])):=yN ox;have l0:=hg.rb.len;refine ⟨true,?_,?_⟩
  .rcases hs with rfl|rfl
   all_goals exists d1
  rw[qA2 rfl];have eL:∀N mg me ρ (h:∀row∈fs,∃a3,mg (tI row) (ρ++List.replicate (N-ρ.length) Sl.un)=some a3/\me a3=.ok (tI (n9 m row (upr (I.getD 0 []) c) c))),j7 N mg yes me (fs.map tI) ρ=.ok (lS (fs.map λrow=>n9 m row (upr (I.getD 0 []) c) c)):=λN mg me ρ h=>by
   rw[l5 (λrow=>tI (n9 m row (upr (I.getD 0 []) c) c)) _ _ ρ ox h]
   change _=R.ok (W.lst ((fs.map λrow=>n9 m row (upr (I.getD 0 []) c) c).map tI));rw[qC5];rfl
  have k2:=pj (c:=c) (row:=I.getD 0 []) hm hc l0;rcases hs with rfl|rfl
  all_goals
   exists k1,a0;by_cases h0:rA I 0 c=0
   .obtain ⟨e,h2⟩:=h.flat hc hl hg h0;have d2:decide ((I.getD 0 []).getD c 0=0)=true:=qQ0 h0;exists d2;show ⟨m-(c+1),ox,fs,I,q,c+1,_,_,rfl,.inr rfl,by rw[e];show h2,ox,rfl⟩
   .have h2:=h.pivot hM hc h9 hl hg h0;have d2:decide ((I.getD 0 []).getD c 0=0)=false:=qQ1 h0;have a9:(fs.map λrow=>n9 m row (upr (I.getD 0 []) c) c).length=fs.length:=qA7 _;have rl:Rb m 8998 (upr (I.getD 0 []) c):=rq (hg.rb.mono (h9 _ _ ox));have c2:aA true (lS (fs.map λrow=>n9 m row (upr (I.getD 0 []) c) c)) (.lst [tI (upr (I.getD 0 []) c)])=.ok (lS (fs.map (λrow=>n9 m row (upr (I.getD 0 []) c) c) ++ [upr (I.getD 0 []) c])):=by
     generalize (fs.map λrow=>n9 m row (upr (I.getD 0 []) c) c)=F at a9
     exists rp18
    exists d2,a0;rw[k2];exists rp18;rw[eL];rotate_left
    .intro row a5;obtain ⟨i,hi,rfl⟩:=qM5 a5;have hb:=h.fb i hi;rw[qA0,qA8 hi]at hb;have k3:=mz (c:=c) (row:=fs[i]) (lead:=upr (I.getD 0 []) c) hm hc hb rl (by
      rw[aH];have h0:ent (I.getD 0 []) c≠0:=h0
      split <;> omega) (qD4 (rl.bd c hc) (qU9 Zz ox)) ox ox
     refine ⟨_,rfl,?_⟩;exists k3
    exists c2,mX;show ⟨m-(c+1),ox,_,_,_,c+1,_,_,rfl,.inr rfl,h2,ox,rfl⟩
 .have d1:decide (0<(ls.length:Int))=false:=qQ1 ox;have hl0:ls.length=0:=ox;refine ⟨false,?_,?_⟩
  .rcases hs with rfl|rfl
   all_goals exists d1
  rw[qA4 Zz];rcases hs with rfl|rfl
  all_goals
   exists rp18;refine ⟨fs,q,rfl,ox,h.ech,h.fm,λi hi=>(h.fb i hi).len,λx hx=>?_⟩;rcases h.gn x hx with a|⟨_,cs,hcl,hv⟩
   .show .inr a
   .refine .inl λp hp=>?_;rw[hv p hp];show gG λj hj=>absurd hj ox
def dR (hE:Ech m rs q) (hG:Gen m L rs q) (I:Ech m rs' q') (a3:∀i,i<rs'.length->L (rA rs' i)) (hi:i<rs'.length) (h:∀k,k<i->k<rs.length->q k=q' k) (hk:i<=rs.length):i<rs.length/\q i<=q' i:=by
 have p1:=I.pos i hi;rcases hG _ (a3 i hi) with z|⟨k,hkr,h1,h2,_⟩
 .rw[z _ (I.lt i hi)]at p1;show absurd p1 Zz
 .have e:q' i=q k:=by
   rcases qH5 (q' i) (q k) with z|z|z
   .rw[h1 _ z]at p1;show absurd p1 Zz
   .show z
   .show absurd (I.z i hi _ z) h2
  have a4:i<=k:=by
   rcases Nat.lt_or_ge k i with z|z
   .have a1:=h k z hkr;have a2:=I.inc k i z hi;omega
   .show z
  refine ⟨ox,?_⟩;rw[e];rcases Nat.lt_or_ge i k with z|z
  .show qI8 (hE.inc i k z hkr)
  .have:i=k:=ox
   rw[this];show qB2 _
def AO (hE:Ech m rs q) (hG:Gen m L rs q) (hM:∀i,i<rs.length->L (rA rs i)) (I:Ech m rs' q') (a4:Gen m L rs' q') (a3:∀i,i<rs'.length->L (rA rs' i)):rs'.length=rs.length/\∀i,i<rs.length->q i=q' i:=by
 have key:∀n,∀i,i<n->i<rs.length->i<rs'.length->q i=q' i:=by
  intro n
  induction n with
  |zero=>intro i hi;show absurd hi (qD3 _)
  | succ n ih=>
   intro i hi h1 h2;have a:=dR hE hG I a3 h2 (λk hk hr=>ih k ox hr ox) ox;have b:=dR I a4 hE hM h1 (λk hk hr=>(ih k ox ox hr).symm) ox;omega
 have hl:rs'.length=rs.length:=by
  rcases qH5 rs'.length rs.length with z|z|z
  .have:=dR I a4 hE hM (i:=rs'.length) z (λk hk hr=>(key rs.length k ox ox hr).symm) (qB2 _)
   omega
  .show z
  .have:=dR hE hG I a3 (i:=rs.length) z (λk hk hr=>key rs.length k ox hr ox) (qB2 _)
   omega
 show ⟨hl,λi hi=>key rs.length i hi hi ox⟩
def Ech.ind:∀{rs:Vw}{q:Nat->Nat},Ech m rs q->Ind m rs
 | [],_,_=>λcs hl _ c hc=>by
  have:cs = []:=List.eq_nil_of_length_eq_zero hl
  rw[this]at hc;cases hc
 | r::rs,q,h=>λcs hl hz c hc=>by
  obtain ⟨c0,ds,rfl,hd⟩:=bh hl;have g:∀i,rA (r::rs) (i+1)=rA rs i:=λi=>by unfold rA;rw[w6]
  have h':Ech m rs λi=>q (i+1):=⟨λi hi=>h.lt (i+1) (by simpa using hi),λi j a b=>h.inc (i+1) (j+1) ox (by simpa using b),λi hi p hp=>by have:=h.z (i+1) (by simpa using hi) p hp;rwa [g]at this,λi hi=>by have:=h.pos (i+1) (by simpa using hi);rwa [g]at this,λi j a b=>by have:=h.red (i+1) (j+1) ox (by simpa using b);rwa [g,g]at this⟩;have q0:=h.lt 0 Zy;have I:c0=0:=by
   have e:=hz (q 0) q0;change c0*ent r (q 0)+lc ds rs (q 0)=0 at e
   rw [gG λj hj=>by
    have:=h.z (j+1) (by simpa using hj) (q 0) (h.inc 0 (j+1) ox (by simpa using hj))
    rwa [g]at this,qU8]at e
   have p:=h.pos 0 Zy;change 1<=ent r (q 0) at p;rcases qZ2.mp e with z|z
   .show z
   .omega
  rcases qB5.mp hc with e|e
  .rw[e,I]
  .refine h'.ind ds hd (λp hp=>?_) c e
   have:=hz p hp
   change c0*ent r p+lc ds rs p=0 at this
   rwa [I,qJ0,qU7]at this
def tU:∀{cs:Vk}{rs:Vw}{i:Nat}{t:Int},cs.length=rs.length->i<rs.length->lc (cs.set i (cs.getD i 0+t)) rs p=lc cs rs p+t*rA rs i p
 | c::cs,r::rs,0,t,_,_=>by
  change (c+t)*ent r p+lc cs rs p=c*ent r p+lc cs rs p+t*ent r p;rw[qN3];omega
 | c::cs,r::rs,i+1,t,h,hi=>by
  have e:rA (r::rs) (i+1) p=rA rs i p:=by unfold rA;rw[w6]
  rw[e]
  change c*ent r p+lc (cs.set i ((c::cs).getD (i+1) 0+t)) rs p=c*ent r p+lc cs rs p+_;rw[w6,tU (by simpa using h) (by simpa using hi)];omega
 | [],[],_,_,_,hi=>absurd hi (qD3 _)
 | [],_::_,_,_,h,_=>by cases h
 |_::_,[],_,_,h,_=>by cases h
def Gen.sp (hL:Lat L) (hE:Ech m rs q) (hG:Gen m L rs q) (hM:∀i,i<rs.length->L (rA rs i)):∀(d k:Nat),k+d=m->∀v,L v->(∀p,p<k->v p=0)->Spn m rs v
 | 0,k,hk,v,_,hz=>⟨rs.map λ_=>0,Zy,λp I=>by
  rw[hz p ox,iM _ λx hx=>by obtain ⟨_,_,rfl⟩:=qB1.mp hx;rfl]⟩
 | d+1,k,hk,v,hv,hz=>by
  by_cases h0:v k=0
  .show Gen.sp hL hE hG hM d (k+1) ox v hv λp I=>if e:p=k then e ▸ h0 else hz p ox
  .rcases hG v hv with a|⟨i,hi,a1,a2,a3⟩
   .show absurd (a k ox) h0
   .have e:q i=k:=by
     rcases qH5 (q i) k with z|z|z
     .show absurd (hz _ z) a2
     .show z
     .show absurd (a1 _ z) h0
    obtain ⟨t,ht⟩:=a3;have hw:=hL.lin 1 (-t) hv (hM i hi);have hs:=Gen.sp hL hE hG hM d (k+1) ox _ hw λp I=>by
     change 1*v p + -t*rA rs i p=0;by_cases z:p=k
     .subst z;have a4:v p=rA rs i p*t:=e ▸ ht;rw[a4,Int.one_mul,qK6,qD9 t];omega
     .rw[hz p ox,hE.z i hi p ox];omega
    obtain ⟨cs,hl,hc⟩:=hs;refine ⟨cs.set i (cs.getD i 0+t),by simp [hl],λp I=>?_⟩;rw[tU hl hi,<- hc p I]
    change v p=1*v p + -t*rA rs i p+t*rA rs i p;rw[qK6];omega
def yy:∀(cs:Vk) (rs:Vw),dt n (lc cs rs) s=lc cs (rs.map λr=>dt n (ent r) s::r) 0
 | [],[]=>S3 λp _=>qJ0 _
 |_::_,[]=>S3 λp _=>qJ0 _
 | [],_::_=>S3 λp _=>qJ0 _
 | c::cs,r::rs=>by
  have h:=aZ n (ent r) (lc cs rs) s c 1;have e:(λp=>c*ent r p+1*lc cs rs p)=lc (c::cs) (r::rs):=funext λp=>by
   change _=c*ent r p+lc cs rs p;omega
  rw[e]at h;rw[h,yy cs rs]
  change _=c*dt n (ent r) s+_;omega
def iN {s:List Int->Int}:∀(cs:Vk) (rs:Vw),lc cs (rs.map λr=>s r::r) (p+1)=lc cs rs p
 | [],[]=>rfl
 |_::_,[]=>rfl
 | [],_::_=>rfl
 | c::cs,r::rs=>by
  change c*ent (s r::r) (p+1)+lc cs _ (p+1)=c*ent r p+lc cs rs p;rw[iN cs rs];unfold ent;rw[w6]
def Bb:Nat->Nat
 |0=>2142|1=>1054|2=>510|3=>238|4=>102|5=>34|_=>0
def Cb (r:Nat):Nat:=if r=6 then 0 else Bb r+3
structure Bal (n:Nat) (L:Vx->Prop) (rs:Vw) (q:Nat->Nat) (u:Nat->Nat->Int) (B:Nat):Prop where
 ech:Ech n rs q
 mem:∀i,i<rs.length->L (rA rs i)
 len:∀i,i<rs.length->(rs.getD i []).length=n
 gen:Gen n L rs q
 dia:Dia n L rs.length q u B
 b:B<=2^Bb rs.length
 c:∀p,p<n->U2 u p 0 rs.length<=2^Cb rs.length
def h9_6:∀r,r<=6->∀t,t<=6->∀j,j<=6->t+j<r->kp (bsT (Cb r+33) t) j<=8998:=Zv
def Ci (I:1<=r) (h6:r<=6):Bb (r-1)=2*Bb r+34:=by
 have:r=1\/r=2\/r=3\/r=4\/r=5\/r=6:=ox
 rcases this with rfl|rfl|rfl|rfl|rfl|rfl <;> rfl
abbrev wR (n:Nat)(s:Vx)(r:Vk):List Int:=dt n (ent r) s::r
abbrev ML (L:Vx->Prop)(n:Nat)(s:Vx)(x:Vx):Prop:=L (λp=>x (p+1))/\x 0=dt n (λp=>x (p+1)) s
def Lat.m (I:Lat L):Lat (ML L n s):=⟨λ{v w} a b h1 h2=>⟨I.lin a b h1.1 h2.1,by
 change a*v 0+b*w 0=dt n (λp=>a*v (p+1)+b*w (p+1)) s;rw[aZ,h1.2,h2.2]⟩⟩
def ya (r:Vk) (p:Nat):ent (wR n s r) (p+1)=ent r p:=by
 unfold ent;rw[w6]
def Bal.w (hL:Lat L) (hn:n<=6) (h:Bal n L rs q u B) (hr:rs.length<=6) (hs:∀p,p<n->(s p).natAbs<=1000000000):
  (∀j,j<(rs.map (wR n s)).length->Rb (n+1) (Cb rs.length+33) ((rs.map (wR n s)).getD j []))/\(∀j,j<(rs.map (wR n s)).length->ML L n s (rA (rs.map (wR n s)) j))/\Ind (n+1) (rs.map (wR n s))/\∀x,ML L n s x->Spn (n+1) (rs.map (wR n s)) x:=by
 have hl:(rs.map (wR n s)).length=rs.length:=qA7 _;have bd:∀i,i<rs.length->∀p,p<n->(rA rs i p).natAbs<=2^Cb rs.length:=λi hi p hp=>qA5 (h.dia.bound hL h.ech h.gen h.mem hi hp) (h.c p hp);refine ⟨λj I=>?_,λj I=>?_,λcs a3 hz=>?_,λx hx=>?_⟩
 .rw [hl]at I
  rw[dO I];refine ⟨by have:=h.len j I;change (_::rs.getD j []).length=n+1;rw[qD1,this],λp hp=>?_⟩;cases p with
  | zero=>
   change (dt n (ent (rs.getD j [])) s).natAbs<=_;refine qA5 (qA (bd j I) hs) ?_;rw[qO3]
   have:n*(2^Cb rs.length*1000000000)<=6*(2^Cb rs.length*1000000000):=qL7 _ hn
   refine qA5 this ?_;have e:(6*(2^Cb rs.length*1000000000))=2^Cb rs.length*6000000000:=ox;rw[e];show qH6 _ Zz
  | succ p=>
   rw[ya];show qA5 (bd j I p ox) (qI3 Zz ox)
 .rw [hl]at I
  have e:rA (rs.map (wR n s)) j=ent (wR n s (rs.getD j [])):=by
   change ent ((rs.map (wR n s)).getD j [])=_;rw[dO I]
  rw[e];have e2:(λp=>ent (wR n s (rs.getD j [])) (p+1))=rA rs j:=funext λp=>ya _ p;refine ⟨?_,?_⟩
  .rw[e2];show h.mem j I
  .rw[e2];rfl
 .rw [hl]at a3
  refine h.ech.ind cs a3 λp hp=>?_
  have:=hz (p+1) ox
  rwa [iN]at this
 .obtain ⟨cs,a3,hv⟩:=Gen.sp hL h.ech h.gen h.mem n 0 ox _ hx.1 λp hp=>absurd hp (qD3 _);refine ⟨cs,by rw[hl];show a3,λp hp=>?_⟩;cases p with
  | zero=>
   rw[hx.2]
   have:dt n (λp=>x (p+1)) s=dt n (lc cs rs) s:=G0 λp hp=>by rw[hv p hp]
   rw[this,yy]
  | succ p=>
   rw[iN];show hv p ox
def kpt (fs:Vw):List Vk:=(fs.filter λr=>decide (ent r 0=0)).map λr=>r.drop 1
def HX (r:Vk) (p:Nat):ent (r.drop 1) p=ent r (p+1):=by
 unfold ent;rw[qA0,qG4,qA0,qN7]
def AU (h:Ech (m+1) fs Q):∃off,kpt fs=(fs.drop off).map (λr=>r.drop 1)/\(∀i,i+off<fs.length->1<=Q (i+off))/\(off=0\/(off=1/\0<fs.length/\Q 0=0)):=by
 cases fs with
 |nil=>show ⟨0,rfl,λi hi=>absurd hi (qD3 _),.inl rfl⟩
 | cons I F=>
  have hF:F.filter (λr=>decide (ent r 0=0))=F:=by
   rw[List.filter_eq_self];intro r hr;obtain ⟨j,hj,rfl⟩:=qM5 hr
   have:=h.z (j+1) (by simpa using hj) 0 (by have:=h.inc 0 (j+1) ox (by simpa using hj);omega)
   have e:rA (I::F) (j+1) 0=ent F[j] 0:=by
    change ent ((I::F).getD (j+1) []) 0=_;rw[w6,qA0,qA8 hj];rfl
   rw[e]at this;show qQ0 this
  have p0:=h.pos 0 Zy;by_cases e:ent I 0=0
  .refine ⟨0,?_,λi hi=>?_,.inl rfl⟩
   .unfold kpt;rw[qY4,qA2 (qQ0 e),hF];rfl
   .have q0:Q 0≠0:=λz=>by
     rw[z]at p0;change 1<=ent I 0 at p0;omega
    cases i with
    |zero=>show qP1 q0
    |succ i=>have:=h.inc 0 (i+1) ox hi;change 1<=Q (i+1);omega
  .refine ⟨1,?_,λi hi=>?_,.inr ⟨rfl,Zy,?_⟩⟩
   .unfold kpt;rw[qY4,qA4 (by simpa using e),hF];rfl
   .have:=h.inc 0 (i+1) ox hi
    change 1<=Q (i+1);omega
   .rcases qW7 (Q 0) with z|z
    .show z
    .show absurd (h.z 0 Zy 0 z) e
def Bal.next (hL:Lat L) (hn:n<=6) (h:Bal n L rs q u B) (hr:rs.length<=6) (hs:∀p,p<n->(s p).natAbs<=1000000000) (bq:fs.length=rs.length) (hE:Ech (n+1) fs Q) (hM:∀i,i<fs.length->ML L n s (rA fs i)) (hlen:∀i,i<fs.length->(fs.getD i []).length=n+1) (hG:Gen (n+1) (ML L n s) fs Q):
  (kpt fs).length<=6/\∃q' u' B',Bal n (λv=>L v/\dt n v s=0) (kpt fs) q' u' B':=by
 obtain ⟨off,hk,a5,ab⟩:=AU hE;have a9:(kpt fs).length=fs.length-off:=by rw[hk,qA7,qH1]
 have I:∀i,i<(kpt fs).length->i+off<fs.length:=λi hi=>by rw[a9]at hi;omega
 have gd:∀i,i<(kpt fs).length->(kpt fs).getD i []=(fs.getD (i+off) []).drop 1:=λi hi=>by
  have h2:=I i hi;rw[hk,dO (by rw[qH1];omega),qA0,qG4,qN7 off i,<- qA0]
 have ra:∀i,i<(kpt fs).length->∀p,rA (kpt fs) i p=rA fs (i+off) (p+1):=λi hi p=>by
  change ent ((kpt fs).getD i []) p=_;rw[gd i hi,HX]
 have e1:∀{a:Nat},1<=a->a-1+1=a:=λ{a} h=>ox;have a7:Ech n (kpt fs) λi=>Q (i+off)-1:=by
  refine ⟨λi hi=>?_,λi j b5 hj=>?_,λi hi p hp=>?_,λi hi=>?_,λi j b5 hj=>?_⟩
  .have a:=hE.lt _ (I i hi);have b:=a5 i (I i hi)
   change Q (i+off)-1<n;omega
  .have a:=hE.inc (i+off) (j+off) ox (I j hj);have b:=a5 i (I i ox)
   change Q (i+off)-1<Q (j+off)-1;omega
  .rw [ra i hi]
   show hE.z _ (I i hi) _ (by have hp:p<Q (i+off)-1:=hp;omega)
  .rw [ra i hi,e1 (a5 i (I i hi))]
   show hE.pos _ (I i hi)
  .rw [ra i ox,ra j hj,e1 (a5 j (I j hj))]
   show hE.red _ _ ox (I j hj)
 have fe:∀i,i<(kpt fs).length->(λp=>rA fs (i+off) (p+1))=rA (kpt fs) i:=λi hi=>funext λp=>(ra i hi p).symm;have a8:∀i,i<(kpt fs).length->L (rA (kpt fs) i)/\dt n (rA (kpt fs) i) s=0:=λi hi=>by
  have a:=hM _ (I i hi);rw[<- fe i hi];refine ⟨a.1,?_⟩;rw[<- a.2];show hE.z _ (I i hi) 0 (a5 i (I i hi))
 have b0:Gen n (λv=>L v/\dt n v s=0) (kpt fs) λi=>Q (i+off)-1:=λv hv=>by
  obtain ⟨x,a4,hx⟩:∃x:Nat->Int,x 0=0/\∀p,x (p+1)=v p:=⟨λp=>match p with|0=>0|p+1=>v p,rfl,λ_=>rfl⟩;have xe:(λp=>x (p+1))=v:=funext hx;have mx:ML L n s x:=by
   refine ⟨by rw[xe];show hv.1,by rw[xe,a4];show hv.2.symm⟩
  rcases hG x mx with a|⟨k,hk1,a1,a2,a3⟩
  .show .inl λp hp=>by rw[<- hx];show a (p+1) ox
  .have qk:1<=Q k:=by
    rcases qW7 (Q k) with z|z
    .rw[z,a4]at a2;show absurd rfl a2
    .show z
   have ok:off<=k:=by
    rcases ab with z|⟨z,_,z0⟩
    .omega
    .rcases qW7 k with y|y
     .rw[y,z0]at qk;omega
     .omega
   have ek:k-off+off=k:=ox;have b3:k-off<(kpt fs).length:=by rw[a9];omega
   refine .inr ⟨k-off,b3,λp hp=>?_,?_,?_⟩
   .have hp:p<Q (k-off+off)-1:=hp;rw[ek]at hp;rw[<- hx];show a1 _ ox
   .dsimp only;rw[ek,<- hx,e1 qk];show a2
   .dsimp only;rw[ra _ b3,ek,e1 qk,<- hx,e1 qk];show a3
 have a6:∀i,i<(kpt fs).length->((kpt fs).getD i []).length=n:=λi hi=>by
  rw[gd i hi,qH1,hlen _ (I i hi)];rfl
 refine ⟨by rw[a9];omega,?_⟩;rcases Dia.next hL h.ech h.gen h.dia hs a7 a8 with ⟨hz,_⟩|⟨⟨k,hkr,hk0⟩,u',hD'⟩
 .-- nothing new
  have same:∀v,L v->dt n v s=0:=λv hv=>Dia.still hL h.gen h.dia rs.length 0 ox (λk _ hk=>hz k hk) v hv λk hk=>absurd hk (qD3 _);have ba:Gen n L (kpt fs) λi=>Q (i+off)-1:=λv hv=>b0 v ⟨hv,same v hv⟩;obtain ⟨l1,l2⟩:=AO h.ech h.gen h.mem a7 ba λi hi=>(a8 i hi).1;refine ⟨_,u,B,a7,a8,a6,b0,⟨λi hi=>⟨h.dia.mem i ox,hz i ox⟩,λi hi=>?_,λi j hi hj e=>?_,λi hi=>h.dia.bd i ox⟩,by rw[l1];show h.b,λp hp=>by rw[l1];show h.c p hp⟩
  .rw[<- l2 i ox];show h.dia.ne i ox
  .rw[<- l2 j ox];show h.dia.off i j ox ox e
 .-- one row fewer
  have h1:1<=rs.length:=ox;have b4:off=1:=by
   rcases ab with z|⟨z,_⟩
   .obtain ⟨x,a4,hx⟩:∃x:Nat->Int,x 0=dt n (u k) s/\∀p,x (p+1)=u k p:=⟨λp=>match p with|0=>dt n (u k) s|p+1=>u k p,rfl,λ_=>rfl⟩;have xe:(λp=>x (p+1))=u k:=funext hx;rcases hG x ⟨by rw[xe];show h.dia.mem k hkr,by rw[xe];show a4⟩ with a|⟨j,hj,a1,_,_⟩
    .have:=a 0 ox
     rw[a4]at this;show absurd this hk0
    .have:=a5 j ox
     rw[z,qP0]at this
     have:=a1 0 ox
     rw[a4]at this;show absurd this hk0
   .show z
  have bc:(kpt fs).length=rs.length-1:=by rw[a9,b4,bq]
  have hB:2*(n*(B*1000000000)*B)<=2^Bb (kpt fs).length:=by
   rw[bc,Ci h1 hr];have b1:=h.b;have b2:=qG7 b1 b1;rw[<- qO3]at b2;have e:2*(n*(B*1000000000)*B)=2*n*1000000000*(B*B):=by ac_rfl
   rw[e,show 2*Bb rs.length+34=34+(Bb rs.length+Bb rs.length) by omega,qO3];show qG7 (qA5 (qL7 _ (qH6 2 hn)) Zz) b2
  refine ⟨_,u',_,a7,a8,a6,b0,hD',hB,λp hp=>?_⟩;refine qA5 (oU (λi hi=>qA5 (hD'.bd i hi p hp) hB) (kpt fs).length 0 ox) ?_;have hc:Cb (kpt fs).length=Bb (kpt fs).length+3:=qA4 ox;rw[hc,qO3,qY5];show qH6 _ ox
def uL (n i:Nat):List Int:=(List.range n).map λp=>if p=i then 1 else 0
def HW (h:p<n):ent (uL n i) p=if p=i then 1 else 0:=D7 h
def Bal.start (hn:n<=6):Bal n (λ_=>True) ((List.range n).map (uL n)) (λi=>i) (λi p=>if p=i then 1 else 0) 1:=by
 have hl:((List.range n).map (uL n)).length=n:=Zy;have g:∀i,i<n->((List.range n).map (uL n)).getD i []=uL n i:=λi hi=>by
  rw[qA0,qC0,List.getElem?_range hi];rfl
 have ra:∀i,i<n->∀p,p<n->rA ((List.range n).map (uL n)) i p=if p=i then 1 else 0:=λi hi p I=>by
  change ent (((List.range n).map (uL n)).getD i []) p=_;rw[g i hi,HW I]
 have cs:∀(p d t:Nat),U2 (λi p=>if p=i then 1 else 0) p t d<=(if t<=p then 1 else 0):=λp d=>by
  induction d with
  |zero=>intro t;show qC6 _
  | succ d ih=>
   intro t
   have:=ih (t+1)
   change (if p=t then (1:Int) else 0).natAbs+U2 _ p (t+1) d<=_;by_cases e:p=t
   .subst e;rw[qA4 ox]at this;rw[qA2 rfl,qA2 (qB2 _)]
    have:(1:Int).natAbs=1:=rfl
    omega
   .rw [qA4 e]
    have z:(0:Int).natAbs=0:=rfl;by_cases e2:t<=p
    .rw [qA2 ox]at this
     rw[qA2 e2];omega
    .rw [qA4 ox]at this
     rw[qA4 e2];omega
 refine ⟨⟨λi hi=>by rw[hl]at hi;show hi,λi j h _=>h,λi hi p I=>?_,λi hi=>?_,λi j a3 hj=>?_⟩,λ_ _=>trivial,λi hi=>?_,λv _=>?_,⟨λ_ _=>trivial,λi hi=>?_,λi k hi hk e=>?_,λi hi p I=>?_⟩,?_,λp I=>?_⟩
 .rw [hl]at hi
  rw[ra i hi p ox,qA4 ox]
 .rw [hl]at hi
  rw[ra i hi i hi,qA2 rfl];show qH0 _
 .rw [hl]at hj
  rw[ra i ox j hj,ra j hj j hj,qA4 ox,qA2 rfl];decide
 .rw [hl]at hi
  rw[g i hi];simp [uL]
 .by_cases h:∀p,p<n->v p=0
  .show .inl h
  .refine .inr ?_
   have:∃i,i<n/\v i≠0/\∀p,p<i->v p=0:=by
    have key:∀k,k<=n->(∀p,p<k->v p=0)\/∃i,i<k/\v i≠0/\∀p,p<i->v p=0:=by
     intro k
     induction k with
     |zero=>intro _;show .inl λp I=>absurd I (qD3 _)
     | succ k ih=>
      intro hk;rcases ih ox with a|⟨i,h1,h2⟩
      .by_cases e:v k=0
       .show .inl λp I=>if z:p=k then z ▸ e else a p ox
       .show .inr ⟨k,ox,e,a⟩
      .show .inr ⟨i,ox,h2⟩
    rcases key n (qB2 _) with a|a
    .show absurd a h
    .show a
   obtain ⟨i,hi,h1,h2⟩:=this;show ⟨i,by rw[hl];show hi,h2,h1,by rw[ra i hi i hi,qA2 rfl];show Int.one_dvd _⟩
 .change (if i=i then (1:Int) else 0)≠0;rw[qA2 rfl];decide
 .change (if k=i then (1:Int) else 0)=0;rw[qA4 λz=>e z.symm]
 .change (if p=i then (1:Int) else 0).natAbs<=1
  split <;> decide
 .show qW6
 .refine qA5 (cs p _ 0) ?_;rw[qA2 (qC6 _)];show qW6
def zd {n i:Nat}(hn:n<=6):mM [.int (i:Int),.int (n:Int)]=.ok (tI (uL n i)):=by
 have e:∀N mg me ρ (h:∀p∈List.range n,∃I,mg (.int (p:Nat)) (ρ++List.replicate (N-ρ.length) Sl.un)=some I/\me I=.ok (.int (if p=i then 1 else 0))),j7 N mg yes me ((List.range n).map λp=>W.int (p:Nat)) ρ=.ok (lI (uL n i)):=λN mg me ρ h=>by
  rw[l5 (λp=>W.int (if p=i then 1 else 0)) _ _ ρ (by simp;omega) h,av];rfl
 exists rpB,tG;rw[e]
 .exists rp18
 .intro p hp;refine ⟨_,rfl,?_⟩;by_cases q:p=i
  .have d:decide ((p:Int)=(i:Int))=true:=qQ0 (by rw[q]);exists P6,d;rw[qA2 q]
  .have d:decide ((p:Int)=(i:Int))=false:=qQ1 ox;exists P6,d;rw[qA4 q]
def cu (f:Vx):∀n:Nat,((List.range n).map f).sum=B7 n f
 |0=>rfl
 | n+1=>by
  rw[qZ1,qC9,List.sum_append,cu f n]
  change _+(f n+0)=B7 n f+f n;omega
abbrev vec (m:Nat)(x:Vx):List Int:=(List.range m).map x
def eR (h6:m<=6) (hy:y.length=m) (hd:d.length=m) (hm:∀p,p<m->-18446744073709551616<d.getD p 0/\d.getD p 0<18446744073709551616):aV [tI y,tI d]=.ok (.int (dt m (ent y) (ent d))):=by
 have hz:=W7 (tI y) (tI d) _ _ rfl rfl;rw[Q2 (by rw[hy,hd]),hy]at hz;have e:∀N mg me ρ (h:∀j∈List.range m,∃I,mg (.tup [.int (y.getD j 0),.int (d.getD j 0)]) (ρ++List.replicate (N-ρ.length) Sl.un)=some I/\me I=.ok (.int (y.getD j 0*d.getD j 0))),j7 N mg yes me ((List.range m).map λj=>W.tup [.int (y.getD j 0),.int (d.getD j 0)]) ρ=.ok (lI (vec m λj=>y.getD j 0*d.getD j 0)):=λN mg me ρ h=>by
  rw[l5 (λj=>.int (y.getD j 0*d.getD j 0)) _ _ ρ (by simp;omega) h,av]
 have gs:G7 (vec m λj=>y.getD j 0*d.getD j 0)=dt m (ent y) (ent d):=cu _ _;exists rpB,oy,hz;rw[e]
 .exists gs
 .intro j hj;have m1:=gw (i:=y.getD j 0) (hm j (by simpa using hj));refine ⟨_,rfl,?_⟩;exists m1
def xz (h:xs.length+ys.length<=1000):fCatT (tI xs) (tI ys)=.ok (tI (xs++ys)):=by
 change (if (xs.map W.int).length+(ys.map W.int).length<=1000/\m8 (xs.map W.int)=true/\m8 (ys.map W.int)=true then _ else _)=_;rw[qA2 ⟨by rw[qA7,qA7];show h,B5 xs,B5 ys⟩,<- qC9]
def GM (r:Vk):iZ r (some 1) none=r.drop 1:=by
 unfold iZ;rw[HT.sIx_none,show ((1:Int))=((1:Nat):Int) from rfl,HT.sIx_nat];cases r with
 |nil=>rfl
 |cons r rs=>simp
def stp (m:Mv)(p:Nat):Int:=m.2.getD p 0-m.1.getD p 0
def JI (r:Nat):Cb r<=2145:=by
 unfold Cb
 split
 .decide
 .unfold Bb;split <;> decide
def Ker (n:Nat)(ms:List Mv)(v:Vx):Prop:=∀m∈ms,dt n v (stp m)=0
def nJ (hn:n<=6) (h8:ms.length<=8) (b0:∀m∈ms,okN n m/\(∀x∈m.1,x<=1000000000)/\∀x∈m.2,x<=1000000000):Ok (P4 [tM_ ms,.int (n:Int)]) λv=>∃rs q,v=lS rs/\rs.length<=6/\Ech n rs q/\(∀i,i<rs.length->Rb n 2145 (rs.getD i []))/\(∀i,i<rs.length->Ker n ms (rA rs i))/\Gen n (Ker n ms) rs q:=by
 have eu:∀N mg me ρ (h:∀i∈List.range n,∃I,mg (.int (i:Nat)) (ρ++List.replicate (N-ρ.length) Sl.un)=some I/\me I=.ok (tI (uL n i))),j7 N mg yes me ((List.range n).map λi=>W.int (i:Nat)) ρ=.ok (lS ((List.range n).map (uL n))):=λN mg me ρ h=>by
  rw[l5 (λi=>tI (uL n i)) _ _ ρ (by simp;omega) h]
  change _=R.ok (W.lst (((List.range n).map (uL n)).map tI));rw[qC5];rfl
 exists rpB,gB;rw[eu];rotate_left
 .intro i hi;have k:=zd (i:=i) hn;refine ⟨_,rfl,?_⟩;exists k
 exists rp18;refine p7 (t9 (λi ρ=>∃(rs:Vw) (a3 a4 a5:Sl),ρ = [.par (tM_ ms),.par (.int (n:Int)),.own (rs.map tI),a3,a4,a5]/\rs.length<=6/\∃L q u B,Lat L/\(∀v,L v↔∀j m,j<i->ms[j]?=some m->dt n v (stp m)=0)/\Bal n L rs q u B) ⟨_,_,_,_,rfl,by simp;omega,_,_,_,_,⟨λ_ _ _ _=>trivial⟩,λ_=>⟨λ_ j m hj=>absurd hj (qD3 _),λ_=>trivial⟩,Bal.start hn⟩ ?_ ?_)
 .rintro i w ρ hu ⟨rs,a3,a4,a5,rfl,a8,L,q,u,B,hL,a6,hB⟩;obtain ⟨m,hm,ab,rfl⟩:=W3 hu;obtain ⟨hk,b4,b3⟩:=b0 m hm;have k1:=jM hn hk;have sb:∀p,p<n->-1000000000<=stp m p/\stp m p<=1000000000:=λp hp=>by
   have a1:=dM hk.2.2.1 p;have a2:=dM hk.2.2.2 p;have b1:=memD b4 (i:=p) (by rw[hk.1];show hp);have b2:=memD b3 (i:=p) (by rw[hk.2.1];show hp);unfold stp;omega
  obtain ⟨h1,h2,h3,h4⟩:=hB.w (s:=stp m) hL hn a8 λp hp=>by have:=sb p hp;omega
  have ba:(rs.map (wR n (stp m))).length=rs.length:=qA7 _;obtain ⟨_,k2,fs,Q,rfl,f1,f2,f3,f4,f5⟩:=Au ox (hL.m (n:=n) (s:=stp m)) ox h1 h2 h3 h4 (λt j bc=>h9_6 _ a8 t ox j ox ox);obtain ⟨g6,q',u',B',b5⟩:=hB.next hL hn a8 (s:=stp m) (λp hp=>by have:=sb p hp;omega) ox f2 f3 f4 f5;have ew:∀N mg me ρ (h:∀r∈rs,∃I,mg (tI r) (ρ++List.replicate (N-ρ.length) Sl.un)=some I/\me I=.ok (tI (wR n (stp m) r))),j7 N mg yes me (rs.map tI) ρ=.ok (lS (rs.map (wR n (stp m)))):=λN mg me ρ h=>by
   rw[l5 (λr=>tI (wR n (stp m) r)) _ _ ρ ox h]
   change _=R.ok (W.lst ((rs.map (wR n (stp m))).map tI));rw[qC5];rfl
  have ef:∀N mg mc me ρ (h:∀r∈fs,∃I,mg (tI r) (ρ++List.replicate (N-ρ.length) Sl.un)=some I/\mc I=.ok (decide (ent r 0=0))/\(decide (ent r 0=0)=true->me I=.ok (tI (r.drop 1)))),j7 N mg mc me (fs.map tI) ρ=.ok (lS (kpt fs)):=λN mg mc me ρ h=>by
   rw[y9 (λr=>tI (r.drop 1)) _ (λr=>decide (ent r 0=0)) fs ρ ox h]
   change _=R.ok (W.lst ((kpt fs).map tI));unfold kpt;rw[qC5];rfl
  refine ⟨_,rfl,?_⟩;exists k1;rw[ew];rotate_left
  .intro r hr;obtain ⟨j,hj,rfl⟩:=qM5 hr;have a7:=hB.len j hj;rw[qA0,qA8 hj]at a7;change rs[j].length=n at a7;have k3:=eR (y:=rs[j]) (d:=(List.range n).map λk=>m.2.getD k 0-m.1.getD k 0) hn a7 Zy λp hp=>by
    rw[D7 hp]
    have:=sb p hp
    unfold stp at this;omega
   have e3:dt n (ent rs[j]) (ent ((List.range n).map λk=>m.2.getD k 0-m.1.getD k 0))=dt n (ent rs[j]) (stp m):=G0 λp hp=>by
    change _*((List.range n).map λk=>m.2.getD k 0-m.1.getD k 0).getD p 0=_;rw[D7 hp];rfl
   rw[e3]at k3;have k4:fCatT (.tup [.int (dt n (ent rs[j]) (stp m))]) (tI rs[j])=.ok (tI (wR n (stp m) rs[j])):=xz (xs:=[dt n (ent rs[j]) (stp m)]) (by simp;omega);refine ⟨_,rfl,?_⟩;exists k3,k4
  exists rp18;rw[k2];exists rp18;rw[ef];rotate_left
  .intro r hr;obtain ⟨j,hj,rfl⟩:=qM5 hr;have a7:=f4 j hj;rw[qA0,qA8 hj]at a7;change fs[j].length=n+1 at a7;refine ⟨_,rfl,?_,λ_=>?_⟩
   .exists rp18;rfl
   .exists GM
  exists rp18;refine ⟨kpt fs,_,_,_,rfl,g6,_,q',u',B',⟨λa b h1 h2=>⟨hL.lin a b h1.1 h2.1,by rw[aZ,h1.2,h2.2];omega⟩⟩,λv=>⟨λhv j m' hj a9=>?_,λhv=>⟨(a6 v).mpr λj m' hj a9=>hv j m' ox a9,hv i m ox ab⟩⟩,b5⟩;by_cases e:j=i
  .subst e;rw[ab]at a9;cases a9;show hv.2
  .show (a6 v).mp hv.1 j m' ox a9
 .rintro ρ ⟨rs,a3,a4,a5,rfl,a8,L,q,u,B,hL,a6,hB⟩;rw[qA7]at a6;have eK:L=Ker n ms:=funext λv=>propext ⟨λhv m hm=>by
   obtain ⟨j,hj,rfl⟩:=qM5 hm;show (a6 v).mp hv j _ hj (qA8 hj),λhv=>(a6 v).mpr λj m _ hm=>hv m (qG3 hm)⟩
  subst eK;exists rp18;show ⟨rs,q,rfl,a8,hB.ech,λi hi=>⟨hB.len i hi,λp hp=>qA5 (hB.dia.bound hL hB.ech hB.gen hB.mem hi hp) (qA5 (hB.c p hp) (qI3 Zz (JI _)))⟩,hB.mem,hB.gen⟩
def FlEnd.K (h:FlEnd b ms most es wh):∃A T,FlK b ms es A T:=by
 rcases h.2 with ⟨_,h⟩|⟨_,_,A,T,_,h,_⟩
 .show ⟨_,_,h⟩
 .show ⟨_,_,h⟩
def zj (hl:es.length<=100):ay [.lst (C6 b es)]=.ok (lS (stS b es)):=by
 rw[Dp,<- st_O];have I:(none::es.map some).length<=1000:=by rw[qD1,qA7];omega
 generalize (none::es.map some)=os at I
 exists rpB,eC;rw[l5 (λo=>tI (stO b o)) (pE b) os _ I λo _=>?_]
 .exists rp18;rw[show lS (os.map (stO b))=.lst ((os.map (stO b)).map tI) from rfl,qC5];rfl
 .cases o with
  | none=>
   have a0:L2.atI [tI b,W.non,W.non] 0=some (tI b):=rfl;have ct:=n5 (t4 b);refine ⟨_,rfl,?_⟩
   change _=R.ok (tI b);exists pE,a0,ct
  | some q=>
   have a0:L2.atI [tI q.1,W.int (q.2.1:Int),W.int (q.2.2:Int)] 0=some (tI q.1):=rfl;have ct:=n5 (t4 q.1);refine ⟨_,rfl,?_⟩
   change _=R.ok (tI q.1);exists pE,a0,ct
def FP (p:Vk):∀qs:List Vk,iQ (tI p) (qs.map tI)=qs.findIdx? λq=>decide (q=p)
 | []=>rfl
 | q::qs=>by
  have g:=FP p qs;have e:PyData.eqv (pd (tI q)) (pd (tI p))=decide (q=p):=eqI q p;unfold iQ at g ⊢;rw[qB9,pds,List.findIdx?_cons,List.findIdx?_cons,e,g]
def FQ {qs:Vw}(h:p∈qs) (hl:qs.length<=100):∃j:Nat,fE (qs.map tI) (tI p)=.ok (.int (j:Int))/\∃I:j<qs.length,qs[j]=p:=by
 cases e:qs.findIdx? λq=>decide (q=p) with
 | none=>
  rw[qS5]at e;show absurd (e p h) Zy
 | some j=>
  have e':=e;rw[qI9]at e';obtain ⟨I,hp,_⟩:=e';refine ⟨j,?_,I,qQ3 hp⟩;unfold fE;rw[O1,cC,qM7,qA2 rfl,FP,e];show qA2 ox
def ulB (b s w:Vk):Bool:=!decide (dt s.length (ent w) (ent s)=dt s.length (ent w) (ent b))
def qJ:Option Vk->W
 |some w=>.tup [.str "balance",tI w]
 |none=>.non
def Gb {rs:Vw}(hi:i<rs.length) (hb:f (rs.getD i [])=true) (I:∀k,k<i->f (rs.getD k [])=false):rs.find? f=some (rs.getD i []):=by
 have g:∀k (hk:k<rs.length),rs.getD k []=rs[k]:=λk hk=>by rw[qA0,qA8 hk];rfl
 rw[List.find?_eq_some_iff_getElem];refine ⟨hb,i,hi,(g i hi).symm,λj hj=>?_⟩;rw[<- g j ox,I j hj];rfl
def Gc {rs:Vw}(I:∀k,k<rs.length->f (rs.getD k [])=false):rs.find? f=none:=by
 rw[List.find?_eq_none];intro x hx;obtain ⟨q,hq,e⟩:=qE2.mp hx
 have:=I q hq
 rw[qA0,qA8 hq,e]at this;simpa using this
abbrev Z5 (s:Vk):Prop:=∀p,p<s.length->-18446744073709551616<s.getD p 0/\s.getD p 0<18446744073709551616
def rB (h6:s.length<=6) (a4:b.length=s.length) (a3:∀r∈rs,r.length=s.length) (hk:P4 [tM_ ms,.int (s.length:Int)]=.ok (lS rs)) (h1:Z5 s) (h2:Z5 b):G9 [.tup [tI b,tM_ ms],tI s]=.ok (qJ (rs.find? (ulB b s))):=by
 have a0:L2.atI [tI b,tM_ ms] 0=some (tI b):=rfl;have a1:L2.atI [tI b,tM_ ms] 1=some (tM_ ms):=rfl;have fin:Ok (G9 [.tup [tI b,tM_ ms],tI s]) λv=>v=qJ (rs.find? (ulB b s)):=by
  exists rpB,Y1,a1,hk;refine p7 (t9 (λi ρ=>∃x,ρ = [.par (.tup [tI b,tM_ ms]),.par (tI s),x]/\∀k,k<i->ulB b s (rs.getD k [])=false) ⟨_,rfl,λk hk=>absurd hk (qD3 _)⟩ ?_ ?_)
  .rintro i u ρ hu ⟨x,rfl,I⟩;obtain ⟨hi,rfl⟩:=aP hu;have hl:=a3 _ (fx hi);have fs:=Gb (f:=ulB b s) hi;generalize hw:rs.getD i []=w at hl fs ⊢
   have k1:=eR (y:=w) (d:=s) h6 hl rfl h1;have k2:=eR (y:=w) (d:=b) h6 hl a4 λp hp=>h2 p ox;have cw:=n5 (t4 w);refine ⟨_,rfl,?_⟩;exists a0,k1,k2,P6;refine bF (λh=>?_) (λh=>?_)
   .exists cw;rw[fs h I];rfl
   .exists rp18;refine ⟨_,rfl,λk hk=>?_⟩;by_cases e:k=i
    .subst e;rw[hw];show h
    .show I k ox
  .rintro ρ ⟨x,rfl,I⟩;rw[qA7]at I;exists rp18;rw[Gc I];rfl
 obtain ⟨v,e,rfl⟩:=fin;show e
def emp (s:Vk):List Int:=((List.range s.length).filter λk=>decide (s.getD k 0=0)).map λ(k:Nat)=>(k:Int)
def W5 (h6:s.length<=6):okP s.length (emp s):=by
 constructor
 .intro p I;obtain ⟨k,hk,rfl⟩:=qB1.mp I
  have:k<s.length:=by simpa using (qG8.mp hk).1
  omega
 .unfold emp;rw[qA7]
  have:=qO0 (λk=>decide (s.getD k 0=0)) (List.range s.length)
  rw[qF5]at this;omega
def BI (h:p∈emp s):s.getD p.toNat 0=0:=by
 obtain ⟨k,hk,rfl⟩:=qB1.mp h;rw[qF8];show qQ3 (qG8.mp hk).2
def xE (s:Vk):((s.map W.int).mapIdx λi x=>W.tup [.int (i:Int),x])=(List.range s.length).map λ(k:Nat)=>W.tup [.int (k:Int),.int (s.getD k 0)]:=by
 apply qK3
 .simp
 .intro i I h2;have hi:i<s.length:=by simpa using I
  simp [hi]
def oJ (h6:s.length<=6):L9 [tI s]=.ok (tI (emp s)):=by
 have he:R0 [tI s]=.ok ((List.range s.length).map λ(k:Nat)=>W.tup [.int (k:Int),.int (s.getD k 0)]):=congrArg R.ok (xE s);have e:∀N mg mc me ρ,(∀k:Nat,k<s.length->∃I,mg (.tup [.int (k:Int),.int (s.getD k 0)]) (ρ++List.replicate (N-ρ.length) Sl.un)=some I/\mc I=.ok (decide (s.getD k 0=0))/\me I=.ok (.int (k:Int))) ->
   j7 N mg mc me ((List.range s.length).map λ(k:Nat)=>W.tup [.int (k:Int),.int (s.getD k 0)]) ρ=.ok (lI (emp s)):=λN mg mc me ρ h=>by
  have:=y9 (N':=N) (mg:=mg) (mc:=mc) (me:=me) (λk:Nat=>W.int (k:Int)) (λk:Nat=>W.tup [.int (k:Int),.int (s.getD k 0)]) (λk=>decide (s.getD k 0=0)) (List.range s.length) ρ (by simp;omega) λk hk=>by
   obtain ⟨I,e1,e2,e3⟩:=h k (by simpa using hk);show ⟨I,e1,e2,λ_=>e3⟩
  rw[this];unfold lI emp;rw[qC5];rfl
 exists rpB,aS,he;rw[e]
 .exists rp18
 intro k hk;refine ⟨_,rfl,?_⟩;exists rp18
def aw (b s dq wq:Vk):W:=if l9 s dq=true then .tup [.str "dry",tI dq] else if l9 b wq=true then .tup [.str "wet",tI wq] else .non
def AV (h6:s.length<=6) (h8:ms.length<=8) (a3:b.length=s.length) (hd:B6 [tM_ ms,tI (emp b)]=.ok (tI dq)) (hw:B6 [tM_ (ms.map swp),tI (emp s)]=.ok (tI wq)) (od:okP s.length dq) (ow:okP s.length wq):V5 [.tup [tI b,tM_ ms],tI s]=.ok (aw b s dq wq):=by
 have a0:L2.atI [tI b,tM_ ms] 0=some (tI b):=rfl;have a1:L2.atI [tI b,tM_ ms] 1=some (tM_ ms):=rfl;have k1:=oJ (s:=b) ox;have k2:=oJ (s:=s) h6;have k3:Q8 [tM_ ms,tI (emp s)]=.ok (tI wq):=by
  have t:=rD (ms:=ms) h8;exists rpB,aQ,t,hw
 have t1:=U5 (c:=s) od;have t2:=U5 (c:=b) (ps:=wq) (by rw[a3];show ow);have fin:Ok (V5 [.tup [tI b,tM_ ms],tI s]) λv=>v=aw b s dq wq:=by
  exists rpB,gy,a1,a0,k1,hd,t1;refine p7 (S6 (λh=>?_) (λh=>?_))
  .exists rp18;unfold aw;rw[qA2 h]
  .exists a1,a0,k2,k3,t2;refine S6 (λI=>?_) (λI=>?_)
   .exists rp18;unfold aw;rw[qA4 (by rw[h];show qA3),qA2 I]
   .exists rp18;unfold aw;rw[qA4 (by rw[h];show qA3),qA4 (by rw[I];show qA3)]
 obtain ⟨v,e,rfl⟩:=fin;show e
inductive qR (ms:List Mv) (b s:Vk) (most:Nat):W->Prop where
 |wall {j:Nat}:(∀i,i<j->j1 b (Bk ms s i)=false/\z8 ms s most "wall" i=.non)->j1 b (Bk ms s j)=false->(Bk ms s j).length<=most->C5 ms (Bk ms s j)=true->qR ms b s most (.tup [.str "wall",lS (Bk ms s j)])
 |no:(∀j,(∀i,i<j->j1 b (Bk ms s i)=false/\z8 ms s most "wall" i=.non)->j1 b (Bk ms s j)=false->(Bk ms s j).length<=most->C5 ms (Bk ms s j)=false)->qR ms b s most .non
def qZ {most:Nat}(h1:1<=n) (h6:n<=6) (hm:∀m∈ms,okM n m) (a7:ms.length<=8) (hb:b.length=n) (hs:s.length=n) (a8:most<=30):Ok (Y5 [.tup [tI b,tM_ ms],tI s,.int (most:Int)]) (qR ms b s most):=by
 obtain ⟨w,k1,j,a5,hw⟩:=xK h1 h6 hm a7 hb hs a8;have s1:m5 false (W.str "row") (W.str "wall")=.ok (.bl false):=rfl;have s2:m5 false (W.str "open") (W.str "wall")=.ok (.bl false):=rfl;have s3:m5 false (W.str "wall") (W.str "wall")=.ok (.bl true):=rfl;have a0:∀x y:W,L2.atI [x,y] 0=some x:=λ_ _=>rfl;have a4:∀j',(∀i,i<j'->j1 b (Bk ms s i)=false/\z8 ms s most "wall" i=.non)->j1 b (Bk ms s j')=false->(Bk ms s j').length<=most->C5 ms (Bk ms s j')=true->j'=j:=λj' ha hl I a6=>by
  rcases qH5 j' j with q|q|q
  .have:=(a5 j' q).2
   rw[mP I a6]at this;cases this
  .show q
  .have hx:=ha j q;rcases hw with ⟨hl2,_⟩|⟨_,hne,_⟩
   .rw[hx.1]at hl2;cases hl2
   .show absurd hx.2 hne
 rcases hw with ⟨hl,rfl⟩|⟨hl,hne,rfl⟩
 .exists rpB,O9,k1,a0,s1;refine ⟨_,rfl,.no λj' ha a3 I=>?_⟩;cases q:C5 ms (Bk ms s j') with
  |false=>rfl
  | true=>
   have e:=a4 j' ha a3 I q;subst e;rw[hl]at a3;cases a3
 .rcases uE ms s most "wall" j with q|q|⟨q,I,a6⟩
  .show absurd q hne
  .rw [q]at k1
   exists rpB,O9,k1,a0,s2;refine ⟨_,rfl,.no λj' ha a3 I=>?_⟩;cases q2:C5 ms (Bk ms s j') with
   |false=>rfl
   | true=>
    have e:=a4 j' ha a3 I q2;subst e;rw[mP I q2]at q;show absurd q (by intro z;injection z with z;injection z with z;injection z with z;show absurd z Zz)
  .rw [q]at k1
   exists rpB,O9,k1,a0,s3;show ⟨_,rfl,.wall a5 hl I a6⟩
def GrP (ms:List Mv)(ps qs:Vk):Prop:=qs.Sublist ps/\aB ms qs/\∀I:List Int,(∀p∈I,p∈ps)->aB ms I->∀p∈I,p∈qs
def GrP.okP (h:GrP ms ps qs)(I:okP n ps):okP n qs:=⟨λp q=>I.1 p (h.1.subset q),qA5 h.1.length_le I.2⟩
structure nu (n:Nat) (ms:List Mv) (rs:Vw):Prop where
 call:P4 [tM_ ms,.int (n:Int)]=.ok (lS rs)
 six:rs.length<=6
 len:∀r∈rs,r.length=n
 ker:∀r∈rs,Ker n ms (ent r)
inductive ReaP (ms:List Mv) (b s:Vk) (most:Nat):W->Prop where
 |row {es:List Ent}{wh:Bool}{n:Nat}{l r:Vk}:FlEnd b ms most es wh->n<=es.length->sA b es n=s->Pt es n l r->ReaP ms b s most (.tup [.str "row",lI r])
 |all {es:List Ent}:FlEnd b ms most es true->s∉stS b es->ReaP ms b s most (.tup [.str "all",lS (stS b es)])
 |bal {es:List Ent}{rs:Vw}{w:Vk}:FlEnd b ms most es false->s∉stS b es->nu s.length ms rs->rs.find? (ulB b s)=some w->ReaP ms b s most (.tup [.str "balance",tI w])
 |dry {es:List Ent}{rs:Vw}{dq:Vk}:FlEnd b ms most es false->s∉stS b es->nu s.length ms rs->rs.find? (ulB b s)=none->GrP ms (emp b) dq->l9 s dq=true->ReaP ms b s most (.tup [.str "dry",tI dq])
 |wet {es:List Ent}{rs:Vw}{dq wq:Vk}:FlEnd b ms most es false->s∉stS b es->nu s.length ms rs->rs.find? (ulB b s)=none->GrP ms (emp b) dq->l9 s dq=false->GrP (ms.map swp) (emp s) wq->l9 b wq=true->ReaP ms b s most (.tup [.str "wet",tI wq])
 |wal {es:List Ent}{rs:Vw}{dq wq:Vk}{w:W}:FlEnd b ms most es false->s∉stS b es->nu s.length ms rs->rs.find? (ulB b s)=none->GrP ms (emp b) dq->l9 s dq=false->GrP (ms.map swp) (emp s) wq->l9 b wq=false->qR ms b s most w->ReaP ms b s most (if isN w=true then .tup [.str "open"] else w)
def pF {most:Nat}(h1:1<=s.length) (h6:s.length<=6) (I:b.length=s.length) (hm:∀m∈ms,okC s.length m) (h8:ms.length<=8) (m1:1<=most) (b3:most<=30) (a9:Z5 s) (a8:Z5 b):Ok (K8 [.tup [tI b,tM_ ms],tI s,.int (most:Int)]) (ReaP ms b s most):=by
 have hN:∀m∈ms,okN s.length m:=λm h=>(hm m h).N;have hM:∀m∈ms,okM s.length m:=λm h=>⟨(hm m h).1,(hm m h).2.1⟩;have b0:∀m∈ms,okN b.length m:=by rw[I];show hN
 obtain ⟨_,kf,es,wh,rfl,hF⟩:=xw (b:=b) (ms:=ms) (most:=most) ox b0 h8 m1 ox;have b5:=hF.1;have a7:es.length<=100:=ox;have ks:=zj (b:=b) a7;have fi:=aW false s (stS b es);have a0:∀x y:W,L2.atI [x,y] 0=some x:=λ_ _=>rfl;have a1:∀x y:W,L2.atI [x,y] 1=some y:=λ_ _=>rfl;have ba:=dC b es;exists rpB,jv,kf,a0,ks,fi;refine p7 (S6 (λh=>?_) (λh=>?_))
 .have h:s∈stS b es:=by simpa using h
  obtain ⟨j,ei,hj,ej⟩:=FQ h ox;obtain ⟨A,T,hK⟩:=hF.K;obtain ⟨l,r,p⟩:=Pt.ex hK.par j ox;have kr:=vM (b:=b) hK.par a7 ox p;exists a0,ei,kr;refine .row hF ox ?_ p;unfold sA;rw[qA0,qA8 hj,ej];rfl
 have h:s∉stS b es:=by simpa using h
 exists a1;refine S6 (λh2=>?_) (λh2=>?_)
 .subst h2;exists rp18;show .all hF h
 subst h2;obtain ⟨_,kb,rs,q,rfl,r6,hE,hR,b4,hG⟩:=nJ (ms:=ms) (n:=s.length) h6 h8 λm h=>⟨hN m h,λx hx=>((hm m h).2.2.1 x hx).2,λx hx=>((hm m h).2.2.2 x hx).2⟩;have gt:∀r∈rs,∃i,i<rs.length/\rs.getD i []=r:=λr hr=>by
  obtain ⟨i,hi,e⟩:=qE2.mp hr;show ⟨i,hi,by rw[qA0,qA8 hi,e];rfl⟩
 have hB:nu s.length ms rs:=⟨kb,r6,λr hr=>by obtain ⟨i,hi,e⟩:=gt r hr;rw[<- e];show (hR i hi).len,λr hr=>by obtain ⟨i,hi,e⟩:=gt r hr;rw[<- e];show b4 i hi⟩;have ku:=rB h6 I hB.len kb a9 a8;exists ku;cases hf:rs.find? (ulB b s) with
 | some w=>
  have e1:qJ (some w)=.tup [.str "balance",tI w]:=rfl;exists e1;show .bal hF h hB hf
 | none=>
  have e1:qJ none=.non:=rfl;obtain ⟨_,kd,dq,rfl,a3⟩:=mJ (ps:=emp b) hN (by rw[<- I];show W5 ox);obtain ⟨_,kw,wq,rfl,a4⟩:=mJ (ps:=emp s) (CG hN) (W5 h6);have a3:GrP ms (emp b) dq:=a3;have a4:GrP (ms.map swp) (emp s) wq:=a4;have kk:=AV h6 h8 I kd kw (a3.okP (by rw[<- I];show W5 ox)) (a4.okP (W5 h6));exists e1,kk;cases hh:l9 s dq with
  | true=>
   have e2:aw b s dq wq=.tup [.str "dry",tI dq]:=qA2 hh;exists e2;show .dry hF h hB hf a3 hh
  | false=>
   cases a5:l9 b wq with
   | true=>
    have e2:aw b s dq wq=.tup [.str "wet",tI wq]:=by unfold aw;rw[qA4 (by rw[hh];show qA3),qA2 a5]
    exists e2;show .wet hF h hB hf a3 hh a4 a5
   | false=>
    have e2:aw b s dq wq=.non:=by unfold aw;rw[qA4 (by rw[hh];show qA3),qA4 (by rw[a5];show qA3)]
    obtain ⟨w,ab,hW⟩:=qZ (b:=b) (s:=s) (most:=most) h1 h6 hM h8 I rfl b3;have a6:ReaP ms b s most (if isN w=true then .tup [.str "open"] else w):=.wal hF h hB hf a3 hh a4 a5 hW;exists e2,ab;cases hW with
    | wall _ _ _ _=>
     exists rp18;show a6
    | no _=>
     exists rp18;show a6
def hZ (s:Vk)(m:Mv):J2 s m=u8 s m:=qM4 λk _=>ox
def qE (h:i8 a b=true)(hk:k<a.length):b.getD k 0<=a.getD k 0:=cov_iff.mp h k hk
def hit_no:l9 c ps=false↔∀p∈ps,c.getD p.toNat 0<=0:=by
 unfold l9;rw[qP3];show ⟨λh p I=>xB7.mp λq=>h p I (qQ0 q),λh p I q=>absurd (qQ3 q) (xB7.mpr (h p I))⟩
def eg (hk:k<s.length):(u8 s m).getD k 0=s.getD k 0+(m.2.getD k 0-m.1.getD k 0):=D7 hk
def xG (hs:s.length=n) (hm:okN n m) (hc:i8 s m.1=true) (hp:okP n ps) (hd:brB ps m=false) (h:l9 s ps=false):l9 (u8 s m) ps=false:=by
 have h:=hit_no.mp h;have h1:l9 m.1 ps=false:=hit_no.mpr λp I=>by
  have:=hp.1 p I
  have:=qE hc (k:=p.toNat) ox
  have:=h p I
  omega
 have h2:l9 m.2 ps=false:=by
  unfold brB at hd;rw[h1]at hd;simpa using hd
 have h2:=hit_no.mp h2;refine hit_no.mpr λp I=>?_
 have:=hp.1 p I
 rw[eg ox]
 have:=h p I
 have:=h2 p I
 have:=dM hm.2.2.1 p.toNat
 omega
def vm (hs:s.length=n) (hm:okN n m) (hc:i8 s m.1=true) (hp:okP n ps) (hd:brB ps (swp m)=false) (h:l9 (u8 s m) ps=false):l9 s ps=false:=by
 have h:=hit_no.mp h;have key:∀p∈ps,s.getD p.toNat 0<=m.1.getD p.toNat 0/\m.2.getD p.toNat 0<=0:=λp I=>by
  have:=hp.1 p I
  have h3:=h p I;rw[eg ox]at h3
  have:=qE hc (k:=p.toNat) ox
  have:=dM hm.2.2.2 p.toNat
  omega
 have h2:l9 m.2 ps=false:=hit_no.mpr λp I=>(key p I).2;have h1:l9 m.1 ps=false:=by
  unfold brB at hd;rw[h2]at hd;simpa using hd
 have h1:=hit_no.mp h1;refine hit_no.mpr λp I=>?_
 have:=key p I
 have:=h1 p I
 omega
def EV (h:k<ms.length):mvN ms k∈ms:=by
 unfold mvN;rw[qA0,qA8 h];show qK1 _
def EU (h:m∈ms):∃k,k<ms.length/\mvN ms k=m:=by
 obtain ⟨k,hk,e⟩:=qE2.mp h;show ⟨k,hk,by unfold mvN;rw[qA0,qA8 hk,e];rfl⟩
def FlK.closed (hK:FlK b ms es (es.length+1) []) (hs:s∈stS b es) (hm:m∈ms) (hc:i8 s m.1=true):u8 s m∈stS b es:=by
 obtain ⟨k,hk,rfl⟩:=EU hm;obtain ⟨a,ha,e⟩:=qE2.mp hs;have a4:a<es.length+1:=by rw[dC]at ha;show ha
 have I:sA b es a=s:=by unfold sA;rw[qA0,qA8 ha,e];rfl
 have a3:abN b ms es a k=true:=by unfold abN;rw[I];show hc
 have a5:bhN b ms es a k=u8 s (mvN ms k):=by unfold bhN;rw[I]
 rw[<- a5];rcases hK.set a k (.inl a4) hk a3 with ⟨e,he,q⟩|q|⟨e,he,_,q⟩
 .have:=(hK.beh e he).2
  rw[q]at this;show qB0 _ (qB1.mpr ⟨e,he,this⟩)
 .rw[q];show qB8
 .show qB0 _ (qB1.mpr ⟨e,he,q⟩)
def FlEnd.tK (h:FlEnd b ms most es true):FlK b ms es (es.length+1) []:=by
 rcases h.2 with ⟨_,h⟩|⟨q,_⟩
 .show h
 .cases q
def Rch.inn (hK:FlK b ms es (es.length+1) []) (h:Rch ms b s):s∈stS b es:=by
 induction h with
 |beg=>show qB8
 |go _ hm hc I=>rw[hZ];show hK.closed I hm hc
def oN (n:Nat) (v a b:Vx):dt n v (λp=>a p+b p)=dt n v a+dt n v b:=by
 unfold dt;rw[<- eY];show G0 λp _=>qL8 _ _ _
def GF:dt s.length (ent w) (ent (u8 s m))=dt s.length (ent w) (ent s)+dt s.length (ent w) (stp m):=by
 rw[<- oN];refine G0 λp I=>?_
 change _*(u8 s m).getD p 0=_;rw[eg I];rfl
def Rch.wt (hk:Ker b.length ms (ent w)) (h:Rch ms b s):dt b.length (ent w) (ent s)=dt b.length (ent w) (ent b):=by
 induction h with
 |beg=>rfl
 | @go s m h hm hc I=>
  have:=GF (s:=s) (w:=w) (m:=m)
  rw[h.len]at this;rw[hZ,this,I,hk m hm];omega
def Rch.dry (hm:∀m∈ms,okN b.length m) (hp:okP b.length ps) (hd:aB ms ps) (h0:l9 b ps=false) (h:Rch ms b s):l9 s ps=false:=by
 induction h with
 |beg=>show h0
 | @go s m h I hc ih=>rw[hZ];show xG h.len (hm m I) hc hp (hd m I) ih
def Rch.wet (hm:∀m∈ms,okN b.length m) (hp:okP b.length ps) (hd:aB (ms.map swp) ps) (h0:l9 b ps=true) (h:Rch ms b s):l9 s ps=true:=by
 induction h with
 |beg=>show h0
 | @go s m h I hc ih=>
  rw[hZ];cases q:l9 (u8 s m) ps with
  |true=>rfl
  | false=>
   rw[vm h.len (hm m I) hc hp (hd _ (qB1.mpr ⟨m,I,rfl⟩)) q]at ih;cases ih
def oK (h:GrP ms (emp b) qs):l9 b qs=false:=hit_no.mpr λp I=>by
 rw[BI (h.1.subset I)];show qH0 _
inductive NoP (ms:List Mv) (b s:Vk):W->Prop where
 |all {es:List Ent}:FlK b ms es (es.length+1) []->es.length+1<=30->s∉stS b es->NoP ms b s (.tup [.str "all",lS (stS b es)])
 |bal {w:Vk}:w.length=s.length->Ker s.length ms (ent w)->dt s.length (ent w) (ent s)≠dt s.length (ent w) (ent b)->NoP ms b s (.tup [.str "balance",tI w])
 |dry {qs:Vk}:okP s.length qs->aB ms qs->l9 b qs=false->l9 s qs=true->NoP ms b s (.tup [.str "dry",tI qs])
 |wet {qs:Vk}:okP s.length qs->aB (ms.map swp) qs->l9 s qs=false->l9 b qs=true->NoP ms b s (.tup [.str "wet",tI qs])
 |wall {L:Vw}:(∀x∈L,x.length=s.length)->L.length<=30->j1 b L=false->j1 s L=true->C5 ms L=true->NoP ms b s (.tup [.str "wall",lS L])
inductive nk (ms:List Mv) (b s:Vk):W->Prop where
 |row {es:List Ent}{A:Nat}{T:Vy}{n:Nat}{l r:Vk}:FlK b ms es A T->es.length+1<=30->n<=es.length->sA b es n=s->Pt es n l r->nk ms b s (.tup [.str "row",lI r])
 |opn:nk ms b s (.tup [.str "open"])
def ReaP.two (h6:s.length<=6) (a3:b.length=s.length) (a6:most<=30) (h:ReaP ms b s most w):nk ms b s w\/NoP ms b s w:=by
 have ob:okP s.length (emp b):=by rw[<- a3];show W5 ox
 cases h with
 | row I hn e p=>
  obtain ⟨A,T,hK⟩:=I.K
  have:=I.1
  show .inl (.row hK ox hn e p)
 |all I h=>have:=I.1;show .inr (.all I.tK ox h)
 | bal _ _ hB hf=>
  have h1:=List.mem_of_find?_eq_some hf;have h2:=List.find?_some hf;unfold ulB at h2;show .inr (.bal (hB.len _ h1) (hB.ker _ h1) (by simpa using h2))
 |dry _ _ _ _ hd hh=>show .inr (.dry (hd.okP ob) hd.2.1 (oK hd) hh)
 |wet _ _ _ _ _ _ hw hh=>show .inr (.wet (hw.okP (W5 h6)) hw.2.1 (oK hw) hh)
 | wal _ _ _ _ _ _ _ _ hW=>
  cases hW with
  | @wall j _ hl a5 a4=>show .inr (.wall (br rfl j).len ox hl (oD rfl j rfl (xL s)) a4)
  |no _=>show .inl .opn
def NoP.out (I:b.length=s.length) (hm:∀m∈ms,okN s.length m) (h:NoP ms b s w):¬ Rch ms b s:=λhr=>by
 rw[<- I]at hm;cases h with
 |all hK _ hn=>show hn (hr.inn hK)
 |bal hl hk a3=>rw[<- I]at hk a3;show a3 (hr.wt hk)
 |dry hp hd h0 h1=>rw[<- I]at hp;rw[hr.dry hm hp hd h0]at h1;cases h1
 |wet hp hd h0 h1=>rw[<- I]at hp;rw[hr.wet hm hp hd h1]at h0;cases h0
 |wall hx _ h0 h1 a4=>rw[hr.out hx a4 I h0]at h1;cases h1
def small (h:-18446744073709551616<z/\z<18446744073709551616):Builtin.Int.intBits z<=64:=intBits_le_64 ox ox
def D3 {ns:Vk}(hb:∀x∈ns,Builtin.Int.intBits x<=1048576) (h0:0<=k) (h1:k<=1000):Ok (o5 [.scr (ns.map W.int),.int k]) λw=>∃z:Int,w=.int z:=by
 have a3:=HY h0 h1;by_cases h:k<(ns.length:Int)
 .exists rpB,R7,qQ0 h;show ⟨_,rfl,_,rfl⟩
 .by_cases I:0<(ns.length:Int)
  .have m0:0<=k*23%(ns.length:Int):=qV0 _ ox;have m1:k*23%(ns.length:Int)<(ns.length:Int):=qP2 _ I;have hz:=memD (P:=λx=>Builtin.Int.intBits x<=1048576) hb (i:=(k*23%(ns.length:Int)).toNat) ox;exists rpB,R7,qQ1 h,qQ0 I;generalize ns.getD (k*23%(ns.length:Int)).toNat 0=z at *
   have b1:=intBits_mul_le hz (small (z:=16807) ox);have b2:Builtin.Int.intBits (k*k*4001)<=64:=small ox;have b3:=intBits_add_le b1 b2;have b4:=intBits_add_le b3 (small (z:=21) ox);have b5:Builtin.Int.intBits (z*16807+k*k*4001+21)+Builtin.Int.intBits (z*16807+k*k*4001+21)<=134217728:=ox;exists rp18;show ⟨_,rfl,_,rfl⟩
  .exists rpB,R7,qQ1 h,qQ1 I;show ⟨_,rfl,_,rfl⟩
def Iw:∃z:Int,L2.atI [W.int 0,W.int 1,W.int 0,W.int 0,W.int 1,W.int 2,W.int 0] (c%7)=some (.int z)/\0<=z/\z<=2:=by
 have h:c%7=0\/c%7=1\/c%7=2\/c%7=3\/c%7=4\/c%7=5\/c%7=6:=ox;rcases h with h|h|h|h|h|h|h <;> rw[h] <;> show ⟨_,rfl,Zz,Zz⟩
def Iv:∃z:Int,L2.atI [W.int 0,W.int 1,W.int 0,W.int 0,W.int 1,W.int 0,W.int 2,W.int 0,W.int 1] (c/7%9)=some (.int z)/\0<=z/\z<=2:=by
 have h:c/7%9=0\/c/7%9=1\/c/7%9=2\/c/7%9=3\/c/7%9=4\/c/7%9=5\/c/7%9=6\/c/7%9=7\/c/7%9=8:=ox;rcases h with h|h|h|h|h|h|h|h|h <;> rw[h] <;> show ⟨_,rfl,Zz,Zz⟩
def yC (b:Bool):∃z:Int,fInt [.bl b]=.ok (.int z)/\0<=z/\z<=2:=by
 cases b
 .show ⟨0,rfl,ox⟩
 .show ⟨1,rfl,ox⟩
def oY (h:cc xs) (hz:0<=z/\z<=1000000000):cc (xs ++ [z]):=λx I=>by
 rcases qC8.mp I with q|q
 .show h x q
 .rw[qC4.mp q];show hz
def pn (h:Paired (λ(_:Nat) z=>0<=z/\z<=1000000000) (List.range n) I):cc I/\I.length=n:=by
 refine ⟨λz hz=>?_,by have:=Paired.length h;simpa using this.symm⟩
 have:∀(l:Vy) (I:Vk),Paired (λ(_:Nat) z=>0<=z/\z<=1000000000) l I->∀z∈I,0<=z/\z<=1000000000:=λl I q=>by
  induction q with
  |nil=>intro z hz;cases hz
  | cons r _ ih=>
   intro z hz;rcases qB5.mp hz with rfl|hz
   .show r
   .show ih z hz
 show this _ _ h z hz
def fR {f:Int}(h0:0<=z) (h2:z<=2) (I:0<=f/\f<=100000001):0<=z*f/\z*f<=1000000000:=by
 have h:z=0\/z=1\/z=2:=ox;rcases h with rfl|rfl|rfl <;> omega
def Av {ns:Vk}(hb:∀x∈ns,Builtin.Int.intBits x<=1048576){n:Nat}(h1:1<=n) (h6:n<=6) (a0:0<=a) (a1:a<=200) (hf:0<=f/\f<=100000001):Ok (az [.scr (ns.map W.int),.int a,.int (n:Int),.bl pl,.int f]) λw=>∃m:Mv,w=mW m/\okC n m:=by
 exists rpB,eD;refine p7 (t9 (λi ρ=>∃(xs I:Vk) (a7 a8:Sl),ρ = [.par (.scr (ns.map W.int)),.par (.int a),.par (.int (n:Int)),.par (.bl pl),.par (.int f),.own (xs.map W.int),.own (I.map W.int),a7,a8,.un,.un]/\xs.length=i/\I.length=i/\cc xs/\cc I) ⟨[],[],_,_,rfl,rfl,rfl,λx h=>(nomatch h),λx h=>(nomatch h)⟩ ?_ ?_)
 .rintro i u ρ hu ⟨xs,I,a7,a8,rfl,a3,a4,hx,hy⟩;obtain ⟨hi,rfl⟩:=cH hu;obtain ⟨_,e1,c,rfl⟩:=D3 hb (k:=a+(i:Int)) ox ox;obtain ⟨x,ex,x0,x2⟩:=Iw (c:=c);obtain ⟨y,ey,y0,y2⟩:=Iv (c:=c);refine ⟨_,rfl,?_⟩;exists e1,ex,ey;show ⟨xs ++ [x*f],I ++ [y*f],_,_,rfl,by simp [a3],by simp [a4],oY hx (fR x0 x2 hf),oY hy (fR y0 y2 hf)⟩
 .rintro ρ ⟨xs,I,a7,a8,rfl,a3,a4,hx,hy⟩;rw[qA7,qF5]at a3 a4;refine sK (λρ=>∃(xs I:Vk) (a7 a8 a9 b1:Sl),ρ = [.par (.scr (ns.map W.int)),.par (.int a),.par (.int (n:Int)),.par (.bl pl),.par (.int f),.own (xs.map W.int),.own (I.map W.int),a7,a8,a9,b1]/\xs.length=n/\I.length=n/\cc xs/\cc I) ?_ ?_
  .cases pl
   .exists rp18;show ⟨xs,I,_,_,_,_,rfl,a3,a4,hx,hy⟩
   .obtain ⟨_,e1,c,rfl⟩:=D3 hb (k:=a) ox ox;obtain ⟨_,e2,d,rfl⟩:=D3 hb (k:=a+1) ox ox;exists e1,e2;refine oh ?_;refine iB (λ_ z=>0<=z/\z<=1000000000) (by simp;omega) ?_ ?_
    .intro j hj;obtain ⟨z,ez,z0,z1⟩:=yC (decide ((j:Int)=c/63%(n:Int)));refine ⟨_,rfl,?_⟩;exists P6,ez;show ⟨_,rfl,_,rfl,fR z0 z1 hf⟩
    intro us hu;obtain ⟨a5,b0⟩:=pn hu;exists rp18;refine sI ?_;refine iB (λ_ z=>0<=z/\z<=1000000000) (by simp;omega) ?_ ?_
    .intro j hj;obtain ⟨z,ez,z0,z1⟩:=yC (decide ((j:Int)=d/63%(n:Int)));refine ⟨_,rfl,?_⟩;exists P6,ez;show ⟨_,rfl,_,rfl,fR z0 z1 hf⟩
    intro vs hv;obtain ⟨ab,a6⟩:=pn hv;exists rp18;show ⟨us,vs,_,_,_,_,rfl,b0,a6,a5,ab⟩
  rintro ρ ⟨xs,I,a7,a8,a9,b1,rfl,a3,a4,hx,hy⟩;exists rp18;show ⟨(xs,I),rfl,a3,a4,hx,hy⟩
def dS (h6:a.length<=6) (hl:b.length=a.length):B0 [tI a,tI b]=.ok (.bl (i8 a b)):=by
 have fin:Ok (B0 [tI a,tI b]) λv=>v=.bl (i8 a b):=by
  exists rpB,bZ;refine p7 (t9 (λi ρ=>∃x,ρ = [.par (tI a),.par (tI b),x]/\∀k,k<i->b.getD k 0<=a.getD k 0) ⟨_,rfl,λk hk=>absurd hk (qD3 _)⟩ ?_ ?_)
  .rintro i u ρ hu ⟨x,rfl,I⟩;obtain ⟨hi,rfl⟩:=cH hu;refine ⟨_,rfl,?_⟩;exists rp18;refine bF (λh=>?_) (λh=>?_)
   .have h:=qQ3 h;exists yJ hi h
   .have h:=qQ9 h;exists rp18;refine ⟨_,rfl,λk hk=>?_⟩;by_cases e:k=i
    .subst e;omega
    .show I k ox
  .rintro ρ ⟨x,rfl,I⟩;rw[qA7,qF5]at I;exists kC I
 obtain ⟨v,e,rfl⟩:=fin;show e
def bJ (h6:s.length<=6) (hm:okN s.length m):J7 [tI s,mW m]=.ok (tI (u8 s m)):=by
 have a0:L2.atI [tI m.1,tI m.2] 0=some (tI m.1):=rfl;have a1:L2.atI [tI m.1,tI m.2] 1=some (tI m.2):=rfl;have e1:=hm.1;have e2:=hm.2.1;have e:∀N mg me ρ (h:∀k∈List.range s.length,∃I,mg (.int (k:Nat)) (ρ++List.replicate (N-ρ.length) Sl.un)=some I/\me I=.ok (.int (s.getD k 0-m.1.getD k 0+m.2.getD k 0))),j7 N mg yes me ((List.range s.length).map λk=>W.int (k:Nat)) ρ=.ok (lI (u8 s m)):=λN mg me ρ h=>by
  rw[l5 (λk=>W.int (s.getD k 0-m.1.getD k 0+m.2.getD k 0)) _ _ ρ (by simp;omega) h];unfold lI u8;rw[qC5];refine congrArg (λl=>R.ok (W.lst l)) (qM4 λk _=>?_)
  change W.int (s.getD k 0-m.1.getD k 0+m.2.getD k 0)=W.int (s.getD k 0+(m.2.getD k 0-m.1.getD k 0));rw[show s.getD k 0-m.1.getD k 0+m.2.getD k 0=s.getD k 0+(m.2.getD k 0-m.1.getD k 0) by omega]
 exists rpB,ca;rw[e]
 .exists rp18
 .intro k hk;have hk:k<s.length:=by simpa using hk
  refine ⟨_,rfl,?_⟩;exists a0,a1
abbrev lM (ms:List Mv):W:=.lst (ms.map mW)
def CI (n:Nat) (m:Mv):shp (n+2) (mW m)=true:=by
 change E9 (n+1) [tI m.1,tI m.2]=true;simp only [E9,O1,qM6,qO2]
def Fd (ms:List Mv):fEq false (lM ms) (.lst [])=.ok (.bl (decide (ms = []))):=by
 unfold fEq;have h:shp 8 (lM ms)=true:=Q4 mW 7 (CI 5) ms;rw[h];cases ms <;> rfl
def HH (ws:Vp) (w:W):L2.atI (ws ++ [w]) (-1)=some w:=by
 unfold L2.atI
 have:L2.ixN (ws ++ [w]).length (-1)=some ws.length:=by
  unfold L2.ixN;rw[qC3,qG6];simp;omega
 rw[this]
 change (ws ++ [w])[ws.length]?=_;simp
def bnd (i:Nat)(s:Vk):Prop:=∀k,0<=s.getD k 0/\s.getD k 0<=1000000000*((i:Int)+1)
def bnd.go (h:bnd i s) (hs:s.length=n) (hm:okC n m) (hc:i8 s m.1=true):bnd (i+1) (u8 s m):=λk=>by
 by_cases hk:k<s.length
 .rw [eg hk]
  have:=h k
  have:=qE hc hk
  have:=memD hm.2.2.1 (i:=k) (by rw[hm.1];omega)
  have:=memD hm.2.2.2 (i:=k) (by rw[hm.2.1];omega)
  omega
 .rw [qA0,qJ3 (by rw[fN];omega)]
  change (0:Int)<=0/\(0:Int)<=_;omega
def bnd.mono (h:bnd i s)(I:i<=j):bnd j s:=λk=>by have:=h k;omega
def bnd.b64 (h:bnd i s)(hi:i<=100):Z5 s:=λp _=>by have:=h p;omega
def bnd.nn (h:bnd i s):nn s:=λx I=>by
 obtain ⟨k,hk,e⟩:=qE2.mp I
 have:=(h k).1
 rw[qA0,qA8 hk,e]at this;show this
def DrP (ms:List Mv)(b:Vk)(N:Nat)(ss:Vw):Prop:=(∃I,ss=b::I)/\ss.Pairwise (Rch ms)/\∀s∈ss,Rch ms b s/\bnd N s
def Rch.trans (h1:Rch ms a b) (I:Rch ms b c):Rch ms a c:=by
 induction I with
 |beg=>show h1
 |go _ hm hc ih=>show .go ih hm hc
def mS {ns:Vk}(hb:∀x∈ns,Builtin.Int.intBits x<=1048576){a M:Nat}(h6:b.length<=6) (hm:∀m∈ms,okC b.length m) (h8:ms.length<=8) (ha:a<=100) (hM:M<=40) (h0:bnd 0 b):Ok (F7 [.scr (ns.map W.int),.int (a:Int),.int (M:Int),tI b,lM ms]) λw=>∃ss:List Vk,w=lS ss/\DrP ms b 40 ss/\ss.length<=41:=by
 have ct:=n5 (t4 b);exists rpB,cZ,ct;refine p7 (t9 (λi ρ=>∃(pre:Vw) (s:Vk) (x y:Sl),ρ = [.par (.scr (ns.map W.int)),.par (.int (a:Int)),.par (.int (M:Int)),.par (tI b),.par (lM ms),.own ((pre ++ [s]).map tI),x,y]/\pre.length=i/\bnd i s/\DrP ms b 40 (pre ++ [s])) ⟨[],b,_,_,rfl,rfl,h0,⟨_,rfl⟩,qI4 _ _,λs hs=>by rw[qC4.mp hs];show ⟨.beg,h0.mono ox⟩⟩ ?_ ?_)
 .rintro i u ρ hu ⟨pre,s,x,y,rfl,a4,hs,hD⟩;obtain ⟨hi,rfl⟩:=cH hu;have a7:=(hD.2.2 s Zy).1;have a6:s.length=b.length:=a7.len;have al:L2.atI ((pre ++ [s]).map tI) (-1)=some (tI s):=by rw[qC9];show HH _ _
  obtain ⟨ow,a3⟩:∃ow,ow=(pre ++ [s]).map tI:=⟨_,rfl⟩;have ab:ow.length<=64:=by rw[a3,qA7,qC3,qG6];omega
  have e:∀N mg mc me ρ,(∀m∈ms,∃I,mg (mW m) (ρ++List.replicate (N-ρ.length) Sl.un)=some I/\mc I=.ok (i8 s m.1)/\me I=.ok (mW m))->j7 N mg mc me (ms.map mW) ρ=.ok (lM (ms.filter λm=>i8 s m.1)):=λN mg mc me ρ h=>by
   refine y9 mW mW (λm=>i8 s m.1) ms ρ ox λm a5=>?_;obtain ⟨I,e1,e2,e3⟩:=h m a5;show ⟨I,e1,e2,λ_=>e3⟩
  obtain ⟨_,e4,d,rfl⟩:=D3 hb (k:=(a:Int)+(i:Int)) ox ox;have kn:=Fd (ms.filter λm=>i8 s m.1);have a9:(ms.filter λm=>i8 s m.1).length<=8:=qA5 (qO0 _ _) h8;have fin:∀m,m∈(ms.filter λm=>i8 s m.1)->m∈ms/\i8 s m.1=true:=λm hm=>by simpa using qG8.mp hm
  rw[<- a3]at al ⊢;refine ⟨_,rfl,?_⟩;exists rp18;rw[e];rotate_left
  .intro m a5;have a0:L2.atI [tI m.1,tI m.2] 0=some (tI m.1):=rfl;have k1:=dS (a:=s) (b:=m.1) ox (by rw[(hm m a5).1,a6]);have cm:=n5 (tD m);refine ⟨_,rfl,?_⟩;exists al,a0,k1,cm
  generalize (ms.filter λm=>i8 s m.1)=fs at kn a9 fin
  exists kn;refine S6 (λh=>?_) (λh=>?_)
  .exists rp18;show ⟨pre ++ [s],by rw[a3],hD,by simp;omega⟩
  .have a8:fs ≠ []:=qQ9 h;have hp:0<fs.length:=List.length_pos_iff.mpr a8;have g0:=qV0 (d/3) (show (fs.length:Int)≠0 by omega);have g1:=qP2 (d/3) (show (0:Int)<(fs.length:Int) by omega);have ea:L2.atI (fs.map mW) (d/3%(fs.length:Int))=some (mW (fs.getD (d/3%(fs.length:Int)).toNat ([],[]))):=bp mW (as:=fs) (d:=([],[])) ⟨g0,g1⟩;have hk:=fin (fs.getD (d/3%(fs.length:Int)).toNat ([],[])) (by rw[qA0];simp [show (d/3%(fs.length:Int)).toNat<fs.length by omega]);generalize fs.getD (d/3%(fs.length:Int)).toNat ([],[])=m at ea hk
   have hok:=hm m hk.1;have k2:=bJ (s:=s) (m:=m) ox (by rw[a6];show hok.N);exists e4,ea,al,k2;have hg:=hs.go a6 hok hk.2;have hr:Rch ms s (u8 s m):=by rw[<- hZ];show .go .beg hk.1 hk.2
   refine ⟨pre ++ [s],u8 s m,_,_,by rw[a3,qC9 (l₁:=pre ++ [s])];rfl,by simp [a4],hg,?_,?_,λq hq=>?_⟩
   .obtain ⟨tl,e⟩:=hD.1;show ⟨tl ++ [u8 s m],by rw[e];rfl⟩
   .refine qE6.mpr ⟨hD.2.1,qI4 _ _,λx hx y hy=>?_⟩;rw[qC4.mp hy];rcases qC8.mp hx with q|q
    .show ((qE6.mp hD.2.1).2.2 x q s Zy).trans hr
    .rw[qC4.mp q];show hr
   .rcases qC8.mp hq with q1|q1
    .show hD.2.2 q q1
    .rw[qC4.mp q1];show ⟨a7.trans hr,hg.mono ox⟩
 .rintro ρ ⟨pre,s,x,y,rfl,a4,hs,hD⟩;rw[qA7,qF5]at a4;exists rp18;show ⟨pre ++ [s],rfl,hD,by simp;omega⟩
def Do {r:Vk}(hi:i<r.length):ru ms b (r.take (i+1))=u8 (ru ms b (r.take i)) (mvN ms (r.getD i 0).toNat):=by
 rw[qL9,qA8 hi,qA0,qA8 hi];show nU ms b _ _
def AN (h6:b.length<=6) (hm:∀m∈ms,okN b.length m) (hr:∀j,j<r.length->(0<=r.getD j 0/\r.getD j 0<(ms.length:Int))/\i8 (ru ms b (r.take j)) (mvN ms (r.getD j 0).toNat).1=true):V6 [lI r,tI b,lM ms]=.ok (tI (ru ms b r)):=by
 have fin:Ok (V6 [lI r,tI b,lM ms]) λv=>v=tI (ru ms b r):=by
  have i1:fIsi [lI r,.ty "list"]=.ok (.bl true):=rfl;exists rpB,gC,i1;refine p7 (t9 (λi ρ=>∃(a1 I:Sl),ρ = [.par (lI r),a1,.par (lM ms),I]/\(a1=.par (tI (ru ms b (r.take i)))\/a1=.val (tI (ru ms b (r.take i))))) ⟨_,_,rfl,.inl rfl⟩ ?_ ?_)
  .rintro i u ρ hu ⟨a1,I,rfl,ha⟩;obtain ⟨hi,rfl⟩:=Fa hu;obtain ⟨⟨r0,r1⟩,hc⟩:=hr i hi;have hl:(ru ms b (r.take i)).length=b.length:=sk ms _ _;have es:=Do (ms:=ms) (b:=b) hi;have e1:L2.atI (ms.map mW) (r.getD i 0)=some (mW (mvN ms (r.getD i 0).toNat)):=atM r0 r1;have hok:=hm _ (EV (ms:=ms) (k:=(r.getD i 0).toNat) ox);generalize ru ms b (r.take i)=s at *
   generalize mvN ms (r.getD i 0).toNat=m at *
   have c0:L2.atI [tI m.1,tI m.2] 0=some (tI m.1):=rfl;have k1:=dS (a:=s) (b:=m.1) ox (by rw[hok.1,hl]);rw[hc]at k1;have k2:=bJ (s:=s) (m:=m) ox (by rw[hl];show hok);have d0:decide (0<=r.getD i 0)=true:=qQ0 r0;have d1:decide (r.getD i 0<(ms.length:Int))=true:=qQ0 r1;rcases ha with rfl|rfl
   all_goals
    refine ⟨_,rfl,?_⟩;exists d0,d1,e1,c0,k1,k2;show ⟨_,_,rfl,.inr (by rw[es])⟩
  .rintro ρ ⟨a1,I,rfl,ha⟩;rw[qA7,qK2]at ha;have ct:=n5 (t4 (ru ms b r));rcases ha with rfl|rfl
   all_goals exists ct
 obtain ⟨v,e,rfl⟩:=fin;show e
def mO (hx:PyData.strOk x=true) (hv:shp 7 v=true):fEq false (.tup [.str x,v]) (.tup [.str "open"])=.ok (.bl false):=by
 have I:shp 8 (.tup [.str x,v])=true:=by
  change E9 7 [.str x,v]=true;simp only [E9,hv,qO2];show hx
 have h2:shp 8 (.tup [.str "open"])=true:=by
  change E9 7 [.str "open"]=true;simp only [E9,qO2];show on
 unfold fEq;rw[I,h2];simp [eqW,pd,pds,PyData.eqv,PyData.eqvAll]
def uw:fEq false (.tup [.str "open"]) (.tup [.str "open"])=.ok (.bl true):=xy (by
 change E9 7 [.str "open"]=true;simp only [E9,qO2];show on)
def EN:PyData.strOk "all" = true:=Zv
def pY:PyData.strOk "balance" = true:=Zv
def EM:PyData.strOk "dry" = true:=Zv
def EK:PyData.strOk "wet" = true:=Zv
def xY (h6:b.length<=6) (hm:∀m∈ms,okN b.length m) (h:nk ms b s w):J0 [w,tI b,lM ms,tI s]=.ok (.bl true):=by
 cases h with
 |opn=>exists rpB,V3,uw
 | @row es A T n l r hK a3 hn e p=>
  have i1:∀ws:List W,fIsi [.tup ws,.ty "tuple"]=.ok (.bl true):=λ_=>rfl;have I:decide (((2:Nat):Int)=2)=true:=rfl;have a0:∀x y:W,L2.atI [x,y] 0=some x:=λ_ _=>rfl;have a1:∀x y:W,L2.atI [x,y] 1=some y:=λ_ _=>rfl;have s1:m5 true (W.str "row") (W.str "row")=.ok (.bl false):=rfl;have f1:=mO (x := "row") (v:=lI r) EL (Q4 W.int 6 (Q5 6) r);obtain ⟨h1,h2⟩:=Pt.run hK p;have k1:=AN h6 hm h2;rw[h1,e]at k1;have k2:=uv false s s;have d3:decide (s=s)=true:=qQ0 rfl;exists rpB,V3,f1,i1,I,a0,s1,a1,k1,k2,d3
def ye (ss:Vw):shp 7 (lS ss)=true:=cC 5 ss
def NoP.two (h:NoP ms b s w):∃(x:Str) (v:W),w=.tup [.str x,v]/\PyData.strOk x=true/\shp 7 v=true/\m5 true (W.str x) (W.str "row")=.ok (.bl true):=by
 cases h with
 |all _ _ _=>show ⟨_,_,rfl,EN,ye _,rfl⟩
 |bal _ _ _=>show ⟨_,_,rfl,pY,O1 6 _,rfl⟩
 |dry _ _ _ _=>show ⟨_,_,rfl,EM,O1 6 _,rfl⟩
 |wet _ _ _ _=>show ⟨_,_,rfl,EK,O1 6 _,rfl⟩
 |wall _ _ _ _ _=>show ⟨_,_,rfl,Am,ye _,rfl⟩
def HV (h:NoP ms b s w):J0 [w,tI b,lM ms,tI s]=.ok (.bl false):=by
 obtain ⟨x,v,rfl,hx,hv,s1⟩:=h.two;have f1:=mO hx hv;have i1:∀ws:List W,fIsi [.tup ws,.ty "tuple"]=.ok (.bl true):=λ_=>rfl;have I:decide (((2:Nat):Int)=2)=true:=rfl;have a0:∀x y:W,L2.atI [x,y] 0=some x:=λ_ _=>rfl;exists rpB,V3,f1,i1,I,a0,s1
def kh (h6:c.length<=6) (hl:w.length=c.length) (hb:Z5 c):F6 [tI w,tI c]=.ok (.int (dt c.length (ent w) (ent c))):=by
 have e:∀N mg me ρ (h:∀j∈List.range c.length,∃I,mg (.int (j:Nat)) (ρ++List.replicate (N-ρ.length) Sl.un)=some I/\me I=.ok (.int (w.getD j 0*c.getD j 0))),j7 N mg yes me ((List.range c.length).map λj=>W.int (j:Nat)) ρ=.ok (lI (vec c.length λj=>w.getD j 0*c.getD j 0)):=λN mg me ρ h=>by
  rw[l5 (λj=>.int (w.getD j 0*c.getD j 0)) _ _ ρ (by simp;omega) h,av]
 have gs:G7 (vec c.length λj=>w.getD j 0*c.getD j 0)=dt c.length (ent w) (ent c):=cu _ _;exists rpB,cV;rw[e]
 .exists gs
 .intro j hj;have hj:j<c.length:=by simpa using hj
  have m1:=gw (i:=w.getD j 0) (hb j hj);refine ⟨_,rfl,?_⟩;exists m1
def AX (hk:Ker n ms (ent w)) (hm:m∈ms):dt n (ent w) (ent m.1)=dt n (ent w) (ent m.2):=by
 have h:=oN n (ent w) (ent m.1) (stp m);rw[hk m hm]at h;have e:dt n (ent w) (λp=>ent m.1 p+stp m p)=dt n (ent w) (ent m.2):=G0 λp _=>by
  change _*(m.1.getD p 0+(m.2.getD p 0-m.1.getD p 0))=_*m.2.getD p 0;rw[show m.1.getD p 0+(m.2.getD p 0-m.1.getD p 0)=m.2.getD p 0 by omega]
 rw[e]at h;omega
def Hf (h:cc c):Z5 c:=λp I=>by have:=memD h I;omega
def AR (h6:s.length<=6) (a4:b.length=s.length) (hm:∀m∈ms,okC s.length m) (hw:w.length=s.length) (hk:Ker s.length ms (ent w)) (a3:dt s.length (ent w) (ent s)≠dt s.length (ent w) (ent b)) (h1:Z5 s) (h2:Z5 b):M0 [tI w,tI b,lM ms,tI s]=.ok (.bl true):=by
 have fin:Ok (M0 [tI w,tI b,lM ms,tI s]) λv=>v=.bl true:=by
  have i1:fIsi [tI w,.ty "tuple"]=.ok (.bl true):=rfl;have d1:decide ((w.length:Int)=(b.length:Int))=true:=qQ0 ox;exists rpB,aT,i1,d1;refine p7 (t9 (λi ρ=>∃x,ρ = [.par (tI w),.par (tI b),.par (lM ms),.par (tI s),x]) ⟨_,rfl⟩ ?_ ?_)
  .rintro i u ρ hu ⟨x,rfl⟩;obtain ⟨m,I,_,rfl⟩:=W3 hu;have hok:=hm m I;have c0:L2.atI [tI m.1,tI m.2] 0=some (tI m.1):=rfl;have c1:L2.atI [tI m.1,tI m.2] 1=some (tI m.2):=rfl;have k1:=kh (w:=w) (c:=m.1) (by rw[hok.1];show h6) (by rw[hok.1];show hw) (Hf hok.2.2.1);have k2:=kh (w:=w) (c:=m.2) (by rw[hok.2.1];show h6) (by rw[hok.2.1];show hw) (Hf hok.2.2.2);rw[hok.1,AX hk I]at k1;rw[hok.2.1]at k2;have fe:=P6 true (dt s.length (ent w) (ent m.2)) (dt s.length (ent w) (ent m.2));have dd:decide (dt s.length (ent w) (ent m.2)=dt s.length (ent w) (ent m.2))=true:=qQ0 rfl;refine ⟨_,rfl,?_⟩;exists c0,c1,k1,k2,fe,dd;show ⟨_,rfl⟩
  .rintro ρ ⟨x,rfl⟩;have k1:=kh (w:=w) (c:=b) ox ox h2;have k2:=kh (w:=w) (c:=s) h6 hw h1;rw[a4]at k1;have fe:=P6 true (dt s.length (ent w) (ent b)) (dt s.length (ent w) (ent s));have dd:decide (dt s.length (ent w) (ent b)=dt s.length (ent w) (ent s))=false:=qQ1 λz=>a3 z.symm;exists k1,k2,fe,dd
 obtain ⟨v,e,rfl⟩:=fin;show e
def sS (c ps:Vk):Int:=G7 (ps.map λp=>c.getD p.toNat 0)
def kX (hn:nn c):∀ps:List Int,0<=sS c ps/\(l9 c ps=true↔0<sS c ps)
 | []=>⟨qH0 0,Iff.intro (λh=>absurd h qA3) λh=>absurd h (show ¬ (0:Int)<0 by decide)⟩
 | p::ps=>by
  have I:=kX hn ps;have h0:=dM hn p.toNat;have e:sS c (p::ps)=c.getD p.toNat 0+sS c ps:=rfl;have e2:l9 c (p::ps)=(decide (0<c.getD p.toNat 0)||l9 c ps):=rfl;rw[e,e2,Bool.or_eq_true,I.2,qS9]
  have:=I.1
  omega
def kW (hn:nn c):decide (0<sS c ps)=l9 c ps:=by
 rw[qH7,qS9];show (kX hn ps).2.symm
def kU (hn:nn c):decide (sS c ps=0)=!l9 c ps:=by
 have:=kX hn ps
 cases q:l9 c ps with
 |true=>rw[q]at this;have:=this.2.mp rfl;show qQ1 ox
 |false=>rw[q]at this;have h:¬ 0<sS c ps:=λz=>qA3 (this.2.mpr z);show qQ0 ox
def dD (c ps:Vk) (hp:ps.length<=6):∀N mg me ρ (h:∀p∈ps,∃I,mg (.int p) (ρ++List.replicate (N-ρ.length) Sl.un)=some I/\me I=.ok (.int (c.getD p.toNat 0))),j7 N mg yes me (ps.map W.int) ρ=.ok (lI (ps.map λp=>c.getD p.toNat 0)):=λN mg me ρ h=>by
 rw[l5 (λp=>W.int (c.getD p.toNat 0)) _ _ ρ ox h];unfold lI;rw[qC5];rfl
def Bd (ps:Vk) (hp:ps.length<=6):∀N mg mc me ρ (h:∀p∈ps,∃I,mg (.int p) (ρ++List.replicate (N-ρ.length) Sl.un)=some I/\mc I=.ok false),j7 N mg mc me (ps.map W.int) ρ=.ok (.lst []):=λN mg mc me ρ h=>by
 rw [y9 W.int W.int (λ_=>false) ps ρ ox λk hk=>by
  obtain ⟨I,e1,e2⟩:=h k hk;show ⟨I,e1,e2,λq=>by cases q⟩]
 simp
def sdB (side:Int)(qs:Vk)(m:Mv):Bool:=if side=0 then brB qs m else brB qs (swp m)
def kN (hs:side=0\/side=1) (h6:fu.length<=6) (a6:wo.length=fu.length) (hm:∀m∈ms,okN fu.length m) (hp:okP fu.length qs) (hd:∀m∈ms,sdB side qs m=false) (hw:nn wo) (hf:nn fu) (h0:l9 wo qs=false) (h1:l9 fu qs=true):L0 [tI qs,lM ms,.int side,tI wo,tI fu]=.ok (.bl true):=by
 have fin:Ok (L0 [tI qs,lM ms,.int side,tI wo,tI fu]) λv=>v=.bl true:=by
  have i1:fIsi [tI qs,.ty "tuple"]=.ok (.bl true):=rfl;have a5:decide ((0:Int)<((0:Nat):Int))=false:=rfl;exists rpB,cW,i1;rw[Bd qs hp.2];rotate_left
  .intro p I;have hh:=hp.1 p I;have g:gNr p (wo.length:Int)=.bl false:=by
    unfold gNr;rw[qQ0 hh.1,qQ0 (show p<(wo.length:Int) by omega)];rfl
   refine ⟨_,rfl,?_⟩;exists g
  exists a5;refine p7 (t9 (λi ρ=>∃x,ρ = [.par (tI qs),.par (lM ms),.par (.int side),.par (tI wo),.par (tI fu),x]) ⟨_,rfl⟩ ?_ ?_)
  .rintro i u ρ hu ⟨x,rfl⟩;obtain ⟨m,a4,_,rfl⟩:=W3 hu;have hok:=hm m a4;have a3:=hd m a4;have p1:=kW hok.2.2.1 (ps:=qs);have p2:=kW hok.2.2.2 (ps:=qs);have z1:=kU hok.2.2.1 (ps:=qs);have z2:=kU hok.2.2.2 (ps:=qs);have c0:L2.atI [tI m.1,tI m.2] 0=some (tI m.1):=rfl;have c1:L2.atI [tI m.1,tI m.2] 1=some (tI m.2):=rfl;have y1:=dD m.1 qs hp.2;have y2:=dD m.2 qs hp.2;have l1:∀p∈qs,0<=p/\p<(m.1.length:Int):=λp h=>by have:=hp.1 p h;have:=hok.1;omega
   have l2:∀p∈qs,0<=p/\p<(m.2.length:Int):=λp h=>by have:=hp.1 p h;have:=hok.2.1;omega
   have u1:G7 (qs.map λp=>m.1.getD p.toNat 0)=sS m.1 qs:=rfl;have u2:G7 (qs.map λp=>m.2.getD p.toNat 0)=sS m.2 qs:=rfl;unfold sdB at a3;refine ⟨_,rfl,?_⟩;rcases hs with rfl|rfl
   .rw [qA2 rfl]at a3
    unfold brB at a3;exists rp18;rw[y2,y1];rotate_left
    .intro p I
     have:=l1 p I
     refine ⟨_,rfl,?_⟩;exists c0
    .intro p I
     have:=l2 p I
     refine ⟨_,rfl,?_⟩;exists c1
    exists u1,u2,p2,z1,a3;show ⟨_,rfl⟩
   .rw [qA4 Zz]at a3
    unfold brB at a3;exists rp18;rw[y1,y2];rotate_left
    .intro p I
     have:=l2 p I
     refine ⟨_,rfl,?_⟩;exists c1
    .intro p I
     have:=l1 p I
     refine ⟨_,rfl,?_⟩;exists c0
    exists u1,u2,p1,z2,a3;show ⟨_,rfl⟩
  .rintro ρ ⟨x,rfl⟩;have z1:=kU hw (ps:=qs);have p1:=kW hf (ps:=qs);rw[h0]at z1;rw[h1]at p1;have u1:G7 (qs.map λp=>wo.getD p.toNat 0)=sS wo qs:=rfl;have u2:G7 (qs.map λp=>fu.getD p.toNat 0)=sS fu qs:=rfl;exists rp18;rw[dD wo qs hp.2,dD fu qs hp.2];rotate_left
   .intro p I
    have:=hp.1 p I
    refine ⟨_,rfl,?_⟩;exists rp18
   .intro p I
    have:=hp.1 p I
    refine ⟨_,rfl,?_⟩;exists rp18
   exists u1,u2,z1,p1
 obtain ⟨v,e,rfl⟩:=fin;show e
def fA (h6:s.length<=6) (hl:∀x∈ss,x.length=s.length) (a4:ss.length<=30):J5 [tI s,lS ss]=.ok (.bl (j1 s ss)):=by
 have e:∀N mg mc me ρ,(∀x∈ss,∃I,mg (tI x) (ρ++List.replicate (N-ρ.length) Sl.un)=some I/\mc I=.ok (i8 s x)/\me I=.ok (tI x))->j7 N mg mc me (ss.map tI) ρ=.ok (lS (ss.filter λx=>i8 s x)):=λN mg mc me ρ h=>by
  refine y9 tI tI (λx=>i8 s x) ss ρ ox λm a3=>?_;obtain ⟨I,e1,e2,e3⟩:=h m a3;show ⟨I,e1,e2,λ_=>e3⟩
 have dd:decide ((0:Int)<((ss.filter λx=>i8 s x).length:Int))=j1 s ss:=by
  rw[qH7,qS9];unfold j1;rw[qD5];constructor
  .intro h;obtain ⟨x,hx⟩:=List.exists_mem_of_length_pos (l:=ss.filter λx=>i8 s x) ox
   have:=qG8.mp hx
   show ⟨x,this.1,this.2⟩
  .rintro ⟨x,hx,hc⟩
   have:=List.length_pos_of_mem (qG8.mpr ⟨hx,hc⟩:x∈ss.filter λx=>i8 s x)
   omega
 exists rpB,bY;rw[e]
 .exists dd
 .intro x hx;have k1:=dS (a:=s) (b:=x) h6 (hl x hx);have ct:=n5 (t4 x);refine ⟨_,rfl,?_⟩;exists k1,ct
def tN {m:Mv}(h6:s.length<=6):∀N mg me ρ (h:∀k∈List.range s.length,∃I,mg (.int (k:Nat)) (ρ++List.replicate (N-ρ.length) Sl.un)=some I/\me I=.ok (.int (m.1.getD k 0+max 0 (s.getD k 0-m.2.getD k 0)))),j7 N mg yes me ((List.range s.length).map λk=>W.int (k:Nat)) ρ=.ok (lI (srcL s m.1 m.2)):=λN mg me ρ h=>by
 rw[l5 (λk=>W.int (m.1.getD k 0+max 0 (s.getD k 0-m.2.getD k 0))) _ _ ρ (by simp;omega) h];unfold lI srcL;rw[qC5];refine congrArg (λl=>R.ok (W.lst l)) (qM4 λk _=>?_)
 change W.int (m.1.getD k 0+max 0 (s.getD k 0-m.2.getD k 0))=W.int (max (m.1.getD k 0) (s.getD k 0-m.2.getD k 0+m.1.getD k 0));congr 1;omega
def vE (h:C5 ms ss=true) (hs:s∈ss) (hm:m∈ms):j1 (srcL s m.1 m.2) ss=true:=by
 unfold C5 at h;show qI1.mp h _ (qS2.mpr ⟨m,hm,qB1.mpr ⟨s,hs,rfl⟩⟩)
def xx (h6:s.length<=6) (a6:b.length=s.length) (hm:∀m∈ms,okN s.length m) (hL:∀x∈L,x.length=s.length) (a3:L.length<=30) (h0:j1 b L=false) (h1:j1 s L=true) (a7:C5 ms L=true):P5 [lS L,tI b,lM ms,tI s]=.ok (.bl true):=by
 have fin:Ok (P5 [lS L,tI b,lM ms,tI s]) λv=>v=.bl true:=by
  have i1:fIsi [lS L,.ty "list"]=.ok (.bl true):=rfl;have k0:=fA (s:=b) (ss:=L) ox (λx hx=>by rw[hL x hx,a6]) a3;have k1:=fA (s:=s) (ss:=L) h6 hL a3;rw[h0]at k0;rw[h1]at k1;exists rpB,cY,i1,k0,k1;refine p7 (t9 (λi ρ=>∃x y:Sl,ρ = [.par (lS L),.par (tI b),.par (lM ms),.par (tI s),x,y]) ⟨_,_,rfl⟩ ?_ ?_)
  .rintro i u ρ hu ⟨x,y,rfl⟩;obtain ⟨hi,rfl⟩:=aP hu;have I:=fx hi;generalize L.getD i []=t at I
   have a5:=hL t I;refine ⟨_,rfl,?_⟩;exists rp18;refine lw (λj ρ=>∃y:Sl,ρ = [.par (lS L),.par (tI b),.par (lM ms),.par (tI s),.par (tI t),y]) ⟨_,rfl⟩ ?_ ?_
   .rintro j u ρ hu ⟨y,rfl⟩;obtain ⟨m,a4,_,rfl⟩:=W3 hu;have hok:=hm m a4;have c0:L2.atI [tI m.1,tI m.2] 0=some (tI m.1):=rfl;have c1:L2.atI [tI m.1,tI m.2] 1=some (tI m.2):=rfl;have e1:=hok.1;have e2:=hok.2.1;have k2:=fA (s:=srcL t m.1 m.2) (ss:=L) (by rw[ff];omega) (λx hx=>by rw[ff,a5,hL x hx]) a3;rw[vE a7 I a4]at k2;refine ⟨_,rfl,?_⟩;exists rp18;rw[tN (s:=t) (m:=m) ox]
    .exists k2;show ⟨_,rfl⟩
    .intro k hk;have hk:k<t.length:=by simpa using hk
     refine ⟨_,rfl,?_⟩;exists c0,c1
   .rintro ρ ⟨y,rfl⟩;show ⟨_,_,rfl⟩
  .rintro ρ ⟨x,y,rfl⟩;exists rp18
 obtain ⟨v,e,rfl⟩:=fin;show e
def FlK.lens (hK:FlK b ms es A T):∀s∈stS b es,s.length=b.length:=λs hs=>by
 unfold stS at hs;rcases qB5.mp hs with e|e
 .rw[e]
 .obtain ⟨z,hz,I⟩:=qB1.mp e;rw[<- I];show hK.len z hz
def AT (h6:b.length<=6) (hm:∀m∈ms,okN b.length m) (hK:FlK b ms es (es.length+1) []) (hn:s∉stS b es):V7 [lS (stS b es),tI b,lM ms,tI s]=.ok (.bl true):=by
 have a5:=λ(t:Vk) (ht:t∈stS b es) (m:Mv) (hm:m∈ms) (hc:i8 t m.1=true)=>hK.closed ht hm hc;have hlen:=hK.lens;have hb:b∈stS b es:=qB8;generalize stS b es=ss at *
 have fin:Ok (V7 [lS ss,tI b,lM ms,tI s]) λv=>v=.bl true:=by
  have i1:fIsi [lS ss,.ty "list"]=.ok (.bl true):=rfl;have f1:fIn true (tI b) (lS ss)=.ok (.bl false):=by rw[aW,qQ0 hb];rfl
  have f2:fIn false (tI s) (lS ss)=.ok (.bl false):=by rw[aW,qQ1 hn];rfl
  exists rpB,gD,i1,f1,f2;refine p7 (t9 (λi ρ=>∃x y:Sl,ρ = [.par (lS ss),.par (tI b),.par (lM ms),.par (tI s),x,y]) ⟨_,_,rfl⟩ ?_ ?_)
  .rintro i u ρ hu ⟨x,y,rfl⟩;obtain ⟨hi,rfl⟩:=aP hu;have I:=fx hi;generalize ss.getD i []=t at I
   have a3:=hlen t I;refine ⟨_,rfl,?_⟩;exists rp18;refine lw (λj ρ=>∃y:Sl,ρ = [.par (lS ss),.par (tI b),.par (lM ms),.par (tI s),.par (tI t),y]) ⟨_,rfl⟩ ?_ ?_
   .rintro j u ρ hu ⟨y,rfl⟩;obtain ⟨m,a4,_,rfl⟩:=W3 hu;have hok:=hm m a4;have c0:L2.atI [tI m.1,tI m.2] 0=some (tI m.1):=rfl;have k1:=dS (a:=t) (b:=m.1) ox (by rw[hok.1,a3]);have k2:=bJ (s:=t) (m:=m) ox (by rw[a3];show hok);have g0:∀r:R Bool,TP.rAnd (.ok false) r=.ok false:=λr=>rfl;refine ⟨_,rfl,?_⟩;cases q:i8 t m.1 with
    | false=>
     rw[q]at k1;exists c0,k1,g0;show ⟨_,rfl⟩
    | true=>
     rw[q]at k1;have f3:fIn true (tI (u8 t m)) (lS ss)=.ok (.bl false):=by rw[aW,qQ0 (a5 t I m a4 q)];rfl
     exists c0,k1,k2,f3;show ⟨_,rfl⟩
   .rintro ρ ⟨y,rfl⟩;show ⟨_,_,rfl⟩
  .rintro ρ ⟨x,y,rfl⟩;exists rp18
 obtain ⟨v,e,rfl⟩:=fin;show e
def Fc (h6:s.length<=6) (I:b.length=s.length) (hm:∀m∈ms,okC s.length m) (h1:Z5 s) (h2:Z5 b) (hs:nn s) (hb:nn b) (h:NoP ms b s w):dj [w,tI b,lM ms,tI s]=.ok (.bl true):=by
 have hN:∀m∈ms,okN s.length m:=λm q=>(hm m q).N;have i1:∀ws:List W,fIsi [.tup ws,.ty "tuple"]=.ok (.bl true):=λ_=>rfl;have a3:decide (((2:Nat):Int)=2)=true:=rfl;have a0:∀x y:W,L2.atI [x,y] 0=some x:=λ_ _=>rfl;have a1:∀x y:W,L2.atI [x,y] 1=some y:=λ_ _=>rfl;cases h with
 | all hK _ hn=>
  have s1:m5 false (W.str "all") (W.str "all")=.ok (.bl true):=rfl;have k1:=AT ox (by rw[I];show hN) hK hn;exists rpB,N7,i1,a3,a0,a1,s1,k1
 | bal hl hk a5=>
  have s1:m5 false (W.str "balance") (W.str "all")=.ok (.bl false):=rfl;have s2:m5 false (W.str "balance") (W.str "balance")=.ok (.bl true):=rfl;have k1:=AR h6 I hm hl hk a5 h1 h2;exists rpB,N7,i1,a3,a0,a1,s1,s2,k1
 | dry hp hd h0 h1=>
  have s1:m5 false (W.str "dry") (W.str "all")=.ok (.bl false):=rfl;have s2:m5 false (W.str "dry") (W.str "balance")=.ok (.bl false):=rfl;have s3:m5 false (W.str "dry") (W.str "dry")=.ok (.bl true):=rfl;have k1:=kN (side:=0) (wo:=b) (fu:=s) (.inl rfl) h6 I hN hp (λm hm=>by unfold sdB;rw[qA2 rfl];show hd m hm) hb hs h0 h1;exists rpB,N7,i1,a3,a0,a1,s1,s2,s3,k1
 | wet hp hd h0 h1=>
  have s1:m5 false (W.str "wet") (W.str "all")=.ok (.bl false):=rfl;have s2:m5 false (W.str "wet") (W.str "balance")=.ok (.bl false):=rfl;have s3:m5 false (W.str "wet") (W.str "dry")=.ok (.bl false):=rfl;have s4:m5 false (W.str "wet") (W.str "wet")=.ok (.bl true):=rfl;rw[<- I]at hN hp;have k1:=kN (side:=1) (wo:=s) (fu:=b) (.inr rfl) ox I.symm hN hp (λm hm=>by unfold sdB;rw[qA4 Zz];show hd _ (qB1.mpr ⟨m,hm,rfl⟩)) hs hb h0 h1;exists rpB,N7,i1,a3,a0,a1,s1,s2,s3,s4,k1
 | wall hx a4 h0 h1 a6=>
  have s1:m5 false (W.str "wall") (W.str "all")=.ok (.bl false):=rfl;have s2:m5 false (W.str "wall") (W.str "balance")=.ok (.bl false):=rfl;have s3:m5 false (W.str "wall") (W.str "dry")=.ok (.bl false):=rfl;have s4:m5 false (W.str "wall") (W.str "wet")=.ok (.bl false):=rfl;have s5:m5 false (W.str "wall") (W.str "wall")=.ok (.bl true):=rfl;have k1:=xx h6 I hN hx a4 h0 h1 a6;exists rpB,N7,i1,a3,a0,a1,s1,s2,s3,s4,s5,k1
def tP (h1:1<=s.length) (h6:s.length<=6) (hb:bnd N s):Ok (Y9 [tI s,.int c]) λw=>∃t:List Int,w=tI t/\t.length=s.length/\bnd (N+1) t:=by
 have g0:=qV0 (c/2) (show (s.length:Int)≠0 by omega);have I:=qP2 (c/2) (show (0:Int)<(s.length:Int) by omega);exists rpB,cX;refine ⟨_,rfl,?_⟩;generalize hz:c/2%(s.length:Int)=z at *
 refine ⟨_,rfl,by rw[qF2],λk=>?_⟩;have hk:=hb k;rw[qA0,qD0]at *;by_cases e:z.toNat=k
 .rw [qA2 e,qA2 ox]
  subst e
  have:=hb z.toNat
  change 0<=max 0 (s.getD z.toNat 0+2*(c%2)-1)/\max 0 (s.getD z.toNat 0+2*(c%2)-1)<=_;omega
 .rw [qA4 e,<- qA0]
  have:=hb k
  omega
def DrP.at0 (h:DrP ms b N ss):1<=ss.length:=by
 obtain ⟨I,rfl⟩:=h.1;rw[qD1];omega
def DrP.two (h:DrP ms b N ss) (a3:i<=j) (I:j<ss.length):Rch ms (ss.getD i []) (ss.getD j []):=by
 have g:∀k (hk:k<ss.length),ss.getD k []=ss[k]:=λk hk=>by rw[qA0,qA8 hk];rfl
 rw[g i ox,g j I];by_cases e:i=j
 .subst e;show .beg
 .show qR5.mp h.2.1 i j ox I ox
def atL {ss:Vw}(h:1<=ss.length):L2.atI (ss.map tI) (-1)=some (tI (ss.getD (ss.length-1) [])):=by
 unfold L2.atI
 have:L2.ixN (ss.map tI).length (-1)=some (ss.length-1):=by
  unfold L2.ixN;rw[qA7];simp;omega
 rw[this]
 change (ss.map tI)[ss.length-1]?=_;rw[qC0,qA0,qA8 ox];rfl
def FU (h:0<=x):∃m:Nat,iS 40 x=(m:Int)/\m<=40:=by
 unfold iS
 split
 .show ⟨x.toNat,ox,ox⟩
 .show ⟨40,rfl,ox⟩
def law_pure (ns:Vk) (h:ns.length<=63) (hb:∀x∈ns,Builtin.Int.intBits x<=1048576):kq [.scr (ns.map W.int)]=.ok (.bl true):=by
 have fin:Ok (kq [.scr (ns.map W.int)]) λv=>v=.bl true:=by
  obtain ⟨_,e0,c0,rfl⟩:=D3 hb (k:=0) ox ox;obtain ⟨_,e1,c1,rfl⟩:=D3 hb (k:=1) ox ox;obtain ⟨_,e2,c2,rfl⟩:=D3 hb (k:=2) ox ox;obtain ⟨_,e3,c3,rfl⟩:=D3 hb (k:=3) ox ox;obtain ⟨_,e4,c4,rfl⟩:=D3 hb (k:=4) ox ox;obtain ⟨_,e5,c5,rfl⟩:=D3 hb (k:=5) ox ox;obtain ⟨_,e6,c6,rfl⟩:=D3 hb (k:=6) ox ox;obtain ⟨n,hn⟩:∃m:Nat,1+c0%5=(m:Int):=⟨(1+c0%5).toNat,ox⟩;obtain ⟨most,cg⟩:∃m:Nat,1+c1%12=(m:Int):=⟨(1+c1%12).toNat,ox⟩;obtain ⟨M,hM⟩:∃m:Nat,1+c4%6=(m:Int):=⟨(1+c4%6).toNat,ox⟩;have h1:1<=n:=ox;have h5:n<=5:=ox;obtain ⟨pl,d1⟩:∃pl:Bool,decide (c2%3=1)=pl:=⟨_,rfl⟩;exists rpB,yw,e0,e1,e2,hn,cg,d1,e3;refine p7 (sK (λρ=>∃f:Int,ρ = [.par (.scr (ns.map W.int)),.val (.int (n:Int)),.val (.int (most:Int)),.val (.bl pl),.val (.int f),.un,.un,.un,.un,.un,.un,.un,.un,.un]/\0<=f/\f<=100000001) ?_ ?_)
  .refine bF (λh=>?_) (λh=>?_)
   .exists e3;show ⟨1+c3/4%100000000,rfl,ox⟩
   .exists rp18;show ⟨1,rfl,ox⟩
  rintro ρ ⟨f,rfl,hf⟩;exists e4,hM;refine t9 (λi ρ=>∃(ms:List Mv) (x:Sl),ρ = [.par (.scr (ns.map W.int)),.val (.int (n:Int)),.val (.int (most:Int)),.val (.bl pl),.val (.int f),.own (ms.map mW),x,.un,.un,.un,.un,.un,.un,.un]/\(∀m∈ms,okC n m)/\ms.length=i) ⟨[],_,rfl,Zy,rfl⟩ ?_ ?_
  .rintro i w ρ hw ⟨ms,x,rfl,I,ab⟩;obtain ⟨hi,rfl⟩:=cH hw;have d6:0<=(n:Int)*(i:Int)/\(n:Int)*(i:Int)<=5*6:=⟨qV8 ox ox,Int.mul_le_mul ox ox ox ox⟩;obtain ⟨_,em,m,rfl,hm⟩:=Av hb (a:=11+(n:Int)*(i:Int)) (f:=f) (n:=n) (pl:=pl) h1 ox ox ox hf;refine ⟨_,rfl,?_⟩;exists em;refine ⟨ms ++ [m],_,by rw[qC9];rfl,λm' cw=>?_,by simp [ab]⟩;rcases qC8.mp cw with q|q
   .show I m' q
   .rw[qC4.mp q];show hm
  rintro ρ ⟨ms,x,rfl,I,ab⟩;rw[qA7,qF5]at ab;have h8:ms.length<=8:=ox;exists rp18;refine oh (tj (λ_ z=>0<=z/\z<=1000000000) ox (λk hk=>?_) λb d3 cx=>?_)
  .obtain ⟨_,ek,z,rfl⟩:=D3 hb (k:=5+(k:Int)) ox ox;refine ⟨_,rfl,?_⟩;exists ek;show ⟨_,rfl,_,rfl,fR ox ox hf⟩
  have a5:bnd 0 b:=λk=>by
   by_cases hk:k<n
   .have:=cx k hk;omega
   .rw [qA0,qJ3 ox]
    change (0:Int)<=0/\(0:Int)<=_;omega
  subst d3;have ct:=n5 (t4 b);have cm:chk (tM_ ms)=.ok (tM_ ms):=n5 (gr ms);obtain ⟨D,hD,d2⟩:=FU (x:=6+(ns.length:Int)) ox;obtain ⟨_,kd,ss,rfl,a3,d5⟩:=mS hb (b:=b) (ms:=ms) (a:=1) (M:=D) ox I h8 ox d2 a5;have kd:F7 [.scr (ns.map W.int),.int 1,.int (D:Int),tI b,lM ms]=.ok (lS ss):=kd;have d0:=a3.at0;have hlen:∀s∈ss,s.length=b.length:=λs hs=>(a3.2.2 s hs).1.len;have a6:∀s∈ss,bnd 40 s:=λs hs=>(a3.2.2 s hs).2;have hN:∀m∈ms,okN b.length m:=λm q=>(I m q).N;have b5:∀(a t:Vk) (i j:Nat),i<=50->j<=50->a.length=b.length->t.length=b.length->bnd i a->bnd j t->∃w,K8 [.tup [tI a,tM_ ms],tI t,.int (most:Int)]=.ok w/\(nk ms a t w\/NoP ms a t w):=λa t i j hi hj ha ht ba bt=>by
   obtain ⟨w,e,r⟩:=pF (ms:=ms) (b:=a) (s:=t) (most:=most) ox ox ox (by rw[ht];show I) h8 ox ox (bt.b64 ox) (ba.b64 ox);show ⟨w,e,r.two ox ox ox⟩
  have yes:∀(a t:Vk) (i j:Nat),i<=50->j<=50->a.length=b.length->t.length=b.length->bnd i a->bnd j t->Rch ms a t->∃w,K8 [.tup [tI a,tM_ ms],tI t,.int (most:Int)]=.ok w/\J0 [w,tI a,lM ms,tI t]=.ok (.bl true):=λa t i j hi hj ha ht ba bt hr=>by
   obtain ⟨w,e,y|y⟩:=b5 a t i j hi hj ha ht ba bt
   .show ⟨w,e,xY ox (by rw[ha];show hN) y⟩
   .show absurd hr (y.out ox (by rw[ht];show hN))
  have gm:∀k,k<ss.length->ss.getD k []∈ss:=λk hk=>fx hk;have kl:=atL d0;have ck:(ss.length:Int)/2=((ss.length/2:Nat):Int):=ox;have cy:(ss.length:Int)/3=((ss.length/3:Nat):Int):=ox;have k2:=atS (ss:=ss) (i:=ss.length/2) ox;have k3:=atS (ss:=ss) (i:=ss.length/3) ox;have tl:=a3.two (i:=ss.length/3) (j:=ss.length-1) ox ox;have gl:=gm (ss.length-1) ox;have g2:=gm (ss.length/2) ox;have g3:=gm (ss.length/3) ox;obtain ⟨q5,cp⟩:∃q:Nat,c5%(ss.length:Int)=(q:Int):=⟨(c5%(ss.length:Int)).toNat,by have:=qV0 c5 (show (ss.length:Int)≠0 by omega);omega⟩;have a7:q5<ss.length:=by have:=qP2 c5 (show (0:Int)<(ss.length:Int) by omega);omega
  have k5:=atS (ss:=ss) (i:=q5) a7;have g5:=gm q5 a7;generalize ss.getD (ss.length-1) []=sl at kl tl gl
  generalize ss.getD (ss.length/2) []=s2 at k2 g2
  generalize ss.getD (ss.length/3) []=s3 at k3 tl g3
  generalize ss.getD q5 []=s5 at k5 g5
  have cl:=n5 (t4 sl);have cj:=n5 (t4 s2);have cn:=n5 (t4 s3);exists ct,cm,hD,kd,kl,ck,k2,cl,cj;refine t9 (λi ρ=>∃y:Sl,ρ = [.par (.scr (ns.map W.int)),.val (.int (b.length:Int)),.val (.int (most:Int)),.val (.bl pl),.val (.int f),.own (ms.map mW),x,.val (tI b),.val (.tup [tI b,tM_ ms]),.own (ss.map tI),y,.un,.un,.un]) ⟨_,rfl⟩ ?_ ?_
  .rintro i u ρ hu ⟨y,rfl⟩;obtain ⟨t,ht,rfl⟩:∃t∈ss,u=tI t:=by
    have:=qG3 hu
    rcases qB5.mp this with q|q
    .show ⟨sl,gl,q⟩
    .show ⟨s2,g2,qC4.mp q⟩
   obtain ⟨w,kr,ky⟩:=yes b t 0 40 ox ox rfl (hlen t ht) a5 (a6 t ht) (a3.2.2 t ht).1;refine ⟨_,rfl,?_⟩;exists kr,ky;show ⟨_,rfl⟩
  rintro ρ ⟨y,rfl⟩;obtain ⟨w3,bc,bq⟩:=yes s3 sl 40 40 ox ox (hlen s3 g3) (hlen sl gl) (a6 s3 g3) (a6 sl gl) tl;have l1:L2.atI [tI b,tM_ ms] 1=some (tM_ ms):=rfl;obtain ⟨_,ko,t,rfl,a4,a9⟩:=tP (s:=s5) (c:=c6) (N:=40) (by rw[hlen s5 g5];show h1) (by rw[hlen s5 g5];omega) (a6 s5 g5);rw[hlen s5 g5]at a4;obtain ⟨w,kr,hw⟩:=b5 b t 0 41 ox ox rfl a4 a5 a9;exists cy,k3,cn,l1,kl,bc,bq,e5,cp,k5,e6,ko,kr;rcases hw with hw|hw
  .have ky:=xY ox hN hw;exists ky
  .have ky:=HV hw;have b4:=hw.out a4.symm (by rw[a4];show hN);exists ky;refine t9 (λi ρ=>∃y z:Sl,ρ = [.par (.scr (ns.map W.int)),.val (.int (b.length:Int)),.val (.int (most:Int)),.val (.bl pl),.val (.int f),.own (ms.map mW),y,.val (tI b),.val (.tup [tI b,tM_ ms]),.own (ss.map tI),z,.val (tI s3),.val (tI t),.val w]) ⟨_,_,rfl⟩ ?_ ?_
   .rintro i u ρ hu ⟨y,z,rfl⟩;obtain ⟨hi,rfl⟩:=cH hu;have hi:i<3:=by simpa using hi
    have ea:(9:Int)+13*(i:Int)=((9+13*i:Nat):Int):=ox;obtain ⟨_,a8,b0,rfl,b3,_⟩:=mS hb (b:=b) (ms:=ms) (a:=9+13*i) (M:=20) ox I h8 ox ox a5;have a8:F7 [.scr (ns.map W.int),.int ((9+13*i:Nat):Int),.int 20,tI b,lM ms]=.ok (lS b0):=a8;have f1:fIn false (tI t) (lS b0)=.ok (.bl false):=by rw[aW,qQ1 λq=>b4 (b3.2.2 t q).1];rfl
    refine ⟨_,rfl,?_⟩;exists ea,a8,f1;show ⟨_,_,rfl⟩
   .rintro ρ ⟨y,z,rfl⟩;have f1:fIn true (tI t) (lS ss)=.ok (.bl true):=by rw[aW,qQ1 λq=>b4 (a3.2.2 t q).1];rfl
    have kn:=Fc ox a4.symm (by rw[a4];show I) (a9.b64 ox) (a5.b64 ox) a9.nn a5.nn hw;exists f1,kn
 obtain ⟨v,e,rfl⟩:=fin;show e
end K88
set_option maxHeartbeats 4000000
open PySem L2 TP
namespace K88
def D6 {K:Frag}{d:Mode}:=(dL (K:=K) (d:=d) (g:=C4) (λ_ _=>rfl) (λ_ _ _=>.int))
def eQ {K:Frag}{d:Mode}:=(dL (K:=K) (d:=d) (g:=gSub) (λ_ _=>rfl) (λ_ _ _=>.int))
def xLt {K:Frag}{d:Mode}:=(dL (K:=K) (d:=d) (g:=gLt) (λ_ _=>rfl) (λ_ _ _=>.bl))
def xGt {K:Frag}{d:Mode}:=(dL (K:=K) (d:=d) (g:=gGt) (λ_ _=>rfl) (λ_ _ _=>.bl))
local macro_rules | `(tactic| trivial)=>`(tactic| first | exact Or.inl rfl | exact Or.inr rfl | exact Or.inr (Or.inl rfl) | exact Or.inr (Or.inr rfl) | assumption | exact ⟨rfl,rfl,rfl,by decide +kernel,rfl,by decide +kernel,by decide +kernel⟩ | exact Room.mono (by assumption) (by decide) | exact ⟨rfl,by decide +kernel,by decide +kernel,by decide +kernel,by decide +kernel,by decide,by decide +kernel,by decide +kernel⟩)
abbrev hk (w:World):Frag:=uk w.params
structure Blt (mg:JV):Prop where
 all_:mg "all" = none
 any_:mg "any" = none
 bool_:mg "bool" = none
 enumerate_:mg "enumerate" = none
 int_:mg "int" = none
 isinstance_:mg "isinstance" = none
 len_:mg "len" = none
 list_:mg "list" = none
 max_:mg "max" = none
 min_:mg "min" = none
 range_:mg "range" = none
 reversed_:mg "reversed" = none
 sorted_:mg "sorted" = none
 sum_:mg "sum" = none
 tuple_:mg "tuple" = none
 zip_:mg "zip" = none
def En (w:World)(mg:JV):Prop:=∃h:Heap,(hk w).In h/\h.Ns mainGlobals mg
def bn (Y:En w mg)(e:PySem.W.nsIn (hk w) mainGlobals x=some none):mg x=none:=Y.elim λ_ q=>PySem.W.mg_none_of q.1 q.2 e
def bl (Y:En w mg):Blt mg:=⟨bn Y Zj,bn Y Zj,bn Y Zj,bn Y Zj,bn Y Zj,bn Y Zj,bn Y Zj,bn Y Zj,bn Y Zj,bn Y Zj,bn Y Zj,bn Y Zj,bn Y Zj,bn Y Zj,bn Y Zj,bn Y Zj⟩
abbrev FD (I:String)(i:Nat)(pm:Value)(c:Nat):FuncData:=PySem.W.fnOf I I (R3 (top i)) (J9 (top i)) (b9 (top i)) .none .none .none pm none (.ref c) .none
def dk (Y:En w mg){I:String}{c:Nat}(e:(PySem.W.nsIn (hk w) mainGlobals I,(hk w).lookup f,PySem.W.codeIn (hk w) (.ref c) I,PySem.W.keepIn (hk w) (.ref f))=(some (some (.ref f)),some (hxG I i pm c),true,true)) (hb:∀(kV doc pm:Value) (an:Option Addr) (cdv ct:Value) (us:JY),us.length=ps.length->bindArgs (PySem.W.fnOf I I (R3 (top i)) (J9 (top i)) (b9 (top i)) .none kV doc pm an cdv ct) ⟨us,[]⟩=pure (ps.zip us)):Def (hk w) mg I (top i) ps f (FD I i pm c):=by
 obtain ⟨h,X,G⟩:=Y;injection e with a e
 injection e with l e
 injection e with c k
 have F:=FZ (st:=top i) l c k;show ⟨F,PySem.W.mg_of X G a,F.binds hb⟩
def okF (D:Def K mg x st ps f fd) (S:e8 N ps (b9 st)) (hd:d=.F\/d=.V) (hn:ps.length=n) (I:N.length=l) (b:∀{cdv:Value}{A:Around}{outer:List Env}{s:Shared}{H:Hp}{E:XK},Room k (A.deeper (PyProof.Rows.envOfC x (b9 st) s.heap.objs.size f cdv))->PSs (dm CX0 P w K mg base N x (b9 st) f cdv A outer s H E).nox (J9 st) (tSt K (λ_ _=>False) d m)):FnOk P w K mg base CX0 (k+1) f fd ps (spM K n d (i5 n l m)):=by
 subst hn I;show D.F.ok S (λ_ _ _ _ h=>h.1) λcdv A outer s H vs Q E hr h=>⟨_,b hr,Hz hd h⟩
def okX (D:Def K mg x st ps f fd) (S:e8 N ps (b9 st)) (hn:ps.length=n) (I:N.length=l) (b:∀{cdv:Value}{A:Around}{outer:List Env}{s:Shared}{H:Hp}{E:XK},Room k (A.deeper (PyProof.Rows.envOfC x (b9 st) s.heap.objs.size f cdv))->PSs (dm CX0 P w K mg base N x (b9 st) f cdv A outer s H E).nox (J9 st) (tSt K (λ_ _=>False) .V m)):FnOk P w K mg base CX0 (k+1) f fd ps (spX K n (M9 n l m)):=by
 subst hn I;show D.F.ok S (λ_ _ _ _ h=>h.1) λcdv A outer s H vs Q E hr h=>⟨_,b hr,BS h⟩
def qcD {X:Cx}{K:Frag}{d:Mode}{e:Expr}{es:Vz}{pos:Pos}{mr:VQ}{k:Nat}{f:Addr}{fd:FuncData}{ps:Vq}{x:Str}{st:Stmt}{p:Pos}{n N:Nat}{m:Vg}(F:FnOk X.prog X.w X.K X.mg X.base CX0 k f fd ps (spM K n d (i5 n N m))) (D:Def X.K X.mg x st ps f fd)
  (ha:PA X (e::es) (tA K (λ_ _=>False) .B mr)) (hd:d=.F\/d=.V:=by first|show .inl rfl|show .inr rfl) (hr:Room k X.A:=by show Room.mono (by assumption) Zz) (hg:Gl X x:=by rfl) (I:(x == ("__debug__" : Str))=false:=by decide) (he:starEach (e::es) X.env=(false,eval e X.env)::starEach es X.env:=by rfl) (a3:(backTo pos (starEach es X.env)).any (·.1)=false:=by rfl) :
  PE X (.Call (.Name x p) (e::es) [] pos) (tM K (λ_ _=>False) d (bA (i5 n N m) mr)):=Ek F hd hr hg D.m D.F.kp D.b ha I he a3
def k7 {X:Cx}{K:Frag}{EX:EXT}{cs:Scope}{N':Vq}{n:Nat}{tg iter I:Expr}{a3:Vz}{dd:Mode}{g:TG}{mg:VJ}{mi:VQ}{ta:VZ}{ma:Vo}{pos:Pos}(S:f8 X.env.scope cs X.N N') (hc:X.calm=true) (hi:PI X tg iter (tIt K EX false dd mi))
  (hg:∀cl ex s H,PG (k6 X cs cl N' ex s H) tg g) (a4:Gt K dd g mg) (hk:S1 X.N.length g) (ht:∀cl ex s H,PIf (k6 X cs cl N' ex s H) a3 (tT K EX ta)) (he:∀cl ex s H,PE (k6 X cs cl N' ex s H) I (tM K EX .V ma))
  (hn:N'.length=n:=by rfl) (hs:∀x,foldedSetIterable iter X.env x=pure x:=by intro _;rfl):PE X (.ListComp I [⟨tg,iter,a3,0⟩] cs pos) (tM K EX .F (l6 n mi mg ta ma)):=by
 subst hn;show Ei S hc hi hg a4 hk ht he hs
def aK {X:Cx}{K:Frag}{EX:EXT}{d:Mode}{i n:Nat}{y:Str}{py:Pos}{cs:Scope}{N':Vq}{tg iter a3:Expr}{a4:Vz}{dd:Mode}{g:TG}{mg:VJ}{mi:VQ}{ta:VZ}{ma:Vo}{I pos:Pos}(S:f8 X.env.scope cs X.N N') (hc:X.calm=true) (hi:PI X tg iter (tIt K EX false dd mi))
  (hg:∀cl ex s H,PG (k6 X cs cl N' ex s H) tg g) (a6:Gt K dd g mg) (hk:S1 X.N.length g) (ht:∀cl ex s H,PIf (k6 X cs cl N' ex s H) a4 (tT K EX ta)) (he:∀cl ex s H,PE (k6 X cs cl N' ex s H) a3 (tM K EX .V ma))
  (hN:X.N.Nodup) (hy:X.N[i]?=some y) (hl:Loc X.env.scope y)
  (hn:N'.length=n:=by rfl) (a5:swapsWith (.ListComp a3 [⟨tg,iter,a4,0⟩] cs I) (some (.Name y py)) pos.line X.env=pure true:=by rfl) (hf:X.fn y=true\/X.env.scope.names.lookup y=some .local:=by first|show .inl rfl|show .inr rfl|assumption)
  (hs:∀x,foldedSetIterable iter X.env x=pure x:=by intro _;rfl):PS X (.Assign [.Name y py] (.ListComp a3 [⟨tg,iter,a4,0⟩] cs I) pos) (tSt K EX d (sF i (l6 n mi mg ta ma))):=by
 subst hn;show DZ S hc hi hg a6 hk ht he hN hy hl a5 hf hs
def us0 {P:List Value->Prop}(h:P []):∀us:List Value,us.length=0->P us:=λus e=>by
 rw[qY6.mp e];show h
def us1 {P:List Value->Prop}(h:∀a0,P [a0]):∀us:List Value,us.length=1->P us:=λus e=>by
 cases us with
 |nil=>cases e
 |cons a us=>show us0 (P:=λus=>P (a::us)) (h a) us (Nat.succ.inj e)
def us2 {P:List Value->Prop}(h:∀a0 a1,P [a0,a1]):∀us:List Value,us.length=2->P us:=λus e=>by
 cases us with
 |nil=>cases e
 |cons a us=>show us1 (P:=λus=>P (a::us)) (λa1=>h a a1) us (Nat.succ.inj e)
def us3 {P:List Value->Prop}(h:∀a0 a1 I,P [a0,a1,I]):∀us:List Value,us.length=3->P us:=λus e=>by
 cases us with
 |nil=>cases e
 |cons a us=>show us2 (P:=λus=>P (a::us)) (λa1 I=>h a a1 I) us (Nat.succ.inj e)
def us4 {P:List Value->Prop}(h:∀a0 a1 I a3,P [a0,a1,I,a3]):∀us:List Value,us.length=4->P us:=λus e=>by
 cases us with
 |nil=>cases e
 |cons a us=>show us3 (P:=λus=>P (a::us)) (λa1 I a3=>h a a1 I a3) us (Nat.succ.inj e)
def us5 {P:List Value->Prop}(h:∀a0 a1 I a3 a4,P [a0,a1,I,a3,a4]):∀us:List Value,us.length=5->P us:=λus e=>by
 cases us with
 |nil=>cases e
 |cons a us=>show us4 (P:=λus=>P (a::us)) (λa1 I a3 a4=>h a a1 I a3 a4) us (Nat.succ.inj e)
def fj:e8 ["stand","other","number","wanted"] ["stand","other"] (b9 (top 4)):=Zq
def CS:e8 ["stand","move"] ["stand","move"] (b9 (top 5)):=Zq
def vI:e8 ["move"] ["move"] (b9 (top 7)):=Zq
def zr:e8 ["stand","move"] ["stand","move"] (b9 (top 6)):=Zq
def kR:e8 ["stand","basis","low"] ["stand","basis"] (b9 (top 10)):=Zq
def ik:e8 ["stands","found","stand"] ["stands"] (b9 (top 9)):=Zq
def vG:e8 ["stand","move"] ["stand","move"] (b9 (top 11)):=Zq
def cE:e8 ["moves","basis","found","move"] ["moves","basis"] (b9 (top 12)):=Zq
def ny:e8 ["moves","basis"] ["moves","basis"] (b9 (top 13)):=Zq
def sd:e8 ["moves","basis"] ["moves","basis"] (b9 (top 14)):=Zq
def fh:e8 ["moves","rings","most","word","ring","number"] ["moves","rings","most","word"] (b9 (top 17)):=Zq
def kQ:e8 ["stand","moves","ring"] ["stand","moves","ring"] (b9 (top 19)):=Zq
def F0:e8 ["moor","rings","row","here","ring","number"] ["moor","rings"] (b9 (top 18)):=Zq
def io:e8 ["moor","target","most","rings","told"] ["moor","target","most"] (b9 (top 16)):=Zq
def rX:e8 ["stand","step","times"] ["stand","step","times"] (b9 (top 21)):=Zq
def zq:e8 ["weights","counts"] ["weights","counts"] (b9 (top 23)):=Zq
def CQ:e8 ["place","many"] ["place","many"] (b9 (top 26)):=Zq
def rZ:e8 ["row","lead","column"] ["row","lead","column"] (b9 (top 31)):=Zq
def Z8:e8 ["row","other","column","rest"] ["row","other","column"] (b9 (top 29)):=Zq
def O3:e8 ["rows","column","kept","row","pair"] ["rows","column"] (b9 (top 28)):=Zq
def rV:e8 ["row","column"] ["row","column"] (b9 (top 30)):=Zq
def O2:e8 ["rows","found","left","column","lead"] ["rows"] (b9 (top 27)):=Zq
def L4:e8 ["moves","many","found","move","step","weighed"] ["moves","many"] (b9 (top 25)):=Zq
def U7:e8 ["tree","number","numbers","at"] ["tree","number"] (b9 (top 33)):=Zq
def HZ:e8 ["tree","number"] ["tree","number"] (b9 (top 35)):=Zq
def bV:e8 ["tree","elder","number","path"] ["tree","elder","number"] (b9 (top 36)):=Zq
def fW:e8 ["moor","stand"] ["moor","stand"] (b9 (top 39)):=Zq
def N6:e8 ["moor","most","rows","known","at","stand","behind","number"] ["moor","most"] (b9 (top 38)):=Zq
def nz:e8 ["rows"] ["rows"] (b9 (top 40)):=Zq
def vH:e8 ["rows","number"] ["rows","number"] (b9 (top 41)):=Zq
def rW:e8 ["counts","places"] ["counts","places"] (b9 (top 44)):=Zq
def X1:e8 ["moves","places","number","move"] ["moves","places"] (b9 (top 43)):=Zq
def F1:e8 ["moves","places","kept","number"] ["moves","places"] (b9 (top 45)):=Zq
def vF:e8 ["moves"] ["moves"] (b9 (top 47)):=Zq
def il:e8 ["moves","places"] ["moves","places"] (b9 (top 46)):=Zq
def X0:e8 ["moor","stand","weights"] ["moor","stand"] (b9 (top 50)):=Zq
def im:e8 ["stand"] ["stand"] (b9 (top 52)):=Zq
def bz:e8 ["moor","stand","dry","wet"] ["moor","stand"] (b9 (top 51)):=Zq
def cD:e8 ["moor","stand","most","told"] ["moor","stand","most"] (b9 (top 53)):=Zq
def N5:e8 ["moor","stand","most","told","stands","reason"] ["moor","stand","most"] (b9 (top 49)):=Zq
def ar:e8 ["_law_script","_law_k","_law_number"] ["_law_script","_law_k"] (b9 (top 55)):=Zq
def y4:e8 ["_law_script","_law_at","_law_many","_law_plain","_law_times","_law_take","_law_put","_law_p","_law_cell_here","_law_one","_law_other_here"] ["_law_script","_law_at","_law_many","_law_plain","_law_times"] (b9 (top 56)):=Zq
def bW:e8 ["_law_stand","_law_other_here","_law_p"] ["_law_stand","_law_other_here"] (b9 (top 57)):=Zq
def jR:e8 ["_law_stand","_law_move_here"] ["_law_stand","_law_move_here"] (b9 (top 58)):=Zq
def O4:e8 ["_law_script","_law_at","_law_size","_law_begin","_law_moves","_law_stands","_law_k","_law_goers"] ["_law_script","_law_at","_law_size","_law_begin","_law_moves"] (b9 (top 59)):=Zq
def bB:e8 ["_law_row","_law_stand","_law_moves","_law_k"] ["_law_row","_law_stand","_law_moves"] (b9 (top 60)):=Zq
def pD:e8 ["_law_found","_law_begin","_law_moves","_law_stand"] ["_law_found","_law_begin","_law_moves","_law_stand"] (b9 (top 61)):=Zq
def kT:e8 ["_law_weights","_law_counts"] ["_law_weights","_law_counts"] (b9 (top 62)):=Zq
def bC:e8 ["_law_stands","_law_begin","_law_moves","_law_stand","_law_one","_law_move_here"] ["_law_stands","_law_begin","_law_moves","_law_stand"] (b9 (top 63)):=Zq
def aI:e8 ["_law_weights","_law_begin","_law_moves","_law_stand","_law_move_here"] ["_law_weights","_law_begin","_law_moves","_law_stand"] (b9 (top 64)):=Zq
def cF:e8 ["_law_some","_law_moves","_law_side","_law_without","_law_full","_law_move_here"] ["_law_some","_law_moves","_law_side","_law_without","_law_full"] (b9 (top 65)):=Zq
def jQ:e8 ["_law_stand","_law_basis"] ["_law_stand","_law_basis"] (b9 (top 66)):=Zq
def X3:e8 ["_law_basis","_law_begin","_law_moves","_law_stand","_law_one","_law_move_here"] ["_law_basis","_law_begin","_law_moves","_law_stand"] (b9 (top 67)):=Zq
def se:e8 ["_law_found","_law_begin","_law_moves","_law_stand"] ["_law_found","_law_begin","_law_moves","_law_stand"] (b9 (top 68)):=Zq
def X2:e8 ["_law_stand","_law_cell_here","_law_place","_law_other_here"] ["_law_stand","_law_cell_here"] (b9 (top 69)):=Zq
def E4:e8 ["_law_script","_law_many","_law_most","_law_plain","_law_times","_law_moves","_law_k","_law_begin","_law_land","_law_drawn_here","_law_stand","_law_here","_law_other_here","_law_found"] ["_law_script"] (b9 (top 70)):=Zq
section
variable {P:Program}{w:World}{mg:JV}{base:Heap}(Y:En w mg)
include Y
def iW:Def (hk w) mg "covers" (top 4) ["stand","other"] 53 (FD "covers" 4 T4 52):=dk Y Zj λ_ _ _ _ _ _=>us2 λ_ _=>rfl
abbrev Qa:List Str:=["_law_some","_law_moves","_law_side","_law_without","_law_full","_law_move_here","_law_p"]
abbrev Qb:List Str:=["stand","move"]
abbrev Qc:List Str:=["moves","basis"]
abbrev Qd:List Str:=["moor","stand"]
abbrev Qe:List Str:=["moves","places"]
abbrev Qf:List Str:=["rows"]
abbrev Qg:List Str:=["_law_some","_law_moves","_law_side","_law_without","_law_full","_law_move_here"]
abbrev Qh:List Str:=["stand","move","number","take","put"]
abbrev Qi:List Str:=["tree","number"]
abbrev Qj:List Str:=["moor","stand","most"]
abbrev Qk:List Str:=["_law_script","_law_at","_law_many","_law_plain","_law_times","_law_take","_law_put","#_law_p","_law_cell_here","_law_one","_law_other_here","_law_p"]
abbrev Ql:List Str:=["_law_found","_law_begin","_law_moves","_law_stand"]
abbrev Qm:List Str:=["move","take","put"]
abbrev Qn:List Str:=["stand","move","number","step"]
abbrev Qo:List Str:=["stand","moves","ring"]
abbrev Qp:List Str:=["stand","moves","ring","number","move"]
abbrev Qq:List Str:=["stand","step","times"]
abbrev Qr:List Str:=["stand","step","times","number","by"]
abbrev Qs:List Str:=["weights","counts"]
abbrev Qt:List Str:=["weights","counts","weight","number"]
abbrev Qu:List Str:=["place","many"]
abbrev Qv:List Str:=["row","column"]
abbrev Qw:List Str:=["moves","many","found","move","step","weighed"]
abbrev Qx:List Str:=["moor","stand","number","move"]
abbrev Qy:List Str:=["counts","places"]
abbrev Qz:List Str:=["moves","take","put"]
abbrev QB:List Str:=["stand","place","number"]
abbrev QC:List Str:=["_law_stand","_law_move_here"]
abbrev QD:List Str:=["_law_weights","_law_counts"]
abbrev QE:List Str:=["_law_stand","_law_basis"]
abbrev QF:List Str:=["_law_script"]
abbrev QG:List Str:=["moves","basis","found","move","stand"]
abbrev QH:List Str:=["moves","basis","stand"]
abbrev QI:List Str:=["moves","rings","most","word"]
abbrev QJ:List Str:=["row","column","number"]
abbrev QK:List Str:=["rows","found","left","column","lead","row"]
abbrev QL:List Str:=["moves","many","found","move","step","weighed","place"]
abbrev QM:List Str:=["moves","many","found","move","step","weighed","weights"]
abbrev QN:List Str:=["moves","many","found","move","step","weighed","row"]
abbrev QO:List Str:=["tree","elder","number"]
abbrev QP:List Str:=["tree","elder","number","path","at"]
abbrev QQ:List Str:=["counts","places","place"]
abbrev QR:List Str:=["moves","places","kept","number","place"]
abbrev QS:List Str:=["_law_script","_law_at","_law_many","_law_plain","_law_times"]
abbrev QT:List Str:=["_law_script","_law_at","_law_many","_law_plain","_law_times","_law_take","_law_put","_law_p","_law_cell_here","_law_one","_law_other_here"]
abbrev QU:List Str:=["_law_stand","_law_other_here"]
abbrev QV:List Str:=["_law_stand","_law_move_here","_law_p"]
abbrev QW:List Str:=["_law_script","_law_at","_law_size","_law_begin","_law_moves"]
abbrev QX:List Str:=["_law_script","_law_at","_law_size","_law_begin","_law_moves","_law_stands","_law_k","_law_goers","_law_move_here"]
abbrev QY:List Str:=["_law_row","_law_stand","_law_moves"]
abbrev QZ:List Str:=["_law_weights","_law_counts","_law_p"]
abbrev JJ:List Str:=["_law_stands","_law_begin","_law_moves","_law_stand"]
abbrev JK:List Str:=["_law_weights","_law_begin","_law_moves","_law_stand"]
abbrev JL:List Str:=["_law_some","_law_moves","_law_side","_law_without","_law_full"]
abbrev JM:List Str:=["_law_stand","_law_basis","_law_one"]
abbrev JN:List Str:=["_law_basis","_law_begin","_law_moves","_law_stand"]
abbrev JO:List Str:=["_law_basis","_law_begin","_law_moves","_law_stand","_law_one","_law_move_here","_law_p"]
abbrev JP:List Str:=["_law_stand","_law_cell_here"]
abbrev JQ:List Str:=["_law_script","_law_many","_law_most","_law_plain","_law_times","_law_moves","_law_k","_law_begin","_law_land","_law_drawn_here","_law_stand","_law_here","_law_other_here","_law_found","_law_p"]
def JR {K:Frag}{d:Mode}:=(n6 (K:=K) (d:=d) (C:=CMulB) (g:=r9) (λ_ _=>rfl) (λ_ _ _=>.int))
def JS {K:Frag}{d:Mode}:=(n6 (K:=K) (d:=d) (C:=t8) (g:=u7) (λ_ _=>rfl) (λ_ _ _=>.int))
def JT {K:Frag}{d:Mode}:=(n6 (K:=K) (d:=d) (C:=B4) (g:=G8) (λ_ _=>rfl) (λ_ _ _=>.int))
def JU (n:Nat)(a b:Vq){c:Scope}(h:f8 (b9 (top n)) c a b:=by trivial):=h
def lK:FnOk P w (hk w) mg base CX0 1 53 (FD "covers" 4 T4 52) ["stand","other"] (spM (hk w) 2 .F Y7):=
 okF (iW Y) fj (.inl rfl) rfl rfl λI=>(c8 (v9 qC2 rfl (DY Zo (bl Y).zip_ (b6 (qv .U 0) (b6 (qv .U 1) b8))) (@D1 _ (hk w) _ _ _ _ 2 rfl (k9 (@d8 _ _ 2 _ fj.nd rfl Zq Zq) (k9 (@d8 _ _ 3 _ fj.nd rfl Zq Zq) D0)) Zo Zo Zo) (J4 (.inr rfl) (l4 (.inr rfl) i6 (l4 (.inr rfl) i6 D2))) (c7 (j5 (i9 ge xLt (qv .B 2) (qv .B 3)) (c7 (f6 x8)) j3))) (c7 (f6 x8)))
def kB:Def (hk w) mg "able" (top 5) Qb 60 (FD "able" 5 T4 59):=dk Y Zj λ_ _ _ _ _ _=>us2 λ_ _=>rfl
def lN:FnOk P w (hk w) mg base CX0 2 60 (FD "able" 5 T4 59) Qb (spM (hk w) 2 .F di):=
 okF (kB Y) CS (.inl rfl) rfl rfl λI=>(c7 (f6 (qcD (lK Y) (iW Y) (b6 (qv .B 0) (b6 (f9 (d9 (qv .B 1) c9)) b8)))))
def iX:Def (hk w) mg "change" (top 7) ["move"] 70 (FD "change" 7 T4 69):=dk Y Zj λ_ _ _ _ _ _=>us1 λ_=>rfl
def lL:FnOk P w (hk w) mg base CX0 1 70 (FD "change" 7 T4 69) ["move"] (spM (hk w) 1 .F Y8):=
 okF (iX Y) vI (.inl rfl) rfl rfl λI=>(c7 (f6 (F4 E7 (E6 (c:=true)) Zo (bl Y).tuple_ p8 (b6 (g7 (k7 (JU 7 ["move"] Qm) rfl (cJ Zo (bl Y).zip_ (b6 (f9 (d9 (qv .B 0) c9)) (b6 (f9 (d9 (qv .B 0) c9)) b8))) (λ_ _ _ _=>(@D1 _ (hk w) _ _ _ _ 2 rfl (k9 (@d8 _ _ 1 _ (by decide +kernel:(Qm:Vq).Nodup) rfl (Or.inl rfl) (.inr rfl)) (k9 (@d8 _ _ 2 _ (by decide +kernel:(Qm:Vq).Nodup) rfl (Or.inl rfl) (.inr rfl)) D0)) Zo Zo Zo)) (J4 (.inr rfl) (l4 (.inr rfl) i6 (l4 (.inr rfl) i6 D2))) (P0 (u9 (show 1<=1 by decide) (u9 (show 1<=2 by decide) P1))) (λ_ _ _ _=>p9) (λ_ _ _ _=>(g9 X7 eQ (qv .B 2) (qv .B 1))))) b8))))
def gX:Def (hk w) mg "after" (top 6) Qb 65 (FD "after" 6 T4 64):=dk Y Zj λ_ _ _ _ _ _=>us2 λ_ _=>rfl
def iz:FnOk P w (hk w) mg base CX0 3 65 (FD "after" 6 T4 64) Qb (spM (hk w) 2 .F Q9):=
 okF (gX Y) zr (.inl rfl) rfl rfl λI=>(c8 (j5 (w8 (o7 (i7 (g7 (qcD (lN Y) (kB Y) (b6 (qv .B 0) (b6 (qv .B 1) b8))))))) (c7 zR) j3) (c7 (f6 (F4 E7 (E6 (c:=true)) Zo (bl Y).tuple_ p8 (b6 (g7 (k7 (JU 6 Qb Qn) rfl (cJ Zo (bl Y).zip_ (b6 (qv .B 0) (b6 (i7 (g7 (qcD (lL Y) (iX Y) (b6 (qv .B 1) b8)))) b8))) (λ_ _ _ _=>(@D1 _ (hk w) _ _ _ _ 2 rfl (k9 (@d8 _ _ 2 _ (by decide +kernel:(Qn:Vq).Nodup) rfl (Or.inl rfl) (.inr rfl)) (k9 (@d8 _ _ 3 _ (by decide +kernel:(Qn:Vq).Nodup) rfl (Or.inl rfl) (.inr rfl)) D0)) Zo Zo Zo)) (J4 (.inr rfl) (l4 (.inr rfl) i6 (l4 (.inr rfl) i6 D2))) (P0 (u9 (show 2<=2 by decide) (u9 (show 2<=3 by decide) P1))) (λ_ _ _ _=>p9) (λ_ _ _ _=>(g9 v6 D6 (qv .B 2) (qv .B 3))))) b8)))))
def bg:Def (hk w) mg "lifted" (top 10) ["stand","basis"] 84 (FD "lifted" 10 K1 83):=dk Y Zj λ_ _ _ _ _ _=>us2 λ_ _=>rfl
def bG:FnOk P w (hk w) mg base CX0 2 84 (FD "lifted" 10 K1 83) ["stand","basis"] (spM (hk w) 2 .F N2):=
 okF (bg Y) kR (.inl rfl) rfl rfl λI=>(c8 (v9 qC2 rfl (B8 (qv .U 1)) (@d8 _ _ 2 _ kR.nd rfl Zq Zq) i6 (c7 (j5 (o7 (i7 (g7 (qcD (lK Y) (iW Y) (b6 (qv .B 0) (b6 (qv .B 2) b8)))))) (c7 (f6 x8)) j3))) (c7 (f6 x8)))
def uH:Def (hk w) mg "least" (top 9) ["stands"] 77 (FD "least" 9 K1 76):=dk Y Zj λ_ _ _ _ _ _=>us1 λ_=>rfl
def Aj:FnOk P w (hk w) mg base CX0 3 77 (FD "least" 9 K1 76) ["stands"] (spM (hk w) 1 .F dX):=
 okF (uH Y) ik (.inl rfl) rfl rfl λI=>(c8 (j8 (i:=1) ik.nd rfl Zq (B3 b8) Zo Zq) (c8 (v9 qC2 rfl (B8 (fq (t7 (m7 qG (BW (c:=false)) Zo (bl Y).sorted_ uX (b6 (qv .B 0) b8))))) (@d8 _ _ 2 _ ik.nd rfl Zq Zq) i6 (c7 (j5 (w8 (o7 (i7 (g7 (qcD (bG Y) (bg Y) (b6 (qv .B 2) (b6 (qv .B 1) b8))))))) (c7 (@U9 _ _ _ _ _ _ _ 1 _ _ _ _ rfl Zq (qv .V 2) Zz Zz Zo Zo Zo Zo Zo)) j3))) (c7 (@F3 _ _ _ _ _ 1 _ _ (.inl rfl) Zo Zq Zz Zz))))
def oO:Def (hk w) mg "source" (top 11) Qb 89 (FD "source" 11 K1 88):=dk Y Zj λ_ _ _ _ _ _=>us2 λ_ _=>rfl
def wx:FnOk P w (hk w) mg base CX0 1 89 (FD "source" 11 K1 88) Qb (spM (hk w) 2 .F fG):=
 okF (oO Y) vG (.inl rfl) rfl rfl λI=>(c7 (f6 (F4 E7 (E6 (c:=true)) Zo (bl Y).tuple_ p8 (b6 (g7 (k7 (JU 11 Qb Qh) rfl (cJ Zo (bl Y).zip_ (b6 (qv .B 0) (b6 (f9 (d9 (qv .B 1) c9)) (b6 (f9 (d9 (qv .B 1) c9)) b8)))) (λ_ _ _ _=>(@D1 _ (hk w) _ _ _ _ 3 rfl (k9 (@d8 _ _ 2 _ (by decide +kernel:(Qh:Vq).Nodup) rfl (Or.inl rfl) (.inr rfl)) (k9 (@d8 _ _ 3 _ (by decide +kernel:(Qh:Vq).Nodup) rfl (Or.inl rfl) (.inr rfl)) (k9 (@d8 _ _ 4 _ (by decide +kernel:(Qh:Vq).Nodup) rfl (Or.inl rfl) (.inr rfl)) D0))) Zo Zo Zo)) (J4 (.inr rfl) (l4 (.inr rfl) i6 (l4 (.inr rfl) i6 (l4 (.inr rfl) i6 D2)))) (P0 (u9 (show 2<=2 by decide) (u9 (show 2<=3 by decide) (u9 (show 2<=4 by decide) P1)))) (λ_ _ _ _=>p9) (λ_ _ _ _=>(m7 (du rfl) (b_2 (g:=de)) Zo (bl Y).max_ ng (b6 (qv .B 3) (b6 (g9 v6 D6 (g9 X7 eQ (qv .B 2) (qv .B 4)) (qv .B 3)) b8)))))) b8))))
def fJ:Def (hk w) mg "sources" (top 12) Qc 94 (FD "sources" 12 K1 93):=dk Y Zj λ_ _ _ _ _ _=>us2 λ_ _=>rfl
def jj:FnOk P w (hk w) mg base CX0 2 94 (FD "sources" 12 K1 93) Qc (spM (hk w) 2 .F S7):=
 okF (fJ Y) cE (.inl rfl) rfl rfl λI=>(c8 (j8 (i:=2) cE.nd rfl Zq (B3 b8) Zo Zq) (c8 (v9 qC2 rfl (B8 (qv .U 0)) (@d8 _ _ 3 _ cE.nd rfl Zq Zq) i6 (c7 (@Im _ _ _ _ _ _ _ 2 true _ _ _ _ rfl Zq (g7 (k7 (JU 12 ["moves","basis","found","move"] QG) rfl (w9 (qv .B 1)) (λ_ _ _ _=>(@d8 _ _ 4 _ (by decide +kernel:(QG:Vq).Nodup) rfl (Or.inl rfl) (.inr rfl))) i6 (n8 (show 4<=4 by decide)) (λ_ _ _ _=>p9) (λ_ _ _ _=>(t7 (qcD (wx Y) (oO Y) (b6 (qv .B 4) (b6 (qv .B 3) b8))))))) Zo Zz Zz Zo Zo Zo Zo Zo Zo))) (c7 (@F3 _ _ _ _ _ 2 _ _ (.inl rfl) Zo Zq Zz Zz))))
def gU:Def (hk w) mg "step_back" (top 13) Qc 101 (FD "step_back" 13 K1 100):=dk Y Zj λ_ _ _ _ _ _=>us2 λ_ _=>rfl
def nA:FnOk P w (hk w) mg base CX0 4 101 (FD "step_back" 13 K1 100) Qc (spM (hk w) 2 .F R9):=
 okF (gU Y) ny (.inl rfl) rfl rfl λI=>(c7 (f6 (qcD (Aj Y) (uH Y) (b6 (i7 (g7 (g9 gf (gj (c:=true)) (g7 (F4 vh (vc (c:=false)) Zo (bl Y).list_ W6 (b6 (qv .B 1) b8))) (g7 (qcD (jj Y) (fJ Y) (b6 (qv .B 0) (b6 (qv .B 1) b8))))))) b8))))
def mT:Def (hk w) mg "is_shut" (top 14) Qc 106 (FD "is_shut" 14 K1 105):=dk Y Zj λ_ _ _ _ _ _=>us2 λ_ _=>rfl
def sZ:FnOk P w (hk w) mg base CX0 3 106 (FD "is_shut" 14 K1 105) Qc (spM (hk w) 2 .F dg):=
 okF (mT Y) sd (.inl rfl) rfl rfl λI=>(c7 (f6 (m7 (uT rfl) (oZ (g:=xp)) Zo (bl Y).all_ HE (b6 (i7 (g7 (k7 (JU 14 Qc QH) rfl (w9 (i7 (g7 (qcD (jj Y) (fJ Y) (b6 (qv .B 0) (b6 (qv .B 1) b8)))))) (λ_ _ _ _=>(@d8 _ _ 2 _ (by decide +kernel:(QH:Vq).Nodup) rfl (Or.inl rfl) (.inr rfl))) i6 (n8 (show 2<=2 by decide)) (λ_ _ _ _=>p9) (λ_ _ _ _=>(t7 (qcD (bG Y) (bg Y) (b6 (qv .B 2) (b6 (qv .B 1) b8)))))))) b8))))
def dY:Def (hk w) mg "ending" (top 17) QI 120 (FD "ending" 17 T7 119):=dk Y Zj λ_ _ _ _ _ _=>us4 λ_ _ _ _=>rfl
def wA:FnOk P w (hk w) mg base CX0 4 120 (FD "ending" 17 T7 119) QI (spX (hk w) 4 bO):=
 okX (dY Y) fh rfl rfl λI=>(c8 (o9 (i:=4) fh.nd rfl Zq (R6 (qv .C 1) (X4 K7 (X9 (g:=C0) (λ_=>rfl) (λ_ _=>.int)) c9)) Zo Zq) (c8 (o9 (i:=5) fh.nd rfl Zq (g9 X7 eQ (m7 v4 v0 Zo (bl Y).len_ qC7 (b6 (qv .B 1) b8)) c9) Zo Zq) (c8 (j5 (i9 V1 xGt (m7 v4 v0 Zo (bl Y).len_ qC7 (b6 (qv .B 4) b8)) (qv .B 2)) (c7 (f6 (t7 (B2 (b6 C7 (b6 (qv .V 5) b8)))))) j3) (c8 (j5 (o7 (i7 (g7 (qcD (sZ Y) (mT Y) (b6 (qv .B 0) (b6 (qv .B 4) b8)))))) (c7 (f6 (t7 (B2 (b6 (qv .V 3) (b6 (qv .V 4) b8)))))) j3) (c8 (j5 (i9 (X8 (E1 I)) (M4 (neg:=false)) (qv .B 5) (qv .B 2)) (c7 (f6 (t7 (B2 (b6 C7 (b6 (qv .V 5) b8)))))) j3) (c7 (f6 E5)))))))
def eG:Def (hk w) mg "moves_into" (top 19) Qo 132 (FD "moves_into" 19 T7 131):=dk Y Zj λ_ _ _ _ _ _=>us3 λ_ _ _=>rfl
def lJ:FnOk P w (hk w) mg base CX0 4 132 (FD "moves_into" 19 T7 131) Qo (spM (hk w) 3 .F Y6):=
 okF (eG Y) kQ (.inl rfl) rfl rfl λI=>(c7 (f6 (k7 (JU 19 Qo Qp) rfl (@lr _ _ _ _ _ _ _ _ _ _ Zo (bl Y).enumerate_ (b6 (qv .B 1) b8) Zo Zo) (λ_ _ _ _=>(@D1 _ (hk w) _ _ _ _ 2 rfl (k9 (@d8 _ _ 3 _ (by decide +kernel:(Qp:Vq).Nodup) rfl (Or.inl rfl) (.inr rfl)) (k9 (@d8 _ _ 4 _ (by decide +kernel:(Qp:Vq).Nodup) rfl (Or.inl rfl) (.inr rfl)) D0)) Zo Zo Zo)) (J4 (.inr rfl) (l4 (.inr rfl) i6 (l4 (.inr rfl) i6 D2))) (P0 (u9 (show 3<=3 by decide) (u9 (show 3<=4 by decide) P1))) (λ_ _ _ _=>(S4 (PW.pt (fZ (o7 (i7 (g7 (qcD (lN Y) (kB Y) (b6 (qv .B 0) (b6 (qv .B 4) b8)))))) (dG (o7 (i7 (g7 (qcD (bG Y) (bg Y) (b6 (i7 (g7 (qcD (iz Y) (gX Y) (b6 (qv .B 0) (b6 (qv .B 4) b8))))) (b6 (qv .B 2) b8))))))))))) (λ_ _ _ _=>(qv .V 3)))))
def S0:Def (hk w) mg "row_inward" (top 18) ["moor","rings"] 127 (FD "row_inward" 18 T7 126):=dk Y Zj λ_ _ _ _ _ _=>us2 λ_ _=>rfl
def lH:FnOk P w (hk w) mg base CX0 5 127 (FD "row_inward" 18 T7 126) ["moor","rings"] (spX (hk w) 2 P3):=
 okX (S0 Y) F0 rfl rfl λI=>(c8 (j8 (i:=2) F0.nd rfl Zq (B3 b8) Zo Zq) (c8 (o9 (i:=3) F0.nd rfl Zq (R6 (qv .C 0) c9) Zo Zq) (c8 (v9 qC2 rfl (@Il _ _ _ _ _ _ _ _ Zo (bl Y).reversed_ (b6 (fq (t7 (@ir _ _ _ _ _ _ true _ _ _ _ _ (qv .C 1) fo (fk (X4 K7 (X9 (g:=C0) (λ_=>rfl) (λ_ _=>.int)) c9)) Zo))) b8) Zo Zo) (@d8 _ _ 4 _ F0.nd rfl Zq Zq) i6 (c8 (o9 (i:=5) F0.nd rfl Zq (R6 (g7 (qcD (lJ Y) (eG Y) (b6 (qv .B 3) (b6 (f9 (d9 (qv .B 0) c9)) (b6 (qv .B 4) b8))))) c9) Zo Zq) (c8 (@U9 _ _ _ _ _ _ _ 2 _ _ _ _ rfl Zq (qv .V 5) Zz Zz Zo Zo Zo Zo Zo) (c7 (j8 (i:=3) F0.nd rfl Zq (qcD (iz Y) (gX Y) (b6 (qv .B 3) (b6 (f9 (d9 (f9 (d9 (qv .B 0) c9)) (qv .B 5))) b8))) Zo Zq))))) (c7 (@F3 _ _ _ _ _ 2 _ _ (.inr rfl) Zo Zq Zz Zz)))))
def uK:Def (hk w) mg "cover" (top 16) ["moor","target","most"] 113 (FD "cover" 16 T7 112):=dk Y Zj λ_ _ _ _ _ _=>us3 λ_ _ _=>rfl
def Al:FnOk P w (hk w) mg base CX0 6 113 (FD "cover" 16 T7 112) ["moor","target","most"] (spM (hk w) 3 .V iV):=
 okF (uK Y) io (.inr rfl) rfl rfl λI=>(c8 (j8 (i:=3) io.nd rfl Zq (B3 (b6 (t7 (B3 (b6 (qv .V 1) b8))) b8)) Zo Zq) (c8 (W1 qC2 (w8 (o7 (i7 (g7 (qcD (bG Y) (bg Y) (b6 (f9 (d9 (qv .B 0) c9)) (b6 (f9 (d9 (qv .B 3) (X4 K7 (X9 (g:=C0) (λ_=>rfl) (λ_ _=>.int)) c9))) b8))))))) (c8 (@zQ _ _ _ _ _ _ _ 4 _ [3] _ _ _ _ _ _ _ _ _ _ _ io.nd rfl Zq (wA Y) Zq Zo (dY Y).m (dY Y).F.kp (dY Y).b (b6 (S5 (d9 (qv .B 0) c9)) (b6 (qv .V 3) (b6 (qv .V 2) (b6 C7 b8)))) Zz Zo Zo Zo Zq) (c8 (j5 (i9 iw iC (qv .B 4) E5) (c7 (@F3 _ _ _ _ _ 4 _ _ (.inr rfl) Zo Zq Zz Zz)) j3) (c7 (@U9 _ _ _ _ _ _ _ 3 _ _ _ _ rfl Zq (t7 (qcD (nA Y) (gU Y) (b6 (f9 (d9 (qv .B 0) c9)) (b6 (f9 (d9 (qv .B 3) (X4 K7 (X9 (g:=C0) (λ_=>rfl) (λ_ _=>.int)) c9))) b8)))) Zz Zz Zo Zo Zo Zo Zo))))) (c7 (aa (f6 (t7 (B2 (b6 C7 (b6 (@zS _ _ _ _ _ _ _ _ _ _ _ _ _ _ _ (lH Y) Zq Zo (S0 Y).m (S0 Y).F.kp (S0 Y).b (b6 (qv .V 0) (b6 (qv .V 3) b8)) Zz Zo Zo) b8)))))))))
def mR:Def (hk w) mg "shifted" (top 21) Qq 137 (FD "shifted" 21 qu 136):=dk Y Zj λ_ _ _ _ _ _=>us3 λ_ _ _=>rfl
def sY:FnOk P w (hk w) mg base CX0 1 137 (FD "shifted" 21 qu 136) Qq (spM (hk w) 3 .F df):=
 okF (mR Y) rX (.inl rfl) rfl rfl λI=>(c7 (f6 (F4 E7 (E6 (c:=true)) Zo (bl Y).tuple_ p8 (b6 (g7 (k7 (JU 21 Qq Qr) rfl (cJ Zo (bl Y).zip_ (b6 (qv .B 0) (b6 (qv .B 1) b8))) (λ_ _ _ _=>(@D1 _ (hk w) _ _ _ _ 2 rfl (k9 (@d8 _ _ 3 _ (by decide +kernel:(Qr:Vq).Nodup) rfl (Or.inl rfl) (.inr rfl)) (k9 (@d8 _ _ 4 _ (by decide +kernel:(Qr:Vq).Nodup) rfl (Or.inl rfl) (.inr rfl)) D0)) Zo Zo Zo)) (J4 (.inr rfl) (l4 (.inr rfl) i6 (l4 (.inr rfl) i6 D2))) (P0 (u9 (show 3<=3 by decide) (u9 (show 3<=4 by decide) P1))) (λ_ _ _ _=>p9) (λ_ _ _ _=>(g9 v6 D6 (qv .B 3) (g9 v7 JR (qv .B 2) (qv .B 4)))))) b8))))
def gR:Def (hk w) mg "weigh" (top 23) Qs 142 (FD "weigh" 23 qr 141):=dk Y Zj λ_ _ _ _ _ _=>us2 λ_ _=>rfl
def ix:FnOk P w (hk w) mg base CX0 1 142 (FD "weigh" 23 qr 141) Qs (spM (hk w) 2 .F aV):=
 okF (gR Y) zq (.inl rfl) rfl rfl λI=>(c7 (f6 (m7 (N9 rfl) (bo (g:=G7)) Zo (bl Y).sum_ bj (b6 (i7 (g7 (k7 (JU 23 Qs Qt) rfl (cJ Zo (bl Y).zip_ (b6 (qv .B 0) (b6 (qv .B 1) b8))) (λ_ _ _ _=>(@D1 _ (hk w) _ _ _ _ 2 rfl (k9 (@d8 _ _ 2 _ (by decide +kernel:(Qt:Vq).Nodup) rfl (Or.inl rfl) (.inr rfl)) (k9 (@d8 _ _ 3 _ (by decide +kernel:(Qt:Vq).Nodup) rfl (Or.inl rfl) (.inr rfl)) D0)) Zo Zo Zo)) (J4 (.inr rfl) (l4 (.inr rfl) i6 (l4 (.inr rfl) i6 D2))) (P0 (u9 (show 2<=2 by decide) (u9 (show 2<=3 by decide) P1))) (λ_ _ _ _=>p9) (λ_ _ _ _=>(g9 v7 JR (qv .B 2) (qv .B 3)))))) b8))))
def yE:Def (hk w) mg "unit" (top 26) Qu 152 (FD "unit" 26 D9 151):=dk Y Zj λ_ _ _ _ _ _=>us2 λ_ _=>rfl
def EI:FnOk P w (hk w) mg base CX0 1 152 (FD "unit" 26 D9 151) Qu (spM (hk w) 2 .F mM):=
 okF (yE Y) CQ (.inl rfl) rfl rfl λI=>(c7 (f6 (F4 E7 (E6 (c:=true)) Zo (bl Y).tuple_ p8 (b6 (g7 (k7 (JU 26 Qu ["place","many","at"]) rfl (F2 Zo (bl Y).range_ (b6 (qv .B 1) b8)) (λ_ _ _ _=>(@d8 _ _ 2 _ (by decide +kernel:(["place","many","at"]:Vq).Nodup) rfl (Or.inl rfl) (.inr rfl))) i6 (n8 (show 2<=2 by decide)) (λ_ _ _ _=>p9) (λ_ _ _ _=>(pK (i9 (X8 (E1 I)) (M4 (neg:=false)) (qv .B 2) (qv .B 0)) c9 c9)))) b8))))
def fL:Def (hk w) mg "lowered" (top 31) ["row","lead","column"] 183 (FD "lowered" 31 D9 182):=dk Y Zj λ_ _ _ _ _ _=>us3 λ_ _ _=>rfl
def jk:FnOk P w (hk w) mg base CX0 2 183 (FD "lowered" 31 D9 182) ["row","lead","column"] (spM (hk w) 3 .F ai):=
 okF (fL Y) rZ (.inl rfl) rfl rfl λI=>(c7 (f6 (qcD (sY Y) (mR Y) (b6 (qv .B 0) (b6 (qv .B 1) (b6 (X4 K7 (X9 (g:=C0) (λ_=>rfl) (λ_ _=>.int)) (g9 wu (n6 (C:=ao) (g:=gFz) (λ_ _=>rfl) (λ_ _ _=>.int)) (f9 (d9 (qv .B 0) (qv .B 2))) (f9 (d9 (qv .B 1) (qv .B 2))))) b8))))))
def mU:Def (hk w) mg "divided" (top 29) ["row","other","column"] 171 (FD "divided" 29 D9 170):=dk Y Zj λ_ _ _ _ _ _=>us3 λ_ _ _=>rfl
def tf:FnOk P w (hk w) mg base CX0 3 171 (FD "divided" 29 D9 170) ["row","other","column"] (spM (hk w) 3 .F dh):=
 okF (mU Y) Z8 (.inl rfl) rfl rfl λI=>(c8 (W1 qC2 (i9 dI aO (f9 (d9 (qv .B 1) (qv .B 2))) c9) (c8 (j8 (i:=3) Z8.nd rfl Zq (qcD (jk Y) (fL Y) (b6 (qv .B 0) (b6 (qv .B 1) (b6 (qv .B 2) b8)))) Zo Zq) (c8 (o9 (i:=0) Z8.nd rfl Zq (qv .V 1) Zo Zq) (c7 (aa (o9 (i:=1) Z8.nd rfl Zq (qv .V 3) Zo Zq)))))) (c7 (f6 (B2 (b6 (qv .V 0) (b6 (qv .V 1) b8))))))
def jF:Def (hk w) mg "gathered" (top 28) ["rows","column"] 164 (FD "gathered" 28 D9 163):=dk Y Zj λ_ _ _ _ _ _=>us2 λ_ _=>rfl
def pU:FnOk P w (hk w) mg base CX0 4 164 (FD "gathered" 28 D9 163) ["rows","column"] (spM (hk w) 2 .F bN):=
 okF (jF Y) O3 (.inl rfl) rfl rfl λI=>(c8 (j8 (i:=2) O3.nd rfl Zq (@ir _ _ _ _ _ _ false _ _ _ _ _ (qv .B 0) fo (fk c9) Zo) Zo Zq) (c8 (v9 qC2 rfl (B8 (fq (t7 (@ir _ _ _ _ _ _ false _ _ _ _ _ (qv .B 0) (fk c9) fo Zo)))) (@d8 _ _ 3 _ O3.nd rfl Zq Zq) i6 (c8 (j8 (i:=4) O3.nd rfl Zq (qcD (tf Y) (mU Y) (b6 (f9 (d9 (qv .B 2) c9)) (b6 (qv .B 3) (b6 (qv .B 1) b8)))) Zo Zq) (c7 (j8 (i:=2) O3.nd rfl Zq (g9 gf (gj (c:=true)) (g7 (g9 gf (gj (c:=true)) (g7 (B3 (b6 (R6 (qv .C 4) c9) b8))) (g7 (@ir _ _ _ _ _ _ true _ _ _ _ _ (qv .C 2) (fk c9) fo Zo)))) (g7 (B3 (b6 (R6 (qv .C 4) c9) b8)))) Zo Zq)))) (c7 (@F3 _ _ _ _ _ 2 _ _ (.inl rfl) Zo Zq Zz Zz))))
def mQ:Def (hk w) mg "upright" (top 30) Qv 176 (FD "upright" 30 D9 175):=dk Y Zj λ_ _ _ _ _ _=>us2 λ_ _=>rfl
def sX:FnOk P w (hk w) mg base CX0 1 176 (FD "upright" 30 D9 175) Qv (spM (hk w) 2 .F ah):=
 okF (mQ Y) rV (.inl rfl) rfl rfl λI=>(c7 (f6 (pK (i9 V1 xGt (f9 (d9 (qv .B 0) (qv .B 1))) c9) (qv .F 0) (F4 E7 (E6 (c:=true)) Zo (bl Y).tuple_ p8 (b6 (g7 (k7 (JU 30 Qv QJ) rfl (w9 (qv .B 0)) (λ_ _ _ _=>(@d8 _ _ 2 _ (by decide +kernel:(QJ:Vq).Nodup) rfl (Or.inl rfl) (.inr rfl))) i6 (n8 (show 2<=2 by decide)) (λ_ _ _ _=>p9) (λ_ _ _ _=>(X4 K7 (X9 (g:=C0) (λ_=>rfl) (λ_ _=>.int)) (qv .B 2))))) b8)))))
def yH:Def (hk w) mg "neat" (top 27) Qf 157 (FD "neat" 27 D9 156):=dk Y Zj λ_ _ _ _ _ _=>us1 λ_=>rfl
def EJ:FnOk P w (hk w) mg base CX0 5 157 (FD "neat" 27 D9 156) Qf (spM (hk w) 1 .F mN):=
 okF (yH Y) O2 (.inl rfl) rfl rfl λI=>(c8 (j8 (i:=1) O2.nd rfl Zq (B3 b8) Zo Zq) (c8 (@sw _ _ _ _ _ _ _ 2 _ _ O2.nd rfl Zq (qv .U 0) Zo Zq) (c8 (o9 (i:=3) O2.nd rfl Zq c9 Zo Zq) (c8 (W1 qC2 (i9 V1 xGt (m7 v4 v0 Zo (bl Y).len_ qC7 (b6 (qv .B 2) b8)) c9) (c8 (j8 (i:=2) O2.nd rfl Zq (qcD (pU Y) (jF Y) (b6 (qv .B 2) (b6 (qv .B 3) b8))) Zo Zq) (c8 (j5 (i9 dI aO (f9 (d9 (f9 (d9 (qv .B 2) c9)) (qv .B 3))) c9) (c8 (j8 (i:=4) O2.nd rfl Zq (qcD (sX Y) (mQ Y) (b6 (f9 (d9 (qv .B 2) c9)) (b6 (qv .B 3) b8))) Zo Zq) (c8 (aa (j8 (i:=1) O2.nd rfl Zq (g9 gf (gj (c:=true)) (g7 (k7 (JU 27 ["rows","found","left","column","lead"] QK) rfl (w9 (qv .B 1)) (λ_ _ _ _=>(@d8 _ _ 5 _ (by decide +kernel:(QK:Vq).Nodup) rfl (Or.inl rfl) (.inr rfl))) i6 (n8 (show 5<=5 by decide)) (λ_ _ _ _=>p9) (λ_ _ _ _=>(t7 (qcD (jk Y) (fL Y) (b6 (qv .B 5) (b6 (qv .B 4) (b6 (qv .B 3) b8)))))))) (g7 (B3 (b6 (qv .V 4) b8)))) Zo Zq)) (c7 (j8 (i:=2) O2.nd rfl Zq (@ir _ _ _ _ _ _ true _ _ _ _ _ (qv .C 2) (fk c9) fo Zo) Zo Zq)))) j3) (c7 (@yo _ _ _ _ _ _ _ 3 _ _ _ _ O2.nd rfl Zq c9 ug Zq))))) (c7 (@F3 _ _ _ _ _ 1 _ _ (.inl rfl) Zo Zq Zz Zz))))))
def jG:Def (hk w) mg "balances" (top 25) ["moves","many"] 147 (FD "balances" 25 D9 146):=dk Y Zj λ_ _ _ _ _ _=>us2 λ_ _=>rfl
def pV:FnOk P w (hk w) mg base CX0 6 147 (FD "balances" 25 D9 146) ["moves","many"] (spM (hk w) 2 .F P4):=
 okF (jG Y) L4 (.inl rfl) rfl rfl λI=>(c8 (aK (i:=2) (JU 25 Qw QL) rfl (F2 Zo (bl Y).range_ (b6 (qv .B 1) b8)) (λ_ _ _ _=>(@d8 _ _ 6 _ (by decide +kernel:(QL:Vq).Nodup) rfl (Or.inl rfl) (.inr rfl))) i6 (n8 (show 6<=6 by decide)) (λ_ _ _ _=>p9) (λ_ _ _ _=>(t7 (qcD (EI Y) (yE Y) (b6 (qv .B 6) (b6 (qv .B 1) b8))))) L4.nd rfl Zq) (c8 (v9 qC2 rfl (B8 (qv .U 0)) (@d8 _ _ 3 _ L4.nd rfl Zq Zq) i6 (c8 (j8 (i:=4) L4.nd rfl Zq (qcD (lL Y) (iX Y) (b6 (qv .B 3) b8)) Zo Zq) (c8 (j8 (i:=5) L4.nd rfl Zq (qcD (EJ Y) (yH Y) (b6 (i7 (g7 (k7 (JU 25 Qw QM) rfl (w9 (qv .B 2)) (λ_ _ _ _=>(@d8 _ _ 6 _ (by decide +kernel:(QM:Vq).Nodup) rfl (Or.inl rfl) (.inr rfl))) i6 (n8 (show 6<=6 by decide)) (λ_ _ _ _=>p9) (λ_ _ _ _=>(t7 (g9 Ai Ao (f9 (lq (b6 (fq (t7 (qcD (ix Y) (gR Y) (b6 (qv .B 6) (b6 (qv .B 4) b8))))) b8))) (qv .B 6))))))) b8)) Zo Zq) (c7 (aK (i:=2) (JU 25 Qw QN) rfl (w9 (qv .B 5)) (λ_ _ _ _=>(@d8 _ _ 6 _ (by decide +kernel:(QN:Vq).Nodup) rfl (Or.inl rfl) (.inr rfl))) i6 (n8 (show 6<=6 by decide)) (λ_ _ _ _=>(S4 (i9 K3 D5 (f9 (d9 (qv .B 6) c9)) c9))) (λ_ _ _ _=>(t7 (@Ij _ _ _ _ _ _ _ _ _ _ _ (qv .B 6) (fk c9) fo Zo))) L4.nd rfl Zq))))) (c7 (@F3 _ _ _ _ _ 2 _ _ (.inl rfl) Zo Zq Zz Zz))))
def jD:Def (hk w) mg "way_back" (top 33) Qi 190 (FD "way_back" 33 xf 189):=dk Y Zj λ_ _ _ _ _ _=>us2 λ_ _=>rfl
def pR:FnOk P w (hk w) mg base CX0 1 190 (FD "way_back" 33 xf 189) Qi (spM (hk w) 2 .F V4):=
 okF (jD Y) U7 (.inl rfl) rfl rfl λI=>(c8 (j8 (i:=2) U7.nd rfl Zq (B3 b8) Zo Zq) (c8 (o9 (i:=3) U7.nd rfl Zq (qv .V 1) Zo Zq) (c8 (W1 qC2 (i9 iw iC (qv .B 3) E5) (c8 (@U9 _ _ _ _ _ _ _ 2 _ _ _ _ rfl Zq (qv .V 3) Zz Zz Zo Zo Zo Zo Zo) (c7 (@sw _ _ _ _ _ _ _ 3 _ _ U7.nd rfl Zq (d9 (f9 (d9 (qv .B 0) (qv .B 3))) c9) Zo Zq)))) (c7 (@F3 _ _ _ _ _ 2 _ _ (.inl rfl) Zo Zq Zz Zz)))))
def GE:Def (hk w) mg "way" (top 35) Qi 197 (FD "way" 35 iR 196):=dk Y Zj λ_ _ _ _ _ _=>us2 λ_ _=>rfl
def ID:FnOk P w (hk w) mg base CX0 2 197 (FD "way" 35 iR 196) Qi (spM (hk w) 2 .F qz):=
 okF (GE Y) HZ (.inl rfl) rfl rfl λI=>(c7 (f6 (@Ea _ _ _ _ _ _ _ _ _ rfl Zo (bl Y).list_ Zo (bl Y).reversed_ (b6 (i7 (g7 (qcD (pR Y) (jD Y) (b6 (qv .B 0) (b6 (qv .B 1) b8))))) b8) Zo Zo Zo)))
def dl:Def (hk w) mg "row_between" (top 36) QO 202 (FD "row_between" 36 iR 201):=dk Y Zj λ_ _ _ _ _ _=>us3 λ_ _ _=>rfl
def jS:FnOk P w (hk w) mg base CX0 3 202 (FD "row_between" 36 iR 201) QO (spM (hk w) 3 .F T8):=
 okF (dl Y) bV (.inl rfl) rfl rfl λI=>(c8 (j8 (i:=3) bV.nd rfl Zq (qcD (ID Y) (GE Y) (b6 (qv .B 0) (b6 (qv .B 2) b8))) Zo Zq) (c7 (f6 (k7 (JU 36 ["tree","elder","number","path"] QP) rfl (w9 (i7 (g7 (@ir _ _ _ _ _ _ true _ _ _ _ _ (qv .C 3) (fk (g9 v6 D6 (@oa _ _ _ _ _ _ _ _ _ _ (E1 I) (qv .B 3) (qv .B 1) Zo Zo Zo Zo Zo Zo) c9)) fo Zo)))) (λ_ _ _ _=>(@d8 _ _ 4 _ (by decide +kernel:(QP:Vq).Nodup) rfl (Or.inl rfl) (.inr rfl))) i6 (n8 (show 4<=4 by decide)) (λ_ _ _ _=>p9) (λ_ _ _ _=>(S5 (d9 (f9 (d9 (qv .B 0) (qv .B 4))) c9)))))))
def bb:Def (hk w) mg "stands_behind" (top 39) Qd 214 (FD "stands_behind" 39 T6 213):=dk Y Zj λ_ _ _ _ _ _=>us2 λ_ _=>rfl
def gi:FnOk P w (hk w) mg base CX0 4 214 (FD "stands_behind" 39 T6 213) Qd (spM (hk w) 2 .F P2):=
 okF (bb Y) fW (.inl rfl) rfl rfl λI=>(c7 (f6 (k7 (JU 39 Qd Qx) rfl (@lr _ _ _ _ _ _ _ _ _ _ Zo (bl Y).enumerate_ (b6 (f9 (d9 (qv .B 0) c9)) b8) Zo Zo) (λ_ _ _ _=>(@D1 _ (hk w) _ _ _ _ 2 rfl (k9 (@d8 _ _ 2 _ (by decide +kernel:(Qx:Vq).Nodup) rfl (Or.inl rfl) (.inr rfl)) (k9 (@d8 _ _ 3 _ (by decide +kernel:(Qx:Vq).Nodup) rfl (Or.inl rfl) (.inr rfl)) D0)) Zo Zo Zo)) (J4 (.inr rfl) (l4 (.inr rfl) i6 (l4 (.inr rfl) i6 D2))) (P0 (u9 (show 2<=2 by decide) (u9 (show 2<=3 by decide) P1))) (λ_ _ _ _=>(S4 (o7 (i7 (g7 (qcD (lN Y) (kB Y) (b6 (qv .B 1) (b6 (qv .B 3) b8)))))))) (λ_ _ _ _=>(t7 (B2 (b6 (t7 (qcD (iz Y) (gX Y) (b6 (qv .B 1) (b6 (qv .B 3) b8)))) (b6 (qv .V 2) b8))))))))
def uI:Def (hk w) mg "flood" (top 38) ["moor","most"] 209 (FD "flood" 38 T6 208):=dk Y Zj λ_ _ _ _ _ _=>us2 λ_ _=>rfl
def Ak:FnOk P w (hk w) mg base CX0 5 209 (FD "flood" 38 T6 208) ["moor","most"] (spM (hk w) 2 .F iU):=
 okF (uI Y) N6 (.inl rfl) rfl rfl λI=>(c8 (j8 (i:=2) N6.nd rfl Zq (B3 (b6 (t7 (B2 (b6 (S5 (d9 (qv .B 0) c9)) (b6 E5 (b6 E5 b8))))) b8)) Zo Zq) (c8 (@Eg _ _ _ _ _ _ _ _ _ 3 _ _ _ (E1 I) N6.nd rfl Zq (f9 (d9 (qv .B 0) c9)) x8 Zo (by first|show Or.inl rfl|show Or.inr rfl|assumption)) (c8 (o9 (i:=4) N6.nd rfl Zq c9 Zo Zq) (c8 (W1 qC2 (i9 ge xLt (qv .B 4) (m7 v4 v0 Zo (bl Y).len_ qC7 (b6 (qv .B 2) b8))) (c8 (o9 (i:=5) N6.nd rfl Zq (R6 (wc (R6 (qv .C 2) (qv .C 4))) c9) Zo Zq) (c8 (v9 qC2 rfl (B8 (fq (t7 (qcD (gi Y) (bb Y) (b6 (qv .B 0) (b6 (qv .B 5) b8)))))) (@D1 _ (hk w) _ _ _ _ 2 rfl (k9 (@d8 _ _ 6 _ N6.nd rfl Zq Zq) (k9 (@d8 _ _ 7 _ N6.nd rfl Zq Zq) D0)) Zo Zo Zo) (J4 (.inr rfl) (l4 (.inr rfl) i6 (l4 (.inr rfl) i6 D2))) (c8 (j5 (@Io _ _ _ _ _ _ 3 _ _ (E1 I) rfl Zq (qv .B 6) Zz Zz Zo) (c7 Eh) j3) (c8 (j5 (i9 K3 D5 (m7 v4 v0 Zo (bl Y).len_ qC7 (b6 (qv .B 2) b8)) (qv .B 1)) (c7 (aa (f6 (B2 (b6 (qv .V 2) (b6 x8 b8)))))) j3) (c8 (@Ed _ _ _ _ _ _ _ _ _ 3 _ _ _ (E1 I) rfl Zq (qv .B 6) x8 Zz Zz Zo) (c7 (@U9 _ _ _ _ _ _ _ 2 _ _ _ _ rfl Zq (t7 (B2 (b6 (qv .V 6) (b6 (qv .V 4) (b6 (qv .V 7) b8))))) Zz Zz Zo Zo Zo Zo Zo)))))) (c7 (@yo _ _ _ _ _ _ _ 4 _ _ _ _ N6.nd rfl Zq c9 ug Zq))))) (c7 (aa (f6 (B2 (b6 (qv .V 2) (b6 x8 b8))))))))))
def gW:Def (hk w) mg "stands_in" (top 40) Qf 219 (FD "stands_in" 40 T6 218):=dk Y Zj λ_ _ _ _ _ _=>us1 λ_=>rfl
def nB:FnOk P w (hk w) mg base CX0 1 219 (FD "stands_in" 40 T6 218) Qf (spM (hk w) 1 .F ay):=
 okF (gW Y) nz (.inl rfl) rfl rfl λI=>(c7 (f6 (k7 (JU 40 Qf ["rows","row"]) rfl (w9 (qv .B 0)) (λ_ _ _ _=>(@d8 _ _ 1 _ (by decide +kernel:(["rows","row"]:Vq).Nodup) rfl (Or.inl rfl) (.inr rfl))) i6 (n8 (show 1<=1 by decide)) (λ_ _ _ _=>p9) (λ_ _ _ _=>(S5 (d9 (qv .B 1) c9))))))
def oP:Def (hk w) mg "row_to" (top 41) ["rows","number"] 226 (FD "row_to" 41 T6 225):=dk Y Zj λ_ _ _ _ _ _=>us2 λ_ _=>rfl
def wy:FnOk P w (hk w) mg base CX0 4 226 (FD "row_to" 41 T6 225) ["rows","number"] (spM (hk w) 2 .F fH):=
 okF (oP Y) vH (.inl rfl) rfl rfl λI=>(c7 (f6 (qcD (jS Y) (dl Y) (b6 (qv .B 0) (l7 (b6 (qv .B 1) b8))))))
def Z0:Def (hk w) mg "touches" (top 44) Qy 238 (FD "touches" 44 N0 237):=dk Y Zj λ_ _ _ _ _ _=>us2 λ_ _=>rfl
def ad:FnOk P w (hk w) mg base CX0 1 238 (FD "touches" 44 N0 237) Qy (spM (hk w) 2 .F N8):=
 okF (Z0 Y) rW (.inl rfl) rfl rfl λI=>(c7 (f6 (m7 (uS rfl) (oZ (g:=xo)) Zo (bl Y).any_ HD (b6 (i7 (g7 (k7 (JU 44 Qy QQ) rfl (w9 (qv .B 1)) (λ_ _ _ _=>(@d8 _ _ 2 _ (by decide +kernel:(QQ:Vq).Nodup) rfl (Or.inl rfl) (.inr rfl))) i6 (n8 (show 2<=2 by decide)) (λ_ _ _ _=>p9) (λ_ _ _ _=>(O7 V1 xGt (f9 (d9 (qv .B 0) (qv .B 2))) c9))))) b8))))
def aD:Def (hk w) mg "breaks_dry" (top 43) Qe 233 (FD "breaks_dry" 43 N0 232):=dk Y Zj λ_ _ _ _ _ _=>us2 λ_ _=>rfl
def cN:FnOk P w (hk w) mg base CX0 2 233 (FD "breaks_dry" 43 N0 232) Qe (spM (hk w) 2 .F K9):=
 okF (aD Y) X1 (.inl rfl) rfl rfl λI=>(c8 (v9 qC2 rfl (@Ec _ _ _ _ _ _ _ _ _ _ Zo (bl Y).enumerate_ (b6 (qv .U 0) b8) Zo Zo) (@D1 _ (hk w) _ _ _ _ 2 rfl (k9 (@d8 _ _ 2 _ X1.nd rfl Zq Zq) (k9 (@d8 _ _ 3 _ X1.nd rfl Zq Zq) D0)) Zo Zo Zo) (J4 (.inr rfl) (l4 (.inr rfl) i6 (l4 (.inr rfl) i6 D2))) (c7 (j5 (PW.pt (fZ (o7 (i7 (g7 (qcD (ad Y) (Z0 Y) (b6 (f9 (d9 (qv .B 3) c9)) (b6 (qv .B 1) b8)))))) (dG (w8 (o7 (i7 (g7 (qcD (ad Y) (Z0 Y) (b6 (f9 (d9 (qv .B 3) c9)) (b6 (qv .B 1) b8)))))))))) (c7 (@F3 _ _ _ _ _ 2 _ _ (.inl rfl) Zo Zq Zz Zz)) j3))) (c7 (f6 E5)))
def U0:Def (hk w) mg "greatest_dry" (top 45) Qe 243 (FD "greatest_dry" 45 N0 242):=dk Y Zj λ_ _ _ _ _ _=>us2 λ_ _=>rfl
def aL:FnOk P w (hk w) mg base CX0 3 243 (FD "greatest_dry" 45 N0 242) Qe (spM (hk w) 2 .F B6):=
 okF (U0 Y) F1 (.inl rfl) rfl rfl λI=>(c8 (o9 (i:=2) F1.nd rfl Zq (qv .V 1) Zo Zq) (c8 (j8 (i:=3) F1.nd rfl Zq (qcD (cN Y) (aD Y) (b6 (qv .B 0) (b6 (qv .B 2) b8))) Zo Zq) (c8 (W1 qC2 (i9 iw iC (qv .B 3) E5) (c8 (j8 (i:=2) F1.nd rfl Zq (F4 E7 (E6 (c:=true)) Zo (bl Y).tuple_ p8 (b6 (g7 (k7 (JU 45 ["moves","places","kept","number"] QR) rfl (w9 (qv .B 2)) (λ_ _ _ _=>(@d8 _ _ 4 _ (by decide +kernel:(QR:Vq).Nodup) rfl (Or.inl rfl) (.inr rfl))) i6 (n8 (show 4<=4 by decide)) (λ_ _ _ _=>(S4 (i9 K3 D5 (f9 (d9 (f9 (d9 (f9 (d9 (qv .B 0) (qv .B 3))) c9)) (qv .B 4))) c9))) (λ_ _ _ _=>(qv .V 4)))) b8)) Zo Zq) (c7 (j8 (i:=3) F1.nd rfl Zq (qcD (cN Y) (aD Y) (b6 (qv .B 0) (b6 (qv .B 2) b8))) Zo Zq)))) (c7 (@F3 _ _ _ _ _ 2 _ _ (.inl rfl) Zo Zq Zz Zz)))))
def oM:Def (hk w) mg "turned" (top 47) ["moves"] 255 (FD "turned" 47 N0 254):=dk Y Zj λ_ _ _ _ _ _=>us1 λ_=>rfl
def ww:FnOk P w (hk w) mg base CX0 1 255 (FD "turned" 47 N0 254) ["moves"] (spM (hk w) 1 .F fF):=
 okF (oM Y) vF (.inl rfl) rfl rfl λI=>(c7 (f6 (F4 E7 (E6 (c:=true)) Zo (bl Y).tuple_ p8 (b6 (g7 (k7 (JU 47 ["moves"] Qz) rfl (w9 (qv .B 0)) (λ_ _ _ _=>(@D1 _ (hk w) _ _ _ _ 2 rfl (k9 (@d8 _ _ 1 _ (by decide +kernel:(Qz:Vq).Nodup) rfl (Or.inl rfl) (.inr rfl)) (k9 (@d8 _ _ 2 _ (by decide +kernel:(Qz:Vq).Nodup) rfl (Or.inl rfl) (.inr rfl)) D0)) Zo Zo Zo)) (J4 (.inr rfl) (l4 (.inr rfl) i6 (l4 (.inr rfl) i6 D2))) (P0 (u9 (show 1<=1 by decide) (u9 (show 1<=2 by decide) P1))) (λ_ _ _ _=>p9) (λ_ _ _ _=>(t7 (B2 (b6 (qv .V 2) (b6 (qv .V 1) b8))))))) b8))))
def ce:Def (hk w) mg "greatest_wet" (top 46) Qe 250 (FD "greatest_wet" 46 N0 249):=dk Y Zj λ_ _ _ _ _ _=>us2 λ_ _=>rfl
def iy:FnOk P w (hk w) mg base CX0 4 250 (FD "greatest_wet" 46 N0 249) Qe (spM (hk w) 2 .F Q8):=
 okF (ce Y) il (.inl rfl) rfl rfl λI=>(c7 (f6 (qcD (aL Y) (U0 Y) (b6 (i7 (g7 (qcD (ww Y) (oM Y) (b6 (qv .B 0) b8)))) (b6 (qv .B 1) b8)))))
def ak:Def (hk w) mg "unlike_balance" (top 50) Qd 269 (FD "unlike_balance" 50 N1 268):=dk Y Zj λ_ _ _ _ _ _=>us2 λ_ _=>rfl
def ft:FnOk P w (hk w) mg base CX0 7 269 (FD "unlike_balance" 50 N1 268) Qd (spM (hk w) 2 .V G9):=
 okF (ak Y) X0 (.inr rfl) rfl rfl λI=>(c8 (v9 qC2 rfl (B8 (fq (t7 (qcD (pV Y) (jG Y) (b6 (f9 (d9 (qv .B 0) c9)) (b6 (m7 v4 v0 Zo (bl Y).len_ qC7 (b6 (qv .B 1) b8)) b8)))))) (@d8 _ _ 2 _ X0.nd rfl Zq Zq) i6 (c7 (j5 (i9 (lE (E1 I)) (M4 (neg:=true)) (i7 (g7 (qcD (ix Y) (gR Y) (b6 (qv .B 2) (b6 (qv .B 1) b8))))) (i7 (g7 (qcD (ix Y) (gR Y) (b6 (qv .B 2) (b6 (f9 (d9 (qv .B 0) c9)) b8)))))) (c7 (f6 (t7 (B2 (b6 C7 (b6 (qv .V 2) b8)))))) j3))) (c7 (f6 E5)))
def U1:Def (hk w) mg "empty_places" (top 52) ["stand"] 281 (FD "empty_places" 52 N1 280):=dk Y Zj λ_ _ _ _ _ _=>us1 λ_=>rfl
def aM:FnOk P w (hk w) mg base CX0 1 281 (FD "empty_places" 52 N1 280) ["stand"] (spM (hk w) 1 .F L9):=
 okF (U1 Y) im (.inl rfl) rfl rfl λI=>(c7 (f6 (F4 E7 (E6 (c:=true)) Zo (bl Y).tuple_ p8 (b6 (g7 (k7 (JU 52 ["stand"] QB) rfl (@lr _ _ _ _ _ _ _ _ _ _ Zo (bl Y).enumerate_ (b6 (qv .B 0) b8) Zo Zo) (λ_ _ _ _=>(@D1 _ (hk w) _ _ _ _ 2 rfl (k9 (@d8 _ _ 1 _ (by decide +kernel:(QB:Vq).Nodup) rfl (Or.inl rfl) (.inr rfl)) (k9 (@d8 _ _ 2 _ (by decide +kernel:(QB:Vq).Nodup) rfl (Or.inl rfl) (.inr rfl)) D0)) Zo Zo Zo)) (J4 (.inr rfl) (l4 (.inr rfl) i6 (l4 (.inr rfl) i6 D2))) (P0 (u9 (show 1<=1 by decide) (u9 (show 1<=2 by decide) P1))) (λ_ _ _ _=>(S4 (i9 K3 D5 (qv .B 2) c9))) (λ_ _ _ _=>(qv .V 1)))) b8))))
def jE:Def (hk w) mg "kept_out" (top 51) Qd 276 (FD "kept_out" 51 N1 275):=dk Y Zj λ_ _ _ _ _ _=>us2 λ_ _=>rfl
def pT:FnOk P w (hk w) mg base CX0 5 276 (FD "kept_out" 51 N1 275) Qd (spM (hk w) 2 .V V5):=
 okF (jE Y) bz (.inr rfl) rfl rfl λI=>(c8 (j8 (i:=2) bz.nd rfl Zq (qcD (aL Y) (U0 Y) (b6 (f9 (d9 (qv .B 0) c9)) (b6 (i7 (g7 (qcD (aM Y) (U1 Y) (b6 (f9 (d9 (qv .B 0) c9)) b8)))) b8))) Zo Zq) (c8 (j5 (o7 (i7 (g7 (qcD (ad Y) (Z0 Y) (b6 (qv .B 1) (b6 (qv .B 2) b8)))))) (c7 (aa (f6 (t7 (B2 (b6 C7 (b6 (qv .V 2) b8))))))) j3) (c8 (j8 (i:=3) bz.nd rfl Zq (qcD (iy Y) (ce Y) (b6 (f9 (d9 (qv .B 0) c9)) (b6 (i7 (g7 (qcD (aM Y) (U1 Y) (b6 (qv .B 1) b8)))) b8))) Zo Zq) (c8 (j5 (o7 (i7 (g7 (qcD (ad Y) (Z0 Y) (b6 (f9 (d9 (qv .B 0) c9)) (b6 (qv .B 3) b8)))))) (c7 (aa (f6 (t7 (B2 (b6 C7 (b6 (qv .V 3) b8))))))) j3) (c7 (f6 E5))))))
def eF:Def (hk w) mg "walled_off" (top 53) Qj 288 (FD "walled_off" 53 N1 287):=dk Y Zj λ_ _ _ _ _ _=>us3 λ_ _ _=>rfl
def lG:FnOk P w (hk w) mg base CX0 7 288 (FD "walled_off" 53 N1 287) Qj (spM (hk w) 3 .V Y5):=
 okF (eF Y) cD (.inr rfl) rfl rfl λI=>(c8 (o9 (i:=3) cD.nd rfl Zq (qcD (Al Y) (uK Y) (b6 (qv .B 0) (b6 (qv .B 1) (b6 (qv .B 2) b8)))) Zo Zq) (c7 (f6 (pK (i9 K3 D5 (f9 (d9 (qv .B 3) c9)) C7) (qv .V 3) E5))))
def bQ:Def (hk w) mg "reached" (top 49) Qj 262 (FD "reached" 49 N1 261):=dk Y Zj λ_ _ _ _ _ _=>us3 λ_ _ _=>rfl
def cM:FnOk P w (hk w) mg base CX0 8 262 (FD "reached" 49 N1 261) Qj (spM (hk w) 3 .V K8):=
 okF (bQ Y) N5 (.inr rfl) rfl rfl λI=>(c8 (j8 (i:=3) N5.nd rfl Zq (qcD (Ak Y) (uI Y) (b6 (qv .B 0) (b6 (qv .B 2) b8))) Zo Zq) (c8 (j8 (i:=4) N5.nd rfl Zq (qcD (nB Y) (gW Y) (b6 (f9 (d9 (qv .B 3) c9)) b8)) Zo Zq) (c8 (j5 (i9 (pQ (E1 I)) (dJ (neg:=false)) (qv .B 1) (qv .B 4)) (c7 (f6 (t7 (B2 (b6 C7 (b6 (t7 (qcD (wy Y) (oP Y) (b6 (f9 (d9 (qv .B 3) c9)) (b6 (@oa _ _ _ _ _ _ _ _ _ _ (E1 I) (qv .B 4) (qv .B 1) Zo Zo Zo Zo Zo Zo) b8)))) b8)))))) j3) (c8 (j5 (o7 (f9 (d9 (qv .B 3) c9))) (c7 (aa (f6 (t7 (B2 (b6 C7 (b6 (qv .V 4) b8))))))) j3) (c8 (o9 (i:=5) N5.nd rfl Zq (qcD (ft Y) (ak Y) (b6 (qv .B 0) (b6 (qv .B 1) b8))) Zo Zq) (c8 (j5 (i9 lF lQ (qv .B 5) E5) (c7 (o9 (i:=5) N5.nd rfl Zq (qcD (pT Y) (jE Y) (b6 (qv .B 0) (b6 (qv .B 1) b8))) Zo Zq)) j3) (c8 (j5 (i9 lF lQ (qv .B 5) E5) (c7 (o9 (i:=5) N5.nd rfl Zq (qcD (lG Y) (eF Y) (b6 (qv .B 0) (b6 (qv .B 1) (b6 (qv .B 2) b8)))) Zo Zq)) j3) (c7 (f6 (pK (i9 lF lQ (qv .B 5) E5) (t7 (B2 (b6 C7 b8))) (qv .V 5)))))))))))
def t6:Def (hk w) mg "_law_cell" (top 55) ["_law_script","_law_k"] 295 (FD "_law_cell" 55 m9 294):=dk Y Zj λ_ _ _ _ _ _=>us2 λ_ _=>rfl
def t5:FnOk P w (hk w) mg base CX0 1 295 (FD "_law_cell" 55 m9 294) ["_law_script","_law_k"] (spM (hk w) 2 .F o5):=
 okF (t6 Y) ar (.inl rfl) rfl rfl λI=>(c8 (j5 (i9 ge xLt (qv .B 1) (m7 v4 v0 Zo (bl Y).len_ qC7 (b6 (qv .B 0) b8))) (c7 (f6 (Ej (d9 (qv .B 0) (qv .B 1))))) j3) (c8 (o9 (i:=2) ar.nd rfl Zq (g9 v6 D6 (g9 v7 JR c9 (qv .B 1)) c9) Zo Zq) (c8 (j5 (i9 V1 xGt (m7 v4 v0 Zo (bl Y).len_ qC7 (b6 (qv .B 0) b8)) c9) (c7 (o9 (i:=2) ar.nd rfl Zq (g9 v6 D6 (g9 v6 D6 (g9 v7 JR (f9 (d9 (qv .B 0) (g9 y8 JS (g9 v7 JR (qv .B 1) c9) (m7 v4 v0 Zo (bl Y).len_ qC7 (b6 (qv .B 0) b8))))) c9) (g9 v7 JR (g9 v7 JR (qv .B 1) (qv .B 1)) c9)) c9) Zo Zq)) j3) (c7 (f6 (g9 y8 JS (g9 v7 JR (qv .B 2) (qv .B 2)) c9))))))
def gY:Def (hk w) mg "_law_move" (top 56) QS 300 (FD "_law_move" 56 m9 299):=dk Y Zj λ_ _ _ _ _ _=>us5 λ_ _ _ _ _=>rfl
def nC:FnOk P w (hk w) mg base CX0 2 300 (FD "_law_move" 56 m9 299) QS (spM (hk w) 5 .F az):=
 okF (gY Y) y4 (.inl rfl) rfl rfl λI=>(c8 (j8 (i:=5) y4.nd rfl Zq (B3 b8) Zo Zq) (c8 (j8 (i:=6) y4.nd rfl Zq (B3 b8) Zo Zq) (c8 (v9 qC2 rfl (F2 Zo (bl Y).range_ (b6 (qv .B 2) b8)) (@d8 _ _ 7 _ y4.nd rfl Zq Zq) i6 (c8 (j8 (i:=8) y4.nd rfl Zq (qcD (t5 Y) (t6 Y) (b6 (qv .B 0) (b6 (g9 v6 D6 (qv .B 1) (qv .B 7)) b8))) Zo Zq) (c8 (@U9 _ _ _ _ _ _ _ 5 _ _ _ _ rfl Zq (g9 v7 JR (f9 (d9 (i7 (g7 Eb)) (g9 y8 JS (qv .B 8) c9))) (qv .B 4)) Zz Zz Zo Zo Zo Zo Zo) (c7 (@U9 _ _ _ _ _ _ _ 6 _ _ _ _ rfl Zq (g9 v7 JR (f9 (d9 (i7 (g7 (B3 (l7 (l7 (l7 (l7 (l7 (l7 (l7 (l7 (l7 b8)))))))))))) (g9 y8 JS (g9 L7 JT (qv .B 8) c9) c9))) (qv .B 4)) Zz Zz Zo Zo Zo Zo Zo))))) (c8 (j5 (o7 (qv .B 3)) (c8 (o9 (i:=9) y4.nd rfl Zq (g9 y8 JS (g9 L7 JT (i7 (g7 (qcD (t5 Y) (t6 Y) (b6 (qv .B 0) (b6 (qv .B 1) b8))))) c9) (qv .B 2)) Zo Zq) (c8 (o9 (i:=10) y4.nd rfl Zq (g9 y8 JS (g9 L7 JT (i7 (g7 (qcD (t5 Y) (t6 Y) (b6 (qv .B 0) (b6 (g9 v6 D6 (qv .B 1) c9) b8))))) c9) (qv .B 2)) Zo Zq) (c8 (aK (i:=5) (JU 56 QT Qk) rfl (F2 Zo (bl Y).range_ (b6 (qv .B 2) b8)) (λ_ _ _ _=>(@d8 _ _ 11 _ (by decide +kernel:(Qk:Vq).Nodup) rfl (Or.inl rfl) (.inr rfl))) i6 (n8 (show 11<=11 by decide)) (λ_ _ _ _=>p9) (λ_ _ _ _=>(g9 v7 JR (F4 jN yM Zo (bl Y).int_ nh (b6 (O7 (X8 (E1 I)) (M4 (neg:=false)) (qv .B 11) (qv .B 9)) b8)) (qv .B 4))) y4.nd rfl Zq) (c7 (aK (i:=6) (JU 56 QT Qk) rfl (F2 Zo (bl Y).range_ (b6 (qv .B 2) b8)) (λ_ _ _ _=>(@d8 _ _ 11 _ (by decide +kernel:(Qk:Vq).Nodup) rfl (Or.inl rfl) (.inr rfl))) i6 (n8 (show 11<=11 by decide)) (λ_ _ _ _=>p9) (λ_ _ _ _=>(g9 v7 JR (F4 jN yM Zo (bl Y).int_ nh (b6 (O7 (X8 (E1 I)) (M4 (neg:=false)) (qv .B 11) (qv .B 10)) b8)) (qv .B 4))) y4.nd rfl Zq))))) j3) (c7 (f6 (B2 (b6 (t7 (F4 E7 (E6 (c:=true)) Zo (bl Y).tuple_ p8 (b6 (qv .C 5) b8))) (b6 (t7 (F4 E7 (E6 (c:=true)) Zo (bl Y).tuple_ p8 (b6 (qv .C 6) b8))) b8)))))))))
def L1:Def (hk w) mg "_law_covers" (top 57) QU 307 (FD "_law_covers" 57 m9 306):=dk Y Zj λ_ _ _ _ _ _=>us2 λ_ _=>rfl
def M7:FnOk P w (hk w) mg base CX0 1 307 (FD "_law_covers" 57 m9 306) QU (spM (hk w) 2 .F B0):=
 okF (L1 Y) bW (.inl rfl) rfl rfl λI=>(c8 (v9 qC2 rfl (F2 Zo (bl Y).range_ (b6 (m7 v4 v0 Zo (bl Y).len_ qC7 (b6 (qv .B 0) b8)) b8)) (@d8 _ _ 2 _ bW.nd rfl Zq Zq) i6 (c7 (j5 (i9 ge xLt (f9 (d9 (qv .B 0) (qv .B 2))) (f9 (d9 (qv .B 1) (qv .B 2)))) (c7 (f6 x8)) j3))) (c7 (f6 x8)))
def P8:Def (hk w) mg "_law_behind" (top 58) QC 312 (FD "_law_behind" 58 m9 311):=dk Y Zj λ_ _ _ _ _ _=>us2 λ_ _=>rfl
def T0:FnOk P w (hk w) mg base CX0 1 312 (FD "_law_behind" 58 m9 311) QC (spM (hk w) 2 .F J7):=
 okF (P8 Y) jR (.inl rfl) rfl rfl λI=>(c7 (f6 (F4 E7 (E6 (c:=true)) Zo (bl Y).tuple_ p8 (b6 (g7 (k7 (JU 58 QC QV) rfl (F2 Zo (bl Y).range_ (b6 (m7 v4 v0 Zo (bl Y).len_ qC7 (b6 (qv .B 0) b8)) b8)) (λ_ _ _ _=>(@d8 _ _ 2 _ (by decide +kernel:(QV:Vq).Nodup) rfl (Or.inl rfl) (.inr rfl))) i6 (n8 (show 2<=2 by decide)) (λ_ _ _ _=>p9) (λ_ _ _ _=>(g9 v6 D6 (g9 X7 eQ (f9 (d9 (qv .B 0) (qv .B 2))) (f9 (d9 (f9 (d9 (qv .B 1) c9)) (qv .B 2)))) (f9 (d9 (f9 (d9 (qv .B 1) c9)) (qv .B 2))))))) b8))))
def aF:Def (hk w) mg "_law_drawn" (top 59) QW 317 (FD "_law_drawn" 59 m9 316):=dk Y Zj λ_ _ _ _ _ _=>us5 λ_ _ _ _ _=>rfl
def cP:FnOk P w (hk w) mg base CX0 2 317 (FD "_law_drawn" 59 m9 316) QW (spM (hk w) 5 .F F7):=
 okF (aF Y) O4 (.inl rfl) rfl rfl λI=>(c8 (j8 (i:=5) O4.nd rfl Zq (B3 (b6 (qv .V 3) b8)) Zo Zq) (c8 (v9 qC2 rfl (F2 Zo (bl Y).range_ (b6 (qv .B 2) b8)) (@d8 _ _ 6 _ O4.nd rfl Zq Zq) i6 (c8 (aK (i:=7) (JU 59 ["_law_script","_law_at","_law_size","_law_begin","_law_moves","_law_stands","_law_k","_law_goers"] QX) rfl (w9 (qv .B 4)) (λ_ _ _ _=>(@d8 _ _ 8 _ (by decide +kernel:(QX:Vq).Nodup) rfl (Or.inl rfl) (.inr rfl))) i6 (n8 (show 8<=8 by decide)) (λ_ _ _ _=>(S4 (o7 (i7 (g7 (qcD (M7 Y) (L1 Y) (b6 (f9 (d9 (qv .B 5) (X4 K7 (X9 (g:=C0) (λ_=>rfl) (λ_ _=>.int)) c9))) (b6 (f9 (d9 (qv .B 8) c9)) b8)))))))) (λ_ _ _ _=>(qv .V 8)) O4.nd rfl Zq) (c8 (j5 (i9 (X8 (E1 I)) (M4 (neg:=false)) (qv .B 7) (i7 (g7 (B3 b8)))) (c7 (@F3 _ _ _ _ _ 5 _ _ (.inl rfl) Zo Zq Zz Zz)) j3) (c7 (@U9 _ _ _ _ _ _ _ 5 _ _ _ _ rfl Zq (t7 (qcD (T0 Y) (P8 Y) (b6 (f9 (d9 (qv .B 5) (X4 K7 (X9 (g:=C0) (λ_=>rfl) (λ_ _=>.int)) c9))) (b6 (f9 (d9 (qv .B 7) (g9 y8 JS (g9 L7 JT (i7 (g7 (qcD (t5 Y) (t6 Y) (b6 (qv .B 0) (b6 (g9 v6 D6 (qv .B 1) (qv .B 6)) b8))))) c9) (m7 v4 v0 Zo (bl Y).len_ qC7 (b6 (qv .B 7) b8))))) b8)))) Zz Zz Zo Zo Zo Zo Zo))))) (c7 (@F3 _ _ _ _ _ 5 _ _ (.inl rfl) Zo Zq Zz Zz))))
def jH:Def (hk w) mg "_law_end" (top 60) QY 324 (FD "_law_end" 60 m9 323):=dk Y Zj λ_ _ _ _ _ _=>us3 λ_ _ _=>rfl
def pW:FnOk P w (hk w) mg base CX0 2 324 (FD "_law_end" 60 m9 323) QY (spM (hk w) 3 .F V6):=
 okF (jH Y) bB (.inl rfl) rfl rfl λI=>(c8 (j5 (w8 (o7 (m7 J1 V8 Zo (bl Y).isinstance_ qE7 (b6 (qv .B 0) (b6 (@bE _ _ _ _ _ _ _ Zo (bl Y).list_ W6 Zz Zz) b8))))) (c7 (f6 E5)) j3) (c8 (v9 qC2 rfl (B8 (qv .U 0)) (@d8 _ _ 3 _ bB.nd rfl Zq Zq) i6 (c8 (j5 (PW.pt (O6 (w8 (o7 (m7 J1 V8 Zo (bl Y).isinstance_ qE7 (b6 (qv .B 3) (b6 (@bE _ _ _ _ _ _ _ Zo (bl Y).int_ nh Zz Zz) b8))))) (O6 (o7 (m7 J1 V8 Zo (bl Y).isinstance_ qE7 (b6 (qv .B 3) (b6 (@bE _ _ _ _ _ _ _ Zo (bl Y).bool_ BT Zz Zz) b8)))) (X5 (w8 (@wb _ _ _ _ _ _ _ _ _ _ _ _ _ _ _ _ _ IC (dL (g:=gLe) (λ_ _=>rfl) (λ_ _ _=>.bl)) ge xLt c9 (qv .B 3) (m7 v4 v0 Zo (bl Y).len_ qC7 (b6 (qv .B 2) b8)) (by with_unfolding_all rfl))))))) (c7 (f6 E5)) j3) (c8 (j5 (w8 (o7 (i7 (g7 (qcD (M7 Y) (L1 Y) (b6 (qv .B 1) (b6 (f9 (d9 (f9 (d9 (qv .B 2) (qv .B 3))) c9)) b8))))))) (c7 (f6 E5)) j3) (c7 (j8 (i:=1) bB.nd rfl Zq (qcD (T0 Y) (P8 Y) (b6 (qv .B 1) (b6 (f9 (d9 (qv .B 2) (qv .B 3))) b8))) Zo Zq))))) (c7 (@F3 _ _ _ _ _ 1 _ _ (.inl rfl) Zo Zq Zz Zz))))
def am:Def (hk w) mg "_law_yes" (top 61) Ql 331 (FD "_law_yes" 61 m9 330):=dk Y Zj λ_ _ _ _ _ _=>us4 λ_ _ _ _=>rfl
def bH:FnOk P w (hk w) mg base CX0 3 331 (FD "_law_yes" 61 m9 330) Ql (spM (hk w) 4 .F J0):=
 okF (am Y) pD (.inl rfl) rfl rfl λI=>(c8 (j5 (i9 (X8 (E1 I)) (M4 (neg:=false)) (qv .B 0) (f9 (lq (b6 C7 b8)))) (c7 (f6 x8)) j3) (c8 (j5 (PW.pt (O6 (w8 (o7 (m7 J1 V8 Zo (bl Y).isinstance_ qE7 (b6 (qv .B 0) (b6 (@bE _ _ _ _ _ _ _ Zo (bl Y).tuple_ p8 Zz Zz) b8))))) (O6 (i9 dI aO (m7 v4 v0 Zo (bl Y).len_ qC7 (b6 (qv .B 0) b8)) c9) (X5 (i9 dI aO (f9 (d9 (qv .B 0) c9)) C7))))) (c7 (f6 x8)) j3) (c7 (f6 (O7 (X8 (E1 I)) (M4 (neg:=false)) (i7 (g7 (qcD (pW Y) (jH Y) (b6 (f9 (d9 (qv .B 0) c9)) (b6 (qv .B 1) (b6 (qv .B 2) b8)))))) (qv .B 3))))))
def M6:Def (hk w) mg "_law_weigh" (top 62) QD 336 (FD "_law_weigh" 62 m9 335):=dk Y Zj λ_ _ _ _ _ _=>us2 λ_ _=>rfl
def O8:FnOk P w (hk w) mg base CX0 1 336 (FD "_law_weigh" 62 m9 335) QD (spM (hk w) 2 .F F6):=
 okF (M6 Y) kT (.inl rfl) rfl rfl λI=>(c7 (f6 (m7 (N9 rfl) (bo (g:=G7)) Zo (bl Y).sum_ bj (b6 (i7 (g7 (k7 (JU 62 QD QZ) rfl (F2 Zo (bl Y).range_ (b6 (m7 v4 v0 Zo (bl Y).len_ qC7 (b6 (qv .B 1) b8)) b8)) (λ_ _ _ _=>(@d8 _ _ 2 _ (by decide +kernel:(QZ:Vq).Nodup) rfl (Or.inl rfl) (.inr rfl))) i6 (n8 (show 2<=2 by decide)) (λ_ _ _ _=>p9) (λ_ _ _ _=>(g9 v7 JR (f9 (d9 (qv .B 0) (qv .B 2))) (f9 (d9 (qv .B 1) (qv .B 2)))))))) b8))))
def jI:Def (hk w) mg "_law_all" (top 63) JJ 343 (FD "_law_all" 63 m9 342):=dk Y Zj λ_ _ _ _ _ _=>us4 λ_ _ _ _=>rfl
def pX:FnOk P w (hk w) mg base CX0 2 343 (FD "_law_all" 63 m9 342) JJ (spM (hk w) 4 .F V7):=
 okF (jI Y) bC (.inl rfl) rfl rfl λI=>(c8 (j5 (PW.pt (O6 (w8 (o7 (m7 J1 V8 Zo (bl Y).isinstance_ qE7 (b6 (qv .B 0) (b6 (@bE _ _ _ _ _ _ _ Zo (bl Y).list_ W6 Zz Zz) b8))))) (O6 (i9 (lD (E1 I)) (dJ (neg:=true)) (qv .B 1) (qv .B 0)) (X5 (i9 (pQ (E1 I)) (dJ (neg:=false)) (qv .B 3) (qv .B 0)))))) (c7 (f6 x8)) j3) (c8 (v9 qC2 rfl (B8 (qv .U 0)) (@d8 _ _ 4 _ bC.nd rfl Zq Zq) i6 (c7 (v9 qC2 rfl (B8 (qv .U 2)) (@d8 _ _ 5 _ bC.nd rfl Zq Zq) i6 (c7 (j5 (PW.pt (fZ (o7 (i7 (g7 (qcD (M7 Y) (L1 Y) (b6 (qv .B 4) (b6 (f9 (d9 (qv .B 5) c9)) b8)))))) (dG (i9 (lD (E1 I)) (dJ (neg:=true)) (i7 (g7 (qcD (T0 Y) (P8 Y) (b6 (qv .B 4) (b6 (qv .B 5) b8))))) (qv .B 0))))) (c7 (f6 x8)) j3))))) (c7 (f6 x8))))
def cf:Def (hk w) mg "_law_balance" (top 64) JK 350 (FD "_law_balance" 64 m9 349):=dk Y Zj λ_ _ _ _ _ _=>us4 λ_ _ _ _=>rfl
def iA:FnOk P w (hk w) mg base CX0 2 350 (FD "_law_balance" 64 m9 349) JK (spM (hk w) 4 .F M0):=
 okF (cf Y) aI (.inl rfl) rfl rfl λI=>(c8 (j5 (PW.pt (O6 (w8 (o7 (m7 J1 V8 Zo (bl Y).isinstance_ qE7 (b6 (qv .B 0) (b6 (@bE _ _ _ _ _ _ _ Zo (bl Y).tuple_ p8 Zz Zz) b8))))) (X5 (i9 dI aO (m7 v4 v0 Zo (bl Y).len_ qC7 (b6 (qv .B 0) b8)) (m7 v4 v0 Zo (bl Y).len_ qC7 (b6 (qv .B 1) b8)))))) (c7 (f6 x8)) j3) (c8 (v9 qC2 rfl (B8 (qv .U 2)) (@d8 _ _ 4 _ aI.nd rfl Zq Zq) i6 (c7 (j5 (i9 (lE (E1 I)) (M4 (neg:=true)) (i7 (g7 (qcD (O8 Y) (M6 Y) (b6 (qv .B 0) (b6 (f9 (d9 (qv .B 4) c9)) b8))))) (i7 (g7 (qcD (O8 Y) (M6 Y) (b6 (qv .B 0) (b6 (f9 (d9 (qv .B 4) c9)) b8)))))) (c7 (f6 x8)) j3))) (c7 (f6 (O7 (lE (E1 I)) (M4 (neg:=true)) (i7 (g7 (qcD (O8 Y) (M6 Y) (b6 (qv .B 0) (b6 (qv .B 1) b8))))) (i7 (g7 (qcD (O8 Y) (M6 Y) (b6 (qv .B 0) (b6 (qv .B 3) b8))))))))))
def aE:Def (hk w) mg "_law_stays" (top 65) JL 355 (FD "_law_stays" 65 m9 354):=dk Y Zj λ_ _ _ _ _ _=>us5 λ_ _ _ _ _=>rfl
def cO:FnOk P w (hk w) mg base CX0 1 355 (FD "_law_stays" 65 m9 354) JL (spM (hk w) 5 .F L0):=
 okF (aE Y) cF (.inl rfl) rfl rfl λI=>(c8 (j5 (PW.pt (O6 (w8 (o7 (m7 J1 V8 Zo (bl Y).isinstance_ qE7 (b6 (qv .B 0) (b6 (@bE _ _ _ _ _ _ _ Zo (bl Y).tuple_ p8 Zz Zz) b8))))) (X5 (i9 V1 xGt (m7 v4 v0 Zo (bl Y).len_ qC7 (b6 (i7 (g7 (k7 (JU 65 Qg Qa) rfl (w9 (qv .B 0)) (λ_ _ _ _=>(@d8 _ _ 6 _ (by decide +kernel:(Qa:Vq).Nodup) rfl (Or.inl rfl) (.inr rfl))) i6 (n8 (show 6<=6 by decide)) (λ_ _ _ _=>(S4 (@zP _ _ _ _ _ _ _ _ _ _ Zo (bl Y).range_ (qv .B 6) (m7 v4 v0 Zo (bl Y).len_ qC7 (b6 (qv .B 3) b8)) Zo Zo))) (λ_ _ _ _=>(qv .V 6))))) b8)) c9)))) (c7 (f6 x8)) j3) (c8 (v9 qC2 rfl (B8 (qv .U 1)) (@d8 _ _ 5 _ cF.nd rfl Zq Zq) i6 (c7 (j5 (PW.pt (fZ (i9 V1 xGt (m7 (N9 rfl) (bo (g:=G7)) Zo (bl Y).sum_ bj (b6 (i7 (g7 (k7 (JU 65 Qg Qa) rfl (w9 (qv .B 0)) (λ_ _ _ _=>(@d8 _ _ 6 _ (by decide +kernel:(Qa:Vq).Nodup) rfl (Or.inl rfl) (.inr rfl))) i6 (n8 (show 6<=6 by decide)) (λ_ _ _ _=>p9) (λ_ _ _ _=>(S5 (d9 (f9 (d9 (qv .B 5) (g9 X7 eQ c9 (qv .B 2)))) (qv .B 6))))))) b8)) c9) (dG (i9 K3 D5 (m7 (N9 rfl) (bo (g:=G7)) Zo (bl Y).sum_ bj (b6 (i7 (g7 (k7 (JU 65 Qg Qa) rfl (w9 (qv .B 0)) (λ_ _ _ _=>(@d8 _ _ 6 _ (by decide +kernel:(Qa:Vq).Nodup) rfl (Or.inl rfl) (.inr rfl))) i6 (n8 (show 6<=6 by decide)) (λ_ _ _ _=>p9) (λ_ _ _ _=>(S5 (d9 (f9 (d9 (qv .B 5) (qv .B 2))) (qv .B 6))))))) b8)) c9)))) (c7 (f6 x8)) j3))) (c7 (f6 (pL (O7 K3 D5 (m7 (N9 rfl) (bo (g:=G7)) Zo (bl Y).sum_ bj (b6 (i7 (g7 (k7 (JU 65 Qg Qa) rfl (w9 (qv .B 0)) (λ_ _ _ _=>(@d8 _ _ 6 _ (by decide +kernel:(Qa:Vq).Nodup) rfl (Or.inl rfl) (.inr rfl))) i6 (n8 (show 6<=6 by decide)) (λ_ _ _ _=>p9) (λ_ _ _ _=>(S5 (d9 (qv .B 3) (qv .B 6))))))) b8)) c9) (pJ (O7 V1 xGt (m7 (N9 rfl) (bo (g:=G7)) Zo (bl Y).sum_ bj (b6 (i7 (g7 (k7 (JU 65 Qg Qa) rfl (w9 (qv .B 0)) (λ_ _ _ _=>(@d8 _ _ 6 _ (by decide +kernel:(Qa:Vq).Nodup) rfl (Or.inl rfl) (.inr rfl))) i6 (n8 (show 6<=6 by decide)) (λ_ _ _ _=>p9) (λ_ _ _ _=>(S5 (d9 (qv .B 4) (qv .B 6))))))) b8)) c9)))))))
def P7:Def (hk w) mg "_law_lifted" (top 66) QE 360 (FD "_law_lifted" 66 m9 359):=dk Y Zj λ_ _ _ _ _ _=>us2 λ_ _=>rfl
def S9:FnOk P w (hk w) mg base CX0 2 360 (FD "_law_lifted" 66 m9 359) QE (spM (hk w) 2 .F J5):=
 okF (P7 Y) jQ (.inl rfl) rfl rfl λI=>(c7 (f6 (O7 V1 xGt (m7 v4 v0 Zo (bl Y).len_ qC7 (b6 (i7 (g7 (k7 (JU 66 QE JM) rfl (w9 (qv .B 1)) (λ_ _ _ _=>(@d8 _ _ 2 _ (by decide +kernel:(JM:Vq).Nodup) rfl (Or.inl rfl) (.inr rfl))) i6 (n8 (show 2<=2 by decide)) (λ_ _ _ _=>(S4 (o7 (i7 (g7 (qcD (M7 Y) (L1 Y) (b6 (qv .B 0) (b6 (qv .B 2) b8)))))))) (λ_ _ _ _=>(qv .V 2))))) b8)) c9)))
def eM:Def (hk w) mg "_law_fence" (top 67) JN 365 (FD "_law_fence" 67 m9 364):=dk Y Zj λ_ _ _ _ _ _=>us4 λ_ _ _ _=>rfl
def lP:FnOk P w (hk w) mg base CX0 3 365 (FD "_law_fence" 67 m9 364) JN (spM (hk w) 4 .F P5):=
 okF (eM Y) X3 (.inl rfl) rfl rfl λI=>(c8 (j5 (PW.pt (O6 (w8 (o7 (m7 J1 V8 Zo (bl Y).isinstance_ qE7 (b6 (qv .B 0) (b6 (@bE _ _ _ _ _ _ _ Zo (bl Y).list_ W6 Zz Zz) b8))))) (O6 (o7 (i7 (g7 (qcD (S9 Y) (P7 Y) (b6 (qv .B 1) (b6 (qv .B 0) b8)))))) (X5 (w8 (o7 (i7 (g7 (qcD (S9 Y) (P7 Y) (b6 (qv .B 3) (b6 (qv .B 0) b8))))))))))) (c7 (f6 x8)) j3) (c8 (v9 qC2 rfl (B8 (qv .U 0)) (@d8 _ _ 4 _ X3.nd rfl Zq Zq) i6 (c7 (v9 qC2 rfl (B8 (qv .U 2)) (@d8 _ _ 5 _ X3.nd rfl Zq Zq) i6 (c7 (j5 (w8 (o7 (i7 (g7 (qcD (S9 Y) (P7 Y) (b6 (i7 (g7 (F4 E7 (E6 (c:=true)) Zo (bl Y).tuple_ p8 (b6 (g7 (k7 (JU 67 ["_law_basis","_law_begin","_law_moves","_law_stand","_law_one","_law_move_here"] JO) rfl (F2 Zo (bl Y).range_ (b6 (m7 v4 v0 Zo (bl Y).len_ qC7 (b6 (qv .B 4) b8)) b8)) (λ_ _ _ _=>(@d8 _ _ 6 _ (by decide +kernel:(JO:Vq).Nodup) rfl (Or.inl rfl) (.inr rfl))) i6 (n8 (show 6<=6 by decide)) (λ_ _ _ _=>p9) (λ_ _ _ _=>(g9 v6 D6 (f9 (d9 (f9 (d9 (qv .B 5) c9)) (qv .B 6))) (m7 (du rfl) (b_2 (g:=de)) Zo (bl Y).max_ ng (l7 (b6 (g9 X7 eQ (f9 (d9 (qv .B 4) (qv .B 6))) (f9 (d9 (f9 (d9 (qv .B 5) c9)) (qv .B 6)))) b8))))))) b8)))) (b6 (qv .B 0) b8))))))) (c7 (f6 x8)) j3))))) (c7 (f6 x8))))
def mV:Def (hk w) mg "_law_no" (top 68) Ql 372 (FD "_law_no" 68 m9 371):=dk Y Zj λ_ _ _ _ _ _=>us4 λ_ _ _ _=>rfl
def tm:FnOk P w (hk w) mg base CX0 4 372 (FD "_law_no" 68 m9 371) Ql (spM (hk w) 4 .F dj):=
 okF (mV Y) se (.inl rfl) rfl rfl λI=>(c8 (j5 (PW.pt (O6 (w8 (o7 (m7 J1 V8 Zo (bl Y).isinstance_ qE7 (b6 (qv .B 0) (b6 (@bE _ _ _ _ _ _ _ Zo (bl Y).tuple_ p8 Zz Zz) b8))))) (X5 (i9 dI aO (m7 v4 v0 Zo (bl Y).len_ qC7 (b6 (qv .B 0) b8)) c9)))) (c7 (f6 x8)) j3) (c8 (j5 (i9 K3 D5 (f9 (d9 (qv .B 0) c9)) C7) (c7 (f6 (qcD (pX Y) (jI Y) (b6 (f9 (d9 (qv .B 0) c9)) (b6 (qv .B 1) (b6 (qv .B 2) (b6 (qv .B 3) b8))))))) j3) (c8 (j5 (i9 K3 D5 (f9 (d9 (qv .B 0) c9)) C7) (c7 (f6 (qcD (iA Y) (cf Y) (b6 (f9 (d9 (qv .B 0) c9)) (b6 (qv .B 1) (b6 (qv .B 2) (b6 (qv .B 3) b8))))))) j3) (c8 (j5 (i9 K3 D5 (f9 (d9 (qv .B 0) c9)) C7) (c7 (f6 (qcD (cO Y) (aE Y) (b6 (f9 (d9 (qv .B 0) c9)) (b6 (qv .B 2) (l7 (b6 (qv .B 1) (b6 (qv .B 3) b8)))))))) j3) (c8 (j5 (i9 K3 D5 (f9 (d9 (qv .B 0) c9)) C7) (c7 (f6 (qcD (cO Y) (aE Y) (b6 (f9 (d9 (qv .B 0) c9)) (b6 (qv .B 2) (l7 (b6 (qv .B 3) (b6 (qv .B 1) b8)))))))) j3) (c7 (f6 (pL (O7 K3 D5 (f9 (d9 (qv .B 0) c9)) C7) (pJ (qcD (lP Y) (eM Y) (b6 (f9 (d9 (qv .B 0) c9)) (b6 (qv .B 1) (b6 (qv .B 2) (b6 (qv .B 3) b8))))))))))))))
def eJ:Def (hk w) mg "_law_other" (top 69) JP 379 (FD "_law_other" 69 m9 378):=dk Y Zj λ_ _ _ _ _ _=>us2 λ_ _=>rfl
def lO:FnOk P w (hk w) mg base CX0 1 379 (FD "_law_other" 69 m9 378) JP (spM (hk w) 2 .F Y9):=
 okF (eJ Y) X2 (.inl rfl) rfl rfl λI=>(c8 (o9 (i:=2) X2.nd rfl Zq (g9 y8 JS (g9 L7 JT (qv .B 1) c9) (m7 v4 v0 Zo (bl Y).len_ qC7 (b6 (qv .B 0) b8))) Zo Zq) (c8 (j8 (i:=3) X2.nd rfl Zq (F4 vh (vc (c:=false)) Zo (bl Y).list_ W6 (b6 (qv .B 0) b8)) Zo Zq) (c8 (@Ik _ _ _ _ _ _ _ _ 3 _ _ _ _ rfl Zq (qv .B 2) (m7 (du rfl) (b_2 (g:=de)) Zo (bl Y).max_ ng (l7 (b6 (g9 X7 eQ (g9 v6 D6 (f9 (d9 (qv .B 3) (qv .B 2))) (g9 v7 JR c9 (g9 y8 JS (qv .B 1) c9))) c9) b8))) Zz Zz (@EA _ _ _ _ _ _ _ (@pv _ 3 _ _ Zo Zq Zz Zz) (qv .B 2) set_list (by intro _;rfl)) Zo Zo) (c7 (f6 (F4 E7 (E6 (c:=true)) Zo (bl Y).tuple_ p8 (b6 (qv .C 3) b8)))))))
def GG:Def (hk w) mg "law" (top 70) QF 384 (FD "law" 70 m9 383):=dk Y Zj λ_ _ _ _ _ _=>us1 λ_=>rfl
def IE:FnOk P w (hk w) mg base CX0 9 384 (FD "law" 70 m9 383) QF (spM (hk w) 1 .F kq):=
 okF (GG Y) E4 (.inl rfl) rfl rfl λI=>(c8 (o9 (i:=1) E4.nd rfl Zq (g9 v6 D6 c9 (g9 y8 JS (i7 (g7 (qcD (t5 Y) (t6 Y) (b6 (qv .B 0) (l7 b8))))) c9)) Zo Zq) (c8 (o9 (i:=2) E4.nd rfl Zq (g9 v6 D6 c9 (g9 y8 JS (i7 (g7 (qcD (t5 Y) (t6 Y) (b6 (qv .B 0) (l7 b8))))) c9)) Zo Zq) (c8 (o9 (i:=3) E4.nd rfl Zq (O7 K3 D5 (g9 y8 JS (i7 (g7 (qcD (t5 Y) (t6 Y) (b6 (qv .B 0) (l7 b8))))) c9) c9) Zo Zq) (c8 (o9 (i:=4) E4.nd rfl Zq c9 Zo Zq) (c8 (j5 (i9 K3 D5 (g9 y8 JS (i7 (g7 (qcD (t5 Y) (t6 Y) (b6 (qv .B 0) (l7 b8))))) c9) c9) (c7 (o9 (i:=4) E4.nd rfl Zq (g9 v6 D6 c9 (g9 y8 JS (g9 L7 JT (i7 (g7 (qcD (t5 Y) (t6 Y) (b6 (qv .B 0) (l7 b8))))) c9) (g9 EG (n6 (C:=fO) (g:=xl) (λ_ _=>rfl) (λ_ _ _=>.int)) c9 c9))) Zo Zq)) j3) (c8 (j8 (i:=5) E4.nd rfl Zq (B3 b8) Zo Zq) (c8 (v9 qC2 rfl (F2 Zo (bl Y).range_ (b6 (g9 v6 D6 c9 (g9 y8 JS (i7 (g7 (qcD (t5 Y) (t6 Y) (b6 (qv .B 0) (l7 b8))))) c9)) b8)) (@d8 _ _ 6 _ E4.nd rfl Zq Zq) i6 (c7 (@U9 _ _ _ _ _ _ _ 5 _ _ _ _ rfl Zq (t7 (qcD (nC Y) (gY Y) (b6 (qv .B 0) (b6 (g9 v6 D6 c9 (g9 v7 JR (qv .B 1) (qv .B 6))) (b6 (qv .B 1) (b6 (qv .B 3) (b6 (qv .B 4) b8))))))) Zz Zz Zo Zo Zo Zo Zo))) (c8 (j8 (i:=7) E4.nd rfl Zq (F4 E7 (E6 (c:=true)) Zo (bl Y).tuple_ p8 (b6 (g7 (k7 (JU 70 ["_law_script","_law_many","_law_most","_law_plain","_law_times","_law_moves","_law_k","_law_begin","_law_land","_law_drawn_here","_law_stand","_law_here","_law_other_here","_law_found"] JQ) rfl (F2 Zo (bl Y).range_ (b6 (qv .B 1) b8)) (λ_ _ _ _=>(@d8 _ _ 14 _ (by decide +kernel:(JQ:Vq).Nodup) rfl (Or.inl rfl) (.inr rfl))) i6 (n8 (show 14<=14 by decide)) (λ_ _ _ _=>p9) (λ_ _ _ _=>(g9 v7 JR (g9 y8 JS (g9 L7 JT (i7 (g7 (qcD (t5 Y) (t6 Y) (b6 (qv .B 0) (b6 (g9 v6 D6 c9 (qv .B 14)) b8))))) c9) c9) (qv .B 4))))) b8)) Zo Zq) (c8 (j8 (i:=8) E4.nd rfl Zq (B2 (b6 (qv .V 7) (b6 (t7 (F4 E7 (E6 (c:=true)) Zo (bl Y).tuple_ p8 (b6 (qv .C 5) b8))) b8))) Zo Zq) (c8 (j8 (i:=9) E4.nd rfl Zq (qcD (cP Y) (aF Y) (b6 (qv .B 0) (l7 (b6 (m7 (uQ rfl) (b_2 (g:=iS)) Zo (bl Y).min_ HC (l7 (b6 (g9 v6 D6 c9 (m7 v4 v0 Zo (bl Y).len_ qC7 (b6 (qv .B 0) b8))) b8))) (b6 (qv .B 7) (b6 (qv .B 5) b8)))))) Zo Zq) (c8 (v9 qC2 rfl (B8 (fq (t7 (B3 (b6 (R6 (qv .C 9) (X4 K7 (X9 (g:=C0) (λ_=>rfl) (λ_ _=>.int)) c9)) (b6 (R6 (qv .C 9) (g9 L7 JT (m7 v4 v0 Zo (bl Y).len_ qC7 (b6 (qv .B 9) b8)) c9)) b8)))))) (@d8 _ _ 10 _ E4.nd rfl Zq Zq) i6 (c7 (j5 (w8 (o7 (i7 (g7 (qcD (bH Y) (am Y) (b6 (i7 (wc (qcD (cM Y) (bQ Y) (b6 (qv .B 8) (b6 (qv .B 10) (b6 (qv .B 2) b8)))))) (b6 (qv .B 7) (b6 (qv .B 5) (b6 (qv .B 10) b8))))))))) (c7 (f6 x8)) j3))) (c8 (o9 (i:=11) E4.nd rfl Zq (R6 (qv .C 9) (g9 L7 JT (m7 v4 v0 Zo (bl Y).len_ qC7 (b6 (qv .B 9) b8)) c9)) Zo Zq) (c8 (j5 (w8 (o7 (i7 (g7 (qcD (bH Y) (am Y) (b6 (i7 (wc (qcD (cM Y) (bQ Y) (b6 (f9 (lq (b6 (qv .U 11) (b6 (d9 (qv .B 8) c9) b8)))) (b6 (f9 (d9 (qv .B 9) (X4 K7 (X9 (g:=C0) (λ_=>rfl) (λ_ _=>.int)) c9))) (b6 (qv .B 2) b8)))))) (b6 (qv .B 11) (b6 (qv .B 5) (b6 (f9 (d9 (qv .B 9) (X4 K7 (X9 (g:=C0) (λ_=>rfl) (λ_ _=>.int)) c9))) b8))))))))) (c7 (f6 x8)) j3) (c8 (j8 (i:=12) E4.nd rfl Zq (qcD (lO Y) (eJ Y) (b6 (f9 (d9 (qv .B 9) (g9 y8 JS (i7 (g7 (qcD (t5 Y) (t6 Y) (b6 (qv .B 0) (l7 b8))))) (m7 v4 v0 Zo (bl Y).len_ qC7 (b6 (qv .B 9) b8))))) (b6 (i7 (g7 (qcD (t5 Y) (t6 Y) (b6 (qv .B 0) (l7 b8))))) b8))) Zo Zq) (c8 (o9 (i:=13) E4.nd rfl Zq (qcD (cM Y) (bQ Y) (b6 (qv .B 8) (b6 (qv .B 12) (b6 (qv .B 2) b8)))) Zo Zq) (c8 (j5 (o7 (i7 (g7 (qcD (bH Y) (am Y) (b6 (qv .B 13) (b6 (qv .B 7) (b6 (qv .B 5) (b6 (qv .B 12) b8)))))))) (c7 (f6 x8)) j3) (c8 (v9 qC2 rfl (F2 Zo (bl Y).range_ (l7 b8)) (@d8 _ _ 6 _ E4.nd rfl Zq Zq) i6 (c7 (j5 (i9 (pQ (E1 I)) (dJ (neg:=false)) (qv .B 12) (i7 (g7 (qcD (cP Y) (aF Y) (b6 (qv .B 0) (b6 (g9 v6 D6 c9 (g9 v7 JR c9 (qv .B 6))) (l7 (b6 (qv .B 7) (b6 (qv .B 5) b8))))))))) (c7 (f6 x8)) j3))) (c7 (f6 (pL (O7 (lD (E1 I)) (dJ (neg:=true)) (qv .B 12) (qv .B 9)) (pJ (qcD (tm Y) (mV Y) (b6 (qv .B 13) (b6 (qv .B 7) (b6 (qv .B 5) (b6 (qv .B 12) b8))))))))))))))))))))))))))
end
def spLaw (K:Frag):Sp:=λvs H Q _=>∃(a:Addr)(ns:Vk),vs = [.ref a]/\SqL K H a (ns.map V.int)/\ns.length<=63/\(∀x∈ns,Builtin.Int.intBits x<=1048576)/\∀H',Q (.bl true) H'
def all_ {l:PySem.W.OpenLaw}(Y:En w mg) (I:∀ns:List Int,ns.length<=63->(∀x∈ns,Builtin.Int.intBits x<=1048576)->kq [.scr (ns.map W.int)]=.ok (.bl true)) (e:mg "law" = some (.ref fa)):∃fd:FuncData,(∀(s:Shared) (v:Value),BindsTo s fd ⟨[v],[]⟩ [("_law_script",v)])/\∀base:Heap,(hk w).In base->base.Ns mainGlobals mg->FnOk l.prog w (hk w) mg base CX0 9 fa fd QF (spLaw (hk w)):=by
 cases e.symm.trans (GG Y).m;show ⟨FD "law" 70 m9 383,λs v=>.of_eq rfl,λbase _ _=>AS (IE Y) I⟩
end K88
open PySem PySem.W PyProof.Rows
namespace K88
end K88
set_option maxHeartbeats 0 in
theorem PySem.Challenge.cw_tokenmoor_k88_whole_never_wrongly_no_holds : PySem.Challenge.rw_tokenmoor_k88_whole_never_wrongly_no.Holds := by
 w_on;o_law
 refine holds_open (q:=K88.view) (loose:=[]) (Xt:=λs=>xlAt K88.view [] s&&recOk [] s) (XP:=XL K88.view [])
  (Yf:=K88.hook.obs) (Ya:=K88.hook.val) (YP:=K88.hook.says) (N:=4480) K88.hl0 K88.hook.of K88.hook.keeps
  (λs e=>xl_of s (Bool.and_eq_true_iff.mp e).1) XL.keeps (by rfl) (by rfl) (by rfl)
  (λs e=>recFacts_of (Bool.and_eq_true_iff.mp e).2) (by rfl) (by first|assumption|decide +kernel)
  (by decide +kernel) ⟨rfl,rfl,rfl,rfl,rfl,by decide +kernel⟩ ?hw ?hc
 (case hw=>w_witness2)
 refine L2.walk_ofKB (l:=PySem.Challenge.rw_tokenmoor_k88_whole_never_wrongly_no) (n:=63) (k:=9) (x := "_law_script") (CX:=L2.CX0) (sp:=K88.spLaw) rfl (by decide) rfl ⟨rfl,by decide,by decide⟩ (λw h Y=>PySem.W.kIn_of Y)
  (λw mg fa h X G e=>K88.all_ ⟨h,X,G⟩ K88.law_pure e)
  (λK H a ns hl hb hO hS=>⟨a,ns,rfl,hS,hl,hb,λ_=>rfl⟩) λ_ _ _ _ z=>z
