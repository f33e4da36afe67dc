import PyProof.Rows.All
import Wide.All
import OpenK.AllK
import Wide.FinOn
import Lean
import PyProof.EqAt
import PyProof.EqKinds
import PyProof.TupleCall
import PyProof.ZipIter
import PyProof.TupleIter
import PyProof.WalksMore
import PyProof.EnumMake
import PyProof.Draws
import PyProof.P3In
import KE.KSortTup
import PyProof.Rows.SortWalk
import KE.KMinKey
import KE.KLam
import KE.KNestM
import KE.IntBitsLaws
import KE.KRevIter
import PyProof.TupleOfGen
import PySem.Challenge.RW_tokenmoor_k95_whole_heights_of_places
open PySem.W (Frag)
set_option Elab.async false
set_option linter.all false
def ox {p:Prop}(h:p:=by omega):p:=h
def ZQ {p:Prop}(h:p:=by rfl):p:=h
def ZZ {p:Prop}(h:p:=by trivial):p:=h
def ZY {p:Prop}(h:p:=by decide):p:=h
def ZV {p:Prop}(h:p:=by simp):p:=h
def ZJ {p:Prop}(h:p:=by kernel_rfl):p:=h
def ZU {p:Prop}(h:p:=by decide +kernel):p:=h
abbrev Vz:=List (PySem.Addr×PySem.Obj)
abbrev Vx:=PySem.Str->Option PySem.Value
abbrev Vy:=List (Option Int)
abbrev VQ:=Option Int
abbrev VZ:=List PySem.Value
abbrev VJ:=List PySem.Str
abbrev VV:=List PySem.Expr
abbrev VW:=Array PySem.Value
abbrev VX:=PySem.Value->PySem.Shared->Prop
abbrev VY:=Option PySem.Value
abbrev Zq:=List (List Int)
abbrev Zz:=List Int
abbrev Zj:=Nat->Nat->Int
abbrev Zv:=Nat->Int
abbrev Zw:=List Nat
def qO6:=@PySem.wpAny_pure
def qO7:=@decide_eq_false
def qO8:=@decide_eq_true
def qO9:=@of_decide_eq_true
def qP0:=@if_true
def qP1:=@if_false
def qP2:=@PySem.wpAny_field
def qP3:=@PySem.wpAny_Call_Name_kw
def qP4:=@PySem.wpAny_holding
def qP5:=@PySem.wpAny_newObj_type
def qP6:=@PySem.wpAny_seqItems
def qP7:=@PySem.wpAny_callSpecial?_slot
def qP8:=@PySem.wpAny_mono
def qP9:=@PySem.sizeLine_eq
def qQ0:=@PySem.wpAny_pyIter_tuple
def qQ1:=@of_decide_eq_false
def qQ2:=@List.mem_filter
def qQ3:=@PySem.wpAny_passesOwn
def qQ4:=@PySem.wpAny_standAt
def qQ5:=@PySem.wpAny_truthy_bool
def qQ6:=@PySem.wpAny_pyIter_list
def qQ7:=@decide_eq_true_eq
def qQ8:=@PySem.wpAny_call_entry
def qQ9:=@PySem.wpAny_setField_rec
def qR0:=@PySem.wpAny_updateSeq
def qR1:=@PySem.wpAny_letGo
def qR2:=@or_false
def qR3:=@List.eq_nil_of_length_eq_zero
def qR4:=@PySem.call_meets
def qR5:=@PySem.wpAny_loadPart'
def qR6:=@List.getElem?_take_of_lt
def qR7:=@PySem.F.args_tuple_add_2
def qR8:=@List.pairwise_cons
def qR9:=@PySem.wpAny_comprehension_free
def qS0:=@decide_eq_true_iff
def qS1:=@PySem.wpAny_rule
def qS2:=@PySem.F.entry_tuple_add
def qS3:=@PySem.F.plainAttrs_list
def qS4:=@Nat.succ_pred_eq_of_pos
def qS5:=@Int.mul_nonpos_of_nonpos_of_nonneg
def qS6:=@PySem.F.slot_tuple_add
def qS7:=@PySem.Calls.callWith_builtin
def qS8:=@List.findIdx?_eq_some_iff_getElem
def qS9:=@List.filter_eq_nil_iff
def qT0:=@PySem.plainId_quiet
def qT1:=@beq_self_eq_true
def qT2:=@List.take_succ_eq_append_getElem
def qT3:=@List.any_eq_true
def qT4:=@PySem.builtinLookup_eq_fast
def qT5:=@List.countP_mono_left
def qT6:=@List.pairwise_reverse
def qT7:=@PySem.wpAny_loadName_local
def qT8:=@PySem.wpAny_execs_nil
def qT9:=@Bool.eq_iff_iff
def qU0:=@List.nodup_cons
def qU1:=@PySem.F.slot_int_rmul
def qU2:=@PySem.F.slot_zip_next
def qU3:=@Option.map_some
def qU4:=@PySem.wpAny_pyIter_revIter
def qU5:=@Int.le_max_left
def qU6:=@List.length_dropLast
def qU7:=@Int.emod_nonneg
def qU8:=@Int.mul_ediv_cancel'
def qU9:=@Int.toNat_of_nonneg
def qV0:=@List.getElem_of_mem
def qV2:=@PySem.wpAny_newTuple
def qV3:=@PySem.wpAny_tryCatch
def qV4:=@List.take_zero
def qV5:=@PySem.wpAny_evalAll_cons
def qV7:=@List.length_mapIdx
def qV9:=@Int.fdiv_eq_ediv_of_nonneg
def qW0:=@Array.perm_iff_toList_perm
def qW1:=@PySem.wpAny_assign_Name
def qW2:=@Nat.sub_pos_of_lt
def qW3:=@Nat.add_sub_assoc
def qW4:=@List.all_eq_false
def qW5:=@PySem.wpAny_Name
def qW6:=@PySem.typeIs_int
def qW8:=@List.drop_eq_getElem_cons
def qW9:=@Int.not_lt
def qX0:=@Nat.not_lt
def qX1:=@Classical.byContradiction
def qX2:=@Int.mul_neg_of_pos_of_neg
def qX3:=@PySem.noFill_tuple_add
def qX4:=@PySem.wpAny_typeOf
def qX5:=@Nat.add_comm
def qX6:=@Nat.mul_comm
def qX7:=@Array.size_setIfInBounds
def qX8:=@Nat.add_lt_add_iff_right
def qY0:=@Bool.or_true
def qY1:=@PyProof.Rows.callWith_kw
def qY2:=@decide_eq_decide
def qY3:=@List.Pairwise.imp_of_mem
def qY4:=@List.getElem_append_left
def qY5:=@List.length_eq_zero_iff
def qY6:=@PySem.F.slot_list_index
def qY7:=@List.getElem?_cons_succ
def qY8:=@List.pairwise_singleton
def qY9:=@List.mem_singleton_self
def qZ0:=@Nat.add_sub_cancel_left
def qZ1:=@List.of_mem_zip
def qZ2:=@List.nil_append
def qZ4:=@Nat.min_eq_left
def qZ5:=@Int.mul_one
def xA5:=@Int.mul_add
def xA9:=@List.drop_zero
def xB2:=@Nat.add_le_add
def xB4:=@beq_iff_eq
def xC2:=@Bool.or_false
def xC4:=@Bool.not_true
def xC6:=@List.map_drop
def xC7:=@Int.add_assoc
def qA0:=@List.getD_eq_getElem?_getD
def qA1:=@PySem.wpAny_bind
def qA2:=@if_pos
def qA3:=@List.getElem?_eq_getElem
def qA4:=@if_neg
def qA5:=@List.length_map
def qA6:=@List.getElem?_map
def qA7:=@PySem.Heap.get?_push_of_some
def qA8:=@List.mem_cons_of_mem
def qA9:=@List.getElem?_eq_some_iff
def qB0:=@Bool.false_ne_true
def qB1:=@List.mem_map
def qB2:=@PySem.Heap.lt_size
def qB3:=@List.mem_cons_self
def qB4:=@Nat.le_refl
def qB5:=@List.mem_cons
def qB6:=@Nat.lt_of_lt_of_le
def qB7:=@List.length_reverse
def qB8:=@List.size_toArray
def qB9:=@List.getElem?_set_ne
def qC0:=@PySem.Heap.get?_push_size
def qC1:=@Nat.le_trans
def qC2:=@List.map_cons
def qC3:=@List.map_map
def qC4:=@PySem.boot_len
def qC5:=@List.length_cons
def qC6:=@Int.le_trans
def qC7:=@List.getElem?_range
def qC8:=@Nat.ne_of_lt
def qC9:=@List.mem_append_right
def qD0:=@List.map_append
def qD1:=@List.length_append
def qD2:=@Int.mul_comm
def qD3:=@Int.mul_assoc
def qD4:=@List.mem_of_getElem?
def qD5:=@List.mem_singleton
def qD6:=@PySem.PassesOwn.never
def qD7:=@List.getElem?_eq_none
def qD8:=@Nat.lt_succ_self
def qD9:=@Int.toNat_natCast
def qE0:=@Nat.zero_le
def qE1:=@Bool.false_eq_true
def qE2:=@Nat.lt_irrefl
def qE3:=@Option.map_eq_some_iff
def qE4:=@List.not_mem_nil
def qE5:=@List.map_congr_left
def qE6:=@List.getElem?_append_left
def qE7:=@List.replicate_succ
def qE8:=@Int.le_refl
def qE9:=@List.getElem?_set
def qF0:=@Nat.not_lt_zero
def qF1:=@List.getElem?_set_self
def qF2:=@List.length_set
def qF3:=@Nat.lt_succ_of_lt
def qF4:=@List.length_range
def qF5:=@List.length_singleton
def qF6:=@List.lookup_cons
def qF7:=@List.mem_iff_getElem
def qF8:=@List.mem_range
def qF9:=@List.mem_append
def qG0:=@Int.mul_nonneg
def qG1:=@List.getElem_mem
def qG2:=@List.all_eq_true
def qG3:=@PyProof.Rows.callWith_type1
def qG4:=@Array.getD_eq_getD_getElem?
def qG5:=@Nat.lt_of_le_of_lt
def qG6:=@Bool.and_eq_true
def qG7:=@PySem.mem_of_lookup
def qG8:=@List.flatten_cons
def qG9:=@Nat.succ_add_eq_add_succ
def qH0:=@PySem.AutoSeq1.wpAny_loadPart'
def qH1:=@Int.mul_zero
def qH2:=@PySem.W.kia_one
def qH3:=@List.append_nil
def qH4:=@List.take_length
def qH5:=@List.getElem?_append_right
def qH6:=@Nat.le_of_succ_le_succ
def qH7:=@List.ext_getElem?
def qH8:=@Int.mul_le_mul_of_nonneg_right
def qH9:=@Int.mul_le_mul_of_nonneg_left
def qI0:=@List.map_reverse
def qI1:=@PySem.Heap.size_push
def qI2:=@PyProof.Rows.boot_isinstance
def qI3:=@List.getElem?_replicate
def qI4:=@List.reverse_cons
def qI5:=@Option.some.injEq
def qI6:=@Nat.le_of_succ_le
def qI7:=@List.filterMap_cons
def qI8:=@PySem.F.plain_min_loop
def qI9:=@Int.neg_mul
def qJ0:=@Nat.succ_le_succ
def qJ1:=@List.getElem?_zipWith
def qJ2:=@PyProof.Rows.slot_tuple_getitem
def qJ3:=@List.mem_append_left
def qJ4:=@Nat.ne_of_gt
def qJ5:=@Int.add_zero
def qJ6:=@Int.max_le
def qJ7:=@Int.zero_mul
def qJ8:=@List.append_assoc
def qJ9:=@Nat.le_of_lt_succ
def qK0:=@PySem.Heap.SameBut.update
def qK1:=@List.ext_getElem
def qK2:=@Int.one_mul
def qK3:=@Int.mul_sub
def qK4:=@Nat.le_of_lt
def qK5:=@List.map_nil
def qK6:=@PySem.Heap.get?_update_self
def qK7:=@PySem.F.slot_tuple_iterator_next
def qK8:=@List.any_eq_false
def qK9:=@List.pairwise_map
def qL0:=@List.length_drop
def qL1:=@Bool.and_self
def qL2:=@List.forIn_cons
def qL3:=@List.zip_cons_cons
def qL4:=@PySem.Heap.get?_update_other
def qL5:=@List.take_of_length_le
def qL6:=@List.take_add_one
def qL7:=@Nat.lt_of_succ_lt
def qL8:=@List.reverse_perm
def qL9:=@Bool.false_and
def qM0:=@List.length_replicate
def qM1:=@Int.mul_le_mul
def qM2:=@List.length_take
def qM3:=@Nat.min_le_right
def qM4:=@Nat.le_add_right
def qM5:=@List.mem_reverse
def qM6:=@Int.mul_neg
def qM7:=@Array.length_toList
def qM8:=@Nat.add_sub_cancel'
def qM9:=@List.takeWhile_cons
def qN0:=@List.reverse_append
def qN1:=@List.length_nil
def qN2:=@Nat.min_le_left
def qN3:=@Nat.le_antisymm
def qN4:=@Nat.lt_or_eq_of_le
def qN5:=@Int.le_of_lt
def qN6:=@Int.emod_lt_of_pos
def qN7:=@List.forIn_nil
def qN8:=@Nat.le_succ
def qN9:=@Int.add_mul
def qO0:=@Nat.le_of_not_lt
def qO1:=@Nat.not_lt_of_le
def qO2:=@List.countP_cons
def qO3:=@List.cons_append
def qO4:=@Int.le_max_right
def qO5:=@List.getElem_map
set_option maxRecDepth 100000
theorem Z1 (a:p)(b:q):p/\q:=⟨a,b⟩
noncomputable section
namespace L2
open PySem PySem.Spec PyProof.Rows
def V2 (s:Stmt):Arguments:=match s with
 | .FunctionDef _ a _ _ _ _ _ _ _ _=>a
 |_=>{ posonlyargs:=[],args:=[],vararg:=none,kwonlyargs:=[],kw_defaults:=[],kwarg:=none,defaults:=[] }
def E4 (s:Stmt):List Stmt:=match s with
 | .FunctionDef _ _ b _ _ _ _ _ _ _=>b
 |_=>[]
def c8 (s:Stmt):Scope:=match s with
 | .FunctionDef _ _ _ _ _ _ sc _ _ _=>sc
 |_=>{ kind:=.function,names:=[],isGenerator:=false,isCoroutine:=false }
end L2
namespace K95
open PySem L2 PySem.W PyProof.Rows
def top (i:Nat):Stmt:=PySem.Challenge.pw_tokenmoor_k95_whole_heights_of_places.main.body.getD i (.Pass ⟨0,0,0,0⟩)
abbrev hxS (s:String)(t:Nat):Value:=.str (Str.ofString s) t
abbrev hxI (i:Int):Value:=.int i 0
abbrev hxO (c:String)(d:Data):Obj:=⟨.type c,none,d,#[]⟩
abbrev hxE (P:Params)(s:String)(t:Nat)(v:Value):DictEntry:=⟨PyData.keyHash P (Str.ofString s),.str (Str.ofString s) t,v⟩
abbrev hxF (n q:String)(st:Stmt)(O kV doc pm:Value)(an:Option Addr)(I ct:Value):Data:=.func (PySem.W.fnOf (Str.ofString n) (Str.ofString q) (V2 st) (E4 st) (c8 st) O kV doc pm an I ct)
abbrev hxG (n:String)(i:Nat)(pm:Value)(c:Nat):Obj:=hxO "function" (hxF n n (top i) .none .none .none pm none (.ref c) .none)
abbrev hxD (n:String)(t:Nat) (l a:Int)(r8:Nat)(T:Nat)(a3 a0:Value)(O:Nat) (a4:Int)(I:Nat):Data:=.fields #[.str (Str.ofString n) t,.str (Str.ofString n) (t+1),.str (Str.ofString "/claim/cut.py") (t+2),hxI l,hxI a,hxI 0,hxI 0,hxI 3,.ref r8,.bool true,hxI 181,.ref T,.none,a3,a0,.ref O,hxI a4,hxI l,.str (Str.ofString "/claim/cut.py") I]
abbrev t0:Value:=hxS "law_tokenmoor_k95_whole_heights_of_places" 525
abbrev yg:Value:=hxS "tokenmoor.balances" 441
abbrev jC:Value:=hxS "tokenmoor.bases" 240
abbrev A0:Value:=hxS "tokenmoor.ceilings" 449
abbrev C8:Value:=hxS "tokenmoor.climbs" 378
abbrev x5:Value:=hxS "tokenmoor.crowns" 254
abbrev yf:Value:=hxS "tokenmoor.moors" 232
abbrev Y2:Value:=hxS "tokenmoor.walks" 343
@[irreducible] def ve:Params->Frag:=λP=>
 (nat_lit 2,⟨.none,none,(.dict #[] 0),#[]⟩) ::
 (nat_lit 3,hxO "dict" (.dict #[hxE P "__name__" 165 (hxS "law_tokenmoor_k95_whole_heights_of_places" 525),hxE P "__doc__" 166 .none,hxE P "__package__" 167 .none,hxE P "__loader__" 168 (.builtin "__main__.__loader__#opaque"),hxE P "__spec__" 169 .none,hxE P "__annotations__" 170 (.ref 6),hxE P "__builtins__" 171 (.ref 4),hxE P "__file__" 173 (hxS "/claim/cut.py" 172),hxE P "__cached__" 174 .none,hxE P "MoorError" 206 (.ref 24),hxE P "Stuck" 231 (.ref 44),hxE P "change" 239 (.ref 51),hxE P "source" 247 (.ref 56),hxE P "least_over" 253 (.ref 61),hxE P "under" 265 (.ref 68),hxE P "under_any" 274 (.ref 75),hxE P "cap_able" 282 (.ref 82),hxE P "cap_after" 288 (.ref 87),hxE P "raised" 294 (.ref 92),hxE P "tops" 303 (.ref 99),hxE P "sort_key" 309 (.ref 104),hxE P "growth" 320 (.ref 111),hxE P "grow" 326 (.ref 116),hxE P "way_back" 336 (.ref 123),hxE P "crown" 342 (.ref 128),hxE P "hurdle" 354 (.ref 135),hxE P "sum_of" 364 (.ref 142),hxE P "shifted" 370 (.ref 147),hxE P "noughts" 377 (.ref 154),hxE P "way" 387 (.ref 161),hxE P "row_between" 393 (.ref 166),hxE P "lifts_of" 399 (.ref 171),hxE P "unraised" 409 (.ref 178),hxE P "climb" 415 (.ref 183),hxE P "times_for" 421 (.ref 188),hxE P "wanted_ahead" 434 (.ref 195),hxE P "peak" 440 (.ref 200),hxE P "unit" 448 (.ref 205),hxE P "ceiling" 456 (.ref 210),hxE P "first_table" 462 (.ref 215),hxE P "coming" 471 (.ref 222),hxE P "leaving" 477 (.ref 227),hxE P "pivoted" 483 (.ref 232),hxE P "cleared" 489 (.ref 237),hxE P "bag_of" 503 (.ref 244),hxE P "weights_of" 509 (.ref 249),hxE P "in_least_numbers" 515 (.ref 254),hxE P "greatest_divisor" 524 (.ref 261),hxE P "_law_cell" 535 (.ref 268),hxE P "_law_move" 541 (.ref 273),hxE P "_law_covers" 550 (.ref 280),hxE P "_law_behind" 556 (.ref 285),hxE P "_law_drawn" 562 (.ref 290),hxE P "_law_need" 575 (.ref 297),hxE P "_law_blocks" 581 (.ref 302),hxE P "_law_weigh" 587 (.ref 307),hxE P "_law_whole" 593 (.ref 312),hxE P "_law_falling" 604 (.ref 319),hxE P "_law_bag" 610 (.ref 324),hxE P "_law_climbed" 624 (.ref 331),hxE P "_law_peak_true" 630 (.ref 336),hxE P "law" 636 (.ref 341)] 62)) ::
 (nat_lit 15,hxO "tuple" (.seq #[(.type "ValueError")] 0)) ::
 (nat_lit 22,hxO "tuple" (.seq #[] 0)) ::
 (nat_lit 23,hxO "dict" (.dict #[hxE P "__module__" 196 (hxS "tokenmoor.errors" 187),hxE P "__firstlineno__" 200 (.int 2 199),hxE P "__static_attributes__" 201 (.ref 22),hxE P "__weakref__" 203 (.ref 25),hxE P "__doc__" 204 .none] 3)) ::
 (nat_lit 25,hxO "getset_descriptor" (.fields #[(hxS "__weakref__" 202),(.ref 24),(.builtin "ExceptionGroup.__weakref__"),.none])) ::
 (nat_lit 28,hxO "tuple" (.seq #[(.ref 24)] 0)) ::
 (nat_lit 40,hxO "code" (.fields #[(hxS "__init__" 219),(hxS "Stuck.__init__" 220),(hxS "/claim/cut.py" 221),(hxI 6),(hxI 2),(hxI 0),(hxI 0),(hxI 3),(.ref 35),(.bool true),(hxI 181),(.ref 36),.none,(.ref 37),(.ref 38),(.ref 39),(hxI 224),(hxI 6),(hxS "/claim/cut.py" 225)])) ::
 (nat_lit 42,hxO "tuple" (.seq #[(hxS "at" 227)] 0)) ::
 (nat_lit 43,hxO "dict" (.dict #[hxE P "__module__" 214 (hxS "tokenmoor.errors" 187),hxE P "__firstlineno__" 218 (.int 4 217),hxE P "__init__" 226 (.ref 41),hxE P "__static_attributes__" 228 (.ref 42),hxE P "__doc__" 229 .none] 2)) ::
 (nat_lit 50,hxO "code" (hxD "change" 234 9 1 47 48 .none .none 49 237 238)) ::
 (nat_lit 51,hxG "change" 4 yf 50) ::
 (nat_lit 55,hxO "code" (hxD "source" 242 12 2 52 53 .none .none 54 245 246)) ::
 (nat_lit 56,hxG "source" 6 jC 55) ::
 (nat_lit 60,hxO "code" (hxD "least_over" 248 14 2 57 58 .none .none 59 251 252)) ::
 (nat_lit 61,hxG "least_over" 7 jC 60) ::
 (nat_lit 67,hxO "code" (hxD "under" 256 17 2 62 63 (.ref 64) (.ref 65) 66 263 264)) ::
 (nat_lit 68,hxG "under" 9 x5 67) ::
 (nat_lit 74,hxO "code" (hxD "under_any" 266 22 2 69 70 (.ref 71) (.ref 72) 73 272 273)) ::
 (nat_lit 75,hxG "under_any" 10 x5 74) ::
 (nat_lit 81,hxO "code" (hxD "cap_able" 275 27 2 76 77 (.ref 78) (.ref 79) 80 280 281)) ::
 (nat_lit 82,hxG "cap_able" 11 x5 81) ::
 (nat_lit 86,hxO "code" (hxD "cap_after" 283 29 2 83 84 .none .none 85 286 287)) ::
 (nat_lit 87,hxG "cap_after" 12 x5 86) ::
 (nat_lit 91,hxO "code" (hxD "raised" 289 33 2 88 89 .none .none 90 292 293)) ::
 (nat_lit 92,hxG "raised" 13 x5 91) ::
 (nat_lit 98,hxO "code" (hxD "tops" 295 37 1 93 94 (.ref 95) (.ref 96) 97 301 302)) ::
 (nat_lit 99,hxG "tops" 14 x5 98) ::
 (nat_lit 103,hxO "code" (hxD "sort_key" 304 44 1 100 101 .none .none 102 307 308)) ::
 (nat_lit 104,hxG "sort_key" 15 x5 103) ::
 (nat_lit 110,hxO "code" (hxD "growth" 310 46 2 105 106 (.ref 107) (.ref 108) 109 318 319)) ::
 (nat_lit 111,hxG "growth" 16 x5 110) ::
 (nat_lit 115,hxO "code" (hxD "grow" 321 56 4 112 113 .none .none 114 324 325)) ::
 (nat_lit 116,hxG "grow" 17 x5 115) ::
 (nat_lit 122,hxO "code" (hxD "way_back" 327 65 2 117 118 (.ref 119) (.ref 120) 121 334 335)) ::
 (nat_lit 123,hxG "way_back" 18 x5 122) ::
 (nat_lit 127,hxO "code" (hxD "crown" 337 72 2 124 125 .none .none 126 340 341)) ::
 (nat_lit 128,hxG "crown" 19 x5 127) ::
 (nat_lit 134,hxO "code" (hxD "hurdle" 345 78 2 129 130 (.ref 131) (.ref 132) 133 352 353)) ::
 (nat_lit 135,hxG "hurdle" 21 Y2 134) ::
 (nat_lit 141,hxO "code" (hxD "sum_of" 355 83 2 136 137 (.ref 138) (.ref 139) 140 362 363)) ::
 (nat_lit 142,hxG "sum_of" 22 Y2 141) ::
 (nat_lit 146,hxO "code" (hxD "shifted" 365 88 3 143 144 .none .none 145 368 369)) ::
 (nat_lit 147,hxG "shifted" 23 Y2 146) ::
 (nat_lit 153,hxO "code" (hxD "noughts" 371 90 1 148 149 (.ref 150) (.ref 151) 152 375 376)) ::
 (nat_lit 154,hxG "noughts" 24 Y2 153) ::
 (nat_lit 160,hxO "code" (hxD "way" 380 93 2 155 156 (.ref 157) (.ref 158) 159 385 386)) ::
 (nat_lit 161,hxG "way" 26 C8 160) ::
 (nat_lit 165,hxO "code" (hxD "row_between" 388 95 3 162 163 .none .none 164 391 392)) ::
 (nat_lit 166,hxG "row_between" 27 C8 165) ::
 (nat_lit 170,hxO "code" (hxD "lifts_of" 394 98 3 167 168 .none .none 169 397 398)) ::
 (nat_lit 171,hxG "lifts_of" 28 C8 170) ::
 (nat_lit 177,hxO "code" (hxD "unraised" 400 110 3 172 173 (.ref 174) (.ref 175) 176 407 408)) ::
 (nat_lit 178,hxG "unraised" 29 C8 177) ::
 (nat_lit 182,hxO "code" (hxD "climb" 410 113 4 179 180 .none .none 181 413 414)) ::
 (nat_lit 183,hxG "climb" 30 C8 182) ::
 (nat_lit 187,hxO "code" (hxD "times_for" 416 128 4 184 185 .none .none 186 419 420)) ::
 (nat_lit 188,hxG "times_for" 31 C8 187) ::
 (nat_lit 194,hxO "code" (hxD "wanted_ahead" 422 130 4 189 190 (.ref 191) (.ref 192) 193 432 433)) ::
 (nat_lit 195,hxG "wanted_ahead" 32 C8 194) ::
 (nat_lit 199,hxO "code" (hxD "peak" 435 135 3 196 197 .none .none 198 438 439)) ::
 (nat_lit 200,hxG "peak" 33 C8 199) ::
 (nat_lit 204,hxO "code" (hxD "unit" 443 144 2 201 202 .none .none 203 446 447)) ::
 (nat_lit 205,hxG "unit" 35 yg 204) ::
 (nat_lit 209,hxO "code" (hxD "ceiling" 451 147 3 206 207 .none .none 208 454 455)) ::
 (nat_lit 210,hxG "ceiling" 37 A0 209) ::
 (nat_lit 214,hxO "code" (hxD "first_table" 457 161 3 211 212 .none .none 213 460 461)) ::
 (nat_lit 215,hxG "first_table" 38 A0 214) ::
 (nat_lit 221,hxO "code" (hxD "coming" 463 166 1 216 217 (.ref 218) (.ref 219) 220 469 470)) ::
 (nat_lit 222,hxG "coming" 39 A0 221) ::
 (nat_lit 226,hxO "code" (hxD "leaving" 472 171 3 223 224 .none .none 225 475 476)) ::
 (nat_lit 227,hxG "leaving" 40 A0 226) ::
 (nat_lit 231,hxO "code" (hxD "pivoted" 478 174 4 228 229 .none .none 230 481 482)) ::
 (nat_lit 232,hxG "pivoted" 41 A0 231) ::
 (nat_lit 236,hxO "code" (hxD "cleared" 484 177 4 233 234 .none .none 235 487 488)) ::
 (nat_lit 237,hxG "cleared" 42 A0 236) ::
 (nat_lit 243,hxO "code" (hxD "bag_of" 490 179 5 238 239 (.ref 240) (.ref 241) 242 501 502)) ::
 (nat_lit 244,hxG "bag_of" 43 A0 243) ::
 (nat_lit 248,hxO "code" (hxD "weights_of" 504 185 4 245 246 .none .none 247 507 508)) ::
 (nat_lit 249,hxG "weights_of" 44 A0 248) ::
 (nat_lit 253,hxO "code" (hxD "in_least_numbers" 510 188 1 250 251 .none .none 252 513 514)) ::
 (nat_lit 254,hxG "in_least_numbers" 45 A0 253) ::
 (nat_lit 260,hxO "code" (hxD "greatest_divisor" 516 193 2 255 256 (.ref 257) (.ref 258) 259 522 523)) ::
 (nat_lit 261,hxG "greatest_divisor" 46 A0 260) ::
 (nat_lit 267,hxO "code" (hxD "_law_cell" 527 200 2 262 263 (.ref 264) (.ref 265) 266 533 534)) ::
 (nat_lit 268,hxG "_law_cell" 48 t0 267) ::
 (nat_lit 272,hxO "code" (hxD "_law_move" 536 207 5 269 270 .none .none 271 539 540)) ::
 (nat_lit 273,hxG "_law_move" 49 t0 272) ::
 (nat_lit 279,hxO "code" (hxD "_law_covers" 542 219 2 274 275 (.ref 276) (.ref 277) 278 548 549)) ::
 (nat_lit 280,hxG "_law_covers" 50 t0 279) ::
 (nat_lit 284,hxO "code" (hxD "_law_behind" 551 224 2 281 282 .none .none 283 554 555)) ::
 (nat_lit 285,hxG "_law_behind" 51 t0 284) ::
 (nat_lit 289,hxO "code" (hxD "_law_drawn" 557 226 3 286 287 .none .none 288 560 561)) ::
 (nat_lit 290,hxG "_law_drawn" 52 t0 289) ::
 (nat_lit 296,hxO "code" (hxD "_law_need" 563 234 3 291 292 (.ref 293) (.ref 294) 295 573 574)) ::
 (nat_lit 297,hxG "_law_need" 53 t0 296) ::
 (nat_lit 301,hxO "code" (hxD "_law_blocks" 576 242 3 298 299 .none .none 300 579 580)) ::
 (nat_lit 302,hxG "_law_blocks" 54 t0 301) ::
 (nat_lit 306,hxO "code" (hxD "_law_weigh" 582 258 2 303 304 .none .none 305 585 586)) ::
 (nat_lit 307,hxG "_law_weigh" 55 t0 306) ::
 (nat_lit 311,hxO "code" (hxD "_law_whole" 588 260 2 308 309 .none .none 310 591 592)) ::
 (nat_lit 312,hxG "_law_whole" 56 t0 311) ::
 (nat_lit 318,hxO "code" (hxD "_law_falling" 594 264 4 313 314 (.ref 315) (.ref 316) 317 602 603)) ::
 (nat_lit 319,hxG "_law_falling" 57 t0 318) ::
 (nat_lit 323,hxO "code" (hxD "_law_bag" 605 271 4 320 321 .none .none 322 608 609)) ::
 (nat_lit 324,hxG "_law_bag" 58 t0 323) ::
 (nat_lit 330,hxO "code" (hxD "_law_climbed" 611 276 5 325 326 (.ref 327) (.ref 328) 329 622 623)) ::
 (nat_lit 331,hxG "_law_climbed" 59 t0 330) ::
 (nat_lit 335,hxO "code" (hxD "_law_peak_true" 625 283 6 332 333 .none .none 334 628 629)) ::
 (nat_lit 336,hxG "_law_peak_true" 60 t0 335) ::
 (nat_lit 340,hxO "code" (hxD "law" 631 291 1 337 338 .none .none 339 634 635)) ::
 (nat_lit 341,hxG "law" 61 t0 340) ::
 []
def hxas:List Addr:=[2,3,15,22,23,25,28,40,42,43,50,51,55,56,60,61,67,68,74,75,81,82,86,87,91,92,98,99,103,104,110,111,115,116,122,123,127,128,134,135,141,142,146,147,153,154,160,161,165,166,170,171,177,178,182,183,187,188,194,195,199,200,204,205,209,210,214,215,221,222,226,227,231,232,236,237,243,244,248,249,253,254,260,261,267,268,272,273,279,280,284,285,289,290,296,297,301,302,306,307,311,312,318,319,323,324,330,331,335,336,340,341]
def view:Program:={ PySem.Challenge.pw_tokenmoor_k95_whole_heights_of_places with main:={ PySem.Challenge.pw_tokenmoor_k95_whole_heights_of_places.main with body:=[1,2,4,6,7,9,10,11,12,13,14,15,16,17,18,19,21,22,23,24,26,27,28,29,30,31,32,33,35,37,38,39,40,41,42,43,44,45,46,48,49,50,51,52,53,54,55,56,57,58,59,60,61].map top } }
def hook:PySem.W.Hook:=PySem.W.kmHook ve hxas (λ_=>by kernel_rfl) [224]
theorem hl0:LeftO PySem.Challenge.rw_tokenmoor_k95_whole_heights_of_places.prog view [] (λs=>xlAt view [] s&&recOk [] s) hook.obs hook.val 4048:=by
  intro w;kernel_rfl
end K95
local macro_rules | `(tactic| omega)=>`(tactic| first | with_reducible assumption | decide | lia)
local macro_rules | `(tactic| show $e)=>`(tactic| exact $e)
set_option genSizeOf false
set_option genSizeOfSpec false
namespace L2
open PySem PySem.Spec PyProof.Rows
abbrev Key:=Sum Int Str
def zE:Key->Value->Bool
 | .inl k,v=>Value.isInt k v
 | .inr x,v=>Value.isStrOf x v
def keyH (w:World):Key->Int
 | .inl k=>hashInt k
 | .inr x=>hashStr w x
def A6:∀{k:Key}{v:Value},zE k v=true->(∃i t,k=Sum.inl i/\v=Value.int i t)\/(∃x t,k=Sum.inr x/\v=Value.str x t)
 | .inl i,v,h=>by
  obtain ⟨t,e⟩:=Value.isInt_shape (k:=i) (v:=v) h;show .inl ⟨i,t,rfl,e⟩
 | .inr x,v,h=>by
  obtain ⟨t,e⟩:=Value.isStrOf_shape (x:=x) (v:=v) h;show .inr ⟨x,t,rfl,e⟩
def FT (a b:Int):decide ((Sum.inl a:Key)=Sum.inl b)=(a == b):=by
 by_cases e:a=b
 .subst e;simp
 .have h:¬ (Sum.inl a:Key)=Sum.inl b:=λq=>e (Sum.inl.inj q);rw[qO7 h];show (beq_eq_false_iff_ne.mpr e).symm
def FQ (a b:Str):decide ((Sum.inr a:Key)=Sum.inr b)=decide (a=b):=by
 by_cases e:a=b
 .subst e;simp
 .have h:¬ (Sum.inr a:Key)=Sum.inr b:=λq=>e (Sum.inr.inj q);rw[qO7 h,qO7 e]
def FS (a:Int)(b:Str):decide ((Sum.inl a:Key)=Sum.inr b)=false:=qO7 (λq=>nomatch q)
def FR (a:Str) (b:Int):decide ((Sum.inr a:Key)=Sum.inl b)=false:=qO7 (λq=>nomatch q)
def pB (prog:Program) (w:World):PySem.KeyKind prog w Key where
 is:=zE
 hash:=keyH w
 inj:=λv a b ha O=>by
  rcases A6 ha with ⟨i,t,rfl,rfl⟩|⟨x,t,rfl,rfl⟩
  .rcases A6 O with ⟨j,u,rfl,e⟩|⟨y,u,rfl,e⟩
   .injection e with e1 _;rw[e1]
   .show nomatch e
  .rcases A6 O with ⟨j,u,rfl,e⟩|⟨y,u,rfl,e⟩
   .show nomatch e
   .injection e with e1 _;rw[e1]
 byValue:=λk v h=>by
  rcases A6 h with ⟨i,t,rfl,rfl⟩|⟨x,t,rfl,rfl⟩ <;> rfl
 pyHash:=λI h=>by
  rcases A6 I with ⟨i,t,rfl,rfl⟩|⟨x,t,rfl,rfl⟩
  .show wpAny_pyHash_int h
  .show wpAny_pyHash_str h
 eqBool:=λT I h=>by
  rcases A6 T with ⟨i,t,rfl,rfl⟩|⟨x,t,rfl,rfl⟩
  .rcases A6 I with ⟨j,u,rfl,rfl⟩|⟨y,u,rfl,rfl⟩
   .rw[FT]at h;show wpAny_eqBool_int h
   .rw[FS]at h;show SeqAt.EqAt.int_str i t y u _ _ _ _ h
  .rcases A6 I with ⟨j,u,rfl,rfl⟩|⟨y,u,rfl,rfl⟩
   .rw[FR]at h;show SeqAt.EqAt.str_int x t j u _ _ _ _ h
   .rw[FQ]at h;show wpAny_eqBool_str h
 «strs»:=λk x t v h=>by
  rcases A6 h with ⟨i,u,rfl,e⟩|⟨y,u,rfl,e⟩
  .show nomatch e
  .injection e with e1 _
   subst e1;cases v <;> rfl
inductive V where
 |non|bl (b:Bool)|int (i:Int)|str (x:Str)|byt (b:Array UInt8)|flt (b:UInt64)|ref (a:Addr)|ty (n:String)
 deriving DecidableEq
def RelV:V->Value->Prop
 | .non,u=>u=Value.none
 | .bl b,u=>u=Value.bool b
 | .int i,u=>∃t,u=Value.int i t
 | .str x,u=>∃t,u=Value.str x t
 | .byt b,u=>∃t,u=Value.bytes b t
 | .flt b,u=>∃t,u=Value.float b t
 | .ref a,u=>u=Value.ref a
 | .ty n,u=>u=Value.type n
abbrev Vals:List V->List Value->Prop:=Paired RelV
def Vals.length (r:Vals xs us):xs.length=us.length:=Paired.length r
def Vals.get:∀{xs:List V}{us:VZ}{i:Nat}{x:V},Vals xs us->xs[i]?=some x->∃u,us[i]?=some u/\RelV x u:=by
 intro xs us i x a
 induction a generalizing i with
 |nil=>intro e;cases e
 | cons r t I=>
  intro e;cases i with
  |zero=>cases e;show ⟨_,rfl,r⟩
  |succ i=>show I e
def Vals.set (r:RelV x u):∀{xs:List V}{us:VZ}(i:Nat),Vals xs us->Vals (xs.set i x) (us.set i u):=by
 intro xs us i h
 induction h generalizing i with
 |nil=>show .nil
 | cons q t I=>
  cases i with
  |zero=>show .cons r t
  |succ i=>show .cons q (I i)
def Vals.append:∀{xs ys:List V}{us ws:VZ},Vals xs us->Vals ys ws->Vals (xs++ys) (us++ws):=by
 intro xs ys us ws a s
 induction a with
 |nil=>show s
 |cons r t I=>show .cons r I
def Vals.take:∀{xs:List V}{us:VZ}(n:Nat),Vals xs us->Vals (xs.take n) (us.take n):=by
 intro xs us n h
 induction h generalizing n with
 |nil=>cases n <;> show .nil
 | cons r t I=>
  cases n with
  |zero=>show .nil
  |succ n=>show .cons r (I n)
def Vals.drop:∀{xs:List V}{us:VZ}(n:Nat),Vals xs us->Vals (xs.drop n) (us.drop n)
 |_,_,0,r=>r
 |_,_,_+1,.nil=>.nil
 |_,_,n+1,.cons _ t=>Vals.drop n t
def za:Option V->Option Value->Prop
 |some v,some u=>RelV v u
 |none,none=>True
 |_,_=>False
def KV {κ:Type}:List (κ×V)->List (κ×Value)->Prop:=Paired λ(p:κ×V)(q:κ×Value)=>p.1=q.1/\RelV p.2 q.2
def kV:Key->V
 | .inl i=>.int i
 | .inr x=>.str x
inductive HO where
 |lst (xs:List V)
 |tup (xs:List V)
 |dK (kvs:List (Key×V))|dT (kvs:List (List Key×V))
 |set (S:Int->Bool) (n:Nat)
 |ins (C dx:Addr) (fs:List (Str×V))
 |own (x:Addr)
 |xd (fs:List (Str×V))
 |met (f x:Addr)
 |rng (lo hi:Int)
 |frz (o:Obj) (u:HO)
 |tbl (k:Nat×Nat×Str)
 |ext (φ:Heap->Prop)
abbrev Hp:=Addr->Option HO
@[irreducible] def lamT:List (Addr×Nat×Nat×Str):=[(224,173,26, "leaving.<locals>.<lambda>")]
def Dj (q:Str)(oc:Obj):Prop:=∃vs t,oc.data=.fields vs/\vs[1]?=some (.str q t)
def upd (H:Hp)(a:Addr)(o:HO):Hp:=λb=>if b=a then some o else H b
def p8:upd H a o a=some o:=by unfold upd;rw[qA2 rfl]
def e9 (h:b≠a):upd H a o b=H b:=by unfold upd;rw[qA4 h]
def f9 {H:Hp}(h:H a=some o) (h':H b=none):a≠b:=by
 intro e;subst e;rw[h]at h';cases h'
section
variable (P:Program)(w:World)
def ObjOk (H:Hp) (h:Heap) (a:Addr):HO->Prop
 | .lst xs=>xs.length<=sizeLine/\∃(its:VZ) (n:Nat),Vals xs its/\h.get? a=some { cls:=.type "list",data:=.seq its.toArray n }
 | .tup xs=>xs.length<=sizeLine/\∃its:List Value,Vals xs its/\IsTup h a its.toArray
 | .dK kvs=>kvs.length<=sizeLine/\(a == sysModules)=false/\∃vs,KV kvs vs/\h.DictOf (pB P w) a vs
 | .dT kvs=>kvs.length<=sizeLine/\(a == sysModules)=false/\∃xs:List (List Key×Addr×Value),
   Paired (λ(p:List Key×V) (q:List Key×Addr×Value)=>p.1=q.1/\H q.2.1=some (.tup (p.1.map kV))/\RelV p.2 q.2.2) kvs xs /\
   ∃o es ep,h.get? a=some o/\o.ExactDict/\o.data=.dict es ep/\es.toList=xs.map (entryOfKey (tupleKind (pB P w)))/\(xs.map (·.1)).Nodup
 | .set S n=>h.SetOf (intKind P w) a S n
 | .ins C dx fs=>H dx=some (.own a)/\fs.length<=1000/\dx≠a/\h.get? a=some (PySem.W.instObj C dx) /\
   ∃mA,h.Ns1 dx mA/\(∀f,za (fs.lookup f) (mA f))/\PySem.Within mA (fs.map (·.1))
 | .own _=>∃o,h.get? a=some o
 | .xd fs=>∃mA,h.Ns1 a mA/\∀f,za (fs.lookup f) (mA f)
 | .rng lo hi=>∃t u v,h.get? a=some { cls:=.type "range",data:=.fields #[.int lo t,.int hi u,.int 1 v] }
 | .frz o u=>h.get? a=some o/\ObjOk H h a u
 | .tbl k=>∃ps:Array Value,h.get? a=some { cls:=.none,data:=.fields ps }/\(ps=#[]\/∃I oc,ps=#[rawInt k.1,rawInt k.2.1,.ref I]/\H I=some (.own a)/\I≠a/\h.get? I=some oc/\Dj k.2.2 oc)
 | .met f x=>h.get? a=some (PySem.W.methodObj (.ref f) (.ref x))
 | .ext φ=>φ h/\(∃o,h.get? a=some o)/\∀O T:Heap,φ O->(∀o,O.get? a=some o->T.get? a=some o)->φ T
def HOk (H:Hp)(h:Heap):Prop:=∀a o,H a=some o->ObjOk P w H h a o
end
def ObjOk.lt (x:ObjOk P w H h a o):a<h.objs.size:=by
 cases o with
 |lst xs=>obtain ⟨_,_,_,_,e⟩:=x;show qB2 e
 |tup xs=>obtain ⟨_,_,_,p⟩:=x;show p.lt
 |dK kvs=>obtain ⟨_,_,_,_,o,_,_,e,_⟩:=x;show qB2 e
 |dT kvs=>obtain ⟨_,_,_,_,o,_,_,e,_⟩:=x;show qB2 e
 |set S n=>obtain ⟨o,_,_,_,e,_⟩:=x;show qB2 e
 |ins C dx fs=>obtain ⟨_,_,_,e,_⟩:=x;show qB2 e
 |own y=>obtain ⟨_,e⟩:=x;show qB2 e
 |xd fs=>obtain ⟨_,⟨_,_,_,e,_⟩,_⟩:=x;show qB2 e
 |rng lo hi=>obtain ⟨_,_,_,e⟩:=x;show qB2 e
 |frz I u=>obtain ⟨e,_⟩:=x;show qB2 e
 |tbl k=>obtain ⟨_,e,_⟩:=x;show qB2 e
 |met f y=>show qB2 (show h.get? a=some _ from x)
 |ext φ=>obtain ⟨_,⟨_,e⟩,_⟩:=x;show qB2 e
def Paired.mapP:∀{l₁:List α}{I:List β},Paired F l₁ I->(∀a b,F a b->G a b)->Paired G l₁ I:=by
 intro l₁ I h f
 induction h with
 |nil=>show .nil
 |cons r t O=>show .cons (f _ _ r) O
def ObjOk.stay (x:ObjOk P w H h a o) (k:∀b u,(b=a\/H b=some (.own a))->h.get? b=some u->h'.get? b=some u) (ho:∀b,H b=some (.own a)->H' b=some (.own a)) (ht:∀b xs,H b=some (.tup xs)->H' b=some (.tup xs)):ObjOk P w H' h' a o:=by
 induction o with
 |lst xs=>obtain ⟨z,its,n,r,e⟩:=x;show ⟨z,its,n,r,k _ _ (.inl rfl) e⟩
 |tup xs=>obtain ⟨z,its,r,I,e,c⟩:=x;show ⟨z,its,r,I,k _ _ (.inl rfl) e,c⟩
 |dK kvs=>obtain ⟨z,y,vs,r,I,es,O,e,c⟩:=x;show ⟨z,y,vs,r,I,es,O,k _ _ (.inl rfl) e,c⟩
 | dT kvs=>
  obtain ⟨z,y,xs,r,I,es,O,e,c⟩:=x;show ⟨z,y,xs,Paired.mapP r λp q z=>⟨z.1,ht _ _ z.2.1,z.2.2⟩,I,es,O,k _ _ (.inl rfl) e,c⟩
 |set S n=>obtain ⟨I,es,O,t,e,c⟩:=x;show ⟨I,es,O,t,k _ _ (.inl rfl) e,c⟩
 | ins C dx fs=>
  obtain ⟨d,z,ne,e,mA,⟨od,es,O,T,c⟩,r⟩:=x;show ⟨ho _ d,z,ne,k _ _ (.inl rfl) e,mA,⟨od,es,O,k _ _ (.inr d) T,c⟩,r⟩
 |own y=>obtain ⟨I,e⟩:=x;show ⟨I,k _ _ (.inl rfl) e⟩
 |xd fs=>obtain ⟨mA,⟨od,es,O,e,c⟩,r⟩:=x;show ⟨mA,⟨od,es,O,k _ _ (.inl rfl) e,c⟩,r⟩
 |rng lo hi=>obtain ⟨t,u,v,e⟩:=x;show ⟨t,u,v,k _ _ (.inl rfl) e⟩
 |frz I u ih=>obtain ⟨e,q⟩:=x;show ⟨k _ _ (.inl rfl) e,ih q⟩
 | tbl q=>
  obtain ⟨ps,e,r⟩:=x;show ⟨ps,k a _ (.inl rfl) e,r.imp id λa0=>by obtain ⟨c',oc,e1,T,ne,e3,e4⟩:=a0;show ⟨c',oc,e1,ho _ T,ne,k c' _ (.inr T) e3,e4⟩⟩
 | met f y=>
  have e:h.get? a=some (PySem.W.methodObj (.ref f) (.ref y)):=x
  change h'.get? a=some (PySem.W.methodObj (.ref f) (.ref y));show k a _ (.inl rfl) e
 |ext φ=>obtain ⟨p,⟨o,e⟩,st⟩:=x;show ⟨st _ _ p λo q=>k _ _ (.inl rfl) q,⟨o,k _ _ (.inl rfl) e⟩,st⟩
def HOk.lt (x:HOk P w H h)(e:H a=some o):a<h.objs.size:=(x a o e).lt
def HOk.fresh {a:Addr}(x:HOk P w H h) (e:h.objs.size<=a):H a=none:=by
 cases q:H a with
 |none=>rfl
 |some u=>show absurd (qB6 (x.lt q) e) (qE2 _)
def HOk.kept (x:HOk P w H h) (k:∀b u,h.get? b=some u->h'.get? b=some u):HOk P w H h':=λa o e=>
 (x a o e).stay (λb u _ q=>k b u q) (λ_ q=>q) λ_ _ q=>q
def HOk.laid {a:Addr}(x:HOk P w H h) (k:∀b u,h.get? b=some u->h'.get? b=some u) (T:h.objs.size<=a) (I:ObjOk P w (upd H a o) h' a o):HOk P w (upd H a o) h':=λb u e=>by
 have hn:=x.fresh T;by_cases O:b=a
 .subst O;rw[p8]at e;cases e;show I
 .rw [e9 O]at e
  show (x b u e).stay (λc v _ q=>k c v q) (λc q=>by rw[e9 (f9 q hn)];show q) λc xs q=>by rw[e9 (f9 q hn)];show q
def Rd (H:Hp)(a:Addr)(u:HO):Prop:=H a=some u\/∃o,H a=some (.frz o u)
def Rd.ok (r:Rd H a u) (x:HOk P w H h):ObjOk P w H h a u:=by
 rcases r with r|⟨o,r⟩
 .show x a u r
 .obtain ⟨_,q⟩:=x a _ r;show q
def Mut:Option HO->Prop
 |some (.lst _)=>True
 |some (.dK _)=>True
 |some (.dT _)=>True
 |some (.set _ _)=>True
 |some (.ins _ _ _)=>True
 |some (.ext _)=>True
 |_=>False
def HOk.write (ok:HOk P w H h) (mu:Mut (H x)) (he:e=x\/H e=some (.own x)) (k:∀b u,b≠e->h.get? b=some u->h'.get? b=some u) (a3:∃u,h'.get? e=some u) (a0:ObjOk P w (upd H x o') h' x o'):HOk P w (upd H x o') h':=λb u q=>by
 have O:∀c y,H c=some (.own y)->c≠x:=λc y r z=>by subst z;rw[r]at mu;show mu
 have T:∀c xs,H c=some (.tup xs)->c≠x:=λc xs r z=>by subst z;rw[r]at mu;show mu
 by_cases hb:b=x
 .subst hb;rw[p8]at q;cases q;show a0
 .rw [e9 hb]at q
  by_cases I:b=e
  .have q':H b=some (.own x):=by
    rcases he with z|z
    .show absurd (I.trans z) hb
    .rw[I];show z
   rw[q]at q';cases q';obtain ⟨v,hv⟩:=a3;show ⟨v,by rw[I];show hv⟩
  .refine (ok b u q).stay (λc v hc r=>k c v ?_ r) (λc r=>by rw[e9 (O c b r)];show r) λc xs r=>by rw[e9 (T c xs r)];show r
   rcases hc with rfl|hc
   .show I
   .rintro rfl;rcases he with z|z
    .show O c b hc z
    .rw[hc]at z;cases z;show hb rfl
structure Un (fs ex:List Addr) (H H':Hp) (h h':Heap):Prop where
 keep:∀b o,h.get? b=some o->H b=none->b∉fs->b∉ex->h'.get? b=some o
 slot:∀b o,h.get? b=some o->H b=none->b∈fs->b∉ex->∃sl,h'.get? b=some { o with slots:=sl }
 free:∀b o,h.get? b=some o->H b=none->b∉ex->H' b=none
 there:∀b o,h.get? b=some o->b∉ex->∃o',h'.get? b=some o'
 tups:∀b xs,H b=some (.tup xs)->H' b=some (.tup xs)
 frzs:∀b o u,H b=some (.frz o u)->H' b=some (.frz o u)
 tbls:∀b k,H b=some (.tbl k)->H' b=some (.tbl k)
def Un.any (u:Un fs ex H H1 h h1) (q:h.get? b=some ob) (n:H b=none) (I:b∉ex):∃sl,h1.get? b=some { ob with slots:=sl }:=by
 by_cases O:b∈fs
 .show u.slot b ob q n O I
 .show ⟨ob.slots,u.keep b ob q n O I⟩
def Un.kept (k:∀b u,h.get? b=some u->h'.get? b=some u):Un fs ex H H h h':=
 ⟨λb I q _ _ _=>k b I q,λb I q _ _ _=>⟨I.slots,k b I q⟩,λ_ _ _ n _=>n,λb I q _=>⟨I,k b I q⟩,λ_ _ q=>q,λ_ _ _ q=>q,λ_ _ q=>q⟩
def Un.refl:Un fs ex H H h h:=Un.kept λ_ _ q=>q
def Un.laid (k:∀b u,h.get? b=some u->h'.get? b=some u) (I:h.objs.size<=a) (hn:H a=none):Un fs ex H (upd H a o) h h' where
 keep:=λb u q _ _ _=>k b u q
 slot:=λb u q _ _ _=>⟨u.slots,k b u q⟩
 free:=λb u q n _=>by rw[e9 (qC8 (qB6 (qB2 q) I))];show n
 there:=λb u q _=>⟨u,k b u q⟩
 tups:=λb xs q=>by rw[e9 (f9 q hn)];show q
 frzs:=λb u xs q=>by rw[e9 (f9 q hn)];show q
 tbls:=λb k q=>by rw[e9 (f9 q hn)];show q
def Un.write (O:Mut (H x)) (he:e=x\/H e=some (.own x)) (k:∀b u,b≠e->h.get? b=some u->h'.get? b=some u) (T:∃u,h'.get? e=some u):Un fs ex H (upd H x o) h h':=by
 have hx:∀b,H b=none->b≠x:=λb n z=>by subst z;rw[n]at O;show O
 have hb:∀b,H b=none->b≠e:=λb n z=>by
  subst z;rcases he with r|r
  .show hx b n r
  .rw[n]at r;cases r
 have hm:∀b u,H b=some u->¬ Mut (some u)->b≠x:=λb u q nm z=>by subst z;rw[q]at O;show nm O
 refine ⟨λb u q n _ _=>k b u (hb b n) q,λb u q n _ _=>⟨u.slots,k b u (hb b n) q⟩,λb u q n _=>by rw[e9 (hx b n)];show n,λb u q _=>?_,
  λb xs q=>by rw[e9 (hm b _ q λz=>z)];show q,λb u xs q=>by rw[e9 (hm b _ q λz=>z)];show q,λb k q=>by rw[e9 (hm b _ q λz=>z)];show q⟩
 by_cases I:b=e
 .subst I;show T
 .show ⟨u,k b u I q⟩
def trk (h:Heap)(H:Hp):List Addr:=(List.range h.objs.size).filter λa=>(H a).isSome
def cX (h:Heap)(H:Hp):Heap:=PySem.W.hideAll h (trk h H)
def vg (h:Heap)(H:Hp):(cX h H).objs.size=h.objs.size:=PySem.W.hideAll_size _ _
def yi (e:h.get? b=some o) (n:H b=none):(cX h H).get? b=some o:=
 PySem.W.hideAll_get _ e λhm=>by
  have q:(H b).isSome=true:=(qQ2.mp hm).2;rw[n]at q;simp at q
def Bk (e:(cX h H).get? b=some o):h.get? b=some o/\H b=none:=by
 have I:h.get? b=some o:=PySem.W.of_hideAll (trk h H) e;refine ⟨I,?_⟩;cases q:H b with
 |none=>rfl
 | some x=>
  have hm:b∈trk h H:=qQ2.mpr ⟨qF8.mpr (qB2 I),by simp [q]⟩;have z:(cX h H).get? b=none:=PySem.W.hideAll_none (trk h H) hm;rw[z]at e;cases e
def CY (g h:Heap)(L:Addr):List (Addr×Obj):=(List.range h.objs.size).filterMap λa=>if a=L\/(g.get? a).isSome=true then none else (h.get? a).map λo=>(a,o)
def rest (g h:Heap)(L d:Addr):List (Addr×Obj):=(CY g h L).filter λp=>decide (p.1≠d)
structure Mod (K:Frag) (mg:Vx) (base:Heap):Prop where
 kin:K.In base
 glob:base.Ns mainGlobals mg
 blt:∃mb,base.Ns builtinsNs mb/\∀x:Str,x ≠ "__name__" -> mb x=bootBuiltins x
 nolimit:base.NoLimit
 bmain:∃bm o,mg "__builtins__" = some (.ref bm)/\bm≠builtinsNs/\base.get? bm=some o/\o.cls=.type "module" /\ o.dict=some builtinsNs/\o.data=.plain
structure Cx where
 prog:Program
 w:World
 K:Frag
 mg:Str->Option Value
 base:Heap
 A:Around
 N:List Str
 s₀:Shared
 H₀:Hp
 env:Env
 outer:List Env
 stack:List Env
 ex:List Addr
 fn:Str->Bool
 calm:Bool
 pn:List (Addr×Obj)
 xe:Value->Shared->Prop
def frs (l:List Env):List Addr:=l.filterMap (·.frame)
abbrev Cx.fs (X:Cx):List Addr:=frs X.outer
def Vis (sc:Scope)(x:Str):Prop:=sc.names.lookup x=some .local\/sc.names.lookup x=some .cell\/sc.names.lookup x=some .free
def Loc (sc:Scope)(x:Str):Prop:=sc.names.lookup x=some .local\/sc.names.lookup x=some .cell
def Look (env:Env) (h:Heap) (m:Vx) (x:Str) (u:Value):Prop:=
 (env.kindOf x=some .local/\m x=some u)\/((env.kindOf x=some .cell\/env.kindOf x=some .free)/\∃c,env.cells.lookup x=some c/\h.IsCell c (some u))
structure Cx.Ok (X:Cx):Prop where
 mod:Mod X.K X.mg X.base
 kind:X.env.scope.kind=.function
 glob:X.env.globals=mainGlobals
 blt:X.env.builtins=builtinsNs
 above:X.s₀.heap.objs.size<=X.env.locals
 inj:∀x y c,X.env.cells.lookup x=some c->X.env.cells.lookup y=some c->x=y
 has:∀x,(X.env.kindOf x=some .cell\/X.env.kindOf x=some .free)->∃c,X.env.cells.lookup x=some c
 cab:∀x c,X.fn x=true->X.env.cells.lookup x=some c->X.s₀.heap.objs.size<=c
 hd:X.calm=true->X.A.handled=none
 frames:X.A.frames=some X.stack
 stk:X.stack=X.outer\/(X.stack=X.env::X.outer/\X.env.frame=some X.env.locals)
 exf:∀b∈X.ex,b≠X.env.locals/\∀x c,X.env.cells.lookup x=some c->c≠b
 bs:∀b o,X.base.get? b=some o->X.s₀.heap.get? b=some o/\X.H₀ b=none
 bsz:X.base.objs.size<=X.s₀.heap.objs.size
 noex:∀b o,X.base.get? b=some o->b∉X.ex
 exfs:∀b∈X.ex,b∉X.fs
 funs:X.s₀.heap.FunFrames X.base X.outer
 frf:∀b∈X.fs,X.H₀ b=none
 tab:∀p∈lamT,X.H₀ p.1=some (.tbl p.2)
structure Inv (X:Cx) (pins:Vz) (σ:List (Option V)) (H:Hp) (s:Shared):Prop where
 ok:X.Ok
 os:s.os=X.s₀.os
 bare:AllBare s.gens
 base:Un X.fs X.ex X.H₀ H X.s₀.heap s.heap
 loc:∃m,s.heap.Ns X.env.locals m/\∀(i:Nat) (x:Str) (v:V),X.N[i]?=some x->σ[i]?=some (some v)->Vis X.env.scope x->∃u,RelV v u/\Look X.env s.heap m x u
 cell:∀x c,X.env.cells.lookup x=some c->∃v,s.heap.IsCell c v
 free:H X.env.locals=none
 freeC:∀x c,X.env.cells.lookup x=some c->H c=none
 pin:∀p∈X.pn++pins,s.heap.get? p.1=some p.2/\H p.1=none/\p.1≠X.env.locals/\p.1∉X.fs/\∀v,p.2.data≠.cell v
 hok:HOk X.prog X.w H s.heap
 len:σ.length=X.N.length
def Cx.Ok.nofr {X:Cx}(ok:X.Ok) (e:X.base.get? b=some o):b∉X.fs:=λI=>by
 have:=(ok.funs.mem I).1
 rw[e]at this;cases this
def Inv.bs (I:Inv X pins σ H s):∀b o,X.base.get? b=some o->s.heap.get? b=some o/\H b=none:=λb o e=>
 ⟨I.base.keep b o (I.ok.bs b o e).1 (I.ok.bs b o e).2 (I.ok.nofr e) (I.ok.noex b o e),I.base.free b o (I.ok.bs b o e).1 (I.ok.bs b o e).2 (I.ok.noex b o e)⟩
def Inv.tab (I:Inv X pins σ H s):∀p∈lamT,H p.1=some (.tbl p.2):=λp O=>I.base.tbls _ _ (I.ok.tab p O)
def Inv.bk (I:Inv X pins σ H s):∀b o,X.base.get? b=some o->s.heap.get? b=some o:=λb o e=>(I.bs b o e).1
def Inv.mod (I:Inv X pins σ H s):Mod X.K X.mg X.base:=I.ok.mod
def Inv.kIn (I:Inv X pins σ H s):X.K.In s.heap:=I.ok.mod.kin.keeps I.bk
def Inv.nolimit (I:Inv X pins σ H s):s.heap.NoLimit:=I.ok.mod.nolimit.keeps I.bk
def Inv.fr (I:Inv X pins σ H s):∃m,Fr X.base X.env.locals s.heap m:=
 let ⟨m,hn,_⟩:=I.loc
 ⟨m,hn,I.bk,qC1 I.ok.bsz I.ok.above⟩
def Inv.lt (I:Inv X pins σ H s):X.env.locals<s.heap.objs.size:=let ⟨_,hn,_⟩:=I.loc;hn.lt
def Inv.sz (I:Inv X pins σ H s):X.s₀.heap.objs.size<=s.heap.objs.size:=qC1 I.ok.above (qK4 I.lt)
def Inv.nofs (I:Inv X pins σ H s){a:Addr}(h:s.heap.objs.size<=a):a∉X.fs:=λT=>by
 obtain ⟨_,o,O,_⟩:=I.ok.funs.mem T;show absurd (qB6 (qB2 O) (qC1 I.sz h)) (qE2 _)
def Inv.cne (I:Inv X pins σ H s):∀x c,X.env.cells.lookup x=some c->c≠X.env.locals:=λx c e z=>by
 obtain ⟨v,o,ho,hd⟩:=I.cell x c e;obtain ⟨m,⟨o',es,ep,O,T,_⟩,_⟩:=I.loc;rw[z,O]at ho;cases ho;rw[T]at hd;cases hd
def Inv.funs (I:Inv X pins σ H s):s.heap.FunFrames X.base X.outer:=by
 have all:∀(l:List Env),(∀b∈frs l,b∈X.fs)->X.s₀.heap.FunFrames X.base l->s.heap.FunFrames X.base l:=by
  intro l
  induction l with
  |nil=>intro _ _;trivial
  | cons env r ih=>
   intro hs hl;obtain ⟨hk,⟨L,o,T,hn,ho,hd⟩,hr⟩:=hl;have hL:L∈X.fs:=hs L (by unfold frs;rw[qI7,T];show qB3);obtain ⟨sl,e⟩:=I.base.slot L o ho (I.ok.frf L hL) hL λz=>I.ok.exfs L z hL;show ⟨hk,⟨L,_,T,hn,e,hd⟩,ih (λb O=>hs b (by unfold frs;rw[qI7,T];show qA8 _ O)) hr⟩
 show all X.outer (λ_ O=>O) I.ok.funs
def Inv.stack (I:Inv X pins σ H s):s.heap.FunFrames X.base X.stack:=by
 rcases I.ok.stk with e|⟨e,hf⟩
 .rw[e];show I.funs
 .rw [e]
  obtain ⟨m,hn,_⟩:=I.loc;refine .cons (by rw[I.ok.kind];decide) hf hn ?_ I.funs;show Heap.get?_none_of_le (qC1 I.ok.bsz I.ok.above)
def Inv.stkSub (I:Inv X pins σ H s):∀b∈frs X.stack,b∈X.env.locals::X.fs:=λb O=>by
 rcases I.ok.stk with e|⟨e,hf⟩
 .rw[e]at O;show qA8 _ O
 .rw [e]at O
  unfold frs at O;rw[qI7,hf]at O;show O
def Inv.stkFree (I:Inv X pins σ H s):∀b∈frs X.stack,H b=none:=λb O=>by
 rcases qB5.mp (I.stkSub b O) with e|O
 .rw[e];show I.free
 .obtain ⟨_,o,T,_⟩:=I.ok.funs.mem O;show I.base.free b o T (I.ok.frf b O) λz=>I.ok.exfs b z O
def Inv.step {ch:List Addr}(I:Inv X pins σ H s) (a0:∀b∈ch,(b∈X.ex\/X.s₀.heap.objs.size<=b)/\b≠X.env.locals/\(∀x c,X.env.cells.lookup x=some c->c≠b)/\∀p∈X.pn++pins,p.1≠b) (keep:∀b o,b≠X.env.locals->b∉X.fs->b∉ch->s.heap.get? b=some o->H b=none->h'.get? b=some o) (slot:∀b o,b≠X.env.locals->b∈X.fs->b∉ch->s.heap.get? b=some o->H b=none->∃sl,h'.get? b=some { o with slots:=sl }) (free:∀b o,b∉ch->s.heap.get? b=some o->H b=none->H' b=none) (there:∀b o,b∉ch->s.heap.get? b=some o->∃o',h'.get? b=some o') (tups:∀b xs,H b=some (.tup xs)->H' b=some (.tup xs)) (frzs:∀b o u,H b=some (.frz o u)->H' b=some (.frz o u)) (tbls:∀b k,H b=some (.tbl k)->H' b=some (.tbl k)) (ns:∀m,s.heap.Ns X.env.locals m->h'.Ns X.env.locals m) (hok:HOk X.prog X.w H' h') (hg:AllBare g'):
  Inv X pins σ H' { s with heap:=h',gens:=g',drawn:=d',toks:=t' }:=by
 have a4:∀b o,X.s₀.heap.get? b=some o->b≠X.env.locals:=λb o e=>qC8 (qB6 (qB2 e) I.ok.above);have a3:∀b o,X.s₀.heap.get? b=some o->b∉X.ex->b∉ch:=λb o e O hb=>by
  rcases (a0 b hb).1 with z|z
  .show O z
  .show absurd (qB6 (qB2 e) z) (qE2 _)
 have cellK:∀x c,X.env.cells.lookup x=some c->∀v,s.heap.IsCell c v->h'.IsCell c v:=λx c e v a5=>by
  obtain ⟨o,ho,hd⟩:=a5;have T:c∉ch:=λz=>(a0 c z).2.2.1 x c e rfl;by_cases hc:c∈X.fs
  .obtain ⟨sl,q⟩:=slot c o (I.cne x c e) hc T ho (I.freeC x c e);show ⟨_,q,hd⟩
  .show ⟨o,keep c o (I.cne x c e) hc T ho (I.freeC x c e),hd⟩
 refine ⟨I.ok,I.os,hg,⟨λb o e n hb O=>?_,λb o e n hb O=>?_,λb o e n O=>?_,λb o e O=>?_,λb xs e=>tups b xs (I.base.tups b xs e),λb o xs e=>frzs b o xs (I.base.frzs b o xs e),λb ps e=>?_⟩,?_,λx c e=>?_,?_,λx c e=>?_,λp hp=>?_,hok,I.len⟩
 .show keep b o (a4 b o e) hb (a3 b o e O) (I.base.keep b o e n hb O) (I.base.free b o e n O)
 .obtain ⟨sl,e1⟩:=I.base.slot b o e n hb O;obtain ⟨a6,e2⟩:=slot b _ (a4 b o e) hb (a3 b o e O) e1 (I.base.free b o e n O);show ⟨a6,e2⟩
 .obtain ⟨o',e1⟩:=I.base.there b o e O;show free b o' (a3 b o e O) e1 (I.base.free b o e n O)
 .obtain ⟨o',e1⟩:=I.base.there b o e O;show there b o' (a3 b o e O) e1
 .show tbls b ps (I.base.tbls b ps e)
 .obtain ⟨m,hn,hl⟩:=I.loc;refine ⟨m,ns m hn,λi x v e1 e2 e3=>?_⟩;obtain ⟨u,r,l⟩:=hl i x v e1 e2 e3;refine ⟨u,r,?_⟩;rcases l with l|⟨k,c,e,z⟩
  .show .inl l
  .show .inr ⟨k,c,e,cellK x c e _ z⟩
 .obtain ⟨v,z⟩:=I.cell x c e;show ⟨v,cellK x c e v z⟩
 .obtain ⟨m,⟨o,_,_,ho,_⟩,_⟩:=I.loc;show free _ o (λz=>(a0 _ z).2.1 rfl) ho I.free
 .obtain ⟨v,o,ho,hd⟩:=I.cell x c e;show free c o (λz=>(a0 c z).2.2.1 x c e rfl) ho (I.freeC x c e)
 .obtain ⟨e,n,ne,nf,d⟩:=I.pin p hp;have T:p.1∉ch:=λz=>(a0 p.1 z).2.2.2 p hp rfl;show ⟨keep p.1 p.2 ne nf T e n,free p.1 p.2 T e n,ne,nf,d⟩
def Inv.un (I:Inv X pins σ H s) (u:Un X.fs [] H H' s.heap h') (hok:HOk X.prog X.w H' h'):Inv X pins σ H' { s with heap:=h',toks:=t' }:=by
 obtain ⟨m,⟨o,es,ep,ho,r⟩,_⟩:=id I.loc;obtain ⟨sl,hL⟩:=u.any ho I.free ZV;show I.step (g':=s.gens) (d':=s.drawn) (ch:=[]) (λ_ z=>nomatch z) (λb o _ T _ e n=>u.keep b o e n T ZV) (λb o _ T _ e n=>u.slot b o e n T ZV) (λb o _ e n=>u.free b o e n ZV) (λb o _ e=>u.there b o e ZV) u.tups u.frzs u.tbls (λm' hm=>by
  obtain ⟨o',a3,a0,O,r'⟩:=hm;rw[ho]at O;cases O;show ⟨_,a3,a0,hL,r'⟩) hok I.bare
def Inv.call (I:Inv X pins σ H s) (u:Un (frs X.stack) ch H H' s.heap h') (hok:HOk X.prog X.w H' h') (hg:AllBare g') (T:∀b∈ch,(b∈X.ex\/X.s₀.heap.objs.size<=b)/\b≠X.env.locals/\(∀x c,X.env.cells.lookup x=some c->c≠b)/\∀p∈X.pn++pins,p.1≠b):
  Inv X pins σ H' { s with heap:=h',gens:=g',drawn:=d',toks:=t' }:=by
 obtain ⟨m,⟨o,es,ep,ho,r⟩,_⟩:=id I.loc;obtain ⟨sl,hL⟩:=u.any ho I.free λz=>(T _ z).2.1 rfl;show I.step (ch:=ch) T (λb o hL hb hc e n=>u.keep b o e n (λz=>(qB5.mp (I.stkSub b z)).elim hL hb) hc) (λb o _ _ hc e n=>u.any e n hc) (λb o hc e n=>u.free b o e n hc) (λb o hc e=>u.there b o e hc) u.tups u.frzs u.tbls (λm' hm=>by
  obtain ⟨o',a3,a0,O,r'⟩:=hm;rw[ho]at O;cases O;show ⟨_,a3,a0,hL,r'⟩) hok hg
def Inv.turned (I:Inv X pins σ H s) (k:∀b o,b≠it->s.heap.get? b=some o->h'.get? b=some o) (hn:H it=none) (T:it≠X.env.locals) (h1:it∈X.ex\/X.s₀.heap.objs.size<=it) (h2:∀x c,X.env.cells.lookup x=some c->c≠it) (h3:∀p∈X.pn++pins,p.1≠it):Inv X pins σ H { s with heap:=h',toks:=t' }:=by
 have O:∀b u,H b=some u->b≠it:=λb u e z=>by rw[z,hn]at e;cases e
 refine I.step (g':=s.gens) (d':=s.drawn) (ch:=[it]) (λb hb=>?_) (λb o _ _ hc e _=>k b o (λz=>hc (by simp [z])) e) (λb o _ _ hc e _=>⟨o.slots,k b o (λz=>hc (by simp [z])) e⟩) (λ_ _ _ _ n=>n)
  (λb o hc e=>⟨o,k b o (λz=>hc (by simp [z])) e⟩) (λ_ _ e=>e) (λ_ _ _ e=>e) (λ_ _ e=>e) (λm hm=>?_) (λb u e=>?_) I.bare
 .have e:b=it:=by simpa using hb
  subst e;show ⟨h1,T,h2,h3⟩
 .obtain ⟨o,es,ep,ho,r⟩:=hm;show ⟨o,es,ep,k _ o (Ne.symm T) ho,r⟩
 .refine (I.hok b u e).stay (λc v hc q=>k c v ?_ q) (λ_ q=>q) λ_ _ q=>q;rcases hc with z|z
  .rw[z];show O b u e
  .show O c _ z
def Inv.tok (I:Inv X pins σ H s)(t:Nat):Inv X pins σ H { s with toks:=t }:=I.un (h':=s.heap) (t':=t) Un.refl I.hok
def Inv.kept (I:Inv X pins σ H s)(k:∀b u,s.heap.get? b=some u->h'.get? b=some u):Inv X pins σ H { s with heap:=h',toks:=t' }:=I.un (Un.kept k) (I.hok.kept k)
def Inv.laid {a:Addr}(I:Inv X pins σ H s) (k:∀b u,s.heap.get? b=some u->h'.get? b=some u) (O:s.heap.objs.size<=a) (T:ObjOk X.prog X.w (upd H a o) h' a o):
  Inv X pins σ (upd H a o) { s with heap:=h',toks:=t' }:=I.un (Un.laid k O (I.hok.fresh O)) (I.hok.laid k O T)
def Inv.write (I:Inv X pins σ H s)(mu:Mut (H x))(he:e=x\/H e=some (.own x))(k:∀b u,b≠e->s.heap.get? b=some u->h'.get? b=some u)(O:∃u,h'.get? e=some u)(T:ObjOk X.prog X.w (upd H x o) h' x o):Inv X pins σ (upd H x o) { s with heap:=h',toks:=t' }:=I.un (Un.write mu he k O) (I.hok.write mu he k O T)
def Inv.weak (I:Inv X pins σ H s) (O:σ'.length=σ.length) (w:∀(i:Nat) v,σ'[i]?=some (some v)->σ[i]?=some (some v)):Inv X pins σ' H s:=
 ⟨I.ok,I.os,I.bare,I.base,let ⟨m,hn,hl'⟩:=I.loc;⟨m,hn,λi x v T e2 e3=>hl' i x v T (w i v e2) e3⟩,I.cell,I.free,I.freeC,I.pin,I.hok,O.trans I.len⟩
def Inv.pins_of (I:Inv X pins σ H s) (h:∀p∈pins',s.heap.get? p.1=some p.2/\H p.1=none/\p.1≠X.env.locals/\p.1∉X.fs/\∀v,p.2.data≠.cell v):Inv X pins' σ H s:=
 ⟨I.ok,I.os,I.bare,I.base,I.loc,I.cell,I.free,I.freeC,λp O=>(qF9.mp O).elim (λz=>I.pin p (qJ3 _ z)) (h p),I.hok,I.len⟩
def mS {N:VJ}(I:N.Nodup){i:Nat}(a:N[i]?=some x) (b:N[j]?=some x):i=j:=by
 obtain ⟨h1,O⟩:=qA9.mp a;obtain ⟨h2,T⟩:=qA9.mp b;show (List.getElem_inj I).mp (O.trans T.symm)
def dH (I:Inv X pins σ H s) (hN:X.N.Nodup) (hi:X.N[i]?=some x) (hx:Loc X.env.scope x) (r:RelV v u) (h:∀s',Inv X pins (σ.set i (some v)) H s'->(∃a,Heap.SameBut a s.heap s'.heap/\(a=X.env.locals\/X.env.cells.lookup x=some a))->Q () s') (hf:X.fn x=true\/X.env.scope.names.lookup x=some .local:=by first|show .inl rfl|show .inr rfl|assumption):wpAny M A (storeName X.env x u) Q E s:=by
 obtain ⟨m,hn,hl⟩:=id I.loc;have a8:(X.env.scope.kind == .class||(X.env.scope.kind == .module&&X.env.locals != X.env.globals))=false:=by rw[I.ok.kind];rfl
 have a3:i<σ.length:=by rw[I.len];show (qA9.mp hi).1
 have cne:=I.cne;have tracked:∀{a:Addr}{h':Heap},(∃o,s.heap.get? a=some o/\H a=none)->Heap.SameBut a s.heap h'->HOk X.prog X.w H h':=λ{a h'} ha O b ob e=>by
  obtain ⟨_,_,a0⟩:=ha;refine (I.hok b ob e).stay (λc w' hc q=>(O.2 c ?_).trans q) (λ_ q=>q) λ_ _ q=>q;rintro rfl;rcases hc with rfl|hc
  .rw[a0]at e;cases e
  .rw[a0]at hc;cases hc
 rcases hx with hk|hk
 .refine wpAny_storeName_local hk hn (λh' ab O=>?_) a8;obtain ⟨oL,_,_,b0,_⟩:=id hn;refine h _ ⟨I.ok,I.os,I.bare,⟨λb o e n hb hx=>?_,λb o e n hb hx=>?_,I.base.free,λb o e hx=>?_,I.base.tups,I.base.frzs,I.base.tbls⟩,⟨_,ab,λj y v' T e2 e3=>?_⟩,λy c e=>?_,I.free,I.freeC,λp hp=>?_,tracked ⟨oL,b0,I.free⟩ O,by simpa using I.len⟩ ⟨_,O,.inl rfl⟩
  .show (O.2 b (qC8 (qB6 (qB2 e) I.ok.above))).trans (I.base.keep b o e n hb hx)
  .obtain ⟨sl,T⟩:=I.base.slot b o e n hb hx;show ⟨sl,(O.2 b (qC8 (qB6 (qB2 e) I.ok.above))).trans T⟩
  .obtain ⟨o',T⟩:=I.base.there b o e hx;show ⟨o',(O.2 b (qC8 (qB6 (qB2 e) I.ok.above))).trans T⟩
  .by_cases hj:j=i
   .subst hj;rw[hi]at T;cases T;rw[qF1 a3]at e2;cases e2;show ⟨u,r,.inl ⟨hk,ZV⟩⟩
   .rw [qB9 (Ne.symm hj)]at e2
    obtain ⟨u',r',q⟩:=hl j y v' T e2 e3;refine ⟨u',r',?_⟩;rcases q with ⟨k,e⟩|⟨k,c,e,z⟩
    .refine .inl ⟨k,?_⟩
     have:y≠x:=λe=>hj (mS hN T (e ▸ hi))
     simp [this,e]
    .show .inr ⟨k,c,e,z.sameBut O (cne y c e)⟩
  .obtain ⟨w',z⟩:=I.cell y c e;show ⟨w',z.sameBut O (cne y c e)⟩
  .obtain ⟨e,n,ne,nf,d⟩:=I.pin p hp;show ⟨(O.2 p.1 ne).trans e,n,ne,nf,d⟩
 .have a4:X.fn x=true:=by
   rcases hf with z|z
   .show z
   .rw[z]at hk;cases hk
  obtain ⟨c,hc⟩:=I.ok.has x (.inl hk);obtain ⟨w',z⟩:=I.cell x c hc;refine wpAny_storeName_cell I.ok.kind hk hc z (λh' a6 O=>?_);obtain ⟨oc,a5,a7⟩:=id z;refine h { s with heap:=h' } ⟨I.ok,I.os,I.bare,⟨λb o e n hb hx=>?_,λb o e n hb hx=>?_,I.base.free,λb o e hx=>?_,I.base.tups,I.base.frzs,I.base.tbls⟩,⟨m,hn.sameBut O (Ne.symm (cne x c hc)),λj y v' T e2 e3=>?_⟩,λy c' e=>?_,I.free,I.freeC,λp hp=>?_,tracked ⟨oc,a5,I.freeC x c hc⟩ O,by simpa using I.len⟩ ⟨c,O,.inr hc⟩
  .show (O.2 b (qC8 (qB6 (qB2 e) (I.ok.cab x c a4 hc)))).trans (I.base.keep b o e n hb hx)
  .obtain ⟨sl,T⟩:=I.base.slot b o e n hb hx;show ⟨sl,(O.2 b (qC8 (qB6 (qB2 e) (I.ok.cab x c a4 hc)))).trans T⟩
  .obtain ⟨o',T⟩:=I.base.there b o e hx;show ⟨o',(O.2 b (qC8 (qB6 (qB2 e) (I.ok.cab x c a4 hc)))).trans T⟩
  .by_cases hj:j=i
   .subst hj;rw[hi]at T;cases T;rw[qF1 a3]at e2;cases e2;show ⟨u,r,.inr ⟨.inl hk,c,hc,a6⟩⟩
   .rw [qB9 (Ne.symm hj)]at e2
    obtain ⟨u',r',q⟩:=hl j y v' T e2 e3;refine ⟨u',r',?_⟩;rcases q with q|⟨k,c',e,z'⟩
    .show .inl q
    .refine .inr ⟨k,c',e,z'.sameBut O ?_⟩;rintro rfl;show hj (mS hN T (I.ok.inj _ _ _ e hc ▸ hi))
  .by_cases a9:c'=c
   .subst a9;show ⟨_,a6⟩
   .obtain ⟨w2,z2⟩:=I.cell y c' e;show ⟨w2,z2.sameBut O a9⟩
  .obtain ⟨e,n,ne,nf,d⟩:=I.pin p hp;refine ⟨(O.2 p.1 ?_).trans e,n,ne,nf,d⟩;intro q;rw[q,a5]at e;have q':oc=p.2:=Option.some.inj e;show d w' (by rw[<- q'];show a7)
def gm (I:Inv X pins σ H s) (T:X.N.Nodup) (hi:X.N[i]?=some x) (hx:Loc X.env.scope x) (r:RelV v u) (h:∀s',Inv X pins (σ.set i (some v)) H s'->Q () s') (hf:X.fn x=true\/X.env.scope.names.lookup x=some .local:=by first|show .inl rfl|show .inr rfl|assumption):wpAny M A (storeName X.env x u) Q E s:=
 dH I T hi hx r (λs' O _=>h s' O) hf
def Inv.call' (I:Inv X pins σ H s) (ho:s'.os=s.os) (u:Un (frs X.stack) ch H H' s.heap s'.heap) (hok:HOk X.prog X.w H' s'.heap) (T:AllBare s'.gens) (O:∀b∈ch,(b∈X.ex\/X.s₀.heap.objs.size<=b)/\b≠X.env.locals/\(∀x c,X.env.cells.lookup x=some c->c≠b)/\∀p∈X.pn++pins,p.1≠b):Inv X pins σ H' s':=by
 obtain ⟨h',g',d',t',o'⟩:=s';have e:o'=s.os:=ho;subst e;show I.call (g':=g') (t':=t') (d':=d') u hok T O
abbrev XK:=Value->Option Addr->Hp->Prop
abbrev St:=List (Option V)
abbrev VK:=V->Hp->Prop
abbrev TE:=St->Hp->VK->Prop
abbrev TT:=St->Hp->(Bool->Hp->Prop)->Prop
abbrev TA:=St->Hp->(List V->Hp->Prop)->Prop
structure Ends where
 nx:St->Hp->Prop
 rt:VK
 bk:St->Hp->Prop:=λ_ _=>False
 ct:St->Hp->Prop:=λ_ _=>False
abbrev TS:=Ends->St->Hp->Prop
def EP (X:Cx)(pins:Vz)(σ:St)(Q:VK)(u:Value)(s':Shared):Prop:=∃v H',Inv X pins σ H' s'/\RelV v u/\Q v H'
def TP (X:Cx)(pins:Vz)(σ:St)(Q:Bool->Hp->Prop)(b:Bool)(s':Shared):Prop:=∃H',Inv X pins σ H' s'/\Q b H'
def AP (X:Cx)(pins:Vz)(σ:St)(Q:List V->Hp->Prop)(us:VZ)(s':Shared):Prop:=∃vs H',Inv X pins σ H' s'/\Vals vs us/\Q vs H'
def SP (X:Cx) (pins:Vz) (D:Ends) (f:Flow) (s':Shared):Prop:=
 match f with
 | .next=>∃I H',Inv X pins I H' s'/\D.nx I H'
 | .brk=>∃I H',Inv X pins I H' s'/\D.bk I H'
 | .cont=>∃I H',Inv X pins I H' s'/\D.ct I H'
 | .ret u=>∃v I H',Inv X pins I H' s'/\RelV v u/\D.rt v H'
def PE (X:Cx) (e:Expr) (t:TE):Prop:=
 ∀(pins:Vz) (s:Shared) (σ:St) (H:Hp) (Q:VK),Inv X pins σ H s->t σ H Q->wpAny (model X.prog X.w) X.A (eval e X.env) (EP X pins σ Q) X.xe s
def PT (X:Cx) (e:Expr) (t:TT):Prop:=
 ∀(pins:Vz) (s:Shared) (σ:St) (H:Hp) (Q:Bool->Hp->Prop),Inv X pins σ H s->t σ H Q->wpAny (model X.prog X.w) X.A (isTrue e X.env (eval e X.env)) (TP X pins σ Q) X.xe s
def PW (X:Cx) (e:Expr) (t:TT):Prop:=
 ∀(whole:Sem Value) (pins:Vz) (s:Shared) (σ:St) (H:Hp) (Q:Bool->Hp->Prop),Inv X pins σ H s->t σ H Q->wpAny (model X.prog X.w) X.A (isTrue e X.env whole) (TP X pins σ Q) X.xe s
def PW.pt (h:PW X e t):PT X e t:=h _
def PA (X:Cx) (es:VV) (t:TA):Prop:=
 ∀(pos:Pos) (pins:Vz) (s:Shared) (σ:St) (H:Hp) (Q:List V->Hp->Prop),Inv X pins σ H s->t σ H Q->wpAny (model X.prog X.w) X.A (spliced (backTo pos (starEach es X.env))) (AP X pins σ Q) X.xe s
def PS (X:Cx) (st:Stmt) (t:TS):Prop:=
 ∀(pins:Vz) (s:Shared) (σ:St) (H:Hp) (D:Ends),Inv X pins σ H s->t D σ H->wpAny (model X.prog X.w) X.A (exec st X.env) (SP X pins D) X.xe s
def PSs (X:Cx) (st:List Stmt) (t:TS):Prop:=
 ∀(pins:Vz) (s:Shared) (σ:St) (H:Hp) (D:Ends),Inv X pins σ H s->t D σ H->wpAny (model X.prog X.w) X.A (execs st X.env) (SP X pins D) X.xe s
def thn {t:Sem α}(h:wpAny M A t Q E s)(I:∀a s,Q a s->Q' a s):wpAny M A t Q' E s:=qP8 h I λ_ _ x=>x
def ah (i:Nat):TE:=λσ H Q=>∃v,σ[i]?=some (some v)/\Q v H
def tC (v:V):TE:=λ_ H Q=>Q v H
def ay {X:Cx}{i:Nat}{x:Str}{pos:Pos}(hN:X.N[i]?=some x) (hv:Vis X.env.scope x) (hd:(x == ("__debug__" : Str))=false:=by decide) (O:(x == ("__classdict__" : Str))=false:=by decide):PE X (.Name x pos) (ah i):=by
 intro pins s σ H Q I h;obtain ⟨v,e,h⟩:=h;obtain ⟨m,hn,T⟩:=I.loc;obtain ⟨u,r,l⟩:=T i x v hN e hv;have fin:EP X pins σ Q u s:=⟨v,H,I,r,h⟩;rcases l with ⟨hk,hm⟩|⟨hk,c,hc,hcell⟩
 .show qW5 (qT7 I.ok.kind hk hn hm fin) hd
 .rcases hk with hk|hk
  .show qW5 (wpAny_loadName_cell I.ok.kind hk hc hcell fin) hd
  .show qW5 (wpAny_loadName_free I.ok.kind hk hc hcell fin O) hd
def pe_int {i j pos}:PE X (.Constant (.int i) j pos) (tC (.int i)):=λ_ _ _ H _ I h=>wpAny_Constant_int ⟨.int i,H,I.tok _,⟨_,rfl⟩,h⟩
def pe_bl {b j pos}:PE X (.Constant (.bool b) j pos) (tC (.bl b)):=λ_ _ _ H _ I h=>Constant_bool ⟨.bl b,H,I,rfl,h⟩
def pe_non {j pos}:PE X (.Constant .none j pos) (tC .non):=λ_ _ _ H _ I h=>Constant_none ⟨.non,H,I,rfl,h⟩
def pe_str {x j pos}:PE X (.Constant (.str x) j pos) (tC (.str x)):=λ_ _ _ H _ I h=>Calls.Constant_str ⟨.str x,H,I.tok _,⟨_,rfl⟩,h⟩
def Gl (X:Cx)(x:Str):Prop:=X.env.kindOf x=some .globalImplicit
def pL {X:Cx}{E:VX}{pins:Vz}{s:Shared}{σ:St}{H:Hp}{x:Str}{u:Value}{pos:Pos}{Q:VX}(I:Inv X pins σ H s) (O:Gl X x) (hm:X.mg x=some u) (h:Q u s) (hd:(x == ("__debug__" : Str))=false:=by decide):wpAny (model X.prog X.w) X.A (eval (.Name x pos) X.env) Q E s:=
 Calls.Name_function_global I.ok.kind O (Calls.loadGlobal_global (by rw[I.ok.glob];show I.mod.glob.keeps I.bk) hm h) hd
def M5 {X:Cx}{E:VX}{pins:Vz}{s:Shared}{σ:St}{H:Hp}{x:Str}{u:Value}{pos:Pos}{Q:VX}(I:Inv X pins σ H s) (hg:Gl X x) (hm:X.mg x=none) (O:bootBuiltins x=some u) (h:Q u s) (hn:x ≠ "__name__" := by decide) (hd:(x == ("__debug__" : Str))=false:=by decide):wpAny (model X.prog X.w) X.A (eval (.Name x pos) X.env) Q E s:=by
 obtain ⟨mb,T,h2⟩:=I.mod.blt;show Calls.Name_function_global I.ok.kind hg (Calls.loadGlobal_builtin (by rw[I.ok.glob];show I.mod.glob.keeps I.bk) hm (by rw[I.ok.blt];show T.keeps I.bk) ((h2 x hn).trans O) h) hd
def Be {X:Cx}{x:Str}{v:V}{u:Value}{pos:Pos}(O:Gl X x) (hm:X.mg x=none) (T:bootBuiltins x=some u) (r:RelV v u) (hn:x ≠ "__name__" := by decide) (hd:(x == ("__debug__" : Str))=false:=by decide):PE X (.Name x pos) (tC v):=
 λ_ _ _ H _ I h=>M5 I O hm T ⟨v,H,I,r,h⟩ hn hd
def tB (t:TE):TT:=λσ H Q=>t σ H λx H1=>∃c,x=.bl c/\Q c H1
def Ff (h:PE X e t) (he:∀whole,isTrue e X.env whole=(do let v <- whole;standAt e.pos;holding [v] (truthy v)):=by intro _;rfl):PT X e (tB t):=by
 intro pins s σ H Q I hw;refine isTrue_plain (thn (h pins s σ H _ I hw) λv s1 O=>?_) (he _);obtain ⟨x,H1,I1,r1,T⟩:=O;obtain ⟨d,rfl,q⟩:=T;cases r1;show qQ5 ⟨H1,I1,q⟩
def DK (t u:TT):TT:=λσ H Q=>t σ H λc H1=>if c=true then u σ H1 Q else Q false H1
def tOr (t u:TT):TT:=λσ H Q=>t σ H λc H1=>if c=true then Q true H1 else u σ H1 Q
def DE (t:TT):TT:=λσ H Q=>t σ H λc H1=>Q (!c) H1
def AS (ha:PT X a tA):PW X (.BoolOp .And [a] pos) tA:=by
 intro O pins s σ H Q I h;refine isTrue_and (thn (ha pins s σ H Q I h) λc s1 e=>?_);cases c with
 |true=>show isTrue_and_nil e
 |false=>show e
def Fd (ha:PT X a tA):PW X (.BoolOp .Or [a] pos) tA:=by
 intro O pins s σ H Q I h;refine isTrue_or (thn (ha pins s σ H Q I h) λc s1 e=>?_);cases c with
 |false=>show isTrue_or_nil e
 |true=>show e
def Fe {rest:VV}(ha:PT X a tA) (hb:PW X (.BoolOp .And (b::rest) pos) tB'):PW X (.BoolOp .And (a::b::rest) pos) (DK tA tB'):=by
 intro wh pins s σ H Q I h;refine isTrue_and (thn (ha pins s σ H _ I h) λc s1 O=>?_);obtain ⟨H1,I1,T⟩:=O;cases c with
 |true=>show hb wh pins s1 σ H1 Q I1 T
 |false=>show ⟨H1,I1,T⟩
def IL {rest:VV}(ha:PT X a tA) (hb:PW X (.BoolOp .Or (b::rest) pos) tB'):PW X (.BoolOp .Or (a::b::rest) pos) (tOr tA tB'):=by
 intro wh pins s σ H Q I h;refine isTrue_or (thn (ha pins s σ H _ I h) λc s1 O=>?_);obtain ⟨H1,I1,T⟩:=O;cases c with
 |true=>show ⟨H1,I1,T⟩
 |false=>show hb wh pins s1 σ H1 Q I1 T
def Fg (ha:PT X a tA):PT X (.UnaryOp .Not a pos) (DE tA):=by
 intro pins s σ H Q I h;show isTrue_not (ha pins s σ H (λc H1=>Q (!c) H1) I h)
def zj (ta I:TE):TE:=λσ H Q=>ta σ H λx H1=>∃c,x=.bl c/\if c=true then I σ H1 Q else Q (.bl false) H1
def Fs {op}(h:PE X a t):PE X (.BoolOp op [a] pos) t:=λpins s σ H Q I hw=>BoolOp_one (h pins s σ H Q I hw)
def Fv {rest:VV}(ha:PE X a ta) (hb:PE X (.BoolOp .And (b::rest) pos) tb):PE X (.BoolOp .And (a::b::rest) pos) (zj ta tb):=by
 intro pins s σ H Q I h;refine BoolOp_and (thn (ha pins s σ H _ I h) λv s1 T=>?_);obtain ⟨x,H1,I1,r1,O⟩:=T;obtain ⟨c,rfl,O⟩:=O;cases r1;refine qQ5 ?_;cases c with
 |true=>show hb pins s1 σ H1 Q I1 O
 |false=>show ⟨.bl false,H1,I1,rfl,O⟩
def tIf (t:TT)(ta I:TE):TE:=λσ H Q=>t σ H λc H1=>if c=true then ta σ H1 Q else I σ H1 Q
def xy (hc:PT X c tA) (ha:PE X a ta) (hb:PE X b tb):PE X (.IfExp c a b pos) (tIf tA ta tb):=by
 intro pins s σ H Q I h;refine wpAny_IfExp (thn (hc pins s σ H _ I h) λd s1 O=>?_);obtain ⟨H1,T,q1⟩:=O;cases d with
 |true=>show ha pins s1 σ H1 Q T q1
 |false=>show hb pins s1 σ H1 Q T q1
def SqL (K:Frag) (H:Hp) (a:Addr) (xs:List V):Prop:=
 Rd H a (.lst xs) \/
  ∃(o:Obj) (its:VW) (n:Nat),K.lookup a=some o/\o.cls=.type "list" /\ o.dict=none/\o.data=.seq its n/\its.size<=sizeLine/\Vals xs its.toList
def SqT (K:Frag) (H:Hp) (a:Addr) (xs:List V):Prop:=
 Rd H a (.tup xs) \/
  ∃(o:Obj) (its:VW) (n:Nat),K.lookup a=some o/\o.cls=.type "tuple" /\ o.data=.seq its n/\its.size<=sizeLine/\Vals xs its.toList
def absV:Value->Option V
 | .none=>some .non
 | .bool b=>some (.bl b)
 | .int i _=>some (.int i)
 | .str x _=>some (.str x)
 | .bytes b _=>some (.byt b)
 | .float b _=>some (.flt b)
 | .ref a=>some (.ref a)
 | .type n=>some (.ty n)
 |_=>none
def RelV.abs (r:RelV x u):absV u=some x:=by
 cases x with
 |non=>cases r;rfl
 |bl _=>cases r;rfl
 |int _=>obtain ⟨t,rfl⟩:=r;rfl
 |str _=>obtain ⟨t,rfl⟩:=r;rfl
 |byt _=>obtain ⟨t,rfl⟩:=r;rfl
 |flt _=>obtain ⟨t,rfl⟩:=r;rfl
 |ref _=>cases r;rfl
 |ty _=>cases r;rfl
def RelV.inj (r:RelV x u)(q:RelV y u):x=y:=Option.some.inj (r.abs.symm.trans q.abs)
def Vals.inj:∀{xs ys:List V}{us:VZ},Vals xs us->Vals ys us->xs=ys:=by
 intro xs ys us a
 induction a generalizing ys with
 |nil=>intro b;cases b;rfl
 | cons r t O=>
  intro b;cases b with
  |cons I t'=>rw[r.inj I,O t']
def SqL.of {K:Frag}(h:H a=some (.lst xs)):SqL K H a xs:=.inl (.inl h)
def SqT.of {K:Frag}(h:H a=some (.tup xs)):SqT K H a xs:=.inl (.inl h)
def Inv.list {σ:St}(I:Inv X pins σ H s) (h:SqL X.K H a xs):∃its:List Value,Vals xs its/\PlainL s.heap a its.toArray/\xs.length<=sizeLine:=by
 rcases h with h|⟨o,its,n,hk,hc,hd,hs,hz,r⟩
 .obtain ⟨z,its,n,r,e⟩:=h.ok I.hok;show ⟨its,r,⟨_,n,e,rfl,rfl,rfl⟩,z⟩
 .refine ⟨its.toList,r,⟨o,n,I.kIn a o hk,hc,hd,by simpa using hs⟩,?_⟩;have e:=r.length;simp only [qM7]at e;omega
def Inv.tuple {σ:St}(I:Inv X pins σ H s) (h:SqT X.K H a xs):∃its:List Value,Vals xs its/\IsTup s.heap a its.toArray/\xs.length<=sizeLine:=by
 rcases h with h|⟨o,its,n,hk,hc,hs,hz,r⟩
 .obtain ⟨z,its,r,p⟩:=h.ok I.hok;show ⟨its,r,p,z⟩
 .refine ⟨its.toList,r,⟨o,I.kIn a o hk,hc,n,by simpa using hs⟩,?_⟩;have e:=r.length;simp only [qM7]at e;omega
def Inv.list_inj {σ:St}(I:Inv X pins σ H s) (h:SqL X.K H a xs) (h':SqL X.K H a ys):xs=ys:=by
 obtain ⟨its,r,⟨o,n,e,_,_,d⟩,_⟩:=I.list h;obtain ⟨its',T,⟨o',n',O,_,_,d'⟩,_⟩:=I.list h';rw[e]at O;cases O;rw[d]at d';injection d' with d1 _
 have:its=its':=by simpa using congrArg Array.toList d1
 subst this;show r.inj T
def Inv.tuple_inj {σ:St}(I:Inv X pins σ H s) (h:SqT X.K H a xs) (h':SqT X.K H a ys):xs=ys:=by
 obtain ⟨its,r,⟨o,e,_,n,d⟩,_⟩:=I.tuple h;obtain ⟨its',T,⟨o',O,_,n',d'⟩,_⟩:=I.tuple h';rw[e]at O;cases O;rw[d]at d';injection d' with d1 _
 have:its=its':=by simpa using congrArg Array.toList d1
 subst this;show r.inj T
abbrev Cx.wish (X:Cx)(E:VX):Cx:={ X with xe:=E }
abbrev Cx.nox (X:Cx):Cx:=X.wish λ_ _=>False
def Cx.Ok.wish {X:Cx}(ok:X.Ok) (E:VX):(X.wish E).Ok:=
 ⟨ok.mod,ok.kind,ok.glob,ok.blt,ok.above,ok.inj,ok.has,ok.cab,ok.hd,ok.frames,ok.stk,ok.exf,ok.bs,ok.bsz,ok.noex,ok.exfs,ok.funs,ok.frf,ok.tab⟩
def Cx.Ok.unwish {X:Cx}(ok:(X.wish E).Ok):X.Ok:=
 ⟨ok.mod,ok.kind,ok.glob,ok.blt,ok.above,ok.inj,ok.has,ok.cab,ok.hd,ok.frames,ok.stk,ok.exf,ok.bs,ok.bsz,ok.noex,ok.exfs,ok.funs,ok.frf,ok.tab⟩
def Inv.wish {σ:St}(I:Inv X pins σ H s)(E:VX):Inv (X.wish E) pins σ H s:=⟨I.ok.wish E,I.os,I.bare,I.base,I.loc,I.cell,I.free,I.freeC,I.pin,I.hok,I.len⟩
def Inv.unwish {σ:St}(I:Inv (X.wish E) pins σ H s):Inv X pins σ H s:=⟨I.ok.unwish,I.os,I.bare,I.base,I.loc,I.cell,I.free,I.freeC,I.pin,I.hok,I.len⟩
def SP.unwish (h:SP (X.wish E) pins D f s'):SP X pins D f s':=by
 cases f with
 |next=>obtain ⟨O,H',I,q⟩:=h;show ⟨O,H',I.unwish,q⟩
 |brk=>obtain ⟨O,H',I,q⟩:=h;show ⟨O,H',I.unwish,q⟩
 |cont=>obtain ⟨O,H',I,q⟩:=h;show ⟨O,H',I.unwish,q⟩
 |ret u=>obtain ⟨v,O,H',I,r,q⟩:=h;show ⟨v,O,H',I.unwish,r,q⟩
def PSs.nox {st:List Stmt}(h:PSs X.nox st t):PSs X st t:=λpins s σ H D I hw=>
 qP8 (h pins s σ H D (I.wish _) hw) (λ_ _ q=>q.unwish) λ_ _ z=>False.elim z
def tNext:TS:=λD σ H=>D.nx σ H
def wD (t u:TS):TS:=λD σ H=>t { D with nx:=u D } σ H
def pss_nil:PSs X [] tNext:=λ_ _ σ H _ I h=>qT8 ⟨σ,H,I,h⟩
def mz {st:Stmt}{rest:List Stmt}(h1:PS X st t) (h2:PSs X rest u):PSs X (st::rest) (wD t u):=by
 intro pins s σ H D I h;refine wpAny_execs_cons (thn (h1 pins s σ H { D with nx:=u D } I h) λf s1 q=>?_);cases f with
 | next=>
  obtain ⟨O,H',T,q⟩:=q;show h2 pins s1 O H' D T q
 |ret v=>show q
 |brk=>show q
 |cont=>show q
def oZ {st:Stmt}(O:PS X st t):PSs X [st] t:=by
 intro pins s σ H D I h;refine wpAny_execs_cons (thn (O pins s σ H D I h) λf s1 q=>?_);cases f with
 |next=>show qT8 q
 |ret v=>show q
 |brk=>show q
 |cont=>show q
def Inv.quiet {σ:St}(I:Inv X pins σ H s):interactive X.env=false:=by simp [interactive,I.ok.kind]
def gY (I:TE):TS:=λD σ H=>I σ H λ_ H1=>D.nx σ H1
def fA (he:PE X e te) (T:swapsWith e none pos.line X.env=pure false:=by rfl):PS X (.Expr e pos) (gY te):=by
 intro pins s σ H D I h;show wpAny_Expr_any (thn (he pins s σ H _ I h) λv s1 O=>by obtain ⟨x,H1,I1,r1,q1⟩:=O;show ⟨σ,H1,I1,q1⟩) I.quiet T
def qy (I:TE):TS:=λD σ H=>I σ H D.rt
def uf (he:PE X e te):PS X (.Return (some e) pos) (qy te):=by
 intro pins s σ H D I h;show wpAny_Return_some (thn (he pins s σ H _ I h) λv s1 O=>by obtain ⟨x,H1,T,r1,q1⟩:=O;show ⟨x,σ,H1,T,r1,q1⟩)
def tRetN:TS:=λD _ H=>D.rt .non H
def ps_retN:PS X (.Return none pos) tRetN:=λ_ _ σ H _ I h=>wpAny_Return_none ⟨.non,σ,H,I,rfl,h⟩
def wE (c:TT)(t u:TS):TS:=λD σ H=>c σ H λb H1=>if b=true then t D σ H1 else u D σ H1
def zx (hc:PT X c tc) (ha:PSs X a t) (hb:PSs X b u):PS X (.If c a b pos) (wE tc t u):=by
 intro pins s σ H D I h;refine wpAny_If (thn (hc pins s σ H _ I h) λd s1 O=>?_);obtain ⟨H1,T,q1⟩:=O;cases d with
 |true=>show ha pins s1 σ H1 D T q1
 |false=>show hb pins s1 σ H1 D T q1
def tNever:TS:=λ_ _ _=>False
def ps_never {st:Stmt}:PS X st tNever:=λ_ _ _ _ _ _ h=>h.elim
abbrev TG:=V->St->Hp->(St->Hp->Prop)->Prop
abbrev TGs:=List V->St->Hp->(St->Hp->Prop)->Prop
def PG (X:Cx) (target:Expr) (t:TG):Prop:=
 ∀ (pins:Vz) (s:Shared) (σ:St) (H:Hp) (v:V) (u:Value) (Q:St->Hp->Prop),Inv X pins σ H s->RelV v u->t v σ H Q ->
  wpAny (model X.prog X.w) X.A (assign target X.env u) (λ_ s'=>∃I H',Inv X pins I H' s'/\Q I H') X.xe s
def PGs (X:Cx) (O:VV) (t:TGs):Prop:=
 ∀ (pins:Vz) (s:Shared) (σ:St) (H:Hp) (vs:List V) (us:VZ) (Q:St->Hp->Prop),Inv X pins σ H s->Vals vs us->t vs σ H Q ->
  wpAny (model X.prog X.w) X.A (assignInOrder ((assignEach O X.env).map (·.2)) us) (λ_ s'=>∃I H',Inv X pins I H' s'/\Q I H') X.xe s
abbrev TSet:=V->V->V->Hp->(Hp->Prop)->Prop
def Iu (X:Cx) (t:TSet):Prop:=
 ∀ (pins:Vz) (s:Shared) (σ:St) (H:Hp) (o i v:V) (I O u:Value) (Q:Hp->Prop),Inv X pins σ H s->RelV o I->RelV i O->RelV v u->t o i v H Q ->
  wpAny (model X.prog X.w) X.A (setItem I O u) (λ_ s'=>∃H',Inv X pins σ H' s'/\Q H') X.xe s
abbrev TIp:=V->V->Hp->VK->Prop
def PIp (X:Cx) (op:Operator) (t:TIp):Prop:=
 ∀ (pins:Vz) (s:Shared) (σ:St) (H:Hp) (x y:V) (v u:Value) (Q:VK),Inv X pins σ H s->RelV x v->RelV y u->t x y H Q ->
  wpAny (model X.prog X.w) X.A (inplaceOp op v u) (EP X pins σ Q) X.xe s
def P8 (i:Nat):TG:=λv σ H Q=>Q (σ.set i (some v)) H
def e8 {X:Cx}{pos:Pos}{i:Nat}{x:Str}(hN:X.N.Nodup) (hi:X.N[i]?=some x) (O:Loc X.env.scope x) (T:X.fn x=true\/X.env.scope.names.lookup x=some .local:=by first|show .inl rfl|show .inr rfl|assumption):PG X (.Name x pos) (P8 i):=by
 intro pins s σ H v u Q I r h;show qW1 (gm I hN hi O r (λs' I'=>⟨_,H,I',h⟩) T)
def gNil:TGs:=λvs σ H Q=>vs = []/\Q σ H
def rE (t:TG)(u:TGs):TGs:=λvs σ H Q=>∃v r,vs=v::r/\t v σ H λI H'=>u r I H' Q
def B3:PGs X [] gNil:=by
 intro pins s σ H vs us Q I r h;obtain ⟨e,h⟩:=h;subst e;cases r;show assignInOrder_nil ⟨σ,H,I,h⟩
def k7 (h1:PG X e t) (h2:PGs X es u) (hs:(assignEach (e::es) X.env).map (·.2)=assign e X.env::(assignEach es X.env).map (·.2):=by rfl):PGs X (e::es) (rE t u):=by
 intro pins s σ H vs us Q I r h;obtain ⟨v,vr,e1,h⟩:=h;subst e1;cases r with
 | cons r rr=>
  rw[hs];refine assignInOrder_cons (thn (h1 pins s σ H _ _ _ I r h) λ_ s1 O=>?_);obtain ⟨T,H1,I1,q1⟩:=O;show h2 pins s1 T H1 _ _ Q I1 rr q1
def rC (K:Frag)(n:Nat)(t:TGs):TG:=λv σ H Q=>∃a xs,v=.ref a/\SqT K H a xs/\xs.length=n/\t xs σ H Q
def Fq {X:Cx}{pos:Pos}{es:VV}{k:Nat}{t:TGs}{n:Nat}(hc:X.calm=true) (h:PGs X es t) (hn:(assignEach es X.env).length=n:=by rfl) (O:(assignEach es X.env).findIdx? (·.1)=none:=by rfl):PG X (.Tuple es k pos) (rC X.K n t):=by
 intro pins s σ H v u Q I r hw;obtain ⟨a,xs,e1,hq,T,hw⟩:=hw;subst e1;cases r;obtain ⟨its,rv,ht,hz⟩:=I.tuple hq;refine assign_Tuple_tuple (I.ok.hd hc) ht (by simp [hn,<- T,rv.length]) O λh' hx=>?_;have I1:Inv X pins σ H { s with heap:=h' }:=I.kept (t':=s.toks) λb o e=>hx b o (qC8 (qB2 e)) e;show h pins _ σ H xs _ Q I1 (by simpa using rv) hw
def gSub (O ti:TE)(t:TSet):TG:=λv σ H Q=>O σ H λo H1=>ti σ H1 λi H2=>t o i v H2 λI=>Q σ I
def dS {X:Cx}{pos:Pos}{o i:Expr}{to ti:TE}{t:TSet}(ho:PE X o to) (hi:PE X i ti) (hs:Iu X t) (ha:∀v,assign (.Subscript o i pos) X.env v=(do
   let O <- holding [v] (eval o X.env)
   let T <- holding [v,O] (eval i X.env)
   standAt pos
   holding [v,O,T] (setItem O T v)
   release [v,O,T] []):=by intro _;rfl):PG X (.Subscript o i pos) (gSub to ti t):=by
 intro pins s σ H v u Q I r h;rw[ha];refine qA1 (qP4 (thn (ho pins s σ H _ I h) λO s1 a4=>?_));obtain ⟨x,H1,I1,r1,q1⟩:=a4;refine qA1 (qP4 (thn (hi pins s1 σ H1 _ I1 q1) λT s2 a0=>?_));obtain ⟨y,H2,I2,r2,q2⟩:=a0;refine qA1 (qQ4 (qA1 (qP4 (thn (hs pins s2 σ H2 x y v O T u _ I2 r1 r2 r q2) λ_ s3 a3=>?_))));obtain ⟨H3,I3,q3⟩:=a3;show wpAny_release ⟨σ,H3,I3,q3⟩
def cD (I:TE)(g:TG):TS:=λD σ H=>I σ H λx H1=>g x σ H1 D.nx
def ug {X:Cx}{pos:Pos}{tg e:Expr}{T:TE}{g:TG}(he:PE X e T) (hg:PG X tg g) (hs:swapsWithSole [tg] e pos.line X.env=pure false:=by rfl) (hw:swappedStores [tg] e X.env=pure none:=by rfl) (h1:(assignEach [tg] X.env).map (·.2) = [assign tg X.env]:=by rfl):PS X (.Assign [tg] e pos) (cD T g):=by
 intro pins s σ H D I h;refine wpAny_Assign_stores (thn (he pins s σ H _ I h) λv s1 O=>?_) hs hw;obtain ⟨x,H1,I1,r1,q1⟩:=O;rw[h1];show thn (hg pins s1 σ H1 x v _ I1 r1 q1) λ_ s2 q=>q
def mB {X:Cx}{pos:Pos}{i:Nat}{x:Str}{e:Expr}{T:TE}{pos':Pos}(hN:X.N.Nodup) (hi:X.N[i]?=some x) (hx:Loc X.env.scope x) (he:PE X e T) (hs:swapsWith e (some (.Name x pos')) pos.line X.env=pure false:=by rfl) (hf:X.fn x=true\/X.env.scope.names.lookup x=some .local:=by first|show .inl rfl|show .inr rfl|assumption):
  PS X (.Assign [.Name x pos'] e pos) (cD T (P8 i)):=by
 intro pins s σ H D I h;refine wpAny_Assign_Name (thn (he pins s σ H _ I h) λv s1 O=>?_) hs;obtain ⟨y,H1,I1,r1,q1⟩:=O;show gm I1 hN hi hx r1 (λs2 I2=>⟨_,H1,I2,q1⟩) hf
def DJ (i:Nat)(I:TE)(ti:TIp):TS:=λD σ H=>∃x,σ[i]?=some (some x)/\I σ H λy H1=>ti x y H1 λz H2=>D.nx (σ.set i (some z)) H2
def Fi (hN:X.N.Nodup) (hi:X.N[i]?=some x) (hx:Loc X.env.scope x) (he:PE X e te) (ho:PIp X op ti) (hf:X.fn x=true\/X.env.scope.names.lookup x=some .local:=by first|show .inl rfl|show .inr rfl|assumption):
  PS X (.AugAssign (.Name x pos') op e pos) (DJ i te ti):=by
 intro pins s σ H D I h;obtain ⟨v,e1,h⟩:=h;obtain ⟨m,hn,hl⟩:=I.loc;have a4:Vis X.env.scope x:=by rcases hx with k|k;show .inl k;show .inr (.inl k)
 obtain ⟨u,r,l⟩:=hl i x v hi e1 a4;refine wpAny_AugAssign_Name ?_;have go:wpAny (model X.prog X.w) X.A (eval e X.env) (λw a3=>wpAny (model X.prog X.w) X.A (inplaceOp op u w) (λr O=>wpAny (model X.prog X.w) X.A (storeName X.env x r) (λ_=>SP X pins D .next) X.xe O) X.xe a3) X.xe s:=by
  refine thn (he pins s σ H _ I h) λw s1 a0=>?_;obtain ⟨y,H1,I1,r1,q1⟩:=a0;refine thn (ho pins s1 σ H1 v y u w _ I1 r r1 q1) λz s2 T=>?_;obtain ⟨zv,H2,I2,r2,q2⟩:=T;show gm I2 hN hi hx r2 (λs3 I3=>⟨_,H2,I3,q2⟩) hf
 rcases l with ⟨hk,hm⟩|⟨hk,c,hc,hcell⟩
 .show qT7 I.ok.kind hk hn hm go
 .rcases hk with hk|hk
  .show wpAny_loadName_cell I.ok.kind hk hc hcell go
  .rcases hx with k|k
   .have:X.env.scope.names.lookup x=some .free:=hk
    rw[k]at this;cases this
   .have:X.env.scope.names.lookup x=some .free:=hk
    rw[k]at this;cases this
def ipI (f:Int->Int->Int):TIp:=λx y H Q=>∃i j,x=.int i/\y=.int j/\Q (.int (f i j)) H
def GA:PIp X .Add (ipI λi j=>i+j):=by
 intro pins s σ H x y v u Q I r1 r2 h;obtain ⟨i,j,O,T,q⟩:=h;subst O;subst T;obtain ⟨t,rfl⟩:=r1;obtain ⟨t',rfl⟩:=r2;show iadd_int ⟨.int _,H,I.tok _,⟨_,rfl⟩,q⟩
def sY (c:TT) (T:TS):TS:=λD σ H=>∃W:Nat->St->Hp->Prop,(∃m,W m σ H)/\∀m σ H,W m σ H ->
 c σ H λb H1=>if b=true then ∃N:St->Hp->Prop,(∀I H',N I H'->∃O,O<m/\W O I H')/\T { D with nx:=N,ct:=N,bk:=D.nx } σ H1 else D.nx σ H1
def xr (hp:PassesOwn (model X.prog X.w) X.A X.env X.xe) (hc:PT X c tc) (hb:PSs X body tb):PS X (.While c body [] pos) (sY tc tb):=by
 intro pins s σ H D I h;obtain ⟨W,⟨m0,w0⟩,turn⟩:=h;refine wpAny_While (codeAny_whileLoop (λn s'=>∃a3 H',Inv X pins a3 H' s'/\W n a3 H') ?_ m0 ⟨σ,H,I,w0⟩);rintro n s1 ⟨T,H1,I1,w1⟩;refine qQ3 hp (thn (hc pins s1 T H1 _ I1 (turn n T H1 w1)) λb s2 a0=>?_);obtain ⟨H2,I2,q2⟩:=a0;cases b with
 | true=>
  obtain ⟨N,hN,q2⟩:=q2;rw[qA2 rfl];refine qQ3 hp (thn (hb pins s2 T H2 _ I2 q2) λf s3 q3=>?_);cases f with
  | next=>
   obtain ⟨O,H3,I3,n3⟩:=q3;obtain ⟨m',hm,w3⟩:=hN O H3 n3;show ⟨m',hm,O,H3,I3,w3⟩
  | cont=>
   obtain ⟨O,H3,I3,n3⟩:=q3;obtain ⟨m',hm,w3⟩:=hN O H3 n3;show ⟨m',hm,O,H3,I3,w3⟩
  |brk=>show q3
  |ret v=>show q3
 | false=>
  rw[qA4 qB0];show qT8 ⟨T,H2,I2,q2⟩
structure It where
 go:Nat->Hp->Prop
 yld:Nat->Hp->V->Hp->Prop
 stop:Nat->Hp->Prop
def A9 (X:Cx) (pins:Vz) (H:Hp) (b:Addr):Prop:=
 H b=none/\b≠X.env.locals/\b∉X.fs/\(b∈X.ex\/X.s₀.heap.objs.size<=b)/\(∀x c,X.env.cells.lookup x=some c->c≠b)/\∀p∈X.pn++pins,p.1≠b
def Inv.fpOk {σ:St}{b:Addr}(I:Inv X pins σ H s) (O:s.heap.objs.size<=b) (hn:H' b=none):A9 X pins H' b:=by
 refine ⟨hn,qJ4 (qB6 I.lt O),I.nofs O,.inr (qC1 I.sz O),λx c e z=>?_,λp T z=>?_⟩
 .obtain ⟨v,q⟩:=I.cell x c e;show absurd (qB6 q.lt (by rw[z];show O)) (qE2 _)
 .show absurd (qB6 (qB2 (I.pin p T).1) (by rw[z];show O)) (qE2 _)
structure Turn (P:Program) (w:World) (K:Frag) (tg:Expr) (J:It) (fp:List Addr) (it:Addr) (tn:Nat->Heap->Prop):Prop where
 mem:it∈fp
 obj:∀i h,tn i h->∀b∈fp,∃o,h.get? b=some o/\∀v,o.data≠.cell v
 keep:∀i h h',tn i h->(∀b∈fp,∀o,h.get? b=some o->h'.get? b=some o)->tn i h'
 item:∀(X:Cx),X.prog=P->X.w=w->X.K=K->X.calm=true->∀(i:Nat) (pins:Vz) (s:Shared) (σ:St) (H:Hp) (E:VX),Inv X pins σ H s->(∀b∈fp,A9 X pins H b)->tn i s.heap->J.go i H ->
  wpAny (model P w) X.A (pyNext (.ref it)) (λr s1=>∃u,r=some u /\
   wpAny (model P w) X.A (letOwnedTupleGo tg (.ref it) u) (λ_ s2=>∃x H',Inv X pins σ H' s2/\RelV x u/\J.yld i H x H'/\tn (i+1) s2.heap/\∀b∈fp,H' b=none) E s1) E s
 done:∀(X:Cx),X.prog=P->X.w=w->X.K=K->X.calm=true->∀(i:Nat) (pins:Vz) (s:Shared) (σ:St) (H:Hp) (E:VX),Inv X pins σ H s->(∀b∈fp,A9 X pins H b)->tn i s.heap->J.stop i H ->
  wpAny (model P w) X.A (pyNext (.ref it)) (λr s1=>r=none/\Inv X pins σ H s1) E s
 self:∀(A:Around) (i:Nat) (s:Shared) (Q:VX) (E:VX),tn i s.heap->Q (.ref it) s->wpAny (model P w) A (pyIter (.ref it)) Q E s
abbrev TI:=St->Hp->(It->Hp->Prop)->Prop
def PIE (X:Cx) (pins:Vz) (σ:St) (tg:Expr) (R:It->Hp->Prop) (I:Value) (s2:Shared):Prop:=
 ∃(it:Addr) (fp:List Addr) (tn:Nat->Heap->Prop) (J:It) (H':Hp),I=.ref it/\Inv X pins σ H' s2/\Turn X.prog X.w X.K tg J fp it tn/\tn 0 s2.heap/\(∀b∈fp,A9 X pins H' b)/\R J H'
def PI (X:Cx) (tg iter:Expr) (I:TI):Prop:=
 ∀ (pins:Vz) (s:Shared) (σ:St) (H:Hp) (R:It->Hp->Prop),Inv X pins σ H s->I σ H R ->
  wpAny (model X.prog X.w) X.A (eval iter X.env) (λv s1=>wpAny (model X.prog X.w) X.A (pyIter v) (PIE X pins σ tg R) X.xe s1) X.xe s
def ll (O:s.heap.get? it=some o) (hc:o.cls=.type n) (hd:o.data=.fields vs) (hn:["enumerate","zip","dict_itemiterator","dict_reverseitemiterator","odict_iterator","itertools.zip_longest","itertools.pairwise"].contains n=false) (I:Q () s):wpAny M A (letOwnedTupleGo tg (.ref it) u) Q E s:=by
  unfold letOwnedTupleGo;cases tg <;> first
    |show qO6 I
    | (cases u <;> first
        |show qO6 I
        | (refine qA1 (wpAny_load O ?_)
           rw[hc,hd]
           change wpAny M A (if (["enumerate","zip","dict_itemiterator","dict_reverseitemiterator","odict_iterator","itertools.zip_longest","itertools.pairwise"].contains n&&vs[0]? == some (rawInt _))=true then _ else _) Q E s;rw[qA4 (by intro h;rw[hn,qL9]at h;cases h)];show qO6 I))
def Itl (K:Frag) (a:Addr):It:=
 ⟨λi H=>∃xs x,SqL K H a xs/\xs[i]?=some x,λi H x H'=>H'=H/\∀xs,SqL K H a xs->xs[i]?=some x,λi H=>∃xs,SqL K H a xs/\xs.length<=i⟩
def Itt (K:Frag) (a:Addr):It:=
 ⟨λi H=>∃xs x,SqT K H a xs/\xs[i]?=some x,λi H x H'=>H'=H/\∀xs,SqT K H a xs->xs[i]?=some x,λi H=>∃xs,SqT K H a xs/\xs.length<=i⟩
def Itr (lo:Int)(n:Nat):It:=⟨λi _=>i<n,λi H x H'=>H'=H/\x=.int (lo+i),λi _=>n<=i⟩
def sT {K:Frag}(a it:Addr):Turn P w K tg (Itl K a) [it] it (λi h=>h.IsListIter it a i) where
 mem:=ZV
 obj:=λi h st b O=>by
  have e:b=it:=by simpa using O
  subst e;obtain ⟨o,e,c,d⟩:=st;show ⟨o,e,λv z=>by rw[d]at z;cases z⟩
 keep:=λi h h' st k=>st.at λo e=>k it ZV o e
 item:=by
  intro X hP hw hK hc i pins s σ H E I hf st hg;subst hP hw hK;obtain ⟨xs,x,hq,hx⟩:=hg;obtain ⟨its,rv,p,hz⟩:=I.list hq;obtain ⟨u,hu,ru⟩:=rv.get hx;obtain ⟨f0,f1,f2,f3,f4,f5⟩:=hf it ZV;refine wpAny_pyNext_list_item st p.isList (x:=u) (by simpa using hu) λh' T sb=>?_;have I1:Inv X pins σ H { s with heap:=h' }:=I.turned (t':=s.toks) (λb o O e=>(sb.2 b O).trans e) f0 f1 f3 f4 f5;obtain ⟨o,e,c,d⟩:=id T;show ⟨u,rfl,ll (s:={ s with heap:=h' }) e c d ZY ⟨x,H,I1,ru,⟨rfl,λys hy=>by rw[I.list_inj hy hq];show hx⟩,T,λb O=>(hf b O).1⟩⟩
 done:=by
  intro X hP hw hK hc i pins s σ H E I hf st hg;subst hP hw hK;obtain ⟨xs,hq,hx⟩:=hg;obtain ⟨its,rv,p,hz⟩:=I.list hq;obtain ⟨f0,f1,f2,f3,f4,f5⟩:=hf it ZV;have hl:=rv.length;show wpAny_pyNext_list_end (I.ok.hd hc) st p.isList (by simp;omega) λh' eb=>⟨rfl,I.turned (t':=s.toks) (λb o O e=>eb b o O e) f0 f1 f3 f4 f5⟩
 self:=λ_ _ _ _ _ st h=>wpAny_pyIter_listiter st h
def qt {K:Frag}(a it:Addr):Turn P w K tg (Itt K a) [it] it (λi h=>h.IsTupleIter it a i) where
 mem:=ZV
 obj:=λi h st b O=>by
  have e:b=it:=by simpa using O
  subst e;obtain ⟨o,e,c,d⟩:=st;show ⟨o,e,λv z=>by rw[d]at z;cases z⟩
 keep:=λi h h' st k=>st.at λo e=>k it ZV o e
 item:=by
  intro X hP hw hK hc i pins s σ H E I hf st hg;subst hP hw hK;obtain ⟨xs,x,hq,hx⟩:=hg;obtain ⟨its,rv,p,hz⟩:=I.tuple hq;obtain ⟨u,hu,ru⟩:=rv.get hx;obtain ⟨f0,f1,f2,f3,f4,f5⟩:=hf it ZV;refine wpAny_pyNext_tuple_item st (show s.heap.IsTuple a its.toArray from p) (x:=u) (by simpa using hu) λh' T sb=>?_;have I1:Inv X pins σ H { s with heap:=h' }:=I.turned (t':=s.toks) (λb o O e=>(sb.2 b O).trans e) f0 f1 f3 f4 f5;obtain ⟨o,e,c,d⟩:=id T;show ⟨u,rfl,ll (s:={ s with heap:=h' }) e c d ZY ⟨x,H,I1,ru,⟨rfl,λys hy=>by rw[I.tuple_inj hy hq];show hx⟩,T,λb O=>(hf b O).1⟩⟩
 done:=by
  intro X hP hw hK hc i pins s σ H E I hf st hg;subst hP hw hK;obtain ⟨xs,hq,hx⟩:=hg;obtain ⟨its,rv,p,hz⟩:=I.tuple hq;obtain ⟨f0,f1,f2,f3,f4,f5⟩:=hf it ZV;have hl:=rv.length;show wpAny_pyNext_tuple_end (I.ok.hd hc) st (show s.heap.IsTuple a its.toArray from p) (by simp;omega) λh' eb=>⟨rfl,I.turned (t':=s.toks) (λb o O e=>eb b o O e) f0 f1 f3 f4 f5⟩
 self:=λ_ _ _ _ _ st h=>wpAny_pyIter_tupleiter st h
def qu {K:Frag}(it:Addr) (lo:Int) (n:Nat):Turn P w K tg (Itr lo n) [it] it (λi h=>IsRangeIter h it (lo+(i:Nat)*1) ((n:Int)-(i:Nat)) 1) where
 mem:=ZV
 obj:=λi h st b O=>by
  have e:b=it:=by simpa using O
  subst e;show ⟨_,st,λv z=>by
   have z':Data.fields _=Data.cell v:=z;cases z'⟩
 keep:=λi h h' st k=>k it ZV _ st
 item:=by
  intro X hP hw hK hc i pins s σ H E I hf st hg;subst hP hw hK;obtain ⟨f0,f1,f2,f3,f4,f5⟩:=hf it ZV;have W:=Walks.range (prog:=X.prog) (w:=X.w) (I.ok.hd hc) it lo 1 n;refine W.item i s _ _ hg st λv h' tk hv T kk=>?_;obtain ⟨t,rfl⟩:=hv;have I1:Inv X pins σ H { s with heap:=h',toks:=tk }:=I.turned (λb o O e=>kk b o (by simpa using O) e) f0 f1 f3 f4 f5;refine ⟨_,rfl,ll (s:={ s with heap:=h',toks:=tk }) (n := "range_iterator") T rfl rfl ZY ⟨.int (lo+i),H,I1,⟨t,?_⟩,⟨rfl,rfl⟩,T,λb O=>(hf b O).1⟩⟩;rw[qZ5]
 done:=by
  intro X hP hw hK hc i pins s σ H E I hf st hg;subst hP hw hK;obtain ⟨f0,f1,f2,f3,f4,f5⟩:=hf it ZV;show wpAny_pyNext_range_end (I.ok.hd hc) st (by have:n<=i:=hg;omega) λh' eb=>⟨rfl,I.turned (t':=s.toks) (λb o O e=>eb b o O e) f0 f1 f3 f4 f5⟩
 self:=λ_ _ _ _ _ st h=>wpAny_pyIter_rangeiter st h
def xf {σ:St}{lo:Int}(I:Inv X pins σ H s) (h1:-(2^62)<=lo) (h2:lo<2^62) (h3:-(2^62)<=hi) (T:hi<2^62) (q:R (Itr lo (hi-lo).toNat) H):wpAny (model X.prog X.w) X.A (pyIter (.ref s.heap.objs.size)) (PIE X pins σ tg R) E { s with heap:=s.heap.push { cls:=.type "range",data:=.fields #[.int lo t,.int hi u,.int 1 v] },toks:=tk }:=by
 refine wpAny_pyIter_range (IsRange.new ..) (small_one h1 h2 h3 T) ?_;have O:Inv X pins σ H { s with heap:=s.heap.push { cls:=.type "range",data:=.fields #[.int lo t,.int hi u,.int 1 v] },toks:=tk }:=I.kept λb o e=>qA7 _ e;refine ⟨(s.heap.push { cls:=.type "range",data:=.fields #[.int lo t,.int hi u,.int 1 v] }).objs.size,[(s.heap.push { cls:=.type "range",data:=.fields #[.int lo t,.int hi u,.int 1 v] }).objs.size],_,_,H,rfl,
  O.kept (t':=tk) λb o e=>qA7 _ e,qu _ lo (hi-lo).toNat,?_,λb hb=>?_,q⟩
 .have e1:lo+((0:Nat):Int)*1=lo:=ZV;have e2:(((hi-lo).toNat:Nat):Int)-((0:Nat):Int)=Builtin.Range.rangeSize lo hi 1:=by rw[rangeSize_one];split <;> omega
  change IsRangeIter _ _ (lo+((0:Nat):Int)*1) ((((hi-lo).toNat:Nat):Int)-((0:Nat):Int)) 1;rw[e1,e2];show qC0 _ rfl
 .have e:b=(s.heap.push { cls:=.type "range",data:=.fields #[.int lo t,.int hi u,.int 1 v] }).objs.size:=by simpa using hb
  subst e;show O.fpOk (qB4 _) (O.hok.fresh (qB4 _))
def zF (ta:TA):TI:=λσ H R=>ta σ H λvs H1=>∃j:Int,vs = [.int j] /\ -(2^62)<=j/\j<2^62/\R (Itr 0 j.toNat) H1
def ul (hg:Gl X "range") (hm:X.mg "range" = none) (ha:PA X [a] ta) (hs:starEach [a] X.env = [(false,eval a X.env)]:=by rfl):PI X tg (.Call (.Name "range" p) [a] [] pos) (zF ta):=by
 intro pins s σ H R I h;refine Call_ (M5 I hg hm boot_range (qG3 (thn (ha pos pins s σ H _ I h) λus s1 O=>?_) hs rfl));obtain ⟨vs,H1,I1,r1,T⟩:=O;obtain ⟨j,e,T,q2,q⟩:=T;subst e;cases r1 with
 | cons r rr=>
  cases rr;obtain ⟨t,rfl⟩:=r;show call_range_1 (xf I1 ox ox T q2 (by simpa using q))
def DG (wi:TI) (g:TG) (tb:TS):TS:=λD σ H=>wi σ H λJ H1=>∃W:Nat->Nat->St->Hp->Prop,(∃m,W 0 m σ H1)/\∀i m σ H,W i m σ H ->
 (J.stop i H/\D.nx σ H)\/(J.go i H/\∃N:St->Hp->Prop,(∀I H',N I H'->∃T,T<m/\W (i+1) T I H')/\∀x H',J.yld i H x H'->g x σ H' λO H2=>tb { D with nx:=N,ct:=N,bk:=D.nx } O H2)
def bP (fp:List Addr)(h:Heap):List (Addr×Obj):=fp.filterMap λb=>(h.get? b).map λo=>(b,o)
def N6 (I:b∈fp)(e:h.get? b=some o):(b,o)∈bP fp h:=List.mem_filterMap.mpr ⟨b,I,by rw[e];rfl⟩
def uE (O:p∈bP fp h):p.1∈fp/\h.get? p.1=some p.2:=by
 obtain ⟨b,T,e⟩:=List.mem_filterMap.mp O;cases q:h.get? b with
 |none=>rw[q]at e;cases e
 | some o=>
  rw[q]at e;have I:(b,o)=p:=Option.some.inj e;subst I;show ⟨T,q⟩
def Inv.pinned {σ:St}(I:Inv X pins σ H s) (hf:∀b∈fp,A9 X pins H b) (ho:∀b∈fp,∃o,s.heap.get? b=some o/\∀v,o.data≠.cell v):Inv X (pins++bP fp s.heap) σ H s:=
 I.pins_of λp hp=>(qF9.mp hp).elim (λz=>I.pin p (qC9 _ z)) λz=>by
  obtain ⟨T,e⟩:=uE z;obtain ⟨f0,f1,f2,_⟩:=hf p.1 T;obtain ⟨o,O,d⟩:=ho p.1 T;rw[e]at O;cases O;show ⟨e,f0,f1,f2,d⟩
def Inv.unpinned {σ:St}(I:Inv X (pins++pl) σ H s):Inv X pins σ H s:=I.pins_of λp O=>I.pin p (qC9 _ (qJ3 _ O))
def Fh (hp:PassesOwn (model X.prog X.w) X.A X.env X.xe) (hc:X.calm=true) (hi:PI X tg iter wi) (hg:PG X tg g) (hb:PSs X body tb) (hs:∀x,foldedSetIterable iter X.env x=pure x:=by intro _;rfl):PS X (.For tg iter body [] pos) (DG wi g tb):=by
 intro pins s σ H D I h;refine wpAny_For (thn (hi pins s σ H _ I h) λv s1 h1=>thn h1 λb4 s2 h2=>?_) hs;obtain ⟨it,fp,tn,J,H2,e,I2,T,b0,f2,W,⟨m0,w0⟩,turn⟩:=h2;subst e
 -- what stays true of the iterator's objects through the loop
 have stat:∀{H':Hp},(∀b∈fp,H' b=none)->∀b∈fp,A9 X pins H' b:=λhn b hb=>⟨hn b hb,(f2 b hb).2⟩;refine codeAny_forLoop_any (λn s'=>∃i a3 H',Inv X pins a3 H' s'/\tn i s'.heap/\(∀b∈fp,H' b=none)/\W i n a3 H') ?_ m0 ⟨0,σ,H2,I2,b0,λb hb=>(f2 b hb).1,w0⟩;rintro n s3 ⟨i,a0,H3,I3,a6,a7,w3⟩;rcases turn i n a0 H3 w3 with ⟨stop,qn⟩|⟨go,N,hN,step⟩
 .refine qQ3 hp (thn (T.done X rfl rfl rfl hc i pins s3 a0 H3 X.xe I3 (stat a7) a6 stop) λr s4 ⟨hr,I4⟩=>?_);subst hr;show qT8 ⟨a0,H3,I4,qn⟩
 .refine qQ3 hp (thn (T.item X rfl rfl rfl hc i pins s3 a0 H3 X.xe I3 (stat a7) a6 go) λr s4 ⟨u,hr,h4⟩=>?_);subst hr;refine qQ3 hp (thn h4 λ_ s5 a8=>?_);obtain ⟨x,H5,I5,r5,y5,a4,ab⟩:=a8;have a9:=I5.pinned (stat ab) (T.obj _ _ a4);refine qQ3 hp (thn (hg _ s5 a0 H5 x u _ a9 r5 (step x H5 y5)) λ_ s6 a5=>?_);obtain ⟨b3,H6,I6,q6⟩:=a5;refine qQ3 hp (thn (hb _ s6 b3 H6 _ I6 q6) λf s7 q7=>?_);have again:∀{O:St}{H7:Hp},Inv X (pins++bP fp s5.heap) O H7 s7->N O H7->∃m,m<n/\∃i a3 H',Inv X pins a3 H' s7/\tn i s7.heap/\(∀b∈fp,H' b=none)/\W i m a3 H':=λ{O H7} I7 n7=>by
   obtain ⟨m',hm,w7⟩:=hN O H7 n7;refine ⟨m',hm,i+1,O,H7,I7.unpinned,T.keep _ _ _ a4 λb hb o e=>(I7.pin (b,o) (qC9 _ (qC9 _ (N6 hb e)))).1,λb hb=>?_,w7⟩;obtain ⟨o,e,d⟩:=T.obj _ _ a4 b hb;show (I7.pin (b,o) (qC9 _ (qC9 _ (N6 hb e)))).2.1
  cases f with
  |next=>obtain ⟨O,H7,I7,n7⟩:=q7;show again I7 n7
  |cont=>obtain ⟨O,H7,I7,n7⟩:=q7;show again I7 n7
  |brk=>obtain ⟨O,H7,I7,q7⟩:=q7;show ⟨O,H7,I7.unpinned,q7⟩
  |ret v=>obtain ⟨x7,O,H7,I7,r7,q7⟩:=q7;show ⟨x7,O,H7,I7.unpinned,r7,q7⟩
abbrev R2:=V->V->Hp->VK->Prop
def OpR (X:Cx) (f:Value->Value->Sem Value) (r:R2):Prop:=
 ∀ (pins:Vz) (s:Shared) (σ:St) (H:Hp) (x y:V) (v u:Value) (Q:VK),Inv X pins σ H s->RelV x v->RelV y u->r x y H Q ->
  wpAny (model X.prog X.w) X.A (f v u) (EP X pins σ Q) X.xe s
def UnR (X:Cx) (f:Value->Sem Value) (r:V->Hp->VK->Prop):Prop:=
 ∀ (pins:Vz) (s:Shared) (σ:St) (H:Hp) (x:V) (v:Value) (Q:VK),Inv X pins σ H s->RelV x v->r x H Q ->
  wpAny (model X.prog X.w) X.A (f v) (EP X pins σ Q) X.xe s
def K6 (X:Cx) (f:Value) (r:List V->Hp->VK->Prop):Prop:=
 ∀ (pins:Vz) (s:Shared) (σ:St) (H:Hp) (xs:List V) (us:VZ) (Q:VK),Inv X pins σ H s->Vals xs us->r xs H Q ->
  wpAny (model X.prog X.w) X.A (call f us) (EP X pins σ Q) X.xe s
def tOp (r:R2)(ta I:TE):TE:=λσ H Q=>ta σ H λx H1=>I σ H1 λy H2=>r x y H2 Q
def tUn (r:V->Hp->VK->Prop)(ta:TE):TE:=λσ H Q=>ta σ H λx H1=>r x H1 Q
def rI (C:Int->Int->Prop)(g:Int->Int->V):R2:=λx y H Q=>∃i j,x=.int i/\y=.int j/\C i j/\Q (g i j) H
def rI0 (g:Int->Int->V):R2:=λx y H Q=>∃i j,x=.int i/\y=.int j/\Q (g i j) H
def rU (g:Int->V):V->Hp->VK->Prop:=λx H Q=>∃i,x=.int i/\Q (g i) H
def yW (ha:PE X a ta) (hb:PE X b tb){σ:St}{R:V->V->Hp->Prop}(I:Inv X pins σ H s) (h:ta σ H λx H1=>tb σ H1 λy H2=>R x y H2){f:Value->Value->Sem Value}(hf:∀v u s2 x y H2,Inv X pins σ H2 s2->RelV x v->RelV y u->R x y H2->wpAny (model X.prog X.w) X.A (f v u) Q X.xe s2):
  wpAny (model X.prog X.w) X.A (eval a X.env) (λv O=>wpAny (model X.prog X.w) X.A (eval b X.env) (λu a3=>wpAny (model X.prog X.w) X.A (f v u) Q X.xe a3) X.xe O) X.xe s:=by
 refine thn (ha pins s σ H _ I h) λv s1 T=>?_;obtain ⟨x,H1,I1,r1,q1⟩:=T;refine thn (hb pins s1 σ H1 _ I1 q1) λu s2 a0=>?_;obtain ⟨y,H2,I2,r2,q2⟩:=a0;show hf v u s2 x y H2 I2 r1 r2 q2
def IS (ho:OpR X (binaryOp op) r) (ha:PE X a ta) (hb:PE X b tb):PE X (.BinOp a op b pos) (tOp r ta tb):=by
 intro pins s σ H Q I h;show wpAny_BinOp (yW ha hb I h λv u s2 x y H2 I2 T O q=>ho pins s2 σ H2 x y v u Q I2 T O q)
def IR (ho:UnR X (unaryOp op) r) (ha:PE X a ta):PE X (.UnaryOp op a pos) (tUn r ta):=by
 intro pins s σ H Q I h;show UnaryOp_ (thn (ha pins s σ H _ I h) λv s1 O=>by obtain ⟨x,H1,T,r1,q1⟩:=O;show ho pins s1 σ H1 x v Q T r1 q1)
def opI {g:Int->Int->Int}(rule:∀(i j:Int) (t u:Tok) (s:Shared) (Q:VX) (E:VX),C i j->Q (.int (g i j) s.toks) { s with toks:=s.toks+1 }->wpAny (model X.prog X.w) X.A (f (.int i t) (.int j u)) Q E s):
  OpR X f (rI C λi j=>.int (g i j)):=by
 intro pins s σ H x y v u Q I T O h;obtain ⟨i,j,rfl,rfl,hc,q⟩:=h;obtain ⟨t,rfl⟩:=T;obtain ⟨t',rfl⟩:=O;show rule i j t t' s _ _ hc ⟨.int (g i j),H,I.tok _,⟨_,rfl⟩,q⟩
def Fy {g:Int->Int->Int}(rule:∀(i j:Int) (t u:Tok) (s:Shared) (Q:VX) (E:VX),Q (.int (g i j) s.toks) { s with toks:=s.toks+1 }->wpAny (model X.prog X.w) X.A (f (.int i t) (.int j u)) Q E s):
  OpR X f (rI0 λi j=>.int (g i j)):=by
 intro pins s σ H x y v u Q I T O h;obtain ⟨i,j,rfl,rfl,q⟩:=h;obtain ⟨t,rfl⟩:=T;obtain ⟨t',rfl⟩:=O;show rule i j t t' s _ _ ⟨.int (g i j),H,I.tok _,⟨_,rfl⟩,q⟩
def qQ {g:Int->Int->Bool}(rule:∀(i j:Int) (t u:Tok) (s:Shared) (Q:VX) (E:VX),Q (.bool (g i j)) s->wpAny (model X.prog X.w) X.A (f (.int i t) (.int j u)) Q E s):
  OpR X f (rI0 λi j=>.bl (g i j)):=by
 intro pins s σ H x y v u Q I T O h;obtain ⟨i,j,rfl,rfl,q⟩:=h;obtain ⟨t,rfl⟩:=T;obtain ⟨t',rfl⟩:=O;show rule i j t t' s _ _ ⟨.bl (g i j),H,I,rfl,q⟩
def O6 (i j:Int):Prop:=0<j/\j<1073741824
def dj (i j:Int):Prop:=0<=j/\j<=1000000/\i.natAbs<2^64
def CMul (i j:Int):Prop:=(-(2^64)<i/\i<2^64)\/(-(2^64)<j/\j<2^64)
def CMul.ok (h:CMul i j):IntMulOk i j:=by
 rcases h with ⟨h1,h2⟩|⟨h1,h2⟩
 .show .of_left (intBits_le_64 h1 h2)
 .show .of_right (intBits_le_64 h1 h2)
def x4:OpR X (binaryOp .Add) (rI0 λi j=>.int (i+j)):=Fy λ_ _ _ _ _ _ _ q=>add_int q
def P2:OpR X (binaryOp .Sub) (rI0 λi j=>.int (i-j)):=Fy λ_ _ _ _ _ _ _ q=>sub_int q
def bQ:OpR X (binaryOp .FloorDiv) (rI O6 λi j=>.int (i/j)):=opI λi j _ _ _ _ _ hc q=>by
 have I:(0:Int)<j:=hc.1;have O:j<1073741824:=hc.2;show floordiv_int ox (by rw[qV9 i ox];show q) (.inl (PyProof.noPylong_small ox))
def A1:OpR X (binaryOp .Mod) (rI (λ_ j=>0<j) λi j=>.int (i%j)):=opI λi j _ _ _ _ _ hc q=>by
 have I:(0:Int)<j:=hc;show mod_int' ox (by rw[Int.fmod_eq_emod_of_nonneg i ox];show q)
def uu:OpR X (binaryOp .Pow) (rI dj λi j=>.int (i^j.toNat)):=opI λ_ _ _ _ _ _ _ hc q=>pow_int_small hc.1 hc.2.1 hc.2.2 q
def unI {g:Int->Int}(rule:∀(i:Int) (t:Tok) (s:Shared) (Q:VX) (E:VX),Q (.int (g i) s.toks) { s with toks:=s.toks+1 }->wpAny (model X.prog X.w) X.A (f (.int i t)) Q E s):
  UnR X f (rU λi=>.int (g i)):=by
 intro pins s σ H x v Q I O h;obtain ⟨i,rfl,q⟩:=h;obtain ⟨t,rfl⟩:=O;show rule i t s _ _ ⟨.int (g i),H,I.tok _,⟨_,rfl⟩,q⟩
def O8:UnR X (unaryOp .USub) (rU λi=>.int (-i)):=unI λ_ _ _ _ _ q=>neg_int q
def lR:V->V->Bool
 | .non,.non=>true | .non,.int _=>true | .int _,.non=>true | .non,.bl _=>true | .bl _,.non=>true | .non,.str _=>true | .str _,.non=>true
 | .int _,.int _=>true | .bl _,.bl _=>true | .str _,.str _=>true | .byt _,.byt _=>true
 | .int _,.str _=>true | .str _,.int _=>true | .bl _,.str _=>true | .str _,.bl _=>true
 |_,_=>false
def rEq:R2:=λx y H Q=>lR x y=true/\Q (.bl (decide (x=y))) H
def rNe:R2:=λx y H Q=>lR x y=true/\Q (.bl (!decide (x=y))) H
def qg:decide (V.int i=V.int j)=(i == j):=by
 rw[qT9];simp
def vq:decide (V.bl i=V.bl j)=(i == j):=by
 rw[qT9];simp
def qf:decide (V.str i=V.str j)=(i == j):=by
 rw[qT9];simp
def qh:decide (V.byt i=V.byt j)=(i.toList == j.toList):=by
 rw[qT9];cases i;cases j;simp
def o6 {σ:St}(I:Inv X pins σ H s) (q:Q (.bl k) H) (e:k=k'):EP X pins σ Q (.bool k') s:=by
 subst e;show ⟨.bl k,H,I,rfl,q⟩
def T0:OpR X (compareOp .Eq) rEq:=by
 intro pins s σ H x y v u Q I rx O h;obtain ⟨T,q⟩:=h;cases x with
 | non=>
  cases rx;cases y with
  |non=>cases O;show PySem.EqNone.eq_none_none (o6 I q ZV)
  |bl j=>cases O;show PySem.EqNone.eq_none_bool (o6 I q ZV)
  |int j=>obtain ⟨t',rfl⟩:=O;show PySem.EqNone.eq_none_int (o6 I q ZV)
  |str j=>obtain ⟨t',rfl⟩:=O;show PySem.EqNone.eq_none_str (o6 I q ZV)
  |_=>show absurd (show false=true from T) qB0
 | bl i=>
  cases rx;cases y with
  |non=>cases O;show PySem.EqNone.eq_bool_none (o6 I q ZV)
  |bl j=>cases O;show eq_bool (o6 I q vq)
  |str j=>obtain ⟨t',rfl⟩:=O;show PySem.EqMixed.eq_bool_str (o6 I q ZV)
  |_=>show absurd (show false=true from T) qB0
 | int i=>
  obtain ⟨t,rfl⟩:=rx;cases y with
  |non=>cases O;show PySem.EqNone.eq_int_none (o6 I q ZV)
  |int j=>obtain ⟨t',rfl⟩:=O;show eq_int (o6 I q qg)
  |str j=>obtain ⟨t',rfl⟩:=O;show PySem.EqMixed.eq_int_str (o6 I q ZV)
  |_=>show absurd (show false=true from T) qB0
 | str i=>
  obtain ⟨t,rfl⟩:=rx;cases y with
  |non=>cases O;show PySem.EqNone.eq_str_none (o6 I q ZV)
  |bl j=>cases O;show PySem.EqMixed.eq_str_bool (o6 I q ZV)
  |int j=>obtain ⟨t',rfl⟩:=O;show PySem.EqMixed.eq_str_int (o6 I q ZV)
  |str j=>obtain ⟨t',rfl⟩:=O;show eq_str (o6 I q qf)
  |_=>show absurd (show false=true from T) qB0
 | byt i=>
  obtain ⟨t,rfl⟩:=rx;cases y with
  |byt j=>obtain ⟨t',rfl⟩:=O;show PySem.W.eq_bytes (o6 I q qh)
  |_=>show absurd (show false=true from T) qB0
 |_=>cases y <;> show absurd (show false=true from T) qB0
def ij:OpR X (compareOp .NotEq) rNe:=by
 intro pins s σ H x y v u Q I rx O h;obtain ⟨T,q⟩:=h;cases x with
 | non=>
  cases rx;cases y with
  |non=>cases O;show PySem.EqNone.ne_none_none (o6 I q ZV)
  |bl j=>cases O;show PySem.EqNone.ne_none_bool (o6 I q ZV)
  |int j=>obtain ⟨t',rfl⟩:=O;show PySem.EqNone.ne_none_int (o6 I q ZV)
  |str j=>obtain ⟨t',rfl⟩:=O;show PySem.EqNone.ne_none_str (o6 I q ZV)
  |_=>show absurd (show false=true from T) qB0
 | bl i=>
  cases rx;cases y with
  |non=>cases O;show PySem.EqNone.ne_bool_none (o6 I q ZV)
  |bl j=>cases O;show ne_bool (o6 I q (congrArg not vq))
  |str j=>obtain ⟨t',rfl⟩:=O;show PySem.EqMixed.ne_bool_str (o6 I q ZV)
  |_=>show absurd (show false=true from T) qB0
 | int i=>
  obtain ⟨t,rfl⟩:=rx;cases y with
  |non=>cases O;show PySem.EqNone.ne_int_none (o6 I q ZV)
  |int j=>obtain ⟨t',rfl⟩:=O;show ne_int (o6 I q (congrArg not qg))
  |str j=>obtain ⟨t',rfl⟩:=O;show PySem.EqMixed.ne_int_str (o6 I q ZV)
  |_=>show absurd (show false=true from T) qB0
 | str i=>
  obtain ⟨t,rfl⟩:=rx;cases y with
  |non=>cases O;show PySem.EqNone.ne_str_none (o6 I q ZV)
  |bl j=>cases O;show PySem.EqMixed.ne_str_bool (o6 I q ZV)
  |int j=>obtain ⟨t',rfl⟩:=O;show PySem.EqMixed.ne_str_int (o6 I q ZV)
  |str j=>obtain ⟨t',rfl⟩:=O;show ne_str (o6 I q (congrArg not qf))
  |_=>show absurd (show false=true from T) qB0
 | byt i=>
  obtain ⟨t,rfl⟩:=rx;cases y with
  |byt j=>obtain ⟨t',rfl⟩:=O;show PySem.W.ne_bytes (o6 I q (congrArg not qh))
  |_=>show absurd (show false=true from T) qB0
 |_=>cases y <;> show absurd (show false=true from T) qB0
def cO:OpR X (compareOp .Lt) (rI0 λi j=>.bl (decide (i<j))):=qQ λ_ _ _ _ _ _ _ q=>lt_int q
def zz:OpR X (compareOp .LtE) (rI0 λi j=>.bl (decide (i<=j))):=qQ λ_ _ _ _ _ _ _ q=>le_int q
def K0:OpR X (compareOp .Gt) (rI0 λi j=>.bl (decide (j<i))):=qQ λ_ _ _ _ _ _ _ q=>gt_int q
def zA:OpR X (compareOp .GtE) (rI0 λi j=>.bl (decide (j<=i))):=qQ λ_ _ _ _ _ _ _ q=>ge_int q
def S9:OpR X (compareOp .Is) (λx y H Q=>y=.non/\Q (.bl (decide (x=.non))) H):=by
 intro pins s σ H x y v u Q I O T h;obtain ⟨rfl,q⟩:=h;cases T;refine is_none_gen (o6 I q ?_);cases x <;> first
  | (cases O;rfl)
  | (obtain ⟨t,rfl⟩:=O;rfl)
def ac:OpR X (compareOp .IsNot) (λx y H Q=>y=.non/\Q (.bl (!decide (x=.non))) H):=by
 intro pins s σ H x y v u Q I O T h;obtain ⟨rfl,q⟩:=h;cases T;refine isnot_none_gen (o6 I q ?_);cases x <;> first
  | (cases O;rfl)
  | (obtain ⟨t,rfl⟩:=O;rfl)
def uF (b:Expr) (h:op≠.In:=by decide) (T:op≠.NotIn:=by decide):behindInMarks op b=false:=by
 have I:(op == CmpOp.In)=false:=by cases op <;> first|rfl|show absurd rfl h
 have O:(op == CmpOp.NotIn)=false:=by cases op <;> first|rfl|show absurd rfl T
 cases b <;> simp [behindInMarks,I,O]
def Bd (ho:OpR X (compareOp op) r) (ha:PE X a ta) (hb:PE X b tb) (hm:behindInMarks op b=false):PE X (.Compare a [op] [b] pos) (tOp r ta tb):=by
 intro pins s σ H Q I h;show wpAny_Compare1 (yW ha hb I h λv u s2 x y H2 I2 T O q=>ho pins s2 σ H2 x y v u Q I2 T O q) hm
def qx (t:TE):TT:=λσ H Q=>t σ H λx H'=>∃k,x=.bl k/\Q k H'
def AT (O:OpR X (compareOp op) r) (ha:PE X a ta) (T:PE X b tb) (hm:behindInMarks op b=false):PT X (.Compare a [op] [b] pos) (qx (tOp r ta tb)):=by
 intro pins s σ H Q I h;refine wpAny_isTrue_Compare1 (thn (ha pins s σ H _ I h) λv s1 ⟨x,H1,I1,r1,q1⟩=>thn (T pins s1 σ H1 _ I1 q1) λu s2 ⟨y,H2,I2,r2,q2⟩=>
  thn (O pins s2 σ H2 x y v u _ I2 r1 r2 q2) λc s3 ⟨z,H3,I3,r3,k,e,q3⟩=>?_) hm
 subst e;cases r3;show qQ5 ⟨H3,I3,q3⟩
def DH (r T:R2) (ta tb tc:TE):TE:=λσ H Q=>ta σ H λx H1=>tb σ H1 λy H2=>r x y H2 λz I=>∃k,z=.bl k /\
 (if k=true then tc σ I λO H4=>T y O H4 Q else Q (.bl false) I)
def xq (ho:OpR X (compareOp op) r) (T:OpR X (compareOp op') r') (ha:PE X a ta) (hb:PE X b tb) (hc:PE X c tc) (hm:lastMarks [op,op'] [b,c]=false:=by with_unfolding_all rfl):PT X (.Compare a [op,op'] [b,c] pos) (qx (DH r r' ta tb tc)):=by
 intro pins s σ H Q I h;refine isTrue_chain (thn (ha pins s σ H _ I h) λv s1 ⟨x,H1,I1,r1,q1⟩=>test_link (thn (hb pins s1 σ H1 _ I1 q1) λu s2 ⟨y,H2,I2,r2,q2⟩=>
  thn (ho pins s2 σ H2 x y v u _ I2 r1 r2 q2) λd s3 ⟨z,H3,I3,r3,k,e,q3⟩=>?_)) hm
 subst e;cases r3;refine qQ5 ?_;cases k with
 | false=>
  obtain ⟨k',e',q'⟩:=q3;cases e';show ite_ff ⟨H3,I3,q'⟩
 | true=>
  refine ite_tt (test_last (thn (hc pins s3 σ H3 _ I3 q3) λw' s4 ⟨z',H4,I4,r4,q4⟩=>thn (T pins s4 σ H4 y z' u w' _ I4 r2 r4 q4) λd' s5 O=>?_));obtain ⟨z2,H5,I5,r5,k2,e2,q5⟩:=O;subst e2;cases r5;show qQ5 ⟨H5,I5,q5⟩
def bY:(sizeLine:Nat)<2^63:=by rw[qP9];decide
def vals1 (r:Vals [x] us):∃u,us = [u]/\RelV x u:=by
 cases r with
 |cons O I=>cases I;show ⟨_,rfl,O⟩
def vals2 (r:Vals [x,y] us):∃u I,us = [u,I]/\RelV x u/\RelV y I:=by
 cases r with
 | cons r1 T=>
  cases T with
  |cons r3 O=>cases O;show ⟨_,_,rfl,r1,r3⟩
def fc (hc:X.calm=true):K6 X (.builtin "max") (λxs H Q=>∃i j,xs = [.int i,.int j]/\Q (.int (if j>i then j else i)) H):=by
 intro pins s σ H xs us Q I r h;obtain ⟨i,j,rfl,q⟩:=h;obtain ⟨u,w',rfl,⟨t,rfl⟩,⟨t',rfl⟩⟩:=vals2 r;refine max_two_ints (I.ok.hd hc) λh' T k=>⟨_,H,I.kept k,?_,q⟩;by_cases O:j>i
 .rw[qA2 O,qA2 O];show ⟨_,rfl⟩
 .rw[qA4 O,qA4 O];show ⟨_,rfl⟩
def vH (hc:X.calm=true):K6 X (.builtin "min") (λxs H Q=>∃i j,xs = [.int i,.int j]/\Q (.int (if j<i then j else i)) H):=by
 intro pins s σ H xs us Q I r h;obtain ⟨i,j,rfl,q⟩:=h;obtain ⟨u,w',rfl,⟨t,rfl⟩,⟨t',rfl⟩⟩:=vals2 r;refine min_two_ints (I.ok.hd hc) λh' T k=>⟨_,H,I.kept k,?_,q⟩;by_cases O:j<i
 .rw[qA2 O,qA2 O];show ⟨_,rfl⟩
 .rw[qA4 O,qA4 O];show ⟨_,rfl⟩
def ff:K6 X (.type "int") (λxs H Q=>(∃i,xs = [.int i]/\Q (.int i) H)\/∃k,xs = [.bl k]/\Q (.int (if k then 1 else 0)) H):=by
 intro pins s σ H xs us Q I r h;rcases h with ⟨i,rfl,q⟩|⟨k,rfl,q⟩
 .obtain ⟨u,rfl,t,rfl⟩:=vals1 r;show call_int_int ⟨.int i,H,I,⟨_,rfl⟩,q⟩
 .obtain ⟨u,rfl,O⟩:=vals1 r;cases O;show call_int_bool ⟨.int (if k then 1 else 0),H,I.tok _,⟨_,rfl⟩,q⟩
structure ObjM (h:Heap) (x dx C:Addr) (mA:Vx):Prop where
 obj:h.get? x=some (PySem.W.instObj C dx)
 ns:h.Ns1 dx mA
 ne:dx≠x
def uS {h:Heap}(n:h.Ns1 dx mA):∃od,h.get? dx=some od/\∀name,PySem.W.lookIn name od=some (mA name):=by
 obtain ⟨o,es,ep,O,hd,hk,_,hm⟩:=n;refine ⟨o,O,λname=>?_⟩;have e:=hm name;unfold nsFind findBy at e;rw[<- Array.find?_toList]at e;unfold PySem.W.lookIn;rw[hd];dsimp only
 split
 .rename_i y q
  rw[q]at e;show congrArg some e
 .rename_i q
  rw[q]at e;have a:es.toList.any (·.refKey)=false:=by
   rw[qK8];intro y hy;obtain ⟨z,t,I⟩:=hk y (Array.mem_toList_iff.mp hy);simp [DictEntry.refKey,I]
  have T:¬ es.toList.any (·.refKey)=true:=by rw[a];show qB0
  rw[qA4 T];show congrArg some e
def ObjM.look (I:ObjM h x dx C mA):∃od,PySem.W.InstAt h x (PySem.W.instObj C dx) C (some od)/\∀name,PySem.W.lookIn name od=some (mA name):=
 let ⟨od,ho,hl⟩:=uS I.ns
 ⟨od,⟨I.obj,rfl,rfl,ho⟩,hl⟩
def BY (hok:HOk P w H h) (e:H a=some (.ins C dx fs)):∃mA,ObjM h a dx C mA/\(∀f,za (fs.lookup f) (mA f))/\PySem.Within mA (fs.map (·.1))/\fs.length<=1000/\H dx=some (.own a):=by
 obtain ⟨d,z,ne,I,mA,n,r,q⟩:=(show ObjOk P w H h a (.ins C dx fs) from hok a _ e);show ⟨mA,⟨I,n,ne⟩,r,q,z,d⟩
structure Cls (K:Frag) (C:Addr):Prop where
 pg:PySem.W.plainGet K C Str.empty=true
 hd:PySem.W.hasDictIn K C=true
 po:PySem.W.plainOver K C=true
 sa:PySem.W.findIn K (.ref C) "__setattr__" = some (some (.builtin "object.__setattr__"))
def Cls.get {K:Frag}(c:Cls K C)(f:Str):PySem.W.plainGet K C f=true:=c.pg
section
variable {X:Cx}{pins:Vz}{σ:St}{H:Hp}{s:Shared}{A:Around}{E:VX}{Q:VX}{c:Value}{b:Bool}
inductive V7 (K:Frag) (H:Hp):V->Value->Prop where
 |non:V7 K H .non (.type "NoneType")
 |bl (x:Bool):V7 K H (.bl x) (.type "bool")
 |int (i:Int):V7 K H (.int i) (.type "int")
 |str (x:Str):V7 K H (.str x) (.type "str")
 |flt (x:UInt64):V7 K H (.flt x) (.type "float")
 |lst {a:Addr}{xs:List V}(e:H a=some (.lst xs)):V7 K H (.ref a) (.type "list")
 |frz {a:Addr}{o:Obj}{xs:List V}(e:H a=some (.frz o (.lst xs))):V7 K H (.ref a) (.type "list")
 |tup {a:Addr}{xs:List V}(e:H a=some (.tup xs)):V7 K H (.ref a) (.type "tuple")
 |dK {a:Addr}{kvs:List (Key×V)}(e:H a=some (.dK kvs)):V7 K H (.ref a) (.type "dict")
 |dT {a:Addr}{kvs:List (List Key×V)}(e:H a=some (.dT kvs)):V7 K H (.ref a) (.type "dict")
 | ins {a C dx:Addr}{fs:List (Str×V)}(e:H a=some (.ins C dx fs)) (cl:Cls K C) (ha:PySem.W.findIn K (.ref C) "__class__" = some (some (.builtin "object.__class__")))
   (hn:PySem.W.specialIn K (.builtin "object.__class__") "__get__" = some (some (.builtin "getset_descriptor.__get__"))) (htk:PySem.W.takesIn K (.builtin "object.__class__")=some true)
   (hm:PySem.W.mroIn K C (.type "object")=some true):V7 K H (.ref a) (.ref C)
def uZ (I:Inv X pins σ H s) (T:RelV x u) (ty:V7 X.K H x t) (e:PySem.W.kitOne X.K t c=some b) (h:∀tk,Q (.bool b) { s with toks:=tk }):
  wpAny (model X.prog X.w) A (call (.builtin "isinstance") [u,c]) Q E s:=by
 cases ty with
 |non=>cases (show u=Value.none from T);show qH2 PySem.W.kitx_none I.kIn True.intro e (λz=>nomatch z) h
 |bl y=>cases (show u=Value.bool y from T);show qH2 PySem.W.kitx_bool I.kIn True.intro e (λz=>nomatch z) h
 |int i=>obtain ⟨t,q⟩:=(show ∃t,u=Value.int i t from T);cases q;show qH2 PySem.W.kitx_int I.kIn True.intro e (λz=>nomatch z) h
 |str y=>obtain ⟨t,q⟩:=(show ∃t,u=Value.str y t from T);cases q;show qH2 PySem.W.kitx_str I.kIn True.intro e (λz=>nomatch z) h
 |flt y=>obtain ⟨t,q⟩:=(show ∃t,u=Value.float y t from T);cases q;show qH2 PySem.W.kitx_float I.kIn True.intro e (λz=>nomatch z) h
 | @lst a xs ea=>
  cases (show u=Value.ref a from T);obtain ⟨_,_,n,_,h1⟩:=(show ObjOk X.prog X.w H s.heap a (.lst xs) from I.hok a _ ea);show qH2 PySem.W.kitx_list I.kIn ⟨_,h1,rfl⟩ e (λz=>nomatch z) h
 | @frz a ob xs ea=>
  cases (show u=Value.ref a from T);obtain ⟨_,_,_,n,_,h1⟩:=(show ObjOk X.prog X.w H s.heap a (.frz ob (.lst xs)) from I.hok a _ ea);show qH2 PySem.W.kitx_list I.kIn ⟨_,h1,rfl⟩ e (λz=>nomatch z) h
 | @tup a xs ea=>
  cases (show u=Value.ref a from T);obtain ⟨_,_,_,p⟩:=(show ObjOk X.prog X.w H s.heap a (.tup xs) from I.hok a _ ea);obtain ⟨o,h1,h2,_⟩:=p;show qH2 PySem.W.kitx_tuple I.kIn ⟨o,h1,h2⟩ e (λz=>nomatch z) h
 | @dK a kvs ea=>
  cases (show u=Value.ref a from T);obtain ⟨_,_,vs,_,p⟩:=(show ObjOk X.prog X.w H s.heap a (.dK kvs) from I.hok a _ ea);obtain ⟨o,es,ep,h1,h2,_⟩:=p;show qH2 PySem.W.kitx_dict I.kIn ⟨o,h1,h2.1⟩ e (λz=>nomatch z) h
 | @dT a kvs ea=>
  cases (show u=Value.ref a from T);obtain ⟨_,_,xs,_,o,es,ep,h1,h2,_⟩:=(show ObjOk X.prog X.w H s.heap a (.dT kvs) from I.hok a _ ea);show qH2 PySem.W.kitx_dict I.kIn ⟨o,h1,h2.1⟩ e (λz=>nomatch z) h
 | @ins a C dx fs ea cl ha hn htk hm=>
  cases (show u=Value.ref a from T);obtain ⟨mA,O,_⟩:=BY I.hok ea;obtain ⟨od,J,_⟩:=O.look;show qH2 (PySem.W.kitx_own (cl.get _) cl.hd ha hn htk hm) I.kIn J e (λz=>nomatch z) h
end
structure Room (k:Nat) (A:Around):Prop where
 hd:A.handled=none
 dp:A.depth+3*k+5<recursionLimit
 un:A.units+16*k+200<cLine
def Room.mono (r:Room k A)(h:j<=k):Room j A:=⟨r.hd,by have:=r.dp;omega,by have:=r.un;omega⟩
def Room.deeper (r:Room (k+1) A) (env:Env):Room k (A.deeper env):=
 ⟨r.hd,by have:=r.dp;change A.depth+1+3*k+5<_;omega,by have:=r.un;change A.units+3+16*k+200<_;omega⟩
def Room.in1 (r:Room (k+1) A):Room k A.in1:=
 ⟨r.hd,by have:=r.dp;change A.depth+3*k+5<_;omega,by have:=r.un;change A.units+1+16*k+200<_;omega⟩
def Room.depth (r:Room k A):A.depth<recursionLimit:=by have:=r.dp;omega
def Room.units (r:Room k A):A.units+64<cLine:=by have:=r.un;omega
def tNil:TA:=λ_ H Q=>Q [] H
def cB (ta:TE)(I:TA):TA:=λσ H Q=>ta σ H λx H1=>I σ H1 λxs H2=>Q (x::xs) H2
def pa_nil:PA X [] tNil:=λ_ _ _ _ H Q I h=>Calls.spliced_nil ⟨[],H,I,.nil,h⟩
def fB (ha:PE X e te) (hr:PA X es t) (hs:starEach (e::es) X.env=(false,eval e X.env)::starEach es X.env:=by rfl):PA X (e::es) (cB te t):=by
 intro pos pins s σ H Q I h;rw[hs]
 change wpAny _ _ (spliced ((false,eval e X.env)::backTo pos (starEach es X.env))) _ _ s;refine Calls.spliced_cons (thn (ha pins s σ H _ I h) λu s1 O=>?_);obtain ⟨x,H1,I1,r1,q1⟩:=O;show thn (hr pos pins s1 σ H1 _ I1 q1) λus s2 T=>by obtain ⟨xs,H2,I2,r2,q2⟩:=T;show ⟨x::xs,H2,I2,.cons r1 r2,q2⟩
def wC (t:TA):TE:=λσ H Q=>t σ H λxs H1=>xs.length<=sizeLine/\∀p,H1 p=none->Q (.ref p) (upd H1 p (.tup xs))
def DF (t:TA):TE:=λσ H Q=>t σ H λxs H1=>xs.length<=sizeLine/\∀p,H1 p=none->Q (.ref p) (upd H1 p (.lst xs))
def um {x1}(h:PA X es t):PE X (.Tuple es x1 pos) (wC t):=by
 intro pins s σ H Q I O;refine wpAny_Tuple_spliced (thn (h pos pins s σ H _ I O) λus s1 ⟨xs,H1,I1,r,z,q⟩=>⟨by rw[<- r.length];show z,?_⟩);have T:H1 s1.heap.objs.size=none:=I1.hok.fresh (qB4 _);refine ⟨.ref s1.heap.objs.size,upd H1 s1.heap.objs.size (.tup xs),I1.laid (t':=s1.toks) (λb u e=>qA7 _ e) (qB4 _) ?_,rfl,q _ T⟩;show ⟨z,us,r,⟨_,qC0 _ rfl,rfl,_,rfl⟩⟩
def Ft (h:PA X es t):PE X (.List es pos) (DF t):=by
 intro pins s σ H Q I O;refine wpAny_List_spliced (thn (h pos pins s σ H _ I O) λus s1 ⟨xs,H1,I1,r,z,q⟩=>⟨by rw[<- r.length];show z,?_⟩);have T:H1 s1.heap.objs.size=none:=I1.hok.fresh (qB4 _);refine ⟨.ref s1.heap.objs.size,upd H1 s1.heap.objs.size (.lst xs),I1.laid (t':=s1.toks) (λb u e=>qA7 _ e) (qB4 _) ?_,rfl,q _ T⟩;show ⟨z,us,0,r,qC0 _ rfl⟩
abbrev Sp:=List V->Hp->VK->XK->Prop
abbrev CXT:=List Env->Hp->Shared->XK->Value->Shared->Prop
structure sy (P:Program) (w:World) (K:Frag) (mg:Vx) (base:Heap) (A:Around) (outer:List Env) (s:Shared) (H:Hp):Prop where
 frames:A.frames=some outer
 mod:Mod K mg base
 bs:∀b o,base.get? b=some o->s.heap.get? b=some o/\H b=none
 bsz:base.objs.size<=s.heap.objs.size
 funs:s.heap.FunFrames base outer
 frf:∀b∈frs outer,H b=none
 hok:HOk P w H s.heap
 bare:AllBare s.gens
 tab:∀p∈lamT,H p.1=some (.tbl p.2)
def CE (outer:List Env) (P:Program) (w:World) (H:Hp) (s:Shared) (Q:VK) (u:Value) (s':Shared):Prop:=
 ∃v H',s'.os=s.os/\AllBare s'.gens/\Un (frs outer) [] H H' s.heap s'.heap/\HOk P w H' s'.heap/\RelV v u/\Q v H'
def CR (CX:CXT) (outer:List Env) (P:Program) (w:World) (H:Hp) (s:Shared) (Q:VK) (E:XK) (r:Result) (s':Shared):Prop:=
 match r with
 | .ok (.ret u)=>CE outer P w H s Q u s'
 | .ok _=>False
 | .error e=>CX outer H s E e s'
structure FnOk (P:Program) (w:World) (K:Frag) (mg:Vx) (base:Heap) (CX:CXT) (k:Nat) (f:Addr) (fd:FuncData) (ps:VJ) (sp:Sp):Prop where
 len:∀vs H Q E,sp vs H Q E->vs.length=ps.length
 run:∀(A:Around) (outer:List Env) (s:Shared) (H:Hp) (args:Args) (us:VZ) (vs:List V) (Q:VK) (E:XK),Room k A->sy P w K mg base A outer s H->BindsTo s fd args (ps.zip us)->Vals vs us->sp vs H Q E ->
  codeAny (model P w) A (.call (.ref f) args) (CR CX outer P w H s Q E) s
def FnOk.imp {K:Frag}(F:FnOk P w K mg base CX k f fd ps sp) (h:∀vs H Q E,sp' vs H Q E->sp vs H Q E):FnOk P w K mg base CX k f fd ps sp':=
 ⟨λvs H Q E q=>F.len vs H Q E (h _ _ _ _ q),λA outer s H args us vs Q E hr O T hv I=>F.run A outer s H args us vs Q E hr O T hv (h _ _ _ _ I)⟩
def Inv.env0 {σ:St}(I:Inv X pins σ H s):sy X.prog X.w X.K X.mg X.base X.A X.stack s H:=
 ⟨I.ok.frames,I.ok.mod,I.bs,qC1 I.ok.bsz I.sz,I.stack,I.stkFree,I.hok,I.bare,I.tab⟩
def Inv.after {σ:St}(I:Inv X pins σ H s) (h:CE X.stack X.prog X.w H s Q u s'):EP X pins σ Q u s':=by
 obtain ⟨v,H',os,bare,un,hok,r,q⟩:=h;obtain ⟨hh,g,d,t,O⟩:=s';obtain rfl:O=s.os:=os;show ⟨v,H',I.call (h':=hh) (g':=g) (d':=d) (t':=t) (ch:=[]) un hok bare (λb z=>absurd z ZV),r,q⟩
def qz (sp:Sp)(dvs:List V)(E:XK)(t:TA):TE:=λσ H Q=>t σ H λvs H1=>sp (vs++dvs) H1 Q E
def Binds (K:Frag) (fd:FuncData) (ps:VJ) (ds:VZ):Prop:=
 ∀(s:Shared) (us:VZ),K.In s.heap->(us++ds).length=ps.length->BindsTo s fd ⟨us,[]⟩ (ps.zip (us++ds))
def Binds.all {K:Frag}(h:∀us:List Value,us.length=ps.length->bindArgs fd ⟨us,[]⟩=pure (ps.zip us)):Binds K fd ps []:=λs us _ I=>by
 rw[qH3]at I ⊢;show .of_eq (h us I)
def ow (CX:CXT)(X:Cx)(E:XK):Prop:=∀(pins:Vz)(σ:St)(H:Hp)(s:Shared)(e:Value)(s':Shared),Inv X pins σ H s->CX X.stack H s E e s'->X.xe e s'
section
variable {X:Cx}{CX:CXT}{k:Nat}{f C:Addr}{fd:FuncData}{ps:VJ}{sp:Sp}{dvs:List V}{ds:VZ}{E:XK}{x m:Str}{p pos apos:Pos}{e o:Expr}{es:VV}{ta:TE}{t:TA}
def tV {σ:St}(F:FnOk X.prog X.w X.K X.mg X.base CX k f fd ps sp) (hr:Room k X.A) (hb:Binds X.K fd ps ds) (hd:Vals dvs ds) (hx:ow CX X E) (I:Inv X pins σ H s) (r:Vals vs us) (h:sp (vs++dvs) H Q E):wpAny (model X.prog X.w) X.A (call (.ref f) us) (EP X pins σ Q) X.xe s:=by
 have T:Vals (vs++dvs) (us++ds):=r.append hd;have hl:(us++ds).length=ps.length:=by rw[<- T.length];show F.len _ _ _ _ h
 refine wpAny_call (codeAny_mono (F.run X.A X.stack s H ⟨us,[]⟩ (us++ds) (vs++dvs) Q E hr I.env0 (hb s us I.kIn hl) T h) λr s' O=>?_);cases r with
 |error e=>show hx pins σ H s e s' I O
 | ok fl=>
  cases fl with
  |ret u=>show I.after O
  |next=>show False.elim O
  |brk=>show False.elim O
  |cont=>show False.elim O
def pi (F:FnOk X.prog X.w X.K X.mg X.base CX k f fd ps sp) (hr:Room k X.A) (hg:Gl X x) (hm:X.mg x=some (.ref f)) (hk:PySem.W.keepIn X.K (.ref f)=true) (hb:Binds X.K fd ps ds) (hd:Vals dvs ds) (hx:ow CX X E)
  (ha:PA X (e::es) t) (O:(x == ("__debug__" : Str))=false:=by decide) (he:starEach (e::es) X.env=(false,eval e X.env)::starEach es X.env:=by rfl) (T:(backTo pos (starEach es X.env)).any (·.1)=false:=by rfl) :
  PE X (.Call (.Name x p) (e::es) [] pos) (qz sp dvs E t):=by
 intro pins s σ H Q I h;refine qP3 (pL I hg hm ?_ O);refine PySem.W.callWith_K (h₀:=X.base) I.ok.mod.kin hk (thn (ha pos pins s σ H _ I h) λus s1 ⟨vs,H1,I1,r,q⟩=>⟨I1.kIn,?_⟩) he T;show tV F hr hb hd hx I1 r q
structure Mk (K:Frag) (C f:Addr):Prop where
 makes:PySem.W.makesIn K C=true
 init:PySem.W.findIn K (.ref C) "__init__" = some (some (.ref f))
 fn:PySem.W.isFn K (.ref f)=true
 kp:PySem.W.keepIn K (.ref C)=true
end
def PK (X:Cx) (I:List Keyword) (t:TA):Prop:=
 ∀(pos:Pos) (pins:Vz) (s:Shared) (σ:St) (H:Hp) (Q:List V->Hp->Prop),Inv X pins σ H s->t σ H Q->wpAny (model X.prog X.w) X.A (evalAll ((backToKw pos (keywordEach I X.env)).map (·.2))) (AP X pins σ Q) X.xe s
def Fn:PK X [] tNil:=λ_ _ _ _ H Q I h=>wpAny_evalAll_nil ⟨[],H,I,.nil,h⟩
def pf (ha:PE X e te) (hr:PK X kws t):PK X (⟨nm,e,kpos⟩::kws) (cB te t):=by
 intro pos pins s σ H Q I h
 change wpAny _ _ (evalAll ((do let v <- eval e X.env;standAt pos;pure v)::(backToKw pos (keywordEach kws X.env)).map (·.2))) _ _ s;refine qV5 (qA1 (thn (ha pins s σ H _ I h) λu s1 ⟨x,H1,I1,r1,q1⟩=>qA1 (qQ4 (qO6 ?_))));show thn (hr pos pins s1 σ H1 _ I1 q1) λus s2 O=>by obtain ⟨xs,H2,I2,T,q2⟩:=O;show ⟨x::xs,H2,I2,.cons r1 T,q2⟩
structure f8 (N P:VJ) (sc:Scope):Prop where
 kind:sc.kind=.function
 co:sc.isCoroutine=false
 gen:sc.isGenerator=false
 nd:N.Nodup
 pre:N.take P.length=P
 par:∀x∈P,sc.names.lookup x=some .local\/sc.names.lookup x=some .cell
 nofree:∀y∈sc.names,y.2≠.free
def vQ {kindOf:Str->Option NameKind}:∀{binds:List (Str×Value)}{m:Vx},(∀v,(x,v)∉binds)->bindL kindOf binds m x=m x:=by
 intro binds
 induction binds with
 |nil=>intro m _;rfl
 | cons p r I=>
  intro m h;unfold bindL;rw[I λw hw=>h w (qA8 _ hw)]
  split
  .have:x≠p.1:=by rintro rfl;show h p.2 qB3
   simp [this]
  .rfl
def vS {kindOf:Str->Option NameKind}:∀{binds:List (Str×Value)}{m:Vx},(∀v,(x,v)∉binds)->bindC kindOf binds m x=m x:=by
 intro binds
 induction binds with
 |nil=>intro m _;rfl
 | cons p r I=>
  intro m h;unfold bindC;rw[I λw hw=>h w (qA8 _ hw)]
  split
  .rfl
  .have:x≠p.1:=by rintro rfl;show h p.2 qB3
   simp [this]
def vR {kindOf:Str->Option NameKind}:∀{P:VJ}{vs:VZ}{i:Nat}{m:Vx},P.Nodup->P[i]?=some x->vs[i]?=some v->kindOf x=some .local ->
  bindL kindOf (P.zip vs) m x=some v:=by
 intro P
 induction P with
 |nil=>intro vs i m _ h _ _;cases h
 | cons p P T=>
  intro vs i m nd O I hk;cases vs with
  |nil=>cases I
  | cons w vs=>
   change bindL kindOf ((p,w)::P.zip vs) m x=_;unfold bindL;cases i with
   | zero=>
    cases O;cases I;rw[vQ λv hv=>(qU0.mp nd).1 (qZ1 hv).1,qA2 hk];simp
   |succ i=>show T (qU0.mp nd).2 O I hk
def vT {kindOf:Str->Option NameKind}:∀{P:VJ}{vs:VZ}{i:Nat}{m:Vx},P.Nodup->P[i]?=some x->vs[i]?=some v->kindOf x≠some .local ->
  bindC kindOf (P.zip vs) m x=some v:=by
 intro P
 induction P with
 |nil=>intro vs i m _ h _ _;cases h
 | cons p P T=>
  intro vs i m nd O I hk;cases vs with
  |nil=>cases I
  | cons w vs=>
   change bindC kindOf ((p,w)::P.zip vs) m x=_;unfold bindC;cases i with
   | zero=>
    cases O;cases I;rw[vS λv hv=>(qU0.mp nd).1 (qZ1 hv).1,qA4 hk];simp
   |succ i=>show T (qU0.mp nd).2 O I hk
def start (N:VJ)(vs:List V):St:=vs.map some++List.replicate (N.length-vs.length) none
def bF (CX:CXT) (P:Program) (w:World) (K:Frag) (mg:Vx) (base:Heap) (N:VJ) (qual:Str) (scope:Scope) (f:Addr) (O:Value) (A:Around) (outer:List Env) (s:Shared) (H:Hp) (E:XK):Cx where
 prog:=P
 w:=w
 K:=K
 mg:=mg
 base:=base
 A:=A.deeper (envOfC qual scope s.heap.objs.size f O)
 N:=N
 s₀:=s
 H₀:=H
 env:=envOfC qual scope s.heap.objs.size f O
 outer:=outer
 stack:=envOfC qual scope s.heap.objs.size f O::outer
 ex:=[]
 calm:=true
 fn:=λ_=>true
 pn:=[]
 xe:=λe s'=>wpAny (model P w) (A.deeper (envOfC qual scope s.heap.objs.size f O)) (leaving (envOfC qual scope s.heap.objs.size f O) e) (λ_ I=>CX outer H s E e I) (λT I=>CX outer H s E T I) s'
def nU {sc:Scope}(h:sc.names.lookup x=some .cell):∃c,(cellsFrom n sc.names []).lookup x=some c:=by
 have q:=PySem.W.cellsFrom_some sc.names n [] (.inl h);show Option.isSome_iff_exists.mp q
def vc {K:Frag}(S:f8 N ps scope) (hd:A.handled=none) (O:sy P w K mg base A outer s H) (hl:vs.length=ps.length) (r:Vals vs us) (x:InCallC s s.heap.objs.size (bindL (envOfC qual scope s.heap.objs.size f cd).kindOf (ps.zip us) λ_=>none) (cellsFrom (s.heap.objs.size+1) scope.names []) (bindC (envOfC qual scope s.heap.objs.size f cd).kindOf (ps.zip us) λ_=>none) s1):
  Inv (bF CX P w K mg base N qual scope f cd A outer s H E) [] (start N vs) H s1:=by
 have a3:ps.length<=N.length:=by have:=congrArg List.length S.pre;rw[qM2]at this;omega
 obtain ⟨h1,tk,rfl,hk⟩:=x.done;have T:∀b:Addr,b∉(bF CX P w K mg base N qual scope f cd A outer s H E).ex:=λb z=>absurd (show b∈([]:List Addr) from z) ZV;refine ⟨⟨O.mod,S.kind,rfl,rfl,qB4 _,λy z c h1 I=>?_,λy hy=>?_,λy c _ h=>?_,λ_=>hd,Around.frames_deeper O.frames,.inr ⟨rfl,rfl⟩,λb z=>absurd z (T b),O.bs,O.bsz,λb _ _=>T b,λb z=>absurd z (T b),O.funs,O.frf,O.tab⟩,
  rfl,O.bare,Un.kept hk,⟨_,x.toInCall.ns,λi y v h1 I h3=>?_⟩,λy c h=>⟨_,x.cell y c h⟩,O.hok.fresh (qB4 _),λy c h=>?_,λp hp=>absurd (show p∈([]:Vz) from hp) ZV,O.hok.kept hk,?_⟩
 .show name_of_addr x.apart (qG7 h1) (qG7 I)
 .have hy:scope.names.lookup y=some .cell\/scope.names.lookup y=some .free:=hy;rcases hy with hy|hy
  .show nU hy
  .show absurd rfl (S.nofree _ (qG7 hy))
 .show qK4 (x.above y c (qG7 h))
 .have hi:i<vs.length:=by
   unfold start at I;by_cases hi:i<vs.length
   .show hi
   .rw [qH5 (by simpa using hi)]at I
    rw[qI3]at I
    split at I <;> cases I
  have ha:vs[i]?=some v:=by
   unfold start at I;rw[qE6 (by simpa using hi),qA6]at I;cases e:vs[i]? with
   |none=>rw[e]at I;cases I
   |some a=>rw[e]at I;cases I;rfl
  obtain ⟨u,hu,rv⟩:=r.get ha;have hp:ps[i]?=some y:=by
   rw[<- S.pre,qR6 ox];show h1
  have a0:ps.Nodup:=by rw[<- S.pre];show S.nd.sublist (List.take_sublist _ _)
  refine ⟨u,rv,?_⟩;rcases S.par y (qD4 hp) with k|k
  .show .inl ⟨k,vR a0 hp hu k⟩
  .obtain ⟨c,e⟩:=nU (n:=s.heap.objs.size+1) k;refine .inr ⟨.inl k,c,e,?_⟩;have q:=x.cell y c e;rw[vT a0 hp hu (by change scope.names.lookup y≠_;rw[k];decide)]at q;show q
 .show O.hok.fresh (qK4 (x.above y c (qG7 h)))
 .unfold start
  change _=N.length;rw[qD1,qA5,qM0];omega
def zJ {K:Frag}{kV:Value}(lk:K.lookup f=some ⟨oc,od,.func (PySem.W.fnOf name qual params body scope dV kV doc pm an cdv ct),osl⟩) (a5:PySem.W.codeIn K cdv qual=true) (S:f8 N ps scope) (len:∀vs H Q E,sp vs H Q E->vs.length=ps.length) (T:∀(A:Around) (outer:List Env) (s:Shared) (H:Hp) (vs:List V) (Q:VK) (E:XK),Room k (A.deeper (envOfC qual scope s.heap.objs.size f cdv))->sp vs H Q E ->
   ∃t,PSs (bF CX P w K mg base N qual scope f cdv A outer s H E) body t/\t { nx:=λ_ H'=>Q .non H',rt:=Q } (start N vs) H):
  FnOk P w K mg base CX (k+1) f (PySem.W.fnOf name qual params body scope dV kV doc pm an cdv ct) ps sp:=by
 refine ⟨len,λA outer s H args us vs Q E hr e0 hb r a4=>?_⟩;have hl:=len _ _ _ _ a4;have KX:K.In s.heap:=e0.mod.kin.keeps λb o e=>(e0.bs b o e).1;have lim:s.heap.NoLimit:=e0.mod.nolimit.keeps λb o e=>(e0.bs b o e).1;have a0:∀y∈ps.zip us,scope.names.lookup y.1=some .local\/(scope.names.lookup y.1=some .cell/\((cellsFrom (s.heap.objs.size+1) scope.names []).lookup y.1).isSome=true):=λa3 hy=>by
  obtain ⟨n,v⟩:=a3;rcases S.par n (qZ1 hy).1 with q|q
  .show .inl q
  .show .inr ⟨q,PySem.W.cellsFrom_some _ _ _ (.inl q)⟩
 refine codeAny_call_function hr.depth (KX _ _ lk) rfl S.co S.gen rfl (PySem.W.codeRec_of KX a5) (hb _ _ _ _ ?_);refine wpAny_newFunctionEnv_cells S.kind a0 λenv he s1 x=>?_;subst he;refine ⟨lim.keeps x.toInCall.keep,codeAny_func ?_⟩;obtain ⟨t,ht,hq⟩:=T A outer s H vs Q E (hr.deeper _) a4;have I:Inv (bF CX P w K mg base N qual scope f cdv A outer s H E) [] (start N vs) H s1:=vc S hr.hd e0 hl r x;refine qP8 (ht [] s1 (start N vs) H _ I hq) (λfl s' hs=>?_) λe s' hs=>hs;have fin:∀{O:St}{H':Hp}{v:V}{u:Value},Inv (bF CX P w K mg base N qual scope f cdv A outer s H E) [] O H' s'->RelV v u->Q v H'->CE outer P w H s Q u s':=
  λ{O H' v u} J rv q=>⟨v,H',J.os,J.bare,J.base,J.hok,rv,q⟩
 cases fl with
 | ret u=>
  obtain ⟨v,O,H',J,rv,q⟩:=hs;show fin J rv q
 | next=>
  obtain ⟨O,H',J,q⟩:=hs;show fin (v:=V.non) (u:=Value.none) J rfl q
 | brk=>
  obtain ⟨_,_,_,q⟩:=hs;show False.elim q
 | cont=>
  obtain ⟨_,_,_,q⟩:=hs;show False.elim q
def tCB (r:List V->Hp->VK->Prop)(t:TA):TE:=λσ H Q=>t σ H λvs H1=>r vs H1 Q
def xz {X:Cx}{x:Str}{p pos:Pos}{e:Expr}{es:VV}{t:TA}{id:String}{r:List V->Hp->VK->Prop}(hc:K6 X (.builtin id) r) (hg:Gl X x) (hm:X.mg x=none) (hv:bootBuiltins x=some (.builtin id)) (ha:PA X (e::es) t) (hn:x ≠ "__name__" := by decide) (T:(x == ("__debug__" : Str))=false:=by decide) (he:starEach (e::es) X.env=(false,eval e X.env)::starEach es X.env:=by rfl) (a0:(backTo pos (starEach es X.env)).any (·.1)=false:=by rfl):PE X (.Call (.Name x p) (e::es) [] pos) (tCB r t):=by
 intro pins s σ H Q I h;refine qP3 (M5 I hg hm hv ?_ hn T);show PyProof.Rows.callWith_builtin1 (thn (ha pos pins s σ H _ I h) λus s1 O=>by obtain ⟨vs,H1,I1,r1,q1⟩:=O;show hc pins s1 σ H1 vs us Q I1 r1 q1) he a0
def uo {X:Cx}{x:Str}{p pos:Pos}{e:Expr}{es:VV}{t:TA}{T:String}{r:List V->Hp->VK->Prop}(hc:K6 X (.type T) r) (hg:Gl X x) (hm:X.mg x=none) (hv:bootBuiltins x=some (.type T)) (ha:PA X (e::es) t) (hn:x ≠ "__name__" := by decide) (a0:(x == ("__debug__" : Str))=false:=by decide) (he:starEach (e::es) X.env=(false,eval e X.env)::starEach es X.env:=by rfl) (a3:(backTo pos (starEach es X.env)).any (·.1)=false:=by rfl):PE X (.Call (.Name x p) (e::es) [] pos) (tCB r t):=by
 intro pins s σ H Q I h;refine qP3 (M5 I hg hm hv ?_ hn a0);show qG3 (thn (ha pos pins s σ H _ I h) λus s1 O=>by obtain ⟨vs,H1,I1,r1,q1⟩:=O;show hc pins s1 σ H1 vs us Q I1 r1 q1) he a3
end L2
namespace HT
open PySem PyProof.Rows
def lexLt:List Int->List Int->Bool
 | [],[]=>false
 | [],_::_=>true
 |_::_,[]=>false
 |x::xs,y::ys=>if x=y then lexLt xs ys else decide (x<y)
section
open PySem.SeqAt
open PySem.AutoSeq1 (wpAny_loadPart')
open PySem.MeetsSeq PySem.MeetsSeq2 PySem.MeetsSeq3
end
def cat_tup (ht:IsTup s.heap t vs.toArray) (hb:IsTup s.heap b ws.toArray) (hv:vs ≠ []) (h1:ws = []->Q (.ref t) s) (h2:ws ≠ []->Q (.ref s.heap.objs.size) { s with heap:=s.heap.push { cls:=.type "tuple",data:=.seq (vs++ws).toArray } }) (a4:vs.length+ws.length<=sizeLine):wpAny (model prog w) A (binaryOp .Add (.ref t) (.ref b)) Q E s:=by
 obtain ⟨⟨cls,dd,data,sl⟩,ho,hc,n,hd⟩:=id ht;obtain ⟨⟨a5,a3,data2,O⟩,I,T,n2,a0⟩:=id hb;simp only at hc hd T a0;subst hc hd T a0;have e:vs.toArray++ws.toArray=(vs++ws).toArray:=ZV;by_cases hw:ws = []
 .show concat_meets ⟨_,ho,rfl⟩ ⟨_,I,rfl⟩ qX3 seq_tuple_add qS6 qS2 (qR7 _ _)
   (tuple_addW1 t b vs.toArray ws.toArray n n2 dd a3 sl O (by simpa using hv) (by simp [hw])) ⟨ho,I,h1 hw⟩
 .refine concat_meets ⟨_,ho,rfl⟩ ⟨_,I,rfl⟩ qX3 seq_tuple_add qS6 qS2 (qR7 _ _)
   (tuple_addW2 t b vs.toArray ws.toArray n n2 dd a3 sl O (by simpa using hv) (by simpa using hw) (by rw[qB8,qB8];show a4)) ⟨ho,I,?_⟩
  rw[e];show h2 hw
def sIx (n d:Nat):Option Int->Nat
 |none=>d
 |some v=>if v<0 then (v+(n:Int)).toNat else min v.toNat n
def sIx_none (n d:Nat):sIx n d none=d:=rfl
def sIx_nat (n d k:Nat):sIx n d (some (k:Int))=min k n:=by
 change (if (k:Int)<0 then ((k:Int)+(n:Int)).toNat else min (k:Int).toNat n)=min k n;rw[qA4 ox,qD9]
def tR (n d:Nat) (hd:d<=n) (o:VQ):sIx n d o<=n:=by
 cases o with
 |none=>show hd
 | some v=>
  change (if v<0 then (v+(n:Int)).toNat else min v.toNat n)<=n;by_cases I:v<0
  .rw[qA2 I];omega
  .rw[qA4 I];show qM3 _ _
def qj (v:Int) (n d:Nat):(if v<0 then max (v+(n:Int)) 0 else min v (n:Int))=((sIx n d (some v):Nat):Int):=by
 change (if v<0 then max (v+(n:Int)) 0 else min v (n:Int))=(((if v<0 then (v+(n:Int)).toNat else min v.toNat n):Nat):Int);by_cases I:v<0
 .simp only [qA2 I];omega
 .simp only [qA4 I];omega
def sj (lo hi:VQ) (n:Nat):Builtin.Slice.sliceAdjust lo hi 1 (n:Int)=(((sIx n 0 lo:Nat):Int),((sIx n n hi:Nat):Int)):=by
 have I:¬ ((1:Int)<0):=ox;unfold Builtin.Slice.sliceAdjust;simp only [I,qP1];refine Prod.ext ?_ ?_
 .cases lo with
  |none=>rfl
  |some v=>show qj v n 0
 .cases hi with
  |none=>rfl
  |some v=>show qj v n n
def qM (i j:Nat):Builtin.Slice.slicePlaces (i:Int) (j:Int) 1=j-i:=by
 unfold Builtin.Slice.slicePlaces;have I:(1:Int)>0:=ox;simp only [I,qP0,Int.ediv_one]
 split <;> omega
def hJ (p:IsPart v o) (h:Q o s):wpAny (model prog w) A (Builtin.Slice.slicePartIndex v) Q E s:=by
 cases p with
 |none=>show slicePart_none h
 |int i t=>show slicePart_int h
def ao {lo:VQ}{n:Nat}(T:s.heap.IsSliceOf sl vl vu .none) (pl:IsPart vl lo) (pu:IsPart vu hi) (h:Q (((sIx n 0 lo:Nat):Int),1,sIx n n hi-sIx n 0 lo) s):wpAny (model prog w) A (Builtin.Slice.sliceApplied (.ref sl) (pure (n:Int))) Q E s:=by
 obtain ⟨os,O,a0,I⟩:=id T;unfold Builtin.Slice.sliceApplied Builtin.Slice.sliceFields;refine qA1 (qA1 (qP2 O I (x:=vl) rfl (qA1 (qP2 O I (x:=vu) rfl (qA1 (qP2 O I (x:=.none) rfl (qO6 ?_)))))));refine qA1 (slicePart_none ?_)
 change wpAny _ _ (if ((1:Int) == 0)=true then _ else _) _ _ s;rw[qA4 ZY];refine qA1 (hJ pl (qA1 (hJ pu (qA1 (qO6 ?_)))))
 change wpAny _ _ (match Builtin.Slice.sliceAdjust lo hi 1 (n:Int) with | (lo,hi)=>pure (lo,(1:Int),Builtin.Slice.slicePlaces lo hi 1)) _ _ s;rw[sj lo hi n]
 change wpAny _ _ (pure (((sIx n 0 lo:Nat):Int),(1:Int),Builtin.Slice.slicePlaces ((sIx n 0 lo:Nat):Int) ((sIx n n hi:Nat):Int) 1)) _ _ s;rw[qM];show qO6 h
def xv (xs:VW) (i k:Nat):((List.range k).filterMap λ(m:Nat)=>xs[((i:Int)+(m:Int)*1).toNat]?).toArray=((xs.toList.drop i).take k).toArray:=by
 have e:(λ(m:Nat)=>xs[((i:Int)+(m:Int)*1).toNat]?)=λm=>xs[i+m]?:=by
  funext m
  have:((i:Int)+(m:Int)*1).toNat=i+m:=ox
  rw[this]
 rw[e]
 have:=pick_run xs i k
 rw[List.filterMap_map]at this;have I:((λx=>xs[x]?)∘λx=>i+x)=λm=>xs[i+m]?:=rfl;rw[I]at this;rw[this]
def getItem_tuple_cut {lo:VQ}(O:IsTup s.heap t items) (hs:s.heap.IsSliceOf sl vl vu .none) (pl:IsPart vl lo) (pu:IsPart vu hi) (hw:¬ (sIx items.size 0 lo=0/\sIx items.size items.size hi=items.size)) (h:Q (.ref s.heap.objs.size) { s with heap:=s.heap.push { cls:=.type "tuple",data:=.seq ((items.toList.drop (sIx items.size 0 lo)).take (sIx items.size items.size hi-sIx items.size 0 lo)).toArray } }) (a5:items.size<=sizeLine):wpAny (model prog w) A (getItem (.ref t) (.ref sl)) Q E s:=by
 have I:sizeOk (.seq ((items.toList.drop (sIx items.size 0 lo)).take (sIx items.size items.size hi-sIx items.size 0 lo)).toArray):=by
  change ((items.toList.drop (sIx items.size 0 lo)).take (sIx items.size items.size hi-sIx items.size 0 lo)).toArray.size<=sizeLine;rw[qB8,qM2,qL0,qM7];omega
 have hj:sIx items.size items.size hi<=items.size:=tR _ _ (qB4 _) hi;obtain ⟨os,a4,T,a6⟩:=id hs;have a3:s.TypeIs (.ref sl) "slice" := ⟨os,a4,T⟩;unfold getItem
 try with_reducible refine qP4 ?_
 first|refine qA1 (qO6 ?_)|skip
 refine qA1 (wpAny_sequenceKey O.typeIs ZY ?_);refine qA1 (qP7 (name:=Str.ofString "__getitem__") O.typeIs qJ2
  (qQ8 qJ2 O.typeIs entry_tuple_getitem ?_ (args_tuple_getitem _ _)))
 change wpAny _ _ (Builtin.Tuple.tupleItemsOf (.ref t)>>=_) _ _ s;refine qA1 (tupleItemsOf_ O ?_);refine qA1 (qX4 a3 ?_);rw[qA2 ZY];refine qA1 (ao hs pl pu ?_);have a0:¬ ((((sIx items.size 0 lo:Nat):Int) == 0&&(1:Int) == 1&&(sIx items.size items.size hi-sIx items.size 0 lo) == items.size)=true):=by
  intro q;rw[qG6,qG6]at q;have q1:((sIx items.size 0 lo:Nat):Int)=0:=eq_of_beq q.1.1;have q2:sIx items.size items.size hi-sIx items.size 0 lo=items.size:=eq_of_beq q.2;show hw ⟨ox,ox⟩
 change wpAny _ _ (if (((sIx items.size 0 lo:Nat):Int) == 0&&(1:Int) == 1&&(sIx items.size items.size hi-sIx items.size 0 lo) == items.size)=true then _ else _) _ _ s;rw[qA4 a0,xv]
 first
  |show qA1 (m:=Builtin.Tuple.tupleExact _) (qP5 (qO6 ⟨_,rfl,qO6 h⟩) I)
  |show qA1 (m:=Builtin.Tuple.tupleExact _) (qP5 (qA1 (qO6 (qO6 ⟨_,rfl,qO6 h⟩))) I)
  |show qA1 (qA1 (m:=Builtin.Tuple.tupleExact _) (qP5 (qO6 (qO6 ⟨_,rfl,qO6 h⟩)) I))
  |show qA1 (qA1 (m:=Builtin.Tuple.tupleExact _) (qP5 (qO6 ⟨_,rfl,qO6 h⟩) I))
end HT
namespace L2
open PySem PySem.Spec PyProof.Rows
abbrev TO:=St->Hp->(Option Int->Hp->Prop)->Prop
def PO (X:Cx) (e:Option Expr) (t:TO):Prop:=
 ∀ (pins:Vz) (s:Shared) (σ:St) (H:Hp) (Q:Option Int->Hp->Prop),Inv X pins σ H s->t σ H Q ->
  wpAny (model X.prog X.w) X.A (evalPart e X.env) (λu s'=>∃o H',Inv X pins σ H' s'/\IsPart u o/\Q o H') X.xe s
def tNoPart:TO:=λ_ H Q=>Q none H
def zf (t:TE):TO:=λσ H Q=>t σ H λx H1=>∃i,x=.int i/\Q (some i) H1
def po_none:PO X none tNoPart:=by
 intro pins s σ H Q I h;rw[evalPart_none];show qO6 ⟨none,H,I,.none,h⟩
def AV (h:PE X e te):PO X (some e) (zf te):=by
 intro pins s σ H Q I hw;rw[evalPart_some];refine thn (h pins s σ H _ I hw) λu s1 O=>?_;obtain ⟨x,H1,I1,r1,T⟩:=O;obtain ⟨i,rfl,q⟩:=T;obtain ⟨t,rfl⟩:=r1;show ⟨some i,H1,I1,.int i t,q⟩
def SlR (X:Cx) (r:V->Option Int->Option Int->Hp->VK->Prop):Prop:=
 ∀ (pins:Vz) (s:Shared) (σ:St) (H:Hp) (x:V) (v I O:Value) (lo hi:VQ) (sl:Addr) (Q:VK),Inv X pins σ H s->RelV x v->s.heap.IsSliceOf sl I O .none->IsPart I lo->IsPart O hi->r x lo hi H Q ->
  ∃T id,typeLookup (.type T) "__getitem__" = pure (some (.builtin id))/\s.TypeIs v T/\wpAny (model X.prog X.w) X.A (getItem v (.ref sl)) (EP X pins σ Q) X.xe s
def SlR.or (h:SlR X r) (h':SlR X r'):SlR X (λx lo hi H Q=>r x lo hi H Q\/r' x lo hi H Q):=by
 intro pins s σ H x v vl vu lo hi sl Q I T O pl pu q;rcases q with q|q
 .show h pins s σ H x v vl vu lo hi sl Q I T O pl pu q
 .show h' pins s σ H x v vl vu lo hi sl Q I T O pl pu q
def tSl (r:V->Option Int->Option Int->Hp->VK->Prop)(O:TE)(tl I:TO):TE:=λσ H Q=>O σ H λx H1=>tl σ H1 λl H2=>I σ H2 λu T=>r x l u T Q
def mE {lo:Option Expr}(hr:SlR X r) (he:PE X e te) (hl:PO X lo tl) (hu:PO X hi th):PE X (.Subscript e (.Slice lo hi none p2) pos) (tSl r te tl th):=by
 intro pins s σ H Q I h;refine Subscript_ (thn (he pins s σ H _ I h) λv s1 a0=>?_);obtain ⟨x,H1,I1,r1,q1⟩:=a0;refine wpAny_Slice (thn (hl pins s1 σ H1 _ I1 q1) λvl s2 ⟨l,H2,I2,pl,q2⟩=>thn (hu pins s2 σ H2 _ I2 q2) λvu O a3=>?_);obtain ⟨u,H3,I3,pu,q3⟩:=a3;rw[evalPart_none];refine qO6 ?_;have I4:Inv X pins σ H3 { O with heap:=O.heap.push { cls:=.type "slice",data:=.fields #[vl,vu,.none] } }:=I3.kept (t':=O.toks) λb ob q=>qA7 _ q;obtain ⟨T,id,hT,ht,hg⟩:=hr pins { O with heap:=O.heap.push { cls:=.type "slice",data:=.fields #[vl,vu,.none] } } σ H3 x v vl vu l u O.heap.objs.size Q I4 r1 (Heap.IsSliceOf.new ..) pl pu q3
 change wpAny (model X.prog X.w) X.A (subscriptTail e (.Slice lo hi none p2) v (.ref O.heap.objs.size)) (EP X pins σ Q) X.xe { O with heap:=O.heap.push { cls:=.type "slice",data:=.fields #[vl,vu,.none] } };show tail_any (ops:=[.ref O.heap.objs.size,v]) ht hT hg (by with_unfolding_all rfl)
def db (xs:List V)(lo hi:VQ):List V:=(xs.drop (HT.sIx xs.length 0 lo)).take (HT.sIx xs.length xs.length hi-HT.sIx xs.length 0 lo)
def gd (xs:List V) (lo hi:VQ):(db xs lo hi).length<=xs.length:=by
 unfold db;rw[qM2,qL0];omega
def EF (K:Frag):V->Option Int->Option Int->Hp->VK->Prop:=λx lo hi H Q=>∃a xs,x=.ref a/\SqT K H a xs /\
 ¬ (HT.sIx xs.length 0 lo=0/\HT.sIx xs.length xs.length hi=xs.length)/\∀p,H p=none->Q (.ref p) (upd H p (.tup (db xs lo hi)))
def DM:SlR X (EF X.K):=by
 intro pins s σ H x v vl vu lo hi sl Q I rx T pl pu h;obtain ⟨a,xs,rfl,hx,hw,q⟩:=h;cases rx;obtain ⟨its,r,O,hz⟩:=I.tuple hx;have hlen:its.toArray.size=xs.length:=by rw[qB8];show r.length.symm
 refine ⟨"tuple",_,PyProof.Rows.slot_tuple_getitem.lookup,O.typeIs,?_⟩;refine HT.getItem_tuple_cut O T pl pu (by rw[hlen];show hw) ?_ (by rw[hlen];show hz);rw[hlen];refine ⟨.ref s.heap.objs.size,_,I.laid (t':=s.toks) (o:=.tup (db xs lo hi)) (λb ob q=>qA7 _ q) (qB4 _) ?_,rfl,q _ (I.hok.fresh (qB4 _))⟩;show ⟨qC1 (gd xs lo hi) hz,_,(r.drop (HT.sIx xs.length 0 lo)).take (HT.sIx xs.length xs.length hi-HT.sIx xs.length 0 lo),IsTup.new _ _⟩
def zn (K:Frag):R2:=λx y H Q=>∃a b xs ys,x=.ref a/\y=.ref b/\SqT K H a xs/\SqT K H b ys/\xs ≠ []/\xs.length+ys.length<=sizeLine /\
 (ys = []->Q (.ref a) H)/\(ys ≠ []->∀p,H p=none->Q (.ref p) (upd H p (.tup (xs++ys))))
def Vals.nil_iff (r:Vals xs us):us = []↔xs = []:=by
 cases r with
 |nil=>simp
 |cons _ _=>simp
def Bh:OpR X (binaryOp .Add) (zn X.K):=by
 intro pins s σ H x y v u Q I rx ry h;obtain ⟨a,b,xs,ys,rfl,rfl,ha,hb,hx,hz,q1,q2⟩:=h;cases rx;cases ry;obtain ⟨its,T,p1,_⟩:=I.tuple ha;obtain ⟨a0,O,p2,_⟩:=I.tuple hb;refine HT.cat_tup p1 p2 (λz=>hx (T.nil_iff.mp z)) (λz=>⟨.ref a,H,I,rfl,q1 (O.nil_iff.mp z)⟩) (λz=>?_) (by rw[<- T.length,<- O.length];show hz);refine ⟨.ref s.heap.objs.size,_,I.laid (t':=s.toks) (o:=.tup (xs++ys)) (λb ob q=>qA7 _ q) (qB4 _) ?_,rfl,q2 (λw=>z (O.nil_iff.mpr w)) _ (I.hok.fresh (qB4 _))⟩;show ⟨by rw[qD1];show hz,_,T.append O,IsTup.new _ _⟩
def ixN (n:Nat) (i:Int):Option Nat:=if 0<=i then (if i<n then some i.toNat else none) else if -(n:Int)<=i then some (i+n).toNat else none
def atI {α:Type}(xs:List α) (i:Int):Option α:=(ixN xs.length i).bind λj=>xs[j]?
def pP (h:ixN n i=some j):seqIndex? i n=some j/\j<n /\ -(n:Int)<=i/\i<n:=by
 unfold ixN at h;by_cases h0:0<=i
 .rw [qA2 h0]at h
  by_cases I:i<n
  .rw [qA2 I]at h
   have e:i.toNat=j:=Option.some.inj h;show ⟨by rw[seqIndex_of h0 I,e],ox,ox,I⟩
  .rw[qA4 I]at h;cases h
 .rw [qA4 h0]at h
  by_cases I:-(n:Int)<=i
  .rw [qA2 I]at h
   have e:(i+n).toNat=j:=Option.some.inj h;show ⟨by rw[seqIndex_neg ox I,e],ox,I,ox⟩
  .rw[qA4 I]at h;cases h
def jM {xs:List α}(h:atI xs i=some v):∃j,seqIndex? i xs.length=some j/\xs[j]?=some v/\j<xs.length /\ -(xs.length:Int)<=i/\i<xs.length:=by
 unfold atI at h;cases e:ixN xs.length i with
 |none=>rw[e]at h;cases h
 | some j=>
  rw[e]at h;obtain ⟨O,T,h3,I⟩:=pP e;show ⟨j,O,h,T,h3,I⟩
def jQ (b:Expr):Prop:=∀o i,subscripted b false o i=operate [o,i] (getItem o i)
def IxR (X:Cx) (r:R2):Prop:=
 ∀ (value slice:Expr) (pins:Vz) (s:Shared) (σ:St) (H:Hp) (x y:V) (v u:Value) (Q:VK),Inv X pins σ H s->RelV x v->RelV y u->r x y H Q ->
  subscripted slice false v u=operate [v,u] (getItem v u)->wpAny (model X.prog X.w) X.A (subscriptTail value slice v u) (EP X pins σ Q) X.xe s
def MtR (X:Cx) (id:String) (r:V->List V->Hp->VK->Prop):Prop:=
 ∀ (pins:Vz) (s:Shared) (σ:St) (H:Hp) (x:V) (xs:List V) (v:Value) (us:VZ) (Q:VK),Inv X pins σ H s->RelV x v->Vals xs us->r x xs H Q ->
  wpAny (model X.prog X.w) X.A (call (.builtin id) (v::us)) (EP X pins σ Q) X.xe s
def IxR.or (h:IxR X r) (h':IxR X r'):IxR X (λx y H Q=>r x y H Q\/r' x y H Q):=by
 intro value slice pins s σ H x y v u Q I T ry q O;rcases q with q|q
 .show h value slice pins s σ H x y v u Q I T ry q O
 .show h' value slice pins s σ H x y v u Q I T ry q O
def zy (hr:IxR X r) (ha:PE X a ta) (hb:PE X b tb) (O:jQ b):PE X (.Subscript a b pos) (tOp r ta tb):=by
 intro pins s σ H Q I h;show Subscript_ (yW ha hb I h λv u s2 x y H2 I2 rx T q=>hr a b pins s2 σ H2 x y v u Q I2 rx T q (O _ _))
def EM (K:Frag):R2:=λx y H Q=>∃p xs i v,x=.ref p/\y=.int i/\SqL K H p xs/\atI xs i=some v/\Q v H
def EL (K:Frag):R2:=λx y H Q=>∃p xs i v,x=.ref p/\y=.int i/\SqT K H p xs/\atI xs i=some v/\Q v H
def rIxS:R2:=λx y H Q=>∃z i c,x=.str z/\y=.int i/\z.length<=sizeLine/\atI z.cps.toList i=some c/\Q (.str ⟨#[c]⟩) H
def ix_list:IxR X (EM X.K):=by
 intro value slice pins s σ H x y v u Q I rx ry h hs;obtain ⟨p,xs,i,z,rfl,rfl,hq,he,q⟩:=h;cases rx;obtain ⟨t,rfl⟩:=ry;obtain ⟨its,r,pl,hz⟩:=I.list hq;obtain ⟨j,O,h2,h3,h4,h5⟩:=jM he;obtain ⟨w,ew,T⟩:=r.get h2;have hl:=r.length;have hn:=bY;have fin:EP X pins σ Q w s:=⟨z,H,I,T,q⟩;by_cases h0:0<=i
 .have hj:i.toNat=j:=by
   rw[seqIndex_of h0 h5]at O;show Option.some.inj O
  show item_listR pl.isList h0 ox (by rw[hj];simpa using ew) fin hs
 .have hj:(i+(its.toArray.size:Int)).toNat=j:=by
   rw[seqIndex_neg ox h4]at O;rw[qB8,<- hl];show Option.some.inj O
  show subscriptTail_builtinR (x:=w) pl.isList.typeIs slot_list_getitem.lookup
   (wpAny_getItem_list_neg (Q:=λr s'=>r=w/\EP X pins σ Q r s') pl.isList ox (by rw[qB8] <;> omega) ox (by rw[hj];simpa using ew) ⟨rfl,fin⟩) hs
def ix_tup:IxR X (EL X.K):=by
 intro value slice pins s σ H x y v u Q I rx ry h T;obtain ⟨p,xs,i,z,rfl,rfl,hq,he,q⟩:=h;cases rx;obtain ⟨t,rfl⟩:=ry;obtain ⟨its,r,pl,hz⟩:=I.tuple hq;obtain ⟨j,h1,h2,h3,h4,h5⟩:=jM he;obtain ⟨w,ew,O⟩:=r.get h2;have hl:=r.length;have hn:=bY;have fin:EP X pins σ Q w s:=⟨z,H,I,O,q⟩;show subscriptTail_builtinR (x:=w) pl.typeIs slot_tuple_getitem.lookup
  (getItem_tuple (j:=j) (Q:=λr s'=>r=w/\EP X pins σ Q r s') pl ox ox (by rw[qB8,<- hl];show h1) (by simpa using ew) ⟨rfl,fin⟩) T
def FW:IxR X rIxS:=by
 intro value slice pins s σ H x y v u Q I rx ry h T;obtain ⟨z,i,c,rfl,rfl,hz,he,q⟩:=h;obtain ⟨t,rfl⟩:=rx;obtain ⟨t',rfl⟩:=ry;obtain ⟨j,O,h2,h3,h4,h5⟩:=jM he;have hl:z.cps.toList.length=z.length:=by simp [Str.length]
 rw[hl]at O h4 h5;have hn:=bY;show tail_any (typeIs_str s z t) slot_str_getitem.lookup (getItem_str (c:=c) (by
  have e1:decide (i < -(2^63:Int))=false:=qO7 ox;have e2:decide (i≥2^63)=false:=qO7 ox;rw[e1,e2,xC2]) (by rw[O];simpa using h2) ⟨.str ⟨#[c]⟩,H,I.tok _,⟨_,rfl⟩,q⟩) T
def rIx (K:Frag):R2:=λx y H Q=>EM K x y H Q\/EL K x y H Q\/rIxS x y H Q
def uV:IxR X (rIx X.K):=ix_list.or (ix_tup.or FW)
def rd (its:VZ) (n j:Nat) (u:Value):Obj.mapSeq (·.setIfInBounds j u) { cls:=.type "list",data:=.seq its.toArray n }={ cls:=.type "list",data:=.seq (its.set j u).toArray n }:=by
 simp [Obj.mapSeq]
def Inv.lst {σ:St}(I:Inv X pins σ H s) (h:H p=some (.lst xs)):
  ∃(its:VZ) (n:Nat),Vals xs its/\s.heap.get? p=some { cls:=.type "list",data:=.seq its.toArray n }/\xs.length<=sizeLine:=by
 obtain ⟨z,its,n,r,e⟩:=I.hok p _ h;show ⟨its,n,r,e,z⟩
def Inv.lstUpd {σ:St}{its:VZ}(I:Inv X pins σ H s) (h:H p=some (.lst xs)) (T:s.heap.get? p=some { cls:=.type "list",data:=.seq its.toArray n }) (O:f { cls:=.type "list",data:=.seq its.toArray n }={ cls:=.type "list",data:=.seq its'.toArray n' }) (r:Vals ys its') (hz:ys.length<=sizeLine) (t:Nat):
  Inv X pins σ (upd H p (.lst ys)) { s with heap:=s.heap.update p f,toks:=t }:=by
 have e:(s.heap.update p f).get? p=some { cls:=.type "list",data:=.seq its'.toArray n' }:=by
  rw[qK6 f T (by rw[O] <;> rfl),O]
 refine I.write (x:=p) (e:=p) (by rw[h];trivial) (.inl rfl) (λb u hb q=>(qL4 _ _ (Ne.symm hb)).trans q) ⟨_,e⟩ ?_;show ⟨hz,its',n',r,e⟩
def rSetL:V->V->V->Hp->(Hp->Prop)->Prop:=λo i v H Q=>∃p xs k j,o=.ref p/\i=.int k/\H p=some (.lst xs)/\ixN xs.length k=some j/\Q (upd H p (.lst (xs.set j v)))
def set_list:Iu X rSetL:=by
 intro pins s σ H o i v ov iv u Q I ro ri rv h;obtain ⟨p,xs,k,j,rfl,rfl,hp,hj,q⟩:=h;cases ro;obtain ⟨t,rfl⟩:=ri;obtain ⟨its,n,r,ho,hz⟩:=I.lst hp;obtain ⟨O,h2,h3,h4⟩:=pP hj;have T:=r.length;have hn:=bY;have I':Inv X pins σ (upd H p (.lst (xs.set j v))) { s with heap:=s.heap.update p (Obj.mapSeq (·.setIfInBounds j u)) }:=
  I.lstUpd hp ho (rd its n j u) (r.set rv j) (by rw[qF2];show hz) s.toks
 by_cases h0:0<=k
 .have hk:k.toNat=j:=by
   rw[seqIndex_of h0 h4]at O;show Option.some.inj O
  show PySem.W.ki_setAt ho h0 ox (by rw[qB8,<- T];show h4) (by rw[hk];show ⟨_,I',q⟩)
 .have hk:(k+(its.toArray.size:Int)).toNat=j:=by
   rw[seqIndex_neg ox h3]at O;rw[qB8,<- T];show Option.some.inj O
  show PySem.W.ki_setBack ho ox (by rw[qB8,<- T];show h3) ox (by rw[hk];show ⟨_,I',q⟩)
def lM (lo hi:VQ) (n:Nat):(sliceBounds lo hi none n).1=((HT.sIx n 0 lo:Nat):Int)/\(sliceBounds lo hi none n).2.1=((HT.sIx n n hi:Nat):Int)/\(sliceBounds lo hi none n).2.2=1:=by
 refine ⟨?_,?_,rfl⟩
 .cases lo with
  |none=>simp [sliceBounds,HT.sIx]
  | some i=>
   simp only [sliceBounds,HT.sIx,Option.getD_none,show (1:Int)>0 by decide,qP0];by_cases h:i<0
   .simp only [h,qP0] <;> omega
   .simp only [h,qP1] <;> omega
 .cases hi with
  |none=>simp [sliceBounds,HT.sIx]
  | some i=>
   simp only [sliceBounds,HT.sIx,Option.getD_none,show (1:Int)>0 by decide,qP0];by_cases h:i<0
   .simp only [h,qP0] <;> omega
   .simp only [h,qP1] <;> omega
def kN (its:VZ) (lo hi:VQ):slicePick its.toArray lo hi none=((its.drop (HT.sIx its.length 0 lo)).take (HT.sIx its.length its.length hi-HT.sIx its.length 0 lo)).toArray:=by
 obtain ⟨I,O,T⟩:=lM lo hi its.toArray.size;unfold slicePick;rw[I,O,T];simp only [sliceRange_one,pick_run,qB8] <;> rfl
def EG (K:Frag):V->Option Int->Option Int->Hp->VK->Prop:=λx lo hi H Q=>∃a xs,x=.ref a/\SqL K H a xs/\∀p,H p=none->Q (.ref p) (upd H p (.lst (db xs lo hi)))
def Ao:SlR X (EG X.K):=by
 intro pins s σ H x v vl vu lo hi sl Q I rx T pl pu h;obtain ⟨a,xs,rfl,hx,q⟩:=h;cases rx;obtain ⟨its,r,O,hz⟩:=I.list hx;have hlen:=r.length;refine ⟨"list",_,slot_list_getitem.lookup,O.isList.typeIs,?_⟩;refine wpAny_getItem_list_slice O.isList T pl pu .none ZV ?_ (by rw[qB8] <;> omega)
 rw[kN,<- hlen];refine ⟨.ref s.heap.objs.size,_,I.laid (t':=s.toks) (o:=.lst (db xs lo hi)) (λb ob q=>qA7 _ q) (qB4 _) ?_,rfl,q _ (I.hok.fresh (qB4 _))⟩;show ⟨qC1 (gd xs lo hi) hz,_,0,(r.drop (HT.sIx xs.length 0 lo)).take (HT.sIx xs.length xs.length hi-HT.sIx xs.length 0 lo),qC0 _ rfl⟩
def zK:V->Bool
 | .non=>true
 | .bl _=>true
 | .int _=>true
 | .str _=>true
 |_=>false
def eqV:V->V->Bool
 | .non,.non=>true
 | .bl a,.bl b=>a == b
 | .bl a,.int b=>(if a then 1 else 0) == b
 | .int a,.bl b=>a == (if b then 1 else 0)
 | .int a,.int b=>a == b
 | .str a,.str b=>a == b
 |_,_=>false
def inV (x:V)(xs:List V):Bool:=xs.any λy=>eqV y x
def rIn (K:Frag)(neg:Bool):R2:=λx y H Q=>∃p xs,y=.ref p/\(SqL K H p xs\/SqT K H p xs)/\zK x=true/\xs.all zK=true/\Q (.bl (if neg then !inV x xs else inV x xs)) H
def nV:K6 X (.builtin "len") (λxs H Q=>∃p ys,xs = [.ref p]/\(SqL X.K H p ys\/SqT X.K H p ys)/\Q (.int ys.length) H):=by
 intro pins s σ H xs us Q I r h;obtain ⟨p,ys,rfl,O,q⟩:=h;obtain ⟨u,rfl,rx⟩:=vals1 r;cases rx;have hn:=bY;rcases O with O|O
 .obtain ⟨its,T,pl,hz⟩:=I.list O;have hlen:=T.length;show Calls.call_len_list pl.isList (by simp only [qB8] <;> omega) ⟨.int ys.length,H,I.tok _,⟨s.toks+1,by rw[qB8,hlen]⟩,q⟩
 .obtain ⟨its,T,pl,hz⟩:=I.tuple O;have hlen:=T.length;show len_tuple pl (by simp only [qB8] <;> omega) ⟨.int ys.length,H,I.tok _,⟨s.toks+1,by rw[qB8,hlen]⟩,q⟩
def kY:K6 X (.type "tuple") (λxs H Q=>∃p ys,xs = [.ref p]/\((SqL X.K H p ys/\∀l,H l=none->Q (.ref l) (upd H l (.tup ys)))\/(SqT X.K H p ys/\Q (.ref p) H))):=by
 intro pins s σ H xs us Q I r h;obtain ⟨p,ys,rfl,h⟩:=h;obtain ⟨u,rfl,rx⟩:=vals1 r;cases rx;rcases h with ⟨hq,q⟩|⟨hq,q⟩
 .obtain ⟨its,O,pl,hz⟩:=I.list hq;have hlen:=O.length;refine call_tuple_list pl.isList (λh' kp=>?_) (by simp only [qB8] <;> omega)
  have T:Inv X pins σ H { s with heap:=h' }:=I.kept (t':=s.toks) kp;have I2:Inv X pins σ (upd H h'.objs.size (.tup ys)) { s with heap:=h'.push { cls:=.type "tuple",data:=.seq its.toArray } }:=
   T.laid (t':=s.toks) (λb o e=>qA7 _ e) (qB4 _) (show ObjOk X.prog X.w _ _ _ (.tup ys) from ⟨hz,its,O,IsTup.new _ _⟩)
  show ⟨.ref h'.objs.size,_,I2,rfl,q _ (T.hok.fresh (qB4 _))⟩
 .obtain ⟨its,O,pl,hz⟩:=I.tuple hq;show call_tuple_same pl ⟨.ref p,H,I,rfl,q⟩
def tyV (K:Frag) (T:String) (x:V) (H:Hp):Prop:=match x with
 | .str _=>T = "str"
 | .int _=>T = "int"
 | .ref p=>(T = "list" /\ ∃xs,SqL K H p xs)\/(T = "tuple" /\ ∃o,K.lookup p=some o/\o.cls=.type "tuple" /\ o.dict=none) \/
   (T = "dict" /\ ((∃kvs,H p=some (.dK kvs))\/∃kvs,H p=some (.dT kvs)))\/(T = "set" /\ ∃S n,H p=some (.set S n))
 |_=>False
def lB {σ:St}(I:Inv X pins σ H s) (r:RelV x v) (ty:tyV X.K T x H):
  s.TypeIs v T/\∀a,v=.ref a->∃ob,s.heap.get? a=some ob/\ob.dict=none:=by
 cases x with
 | str z=>
  obtain ⟨t,rfl⟩:=r;cases (show T = "str" from ty);show ⟨typeIs_str s z t,λ_ e=>nomatch e⟩
 | int i=>
  obtain ⟨t,rfl⟩:=r;cases (show T = "int" from ty);show ⟨qW6 s i t,λ_ e=>nomatch e⟩
 | ref p=>
  cases r;rcases ty with ⟨rfl,xs,hq⟩|⟨rfl,o,hk,hc,hd⟩|⟨rfl,hk⟩|⟨rfl,S,n,hk⟩
  .obtain ⟨its,_,pl,_⟩:=I.list hq;refine ⟨pl.isList.typeIs,λa e=>?_⟩;cases e;obtain ⟨o,n,e,c,hd,_⟩:=pl;show ⟨o,e,hd⟩
  .refine ⟨⟨o,I.kIn p o hk,hc⟩,λa e=>?_⟩;cases e;show ⟨o,I.kIn _ o hk,hd⟩
  .have z:∃o,s.heap.get? p=some o/\o.ExactDict:=by
    rcases hk with ⟨kvs,hk⟩|⟨kvs,hk⟩
    .obtain ⟨_,_,_,_,o,_,_,e,ex,_⟩:=I.hok p _ hk;show ⟨o,e,ex⟩
    .obtain ⟨_,_,_,_,o,_,_,e,ex,_⟩:=I.hok p _ hk;show ⟨o,e,ex⟩
   obtain ⟨o,e,ex⟩:=z;refine ⟨⟨o,e,ex.1⟩,λa O=>?_⟩;cases O;show ⟨o,e,ex.2.1⟩
  .obtain ⟨o,_,_,_,e,ex,_⟩:=I.hok p _ hk;refine ⟨⟨o,e,ex.1⟩,λa O=>?_⟩;cases O;show ⟨o,e,ex.2.1⟩
 |_=>show False.elim ty
def DI (K:Frag)(T:String)(r:V->List V->Hp->VK->Prop)(I:TE):TE:=λσ H Q=>I σ H λx H1=>tyV K T x H1/\r x [] H1 Q
def tBM (K:Frag)(T:String)(r:V->List V->Hp->VK->Prop)(I:TE)(t:TA):TE:=λσ H Q=>I σ H λx H1=>tyV K T x H1/\t σ H1 λxs H2=>r x xs H2 Q
def Fu {X:Cx}{o:Expr}{to:TE}{name:Str}{apos O:Pos}{T id:String}{r:V->List V->Hp->VK->Prop}(pa:PlainAttrs T) (slot:Slot T name id) (a5:typeOf (.builtin id)=pure (.type "method_descriptor")) (hm:MtR X id r) (ho:PE X o to) (a0:attributeBase o name X.env (eval o X.env)=eval o X.env:=by rfl) (a3:(apos.endLine == O.line)=true:=by rfl):PE X (.Call (.Attribute o name apos) [] [] O) (DI X.K T r to):=by
 intro pins s σ H Q I h;refine wpAny_Call_method0_late a0 a3 (thn (ho pins s σ H _ I h) λv s1 a4=>?_);obtain ⟨x,H1,I1,r1,ty,q1⟩:=a4;obtain ⟨h1,h2⟩:=lB I1 r1 ty;show ⟨T,id,pa,slot,a5,h1,h2,qS7 rfl (PySem.evalArgs_none (hm pins s1 σ H1 x [] v [] Q I1 r1 .nil q1))⟩
def IT {X:Cx}{o e:Expr}{es:VV}{to:TE}{t:TA}{name:Str}{apos O:Pos}{T id:String}{r:V->List V->Hp->VK->Prop}(pa:PlainAttrs T) (slot:Slot T name id) (a8:typeOf (.builtin id)=pure (.type "method_descriptor")) (hm:MtR X id r) (ho:PE X o to) (ha:PA X (e::es) t) (a3:attributeBase o name X.env (eval o X.env)=eval o X.env:=by rfl) (a7:((backTo O (starEach (e::es) X.env)).all (λx=>!x.1)&&(backToKw O (keywordEach [] X.env)).all (λx=>x.1.isSome)
   && decide ((e::es).length+([]:List Keyword).length+(if ([]:List Keyword).isEmpty then 0 else 1)<30))=true:=by rfl) (a4:(apos.endLine == O.line)=true:=by rfl) (hs:starEach (e::es) X.env=(false,eval e X.env)::starEach es X.env:=by rfl) (a0:(backTo O (starEach es X.env)).any (·.1)=false:=by rfl):
  PE X (.Call (.Attribute o name apos) (e::es) [] O) (tBM X.K T r to t):=by
 intro pins s σ H Q I h;refine wpAny_Call_method_late a3 a7 a4 rfl (thn (ho pins s σ H _ I h) λv s1 a5=>?_);obtain ⟨x,H1,I1,r1,ty,q1⟩:=a5;obtain ⟨h1,h2⟩:=lB I1 r1 ty;refine ⟨T,id,pa,slot,a8,h1,h2,?_⟩;have hA:=ha O pins s1 σ H1 _ I1 q1;rw[hs]at hA ⊢;refine qS7 (by change (false||(backTo O (starEach es X.env)).any (·.1))=false;rw[a0] <;> rfl) (Calls.evalArgs_plain ?_)
 show thn hA λus s2 a6=>by obtain ⟨vs,H2,I2,r2,q2⟩:=a6;show hm pins s2 σ H2 x vs v us Q I2 r1 r2 q2
def MtM (X:Cx) (id:String) (r:V->List V->Hp->VK->Prop):Prop:=
 ∀ (pins:Vz) (s:Shared) (σ:St) (H:Hp) (x:V) (xs:List V) (v:Value) (us:VZ) (Q:VK),Inv X pins σ H s->RelV x v->Vals xs us->r x xs H Q ->
  wpAny (model X.prog X.w) X.A (call (.builtin id) (v::us)) (EP X pins σ Q) X.xe s
def Vals.one:∀{x:V}{us:VZ},Vals [x] us->∃u,us = [u]/\RelV x u:=by
 intro x us r;cases r with
 |cons r t=>cases t;show ⟨_,rfl,r⟩
def Vals.zero:∀{us:VZ},Vals [] us->us = []
 |_,.nil=>rfl
def Vals.reverse (h:Vals xs us):Vals xs.reverse us.reverse:=by
 induction h with
 |nil=>show .nil
 |cons r t I=>rw[qI4,qI4];show Vals.append I (.cons r .nil)
def Vals.rep (h:Vals xs us):∀k:Nat,Vals (List.replicate k xs).flatten (List.replicate k us).flatten
 |0=>.nil
 | k+1=>by
  rw[qE7,qE7,qG8,qG8];show Vals.append h (Vals.rep h k)
def foldl_rep (its:VZ):∀(k:Nat) (I:VZ),
  List.foldl (λT O=>T++O) I.toArray (List.replicate k its.toArray)=(I++(List.replicate k its).flatten).toArray:=by
 intro k
 induction k with
 |zero=>intro I;simp
 | succ k ih=>
  intro I;have e:I.toArray++its.toArray=(I++its).toArray:=ZV;have e2:(I++its)++(List.replicate k its).flatten=I++(List.replicate (k+1) its).flatten:=by
   rw[qE7,qG8,qJ8]
  rw[<- e2,<- ih (I++its),<- e,qE7,List.foldl_cons]
def Inv.lset {σ:St}{its:VZ}(I:Inv X pins σ H s) (hH:H l=some (.lst xs)) (e:s.heap.get? l=some { cls:=.type "list",data:=.seq its.toArray n }) (T:f its.toArray=its'.toArray) (hv:Vals ys its') (hz:ys.length<=sizeLine):
  Inv X pins σ (upd H l (.lst ys)) { s with heap:=s.heap.update l (Obj.mapSeq f),toks:=t' }:=by
 have q:=PySem.IsL.update e f;rw[T]at q;refine I.write (x:=l) (e:=l) (by rw[hH];show trivial) (.inl rfl) (λb' u hb O=>(qL4 s.heap (Obj.mapSeq f) (Ne.symm hb)).trans O) ⟨_,q⟩ ?_;show ⟨hz,its',_,hv,q⟩
def Inv.lnew {σ:St}(I:Inv X pins σ H s) (O:Vals ys its) (hz:ys.length<=sizeLine):
  Inv X pins σ (upd H s.heap.objs.size (.lst ys)) { s with heap:=s.heap.push { cls:=.type "list",data:=.seq its.toArray },toks:=t' }:=
 I.laid (λ_ _ q=>qA7 _ q) (qB4 _) ⟨hz,its,0,O,qC0 _ rfl⟩
def Inv.fresh {σ:St}(I:Inv X pins σ H s):H s.heap.objs.size=none:=I.hok.fresh (qB4 _)
def Inv.lstM {σ:St}(I:Inv X pins σ H s) (O:H l=some (.lst xs)):xs.length<=sizeLine/\∃(its:VZ) (n:Nat),Vals xs its/\xs.length=its.length/\s.heap.get? l=some { cls:=.type "list",data:=.seq its.toArray n }:=by
 obtain ⟨z,its,n,r,e⟩:=I.hok l _ O;show ⟨z,its,n,r,r.length,e⟩
def xG (h:n<=sizeLine):Builtin.List.listTooLong n=false:=by
 unfold Builtin.List.listTooLong;show qO7 ox
def rAppend:V->List V->Hp->VK->Prop:=λx vs H Q=>∃l xs y,x=.ref l/\vs = [y]/\H l=some (.lst xs)/\xs.length<sizeLine/\Q .non (upd H l (.lst (xs ++ [y])))
def eA:MtM X "list.append" rAppend:=by
 intro pins s σ H x vs v us Q I T rv h;obtain ⟨l,xs,y,rfl,rfl,O,hz,q⟩:=h;cases T;obtain ⟨u,rfl,ru⟩:=rv.one;obtain ⟨z,its,n,r,hl,e⟩:=I.lstM O;refine qR4 F.slot_list_append ⟨_,e,rfl⟩ F.entry_list_append (F.args_list_append_2 _ _) (PySem.list_append l its.toArray n u (by rw[qB8];omega)) ⟨e,?_⟩;refine ⟨.non,_,I.lset (its':=its ++ [u]) O e ZV (r.append (.cons ru .nil)) ?_,rfl,q⟩;rw[qD1,qF5];omega
def rReverse:V->List V->Hp->VK->Prop:=λx vs H Q=>∃l xs,x=.ref l/\vs = []/\H l=some (.lst xs)/\Q .non (upd H l (.lst xs.reverse))
def qX:MtM X "list.reverse" rReverse:=by
 intro pins s σ H x vs v us Q I rx rv h;obtain ⟨l,xs,rfl,rfl,T,q⟩:=h;cases rx;have O:=rv.zero;subst O;obtain ⟨z,its,n,r,hl,e⟩:=I.lstM T;refine qR4 F.slot_list_reverse ⟨_,e,rfl⟩ F.entry_list_reverse (F.args_list_reverse_1 _) (AutoSeq1.list_reverse_list_0 l its.toArray n (by rw[qB8];omega)) ⟨e,?_⟩;refine ⟨.non,_,I.lset (its':=its.reverse) T e ZV r.reverse ?_,rfl,q⟩;rw[qB7];omega
def rCat:R2:=λx y H Q=>∃l b xs I,x=.ref l/\y=.ref b/\H l=some (.lst xs)/\H b=some (.lst I)/\xs.length+I.length<=sizeLine/\∀p,H p=none->Q (.ref p) (upd H p (.lst (xs++I)))
def Fx:OpR X (binaryOp .Add) rCat:=by
 intro pins s σ H x y v u Q I rx T h;obtain ⟨l,b,xs,zs,rfl,rfl,hH,hB,hz,q⟩:=h;cases rx;cases T;obtain ⟨z,its,n,r,hl,e⟩:=I.lstM hH;obtain ⟨z2,O,n2,r2,a0,e2⟩:=I.lstM hB;refine PySem.P.add_list e e2 ?_ (by rw[qB8,qB8];omega);have ea:its.toArray++O.toArray=(its++O).toArray:=ZV;rw[ea];show ⟨.ref _,_,I.lnew (t':=s.toks) (r.append r2) (by rw[qD1];omega),rfl,q _ I.fresh⟩
def rRep:R2:=λx y H Q=>∃l k xs,x=.ref l/\y=.int k/\H l=some (.lst xs) /\ -(2^63)<=k/\k<2^63/\xs.length*k.toNat<=sizeLine /\
 ∀p,H p=none->Q (.ref p) (upd H p (.lst (List.replicate k.toNat xs).flatten))
def len_rep {α:Type}(xs:List α) (k:Nat):(List.replicate k xs).flatten.length=k*xs.length:=by
 induction k with
 |zero=>simp
 |succ k I=>rw[qE7,qG8,qD1,I,Nat.succ_mul,qX5]
def mI:OpR X (binaryOp .Mult) rRep:=by
 intro pins s σ H x y v u Q I rx ry h;obtain ⟨l,k,xs,rfl,rfl,hH,h1,h2,hz,q⟩:=h;cases rx;obtain ⟨t,rfl⟩:=ry;obtain ⟨z,its,n,r,hl,e⟩:=I.lstM hH;have hlen:its.toArray.size*k.toNat<=sizeLine:=by rw[qB8,<- hl];show hz
 have a0:¬ its.toArray.size*k.toNat>(2^63-1)/8:=by
  have:(sizeLine:Nat)<=(2^63-1)/8:=ZY
  omega
 have a3:¬ (!Builtin.List.listFitsIndex k)=true:=by
  rw[fitsIndex_both h1 h2];show qB0
 have O:¬ Builtin.List.listTooLong (its.toArray.size*k.toNat)=true:=by
  rw[xG hlen];show qB0
 have a4:List.foldl (λx1 x2=>x1++x2) #[] (List.replicate (if its.toArray.isEmpty=true then 0 else k.toNat) its.toArray)=(List.replicate k.toNat its).flatten.toArray:=by
  have f0:∀m:Nat,List.foldl (λx1 x2=>x1++x2) #[] (List.replicate m its.toArray)=(List.replicate m its).flatten.toArray:=λm=>by
   have:=foldl_rep its m []
   rw[qZ2]at this;show this
  rw[f0];cases its with
  |nil=>simp
  |cons a r'=>rw[qA4 ZV]
 refine wpAny_binaryOp_repeat_ref (T := "list") (U := "int") ZY ⟨_,e,rfl⟩ (λs'=>qW6 s' k t) noFill_list_mul F.fills_int_mul qU1 repeat_list F.slot_int_index.lookup
  (qR4 qU1 (qW6 s k t) F.entry_int_rmul (F.args_int_rmul_2 _ _) (int___rmul___int_list k t l its.toArray n)
   ⟨e,rfl,⟨_,e,rfl⟩,qR4 F.slot_list_mul ⟨_,e,rfl⟩ F.entry_list_mul (F.args_list_mul_2 _ _) (AutoListH.list___mul___list_int_3 l its.toArray n k t a3 a0 O) ⟨e,?_⟩⟩)
 rw[a4];show ⟨.ref _,_,I.lnew (t':=s.toks) (r.rep k.toNat) (by rw[len_rep,qX6];show hz),rfl,q _ I.fresh⟩
end L2
namespace Att
open PySem PySem.W PySem.Calls PyProof.Rows
def iB:∀(ns:Zz) (vs:VZ),WellAll P h vs (ns.map WData.int)->IntsAre vs ns:=by
 intro ns
 induction ns with
 | nil=>
  intro vs w;rw[qK5]at w;cases w;show .nil
 | cons n ns I=>
  intro vs w;rw[qC2]at w;cases w with
  | cons a b=>
   cases a;show .cons _ _ (I _ b)
def tN {l:OpenLaw}(hn:l.most=some n) (I:l.row.toRowW.claim.pre args=true) (a0:WellAll P h vals args):
  ∃a vs ns,vals = [Value.ref a]/\args = [WData.list (ns.map WData.int)]/\h.get? a=some { cls:=.type "list",data:=.seq vs.toArray }/\IntsAre vs ns/\ns.length<=n:=by
 have a3:WShape.hasAll [] args [.list .int]=true:=(pre_splitW I).1;have hc:l.pre.holds [] { args:=args }=true:=(pre_splitW I).2;obtain ⟨d,r,rfl,h1,h2⟩:=hasAllW_cons a3;obtain rfl:=hasAllW_nil h2;obtain ⟨xs,rfl,h3⟩:=hasW_list h1;obtain ⟨ns,rfl⟩:=items_int h3;have hlen:ns.length<=n:=by
  unfold OpenLaw.pre at hc;have T:(WTm.not (.lt (.lit (.int (n:Int))) (.len (.arg 0)))).holds [] { args:=[.list (ns.map .int)] }=true:=by
   have T:=(holds_andW hc).1;rw[hn]at T;show T
  have h5:=condW_of T (w_not (w_lt w_lit (w_len_list (w_arg rfl))));rw[qA5]at h5;refine qO0 λq=>?_;have q':(n:Int)<((ns.length:Nat):Int):=ox
  first
   | (rw[qO8 q']at h5;show absurd h5 ZY)
   | (simp at h5;omega)
 cases a0 with
 | cons w1 w2=>
  cases w2;cases w1 with
  |list ho O=>show ⟨_,_,ns,rfl,rfl,ho,iB ns _ O,hlen⟩
def uh (l:OpenLaw) (args:List WData):l.row.toRowW.claim.post args (.bool true) args=true:=
 postW_of (r:=l.row.toRowW) (X:=(true == true))
  (show WShape.has [] (.bool true) .bool=true by first|rfl|decide|simp [WShape.has,WShape.arms,WShape.armsAll])
  (show (WTm.eq .res (.lit (.bool true))).value [] { args:=args,res:=some (.bool true),after:=args }=some (.bool (true == true)) from w_eq_bool (w_res rfl) w_lit) rfl
end Att
namespace L2
open PySem PySem.Spec PyProof.Rows
def sM:∀{vs:VZ}{ns:Zz},IntsAre vs ns->Vals (ns.map V.int) vs:=by
 intro vs ns h
 induction h with
 |nil=>show .nil
 |cons n t h I=>show .cons ⟨t,rfl⟩ I
def sr (H:Hp):Prop:=∀b,H b=none\/(∃o xs,H b=some (.frz o (.lst xs)))\/∃k,H b=some (.tbl k)
def FM {α O:Type} [BEq α] [LawfulBEq α]:∀{l:List (α×O)}{n:α}{c:O},l.lookup n=some c->(n,c)∈l
 | (k,v)::r,n,c,h=>by
  rw[qF6]at h;cases I:n == k with
  |true=>rw[I]at h;cases h;rw[xB4.mp I];show qB3
  |false=>rw[I]at h;show qA8 _ (FM h)
def xV {K:Frag}(KX:K.In s₁.heap) (a8:s₁.heap.Ns mainGlobals mg) (T:s₁.heap.Ns builtinsNs mb) (c3:∀x:Str,x ≠ "__name__" -> mb x=bootBuiltins x) (b0:s₁.heap.NoLimit) (hg:s₁.gens=#[]) (c0:∃bm o,mg "__builtins__" = some (.ref bm)/\bm≠builtinsNs/\s₁.heap.get? bm=some o/\o.cls=.type "module" /\ o.dict=some builtinsNs/\o.data=.plain) (hT:∀p∈lamT,s₁.heap.get? p.1=some { cls:=.none,data:=.fields #[] }/\isCodeTable s₁.heap p.1/\K.lookup p.1=none/\lamT.lookup p.1=some p.2) (ha:s₁.heap.get? a=some { cls:=.type "list",data:=.seq vs.toArray }) (hi:IntsAre vs ns) (hl:ns.length<=sizeLine) (hr:Room k callerA) (F:∀base:Heap,K.In base->base.Ns mainGlobals mg->FnOk P w K mg base CX k fa fd [x] sp) (a5:∀(s:Shared) (u:Value),BindsTo s fd ⟨[u],[]⟩ [(x,u)]) (c1:∀H:Hp,sr H->SqL K H a (ns.map V.int)->sp [.ref a] H (λv _=>v=.bl true) λ_ _ _=>False) (c2:∀H e s',CX [] H s₁ (λ_ _ _=>False) e s'->False):
  codeAny (model P w) callerA (.call (.ref fa) ⟨[.ref a],[]⟩) (λr s'=>r=.ok (.ret (.bool true))/\OldK s₁.heap s'.heap/\s'.os=s₁.os/\AllBare s'.gens) s₁:=by
 have rv:=sM hi;have a7:=hi.length;have O:∀b q,lamT.lookup b=some q->s₁.heap.get? b=some { cls:=.none,data:=.fields #[] }/\isCodeTable s₁.heap b/\K.lookup b=none:=λb q e=>by
  have hm:=FM e;show ⟨(hT _ hm).1,(hT _ hm).2.1,(hT _ hm).2.2.1⟩
 -- from an abstract heap in which nothing but the script and the tables may be tracked
 have core:∀H:Hp,sr H->SqL K H a (ns.map V.int)->HOk P w H s₁.heap->(∀b,H b≠none->b=a\/∃q,lamT.lookup b=some q)->(∀b,H b≠none->K.lookup b=none)->(∀b q,H b=some (.tbl q)->lamT.lookup b=some q)->(∀p∈lamT,H p.1=some (.tbl p.2)) ->
   codeAny (model P w) callerA (.call (.ref fa) ⟨[.ref a],[]⟩) (λr s'=>r=.ok (.ret (.bool true))/\OldK s₁.heap s'.heap/\s'.os=s₁.os/\AllBare s'.gens) s₁:=by
  intro H hO hS hok hA hK hB bw;have I:∀{b:Addr}{o:Obj},s₁.heap.get? b=some o->H b=none->(cX s₁.heap H).get? b=some o:=λe n=>yi e n;have a9:∀{b:Addr}{o:Obj},s₁.heap.get? b=some o->(∀its n,o.data≠.seq its n)->(∀ps,o.data≠.fields ps)->H b=none:=λ{b o} e d1 d2=>by
   cases q:H b with
   |none=>rfl
   | some u=>
    rcases hA b (by rw[q];simp) with e' |⟨y,e'⟩
    .subst e';rw[ha]at e;cases e;show absurd rfl (d1 _ _)
    .rw [(O b y e').1]at e;cases e
     show absurd rfl (d2 _)
  have bb:∀{b:Addr}{o:Obj}{es:Array DictEntry}{ep:Nat},s₁.heap.get? b=some o->o.data=.dict es ep->H b=none:=λ{b o es ep} e d=>a9 e (λ_ _ z=>by rw[d]at z;cases z) λ_ z=>by rw[d]at z;cases z
  have a0:∀{b:Addr}{m:Vx},s₁.heap.Ns b m->(cX s₁.heap H).Ns b m:=λ{b m} zz53=>by obtain ⟨o,es,ep,e,d,r⟩:=zz53;show ⟨o,es,ep,I e (bb e d),d,r⟩
  have ab:K.In (cX s₁.heap H):=λb o e=>I (KX b o e) (by
   cases q:H b with
   |none=>rfl
   |some u=>rw[hK b (by rw[q];simp)]at e;cases e)
  have hM:Mod K mg (cX s₁.heap H):=⟨ab,a0 a8,⟨mb,a0 T,c3⟩,let ⟨mc,h1,h2⟩:=b0;⟨mc,a0 h1,h2⟩,let ⟨bm,o,b1,b2,b3,b4,b5,b6⟩:=c0;⟨bm,o,b1,b2,I b3 (a9 b3 (λ_ _ z=>by rw[b6]at z;cases z) λ_ z=>by rw[b6]at z;cases z),b4,b5,b6⟩⟩;have e0:sy P w K mg (cX s₁.heap H) callerA [] s₁ H:=⟨rfl,hM,λb o e=>Bk e,Nat.le_of_eq (vg _ _),trivial,λb T=>absurd (show b∈([]:List Addr) from T) ZV,hok,.of_eq hg,bw⟩;refine codeAny_mono ((F _ ab (a0 a8)).run callerA [] s₁ H ⟨[.ref a],[]⟩ [.ref a] [.ref a] _ _ hr e0 (a5 s₁ (.ref a)) (.cons rfl .nil) (c1 H hO hS)) λr s' h=>?_;cases r with
  |error e=>show (c2 H e s' h).elim
  | ok fl=>
   cases fl with
   |next=>show False.elim h
   |brk=>show False.elim h
   |cont=>show False.elim h
   | ret u=>
    obtain ⟨v,H',os,bare,un,a3,r',q⟩:=h;have q':v=.bl true:=q;subst q';obtain rfl:u=Value.bool true:=r';have c4:∀b o,s₁.heap.get? b=some o->asItWas s₁.heap s'.heap b o:=λb o e=>by
     cases q:H b with
     |none=>show .inl (un.keep b o e q (by intro z;show absurd (show b∈([]:List Addr) from z) ZV) ZV)
     | some u=>
      rcases hO b with z|⟨ob,xs,z⟩|⟨y,z⟩
      .rw[q]at z;cases z
      .have z2:=un.frzs b ob _ z;obtain ⟨e1,_⟩:=hok b _ z;obtain ⟨e2,_⟩:=a3 b _ z2;rw[e]at e1;cases e1;show .inl e2
      .have z2:=un.tbls b _ z;obtain ⟨ps,e2,_⟩:=a3 b _ z2;obtain ⟨t1,t2,_⟩:=O b y (hB b y z);rw[t1]at e;cases e;show .inr (.inl ⟨t2,rfl,#[],ps,rfl,by rw[e2];simp⟩)
    refine ⟨rfl,⟨c4,λb o e=>un.there b o e ZV⟩,os,bare⟩
 have a4:∀(H:Hp) b q,lamT.lookup b=some q->ObjOk P w H s₁.heap b (.tbl q):=λH b q e=>⟨#[],(O b q e).1,.inl rfl⟩;cases hk:K.lookup a with
 | some o=>
  -- the script is one of the module's own objects
  have e:=KX a o hk;rw[ha]at e;cases e;refine core (λb=>(lamT.lookup b).map .tbl) (λb=>?_) (.inr ⟨_,vs.toArray,_,hk,rfl,rfl,rfl,by rw[qB8,a7];show hl,by simpa using rv⟩) (λb u z=>?_) (λb z=>?_) (λb z=>?_) (λb y z=>?_) λp hp=>?_
  .cases q:lamT.lookup b with
   |none=>show .inl (by change (lamT.lookup b).map HO.tbl=_;rw[q];rfl)
   |some y=>show .inr (.inr ⟨y,by change (lamT.lookup b).map HO.tbl=_;rw[q];rfl⟩)
  .obtain ⟨y,e1,rfl⟩:=qE3.mp z;show a4 _ b y e1
  .cases q:lamT.lookup b with
   |none=>show absurd (by rw[q];rfl) z
   |some y=>show .inr ⟨y,rfl⟩
  .cases q:lamT.lookup b with
   |none=>show absurd (by rw[q];rfl) z
   |some y=>show (O b y q).2.2
  .obtain ⟨y',e1,e2⟩:=qE3.mp z;cases e2;show e1
  .change (lamT.lookup p.1).map HO.tbl=_;rw[(hT p hp).2.2.2];rfl
 | none=>
  have na:∀b y,lamT.lookup b=some y->b≠a:=λb y e z=>by
   have:=(O b y e).1
   rw[z,ha]at this;cases this
  refine core (λb=>if b=a then some (.frz { cls:=.type "list",data:=.seq vs.toArray } (.lst (ns.map V.int))) else (lamT.lookup b).map .tbl) (λb=>?_) (.inl (.inr ⟨{ cls:=.type "list",data:=.seq vs.toArray },qA2 rfl⟩)) (λb u z=>?_) (λb z=>?_) (λb z=>?_) (λb y z=>?_) λp hp=>?_
  .by_cases T:b=a
   .show .inr (.inl ⟨_,_,qA2 T⟩)
   .dsimp only;rw[qA4 T];cases q:lamT.lookup b with
    |none=>show .inl rfl
    |some y=>show .inr (.inr ⟨y,rfl⟩)
  .by_cases T:b=a
   .have z':=(qA2 T).symm.trans z;cases z';subst T;show ⟨ha,by rw[qA5];show hl,vs,_,rv,ha⟩
   .have z':=(qA4 T).symm.trans z;obtain ⟨y,e1,rfl⟩:=qE3.mp z';show a4 _ b y e1
  .by_cases T:b=a
   .show .inl T
   .cases q:lamT.lookup b with
    |none=>show absurd (by rw[qA4 T,q];rfl) z
    |some y=>show .inr ⟨y,rfl⟩
  .by_cases T:b=a
   .rw[T];show hk
   .cases q:lamT.lookup b with
    |none=>show absurd (by rw[qA4 T,q];rfl) z
    |some y=>show (O b y q).2.2
  .by_cases T:b=a
   .have z':=(qA2 T).symm.trans z;cases z'
   .have z':=(qA4 T).symm.trans z;obtain ⟨y',e1,e2⟩:=qE3.mp z';cases e2;show e1
  .have a6:=(hT p hp).2.2.2
   change (if p.1=a then _ else (lamT.lookup p.1).map HO.tbl)=_;rw[qA4 (na _ _ a6),a6];rfl
abbrev CX0:CXT:=λ_ _ _ _ _ _=>False
abbrev E0:XK:=λ_ _ _=>False
def qP:ow CX0 X E0:=λ_ _ _ _ _ _ _ h=>h.elim
structure Fun (K:Frag) (x qual:Str) (st:Stmt) (f:Addr) (fd:FuncData):Prop where
 ex:∃(oc:Value) (od:Option Addr) (kV doc pm:Value) (an:Option Addr) (cdv ct:Value) (osl:Array VY),
  fd=PySem.W.fnOf x qual (V2 st) (E4 st) (c8 st) .none kV doc pm an cdv ct/\K.lookup f=some ⟨oc,od,.func fd,osl⟩/\PySem.W.codeIn K cdv qual=true
 kp:PySem.W.keepIn K (.ref f)=true
def Fun.ok {K:Frag}{st:Stmt}(F:Fun K x qual st f fd) (S:f8 N ps (c8 st)) (len:∀vs H Q E,sp vs H Q E->vs.length=ps.length) (I:∀(cdv:Value) (A:Around) (outer:List Env) (s:Shared) (H:Hp) (vs:List V) (Q:VK) (E:XK),Room k (A.deeper (envOfC qual (c8 st) s.heap.objs.size f cdv))->sp vs H Q E ->
   ∃t,PSs (bF CX0 P w K mg base N qual (c8 st) f cdv A outer s H E).nox (E4 st) t/\t { nx:=λ_ H'=>Q .non H',rt:=Q } (start N vs) H):FnOk P w K mg base CX0 (k+1) f fd ps sp:=by
 obtain ⟨oc,od,kV,doc,pm,an,cdv,ct,osl,rfl,lk,O⟩:=F.ex;refine zJ lk O S len λA outer s H vs Q E hr T=>?_;obtain ⟨t,h,q⟩:=I cdv A outer s H vs Q E hr T;show ⟨t,h.nox,q⟩
def Fun.binds {K:Frag}{st:Stmt}(F:Fun K x qual st f fd) (h:∀(kV doc pm:Value) (an:Option Addr) (cdv ct:Value) (us:VZ),us.length=ps.length->bindArgs (PySem.W.fnOf x qual (V2 st) (E4 st) (c8 st) .none kV doc pm an cdv ct) ⟨us,[]⟩=pure (ps.zip us)):Binds K fd ps []:=by
 obtain ⟨oc,od,kV,doc,pm,an,cdv,ct,osl,rfl,O,I⟩:=F.ex;show .all (h kV doc pm an cdv ct)
def GP {K:Frag}{st:Stmt}{kV:Value}(l:K.lookup f=some ⟨oc,od,.func (PySem.W.fnOf x qual (V2 st) (E4 st) (c8 st) .none kV doc pm an cdv ct),osl⟩)(c:PySem.W.codeIn K cdv qual=true)(k:PySem.W.keepIn K (.ref f)=true):Fun K x qual st f (PySem.W.fnOf x qual (V2 st) (E4 st) (c8 st) .none kV doc pm an cdv ct):=⟨⟨oc,od,kV,doc,pm,an,cdv,ct,osl,rfl,l,c⟩,k⟩
def pv {X:Cx}(i:Nat){x:Str}{pos:Pos}(O:X.N[i]?=some x:=by rfl)(T:Vis X.env.scope x:=by first|show Or.inl rfl|show Or.inr (Or.inl rfl)|show Or.inr (Or.inr rfl))(hd:(x == ("__debug__" : Str))=false:=by decide)(I:(x == ("__classdict__" : Str))=false:=by decide):PE X (.Name x pos) (ah i):=ay O T hd I
def Same (H H':Hp):Prop:=∀b o,H b=some o->H' b=some o
def Same.refl (H:Hp):Same H H:=λ_ _ h=>h
def Same.trans (a:Same H H1)(b:Same H1 H2):Same H H2:=λc o h=>b c o (a c o h)
def Same.free (e:Same H H') (h:H' l=Option.none):H l=Option.none:=by
 cases q:H l with
 |none=>rfl
 | some o=>
  rw[e l o q]at h;cases h
def Same.seq {K:Frag}(e:Same H H') (h:SqL K H a xs):SqL K H' a xs:=by
 rcases h with (h|⟨o,h⟩)|h
 .show .inl (.inl (e _ _ h))
 .show .inl (.inr ⟨o,e _ _ h⟩)
 .show .inr h
def Dk (h h':Heap):Prop:=∀b o,h.get? b=some o->∃o',h'.get? b=some o'/\o'.cls=o.cls/\o'.dict=o.dict
structure KD {α:Type}(t:Sem α):Prop where
 out:∀(M:Model) (Γ:PySem.Ctx) (P:α->Pos->Shared->Prop) (Ee:Value->Pos->Shared->Prop) (p:Pos) (s:Shared),
  Sem.wp M Γ t P Ee p s->Sem.wp M Γ t (λa p' s'=>P a p' s'/\Dk s.heap s'.heap) Ee p s
def cut (h:Heap)(fs:List Addr):Heap:={ h with objs:=h.objs.mapIdx λi o=>if i∈fs then { o with data:=.freed } else o }
section
variable {X:Cx}{pins:Vz}{σ:St}{H H':Hp}{s s1:Shared}{a:Addr}{B:Heap}{cls:Value}{od:Option Addr}
structure Here (X:Cx) (pins:Vz) (σ:St) (H':Hp) (a:Addr) (B:Heap) (cls:Value) (od:Option Addr) (s:Shared):Prop where
 inv:Inv X pins σ H' s
 dict:∃o,s.heap.get? a=some o/\o.dict=od
end
def tCatch (X:Cx) (C:Addr) (O:Nat) (tb:TS) (D:Ends) (σ:St):XK:=λcls od H'=>∃T,cls=.ref T/\PySem.W.exmOne X.K (.ref T) (.ref C)=some true /\
 ∀ (a:Addr) (o:Obj),H' a=none->o.cls=cls->o.dict=od->(∃vs:Array Value,o.data=.fields vs) ->
  tb { nx:=λI H'=>D.nx (I.set O none) H',rt:=D.rt,bk:=λI H'=>D.bk (I.set O none) H',ct:=λI H'=>D.ct (I.set O none) H' } (σ.set O (some (.ref a))) (upd H' a (.ext λh=>h.get? a=some o))
end L2
namespace L2
open PySem
structure Nx {α:Type}(t:Sem α):Prop where
 out:∀(M:Model) (Γ:PySem.Ctx) (P:α->Pos->Shared->Prop) (Ee Ef:Value->Pos->Shared->Prop) (p:Pos) (s:Shared),Sem.wp M Γ t P Ee p s->Sem.wp M Γ t P Ef p s
structure Po {α:Type}(t:Sem α) (pre:Shared->Prop) (post:α->Shared->Prop):Prop where
 out:∀(M:Model) (Γ:PySem.Ctx) (P:α->Pos->Shared->Prop) (Ee Ef:Value->Pos->Shared->Prop) (p:Pos) (s:Shared),
  pre s->Sem.wp M Γ t P Ee p s->Sem.wp M Γ t (λa p' s'=>P a p' s'/\post a s') Ef p s
def zV (v:Value)(i:Nat)(x:Value)(h:Heap):Prop:=∃(a:Addr)(o:Obj)(vs:VW),v=.ref a/\h.get? a=some o/\o.data=.fields vs/\vs[i]?=some x
def Marked (e:Value)(f:Addr)(h:Heap):Prop:=∃t,zV e 1 t h/\zV t 3 (rawInt f) h/\t≠.none
structure Free {α:Type}(t:Sem α):Prop where
 out:∀(M:Model) (Γ Γ':PySem.Ctx) (P P':α->Pos->Shared->Prop) (E E':Value->Pos->Shared->Prop) (p p':Pos) (s:Shared),(∀a p p' s,P a p s->P' a p' s)->(∀a p p' s,E a p s->E' a p' s)->Sem.wp M Γ t P E p s->Sem.wp M Γ' t P' E' p' s
end L2
namespace L2
open PySem PySem.Spec PyProof.Rows
section
variable {κ:Type} [DecidableEq κ]
def Do (kvs:List (κ×V))(k:κ):Option V:=(kvs.find? λI=>decide (I.1=k)).map (·.2)
def putK (kvs:List (κ×V)) (k:κ) (v:V):List (κ×V):=
 if (kvs.any λI=>decide (I.1=k))=true then kvs.map (λI=>if I.1=k then (I.1,v) else I) else kvs ++ [(k,v)]
def dropK (kvs:List (κ×V))(k:κ):List (κ×V):=kvs.filter λI=>decide (I.1≠k)
end
abbrev KT (H:Hp):List (List Key×V)->List (List Key×Addr×Value)->Prop:=Paired λp q=>p.1=q.1/\H q.2.1=some (.tup (p.1.map kV))/\RelV p.2 q.2.2
def DGet (H:Hp) (a:Addr) (y:V) (r:Option V):Prop:=
 (∃kvs k,Rd H a (.dK kvs)/\y=kV k/\r=Do kvs k)\/∃kvs k b,Rd H a (.dT kvs)/\y=.ref b/\H b=some (.tup (k.map kV))/\r=Do kvs k
def DPut (H:Hp) (a:Addr) (y v:V) (H':Hp):Prop:=
 (∃kvs k,H a=some (.dK kvs)/\y=kV k/\kvs.length<sizeLine/\H'=upd H a (.dK (putK kvs k v))) \/
 ∃kvs k b,H a=some (.dT kvs)/\y=.ref b/\H b=some (.tup (k.map kV))/\kvs.length<sizeLine/\H'=upd H a (.dT (putK kvs k v))
end L2
namespace L2
open PySem
structure Sub where
 t:Bool
 i:Addr
 l:Addr
def Sub.At (u:Sub)(h:Heap)(n:Nat):Prop:=if u.t=true then h.IsTupleIter u.i u.l n else h.IsListIter u.i u.l n
def Sub.Src (u:Sub)(h:Heap)(xs:VW):Prop:=if u.t=true then h.IsTuple u.l xs else h.IsList u.l xs
def Sub.At.obj {u:Sub}(x:u.At h n):∃o,h.get? u.i=some o/\o.data=.fields #[.ref u.l,.int n 0]:=by
 unfold Sub.At at x
 split at x <;> (obtain ⟨o,e,_,d⟩:=x;show ⟨o,e,d⟩)
def Sub.At.keep {u:Sub}(x:u.At h n) (k:∀o,h.get? u.i=some o->h'.get? u.i=some o):u.At h' n:=by
 unfold Sub.At at x ⊢
 split at x <;> (rename_i ht;obtain ⟨o,e,r⟩:=x;simp only [ht,qP0,qP1,qE1];show ⟨o,k o e,r⟩)
def Sub.Src.keep {u:Sub}(x:u.Src h xs) (k:∀o,h.get? u.l=some o->h'.get? u.l=some o):u.Src h' xs:=by
 unfold Sub.Src at x ⊢
 split at x <;> (rename_i ht;obtain ⟨o,e,r⟩:=x;simp only [ht,qP0,qP1,qE1];show ⟨o,k o e,r⟩)
def ip (I:s.heap.IsTupleIter it t i) (ht:s.heap.IsTuple t items) (hx:items[i]?=some x) (hQ:∀h',h'.IsTupleIter it t (i+1)->Heap.SameBut it s.heap h'->Q x { s with heap:=h' }):wpAny (model prog w) A (Builtin.SmallTypes.nextOf (.ref it)) Q E s:=by
 obtain ⟨o,O,hc,hd⟩:=id I;obtain ⟨ol,T,_,nl,a0⟩:=ht;unfold Builtin.SmallTypes.nextOf;refine qA1 (qP7 (name:=Str.ofString "__next__") I.typeIs qK7 (qQ8 qK7 I.typeIs F.entry_tuple_iterator_next ?_ (F.args_tuple_iterator_next_1 _)))
 change wpAny _ _ (field (.ref it) 0>>=_) _ _ s;refine qA1 (qP2 O hd (x:=.ref t) rfl ?_)
 change wpAny _ _ (if (Value.ref t == Value.none)=true then _ else _) _ _ s;rw[qA4 (show ¬ ((Value.ref t == Value.none)=true) from qB0)]
 change wpAny _ _ (field (.ref it) 1>>=_) _ _ s;refine qA1 (qP2 O hd (x:=.int i 0) rfl ?_)
 change wpAny _ _ (seqItems? (.ref t)>>=_) _ _ s;refine qA1 (qP6 T a0 ?_);simp only [qD9,hx];refine qA1 (wpAny_setField O hd ZV (qO6 ⟨x,rfl,qO6 (hQ _ ?_ (qK0 ..))⟩));show ⟨_,qK6 _ O (Obj.isFreed_of_fields (Obj.data_mapFields hd _)),(Obj.cls_mapFields ..).trans hc,by rw[Obj.data_mapFields hd];simp [rawInt]⟩
def jq (hh:A.handled=none) (I:s.heap.IsTupleIter it t i) (ht:s.heap.IsTuple t items) (hx:items[i]?=none) (hE:∀h' e,Heap.ExtBut it s.heap h'->(∃o,h'.get? e=some o/\o.cls=.type "StopIteration")->E (.ref e) { s with heap:=h' }):wpAny (model prog w) A (Builtin.SmallTypes.nextOf (.ref it)) Q E s:=by
 obtain ⟨o,ho,hc,hd⟩:=id I;obtain ⟨ol,O,_,nl,T⟩:=ht;unfold Builtin.SmallTypes.nextOf;refine qA1 (qP7 (name:=Str.ofString "__next__") I.typeIs qK7 (qQ8 qK7 I.typeIs F.entry_tuple_iterator_next ?_ (F.args_tuple_iterator_next_1 _)))
 change wpAny _ _ (field (.ref it) 0>>=_) _ _ s;refine qA1 (qP2 ho hd (x:=.ref t) rfl ?_)
 change wpAny _ _ (if (Value.ref t == Value.none)=true then _ else _) _ _ s;rw[qA4 (show ¬ ((Value.ref t == Value.none)=true) from qB0)]
 change wpAny _ _ (field (.ref it) 1>>=_) _ _ s;refine qA1 (qP2 ho hd (x:=.int i 0) rfl ?_)
 change wpAny _ _ (seqItems? (.ref t)>>=_) _ _ s;refine qA1 (qP6 O T ?_);simp only [qD9,hx];refine qA1 (qS1 (qA1 (wpAny_setField ho hd ZV ?_)));change wpAny _ _ (newExc (.type "StopIteration") []>>=_) _ _ _;refine qA1 ?_;simp only [newExc,newTuple];refine qA1 (qP5 ?_ (by size_fits));refine qA1 (m:=firstArgMember _ _) (wpAny_of_eq (a:=Value.none) (by first|rfl | (simp only [firstArgMember];rfl)) ?_);refine qP5 ?_ (by size_fits);simp only [raiseNew];refine qA1 (wpAny_handled ?_);first|rw[show A.in1.handled=none from hh] |rw[hh]
 refine qA1 (qO6 (wpAny_throw ?_));show hE _ _ (((qK0 ..).extBut.push _).push _) ⟨_,qC0 _ rfl,rfl⟩
def Sub.item {u:Sub}(ha:u.At s.heap n) (I:u.Src s.heap xs) (hx:xs[n]?=some x) (O:∀h',u.At h' (n+1)->Heap.SameBut u.i s.heap h'->Q x { s with heap:=h' }):wpAny (model prog w) A (Builtin.SmallTypes.nextOf (.ref u.i)) Q E s:=by
 unfold Sub.At at ha O;unfold Sub.Src at I;cases T:u.t with
 |true=>simp only [T,qP0]at ha I O;show ip ha I hx O
 |false=>simp only [T,qP1,qE1]at ha I O;show wpAny_nextOf_list_item ha I hx O
def Sub.ends {u:Sub}(hh:A.handled=none) (ha:u.At s.heap n) (I:u.Src s.heap xs) (T:xs[n]?=none) (hE:∀h' e,Heap.ExtBut u.i s.heap h'->(∃o,h'.get? e=some o/\o.cls=.type "StopIteration")->E (.ref e) { s with heap:=h' }):wpAny (model prog w) A (Builtin.SmallTypes.nextOf (.ref u.i)) Q E s:=by
 unfold Sub.At at ha;unfold Sub.Src at I;cases O:u.t with
 |true=>simp only [O,qP0]at ha I;show jq hh ha I T hE
 |false=>simp only [O,qP1,qE1]at ha I;show wpAny_nextOf_list_end hh ha I T hE
abbrev J3 (h:Heap)(T:Addr)(arr:VW):Prop:=h.get? T=some { cls:=.type "tuple",data:=.seq arr }
def drawn (n:Nat):List (Sub×Array Value)->Nat->Array Value->Array Value
 | [],_,arr=>arr
 |u::r,c,arr=>drawn n r (c+1) (arr.setIfInBounds c (u.2.getD n .none))
def zW (prog:Program) (w:World) (A:Around) (z TO:Addr) (E:VX) (B:Value×Nat->Option Fin×Unit->Sem (ForInStep (Option Fin×Unit))):Prop:=
 ∀ (v:Value) (k:Nat) (s:Shared) (Q:ForInStep (Option Fin×Unit)->Shared->Prop),
  wpAny (model prog w) A (Builtin.SmallTypes.nextOf v) (λx s1=>∃arr,J3 s1.heap TO arr/\arr.size<=sizeLine/\∀h',J3 h' TO (arr.setIfInBounds k x)->Heap.SameBut TO s1.heap h'->Q (.yield (none,())) { s1 with heap:=h' })
   (λe s1=>wpAny (model prog w) A (setField (.ref z) 0 .none) (λ_ s2=>E e s2) E s1) s->wpAny (model prog w) A (B (v,k) (none,())) Q E s
structure Apart (z TO:Addr) (ss:List (Sub×Array Value)):Prop where
 zTO:z≠TO
 zi:∀u∈ss,u.1.i≠z
 ti:∀u∈ss,u.1.i≠TO
 nd:ss.Pairwise λu v=>u.1.i≠v.1.i
 lz:∀u∈ss,u.1.l≠z
 lt:∀u∈ss,u.1.l≠TO
 li:∀u∈ss,∀v∈ss,u.1.l≠v.1.i
def Apart.tail {TO:Addr}(D:Apart z TO (u::ss)):Apart z TO ss:=
 ⟨D.zTO,λv I=>D.zi v (qA8 _ I),λv I=>D.ti v (qA8 _ I),(qR8.mp D.nd).2,λv I=>D.lz v (qA8 _ I),λv I=>D.lt v (qA8 _ I),
  λv I x O=>D.li v (qA8 _ I) x (qA8 _ O)⟩
def draws {TI TO:Addr}(hB:zW prog w A z TO E B):
  ∀ (ss:List (Sub×Array Value)) (c:Nat) (arr:VW) (s:Shared) (Q:Option Fin×Unit->Shared->Prop),Apart z TO ss->IsZip s.heap z TI TO .ellipsis->J3 s.heap TO arr->arr.size<=sizeLine ->
   (∀u∈ss,u.1.At s.heap n/\u.1.Src s.heap u.2/\∃x,u.2[n]?=some x) ->
   (∀ h',IsZip h' z TI TO .ellipsis->J3 h' TO (drawn n ss c arr)->(∀u∈ss,u.1.At h' (n+1))->h'.objs.size=s.heap.objs.size ->
    (∀b o,b≠TO->(∀u∈ss,b≠u.1.i)->s.heap.get? b=some o->h'.get? b=some o)->Q (none,()) { s with heap:=h' }) ->
   wpAny (model prog w) A (forIn ((ss.map λu=>Value.ref u.1.i).zipIdx c) (none,()) B) Q E s:=by
 intro ss
 induction ss with
 | nil=>
  intro c arr s Q D hz hT hl hu hQ;simp only [qK5,List.zipIdx_nil,qN7];show qO6 (hQ s.heap hz hT (λ_ h=>absurd h qE4) rfl λ_ _ _ _ e=>e)
 | cons u r ih=>
  intro c arr s Q D hz hT hl hu hQ;simp only [qC2,List.zipIdx_cons,qL2];obtain ⟨ha,a0,x,hx⟩:=hu u qB3;refine qA1 (hB _ _ _ _ (Sub.item ha a0 hx λT a6 sb1=>⟨arr,sb1.extBut _ _ (D.ti u qB3).symm hT,hl,λO a7 sb2=>?_⟩));have uz:=D.zi u qB3;have ut:=D.ti u qB3;have kp:∀b o,b≠TO->b≠u.1.i->s.heap.get? b=some o->O.get? b=some o:=λb o T O e=>sb2.extBut _ _ T (sb1.extBut _ _ O e);have a4:∀v∈r,v.1.i≠u.1.i:=λv I=>((qR8.mp D.nd).1 v I).symm;refine ih (c+1) (arr.setIfInBounds c x) { s with heap:=O } Q D.tail (kp _ _ D.zTO uz.symm hz) a7 (by simpa using hl) (λv I=>?_) λh3 z3 T3 a3 s3 k3=>?_
  .obtain ⟨a,b,y⟩:=hu v (qA8 _ I);show ⟨a.keep λo e=>kp _ o (D.ti v (qA8 _ I)) (a4 v I) e,b.keep λo e=>kp _ o (D.lt v (qA8 _ I)) (D.li v (qA8 _ I) u qB3) e,y⟩
  .refine hQ h3 z3 ?_ (λv I=>?_) (by rw[s3];change O.objs.size=_;rw[sb2.1,sb1.1]) λb o T O e=>k3 b o T (λv I=>O v (qA8 _ I)) (kp b o T (O u qB3) e)
   .have e:u.2.getD n .none=x:=by simp [qG4,hx]
    change J3 h3 TO (drawn n r (c+1) (arr.setIfInBounds c (u.2.getD n .none)));rw[e];show T3
   .rcases qB5.mp I with rfl|I
    .show a6.keep λo e=>k3 _ o ut (λv' a5=>(a4 v' a5).symm) (sb2.extBut _ _ ut e)
    .show a3 v I
def vo {TI TO:Addr}(hh:A.handled=none) (hB:zW prog w A z TO E B):
  ∀ (ss:List (Sub×Array Value)) (c:Nat) (arr:VW) (s:Shared) (Q:Option Fin×Unit->Shared->Prop),Apart z TO ss->IsZip s.heap z TI TO .ellipsis->J3 s.heap TO arr->arr.size<=sizeLine ->
   (∀u∈ss,u.1.At s.heap n/\u.1.Src s.heap u.2)->(∃u∈ss,u.2[n]?=none) ->
   (∀h' e,(∀b o,b≠z->b≠TO->(∀u∈ss,b≠u.1.i)->s.heap.get? b=some o->h'.get? b=some o)->(∃o,h'.get? e=some o/\o.cls=.type "StopIteration")->E (.ref e) { s with heap:=h' }) ->
   wpAny (model prog w) A (forIn ((ss.map λu=>Value.ref u.1.i).zipIdx c) (none,()) B) Q E s:=by
 intro ss
 induction ss with
 | nil=>
  intro c arr s Q D hz hT hl hu hx hQ;obtain ⟨_,h,_⟩:=hx;show absurd h qE4
 | cons u r ih=>
  intro c arr s Q D hz hT hl hu hx hQ;simp only [qC2,List.zipIdx_cons,qL2];obtain ⟨ha,O⟩:=hu u qB3;have uz:=D.zi u qB3;have ut:=D.ti u qB3;cases a0:u.2[n]? with
  | none=>
   refine qA1 (hB _ _ _ _ (Sub.ends hh ha O a0 λh1 e eb he=>?_));obtain ⟨oe,T,a4⟩:=he;have a3:IsZip h1 z TI TO .ellipsis:=eb _ _ uz.symm hz;have a5:e≠z:=λx=>by subst x;rw[a3]at T;cases T;simp at a4
   show qQ9 a3 ZV λh3 _ sb3=>hQ h3 e (λb o b1 b2 b3 q=>sb3.extBut _ _ b1 (eb _ _ (b3 u qB3) q)) ⟨oe,sb3.extBut _ _ a5 T,a4⟩
  | some x=>
   refine qA1 (hB _ _ _ _ (Sub.item ha O a0 λh1 a8 sb1=>⟨arr,sb1.extBut _ _ ut.symm hT,hl,λh2 a7 sb2=>?_⟩));have kp:∀b o,b≠TO->b≠u.1.i->s.heap.get? b=some o->h2.get? b=some o:=λb o h1 h2 e=>sb2.extBut _ _ h1 (sb1.extBut _ _ h2 e);have a6:∀v∈r,v.1.i≠u.1.i:=λv I=>((qR8.mp D.nd).1 v I).symm;refine ih (c+1) (arr.setIfInBounds c x) { s with heap:=h2 } Q D.tail (kp _ _ D.zTO uz.symm hz) a7 (by simpa using hl) (λv I=>?_) ?_ λh3 e k3 he=>?_
   .obtain ⟨a,b⟩:=hu v (qA8 _ I);show ⟨a.keep λo e=>kp _ o (D.ti v (qA8 _ I)) (a6 v I) e,b.keep λo e=>kp _ o (D.lt v (qA8 _ I)) (D.li v (qA8 _ I) u qB3) e⟩
   .obtain ⟨v,I,e⟩:=hx;rcases qB5.mp I with rfl|I
    .rw[a0]at e;cases e
    .show ⟨v,I,e⟩
   .show hQ h3 e (λb o b1 b2 b3 q=>k3 b o b1 b2 (λv I=>b3 v (qA8 _ I)) (kp b o b2 (b3 u qB3) q)) he
def rN (n:Nat):∀(ss:List (Sub×Array Value)) (c:Nat) (arr:VW),(drawn n ss c arr).size=arr.size:=by
 intro ss
 induction ss with
 |nil=>intro c arr;rfl
 |cons u r I=>intro c arr;unfold drawn;rw[I];simp
def vp (n:Nat):∀(ss:List (Sub×Array Value)) (c:Nat) (arr:VW),c+ss.length=arr.size->(drawn n ss c arr).toList=arr.toList.take c++ss.map λu=>u.2.getD n .none:=by
 intro ss
 induction ss with
 | nil=>
  intro c arr h;unfold drawn;simp at h;subst h;rw[qK5,qH3];show (qL5 ZV).symm
 | cons u r I=>
  intro c arr h;unfold drawn;have hc:c<arr.size:=by simp at h;omega
  rw[I (c+1) _ (by simp at h ⊢;omega)];rw[qC2,Array.toList_setIfInBounds]
  have:(arr.toList.set c (u.2.getD n Value.none)).take (c+1)=arr.toList.take c ++ [u.2.getD n Value.none]:=by
   rw[qL6,List.take_set,qF1 (by simpa using hc)];rw[List.set_eq_of_length_le (by simp;omega)];rfl
  rw[this,qJ8];rfl
def we {TI TO:Addr}(D:Apart z TO ss) (a6:ss ≠ []) (a3:arr.size=ss.length) (O:ss.length<=sizeLine) (hz:IsZip s.heap z TI TO .none) (a4:J3 s.heap TI (ss.map λu=>Value.ref u.1.i).toArray) (a5:J3 s.heap TO arr) (hu:∀u∈ss,u.1.At s.heap n/\u.1.Src s.heap u.2/\∃x,u.2[n]?=some x) (hQ:∀h',IsZip h' z TI TO (rawInt s.heap.objs.size)->(∃arr',J3 h' TO arr'/\arr'.size=ss.length)->(∀u∈ss,u.1.At h' (n+1))->J3 h' s.heap.objs.size (ss.map λu=>u.2.getD n .none).toArray ->
   (∀b o,b≠z->b≠TO->(∀u∈ss,b≠u.1.i)->s.heap.get? b=some o->h'.get? b=some o)->Q (some (.ref s.heap.objs.size)) { s with heap:=h' }):
  wpAny (model prog w) A (pyNext (.ref z)) Q E s:=by
 have hT:s.TypeIs (.ref z) "zip" := ⟨_,hz,rfl⟩;unfold pyNext;refine qA1 (wpAny_attempt (qP7 (name:=Str.ofString "__next__") hT qU2 (qQ8 qU2 hT F.entry_zip_next ?_ (F.args_zip_next_1 _))))
 change wpAny _ _ (field (.ref z) 2>>=_) _ _ _;refine qA1 (qP2 hz rfl (x:=.bool false) rfl ?_)
 change wpAny _ _ (field (.ref z) 3>>=_) _ _ _;refine qA1 (qP2 hz rfl (x:=.ref TI) rfl ?_);refine qA1 (qP6 a4 rfl ?_);have e1:(ss.map λu=>Value.ref u.1.i).toArray.isEmpty=false:=by cases ss <;> simp_all
 simp only [e1];refine qA1 ?_;unfold Builtin.SmallTypes.ownedTupleIsFree;refine qA1 (qP2 hz rfl (x:=.none) rfl (qO6 ?_));simp only [qP0];refine qA1 (qS1 ?_);refine qA1 (qP2 hz rfl (x:=.ref TO) rfl ?_);refine qA1 (qQ9 hz ZV λh1 z1 sb1=>?_);replace z1:IsZip h1 z TI TO .ellipsis:=z1
 refine qA1 (draws (TI:=TI) (n:=n) (z:=z) (TO:=TO) ?_ ss 0 arr _ _ D z1 (sb1.extBut _ _ D.zTO.symm a5) ox (λu hm=>?_) λI z2 T2 a2 s2 k2=>?_)
 .intro v k s Q h;refine qA1 (wpAny_onRaise ?_)
  change wpAny _ _ (Builtin.SmallTypes.nextOf v>>=_) _ _ _;refine qA1 (qP8 h (λx s1 ⟨arr,hT1,hl,hq⟩=>qO6 ?_) λe s1 he=>he);refine qA1 (qP6 hT1 rfl ?_);refine qA1 (qR0 hT1 rfl ?_ hl (by rw[qX7];omega));refine qA1 (qR1 (qO6 (hq _ ?_ (qK0 ..))))
  change Heap.get? _ _=_;rw[qK6 _ hT1 rfl];simp [Obj.mapSeq]
 .obtain ⟨a,b,x⟩:=hu u hm;show ⟨a.keep λo e=>sb1.extBut _ _ (D.zi u hm) e,b.keep λo e=>sb1.extBut _ _ (D.lz u hm) e,x⟩
 .have ed:(drawn n ss 0 arr).toList=ss.map λu=>u.2.getD n .none:=by rw[vp n ss 0 arr ox];simp
  refine qA1 (qP6 T2 rfl ?_);have a0:I.objs.size=s.heap.objs.size:=by rw[s2];show sb1.1
  have T:z<I.objs.size:=qB2 z2;refine qA1 (qV2 (qA1 ?_) (by rw[ed,qA5];show O));unfold Builtin.SmallTypes.ownedTupleHandOut;have z3:IsZip (I.push { cls:=.type "tuple",data:=.seq (drawn n ss 0 arr).toList.toArray }) z TI TO .ellipsis:=qA7 _ z2;refine qA1 (qQ9 z3 ZV λh4 z4 sb4=>?_);replace z4:IsZip h4 z TI TO (rawInt I.objs.size):=z4
  refine qQ9 z4 ZV λh5 z5 sb5=>?_;replace z5:IsZip h5 z TI TO (rawInt I.objs.size):=z5
  have up:∀b o,b≠z->I.get? b=some o->h5.get? b=some o:=λb o hb e=>sb5.extBut _ _ hb (sb4.extBut _ _ hb (qA7 _ e));have T5:J3 h5 I.objs.size (drawn n ss 0 arr).toList.toArray:=sb5.extBut _ _ (qJ4 T) (sb4.extBut _ _ (qJ4 T) (qC0 _ rfl));rw[ed]at T5;rw[a0]at z5 T5;refine qO6 ⟨_,rfl,qO6 ?_⟩
  change Q (some (.ref I.objs.size)) _;rw[a0];show hQ h5 z5 ⟨_,up _ _ D.zTO.symm T2,by rw[rN,a3]⟩ (λu hm=>(a2 u hm).keep λo e=>up _ o (D.zi u hm) e) T5 λb o b1 b2 b3 e=>up b o b1 (k2 b o b2 b3 (sb1.extBut _ _ b1 e))
def wd {TI TO:Addr}(hh:A.handled=none) (D:Apart z TO ss) (a3:arr.size=ss.length) (I:ss.length<=sizeLine) (hz:IsZip s.heap z TI TO .none) (O:J3 s.heap TI (ss.map λu=>Value.ref u.1.i).toArray) (a0:J3 s.heap TO arr) (hu:∀u∈ss,u.1.At s.heap n/\u.1.Src s.heap u.2) (hx:∃u∈ss,u.2[n]?=none) (hQ:∀h',(∀b o,b≠z->b≠TO->(∀u∈ss,b≠u.1.i)->s.heap.get? b=some o->h'.get? b=some o)->Q none { s with heap:=h' }):
  wpAny (model prog w) A (pyNext (.ref z)) Q E s:=by
 have hT:s.TypeIs (.ref z) "zip" := ⟨_,hz,rfl⟩;unfold pyNext;refine qA1 (wpAny_attempt (qP7 (name:=Str.ofString "__next__") hT qU2 (qQ8 qU2 hT F.entry_zip_next ?_ (F.args_zip_next_1 _))))
 change wpAny _ _ (field (.ref z) 2>>=_) _ _ _;refine qA1 (qP2 hz rfl (x:=.bool false) rfl ?_)
 change wpAny _ _ (field (.ref z) 3>>=_) _ _ _;refine qA1 (qP2 hz rfl (x:=.ref TI) rfl ?_);refine qA1 (qP6 O rfl ?_);have e1:(ss.map λu=>Value.ref u.1.i).toArray.isEmpty=false:=by
  obtain ⟨u,hm,_⟩:=hx;cases ss with
  |nil=>show nomatch hm
  |cons a b=>simp
 simp only [e1];refine qA1 ?_;unfold Builtin.SmallTypes.ownedTupleIsFree;refine qA1 (qP2 hz rfl (x:=.none) rfl (qO6 ?_));simp only [qP0];refine qA1 (qS1 ?_);refine qA1 (qP2 hz rfl (x:=.ref TO) rfl ?_);refine qA1 (qQ9 hz ZV λh1 z1 sb1=>?_);replace z1:IsZip h1 z TI TO .ellipsis:=z1
 refine qA1 (vo (A:=A.in1) (TI:=TI) (n:=n) (z:=z) (TO:=TO) (show A.in1.handled=none from hh) ?_ ss 0 arr _ _ D z1 (sb1.extBut _ _ D.zTO.symm a0) ox (λu hm=>?_) hx λh2 e k2 he=>?_)
 .intro v k s Q h;refine qA1 (wpAny_onRaise ?_)
  change wpAny _ _ (Builtin.SmallTypes.nextOf v>>=_) _ _ _;refine qA1 (qP8 h (λx s1 ⟨arr,hT1,hl,hq⟩=>qO6 ?_) λe s1 he=>he);refine qA1 (qP6 hT1 rfl ?_);refine qA1 (qR0 hT1 rfl ?_ hl (by rw[qX7];omega));refine qA1 (qR1 (qO6 (hq _ ?_ (qK0 ..))))
  change Heap.get? _ _=_;rw[qK6 _ hT1 rfl];simp [Obj.mapSeq]
 .obtain ⟨a,b⟩:=hu u hm;show ⟨a.keep λo e=>sb1.extBut _ _ (D.zi u hm) e,b.keep λo e=>sb1.extBut _ _ (D.lz u hm) e⟩
 .obtain ⟨o,ho,hc⟩:=he;refine qA1 (wpAny_isInstance (T := "StopIteration") (b:=true) ⟨o,ho,hc⟩ isSubtype_stop ?_);show qO6 (hQ _ λb o b1 b2 b3 e=>k2 b o b1 b2 b3 (sb1.extBut _ _ b1 e))
def SrcAt (h:Heap)(u:Bool×Addr×Array Value):Prop:=if u.1=true then h.IsTuple u.2.1 u.2.2 else h.IsList u.2.1 u.2.2
def l7 (n:Nat):List (Bool×Addr×Array Value)->List (Sub×Array Value)
 | []=>[]
 |u::r=>(⟨u.1,n,u.2.1⟩,u.2.2)::l7 (n+1) r
def ya (I:SrcAt s.heap u) (T:∀h',(Sub.mk u.1 s.heap.objs.size u.2.1).At h' 0->h'.objs.size=s.heap.objs.size+1->(∀b o,s.heap.get? b=some o->h'.get? b=some o)->Q (.ref s.heap.objs.size) { s with heap:=h' }):
  wpAny (model prog w) A (pyIter (.ref u.2.1)) Q E s:=by
 unfold SrcAt at I;cases O:u.1 with
 | true=>
  simp only [O,qP0]at I;refine qQ0 I (T _ ?_ (qI1 ..) λb o e=>qA7 _ e);unfold Sub.At;simp only [O,qP0];show ⟨_,qC0 _ rfl,rfl,rfl⟩
 | false=>
  simp only [O,qE1,qP1]at I;refine qQ6 I (T _ ?_ (qI1 ..) λb o e=>qA7 _ e);unfold Sub.At;simp only [O,qE1,qP1];show ⟨_,qC0 _ rfl,rfl,rfl⟩
def SrcAt.keep (x:SrcAt h u) (k:∀b o,h.get? b=some o->h'.get? b=some o):SrcAt h' u:=by
 unfold SrcAt at x ⊢
 split at x <;> (rename_i ht;obtain ⟨o,e,r⟩:=x;simp only [ht,qP0,qP1,qE1];show ⟨o,k _ o e,r⟩)
def oH:∀(us:List (Bool×Addr×Array Value)) (I:VW) (s:Shared) (Q:Array Value->Shared->Prop),(∀u∈us,SrcAt s.heap u) ->
  (∀ h',(∀v∈l7 s.heap.objs.size us,v.1.At h' 0)->h'.objs.size=s.heap.objs.size+us.length->(∀b o,s.heap.get? b=some o->h'.get? b=some o) ->
   Q (I++((l7 s.heap.objs.size us).map λv=>Value.ref v.1.i).toArray) { s with heap:=h' }) ->
  wpAny (model prog w) A (forIn (us.map λu=>Value.ref u.2.1) I λx r=>do let y <- holding r.toList (pyIter x);pure (ForInStep.yield (r.push y))) Q E s:=by
 intro us
 induction us with
 | nil=>
  intro I s Q _ hQ;simp only [qK5,qN7]
  have:=hQ s.heap (λ_ h=>absurd h qE4) rfl λ_ _ e=>e
  show qO6 (by simpa [l7]using this)
 | cons u r ih=>
  intro I s Q hs hQ;simp only [qC2,qL2];refine qA1 (qA1 (qP4 (ya (hs u qB3) λO a1 s1 k1=>qO6 ?_)));refine ih (I.push (.ref s.heap.objs.size)) { s with heap:=O } Q (λv T=>(hs v (qA8 _ T)).keep k1) λh2 a2 s2 k2=>?_;have e0:l7 O.objs.size r=l7 (s.heap.objs.size+1) r:=by rw[s1]
  have q:=hQ h2 (λv T=>?_) (by rw[s2];change O.objs.size+_=_;rw[s1,qC5];omega) λb o e=>k2 b o (k1 b o e)
  .have e:I.push (Value.ref s.heap.objs.size)++(List.map (λv=>Value.ref v.1.i) (l7 O.objs.size r)).toArray=I++(List.map (λv=>Value.ref v.1.i) (l7 s.heap.objs.size (u::r))).toArray:=by
    rw[e0];simp [l7]
   change Q (I.push (Value.ref s.heap.objs.size)++(List.map (λv=>Value.ref v.1.i) (l7 O.objs.size r)).toArray) _;rw[e];show q
  .rcases qB5.mp T with rfl|T
   .show a1.keep λo e=>k2 _ o e
   .show a2 v (by change v∈l7 O.objs.size r;rw[e0];show T)
def yb (I:∀u∈us,SrcAt s.heap u) (T:∀h',(∀v∈l7 s.heap.objs.size us,v.1.At h' 0)->h'.objs.size=s.heap.objs.size+us.length->(∀b o,s.heap.get? b=some o->h'.get? b=some o) ->
   Q ((l7 s.heap.objs.size us).map λv=>Value.ref v.1.i) { s with heap:=h' }):wpAny (model prog w) A (Builtin.SmallTypes.iterAll (us.map λu=>Value.ref u.2.1)) Q E s:=by
 unfold Builtin.SmallTypes.iterAll;refine qA1 (oH us #[] s _ I λh' a1 s1 O=>qO6 ?_)
 have:=T h' a1 s1 O
 simpa using this
def V8:∀(us:List (Bool×Addr×Array Value)) (n:Nat),(l7 n us).length=us.length:=by
 intro us
 induction us with
 |nil=>intro n;rfl
 |cons u r I=>intro n;unfold l7;rw[qC5,I,qC5]
def kj (us:List (Bool×Addr×Array Value)) (hl:us.length<=sizeLine) :
  Meets (Builtin.«zip.__new__» ⟨.type "zip" :: us.map λu=>Value.ref u.2.1,[]⟩) (λ_ R s=>(∀u∈us,SrcAt s.heap u) /\
   ∀ h',(∀v∈l7 s.heap.objs.size us,v.1.At h' 0)->J3 h' (s.heap.objs.size+us.length) ((l7 s.heap.objs.size us).map λv=>Value.ref v.1.i).toArray ->
    (∃arr,J3 h' (s.heap.objs.size+us.length+1) arr/\arr.size=us.length)->IsZip h' (s.heap.objs.size+us.length+2) (s.heap.objs.size+us.length) (s.heap.objs.size+us.length+1) .none ->
    (∀b o,s.heap.get? b=some o->h'.get? b=some o)->R (.ok (.ret (.ref (s.heap.objs.size+us.length+2)))) { s with heap:=h' }):=
 .of_wp λprog w A R s h=>by
  obtain ⟨hs,h⟩:=h
  change wpAny _ _ (Builtin.SmallTypes.newClass "zip" _>>=_) _ _ _;refine qA1 ?_;unfold Builtin.SmallTypes.newClass;refine qA1 (wpAny_of_eq (a:=true) rfl ?_);simp only [xC4,qE1,qP1];refine qA1 (wpAny_of_eq (a:=true) sub_zip ?_);simp only [xC4,qE1,qP1];refine qO6 ?_;simp only [qN1,show ¬ (0>1) by decide,qP1];refine qA1 (yb hs λO a1 s1 k1=>?_);refine qA1 (qV2 ?_ (by simp [V8,hl]));refine qA1 (qV2 ?_ (by simp [V8,hl]));generalize hI:((l7 s.heap.objs.size us).map λv=>Value.ref v.1.i)=I at h ⊢
  have T:I.length=us.length:=by rw[<- hI,qA5,V8]
  refine qA1 ?_
  change wpAny _ _ (newObj (.type "zip") (.fields #[.none,.bool false,.bool false,.ref O.objs.size,.ref (O.push { cls:=.type "tuple",data:=.seq I.toArray }).objs.size]) none) _ _ _;refine qP5 (qO6 ?_) (by size_fits);have z0:O.objs.size=s.heap.objs.size+us.length:=s1;have z1:(O.push { cls:=.type "tuple",data:=.seq I.toArray }).objs.size=s.heap.objs.size+us.length+1:=by rw[qI1,s1]
  have z2:((O.push { cls:=.type "tuple",data:=.seq I.toArray }).push { cls:=.type "tuple",data:=.seq (I.map λ_=>Value.none).toArray }).objs.size=s.heap.objs.size+us.length+2:=by rw[qI1,z1]
  refine ⟨_,rfl,?_⟩;have g:=h (((O.push { cls:=.type "tuple",data:=.seq I.toArray }).push { cls:=.type "tuple",data:=.seq (I.map λ_=>Value.none).toArray }).push { cls:=.type "zip",data:=.fields #[.none,.bool false,.bool false,.ref O.objs.size,.ref (O.push { cls:=.type "tuple",data:=.seq I.toArray }).objs.size] })
   (λv hv=>(a1 v hv).keep λo e=>qA7 _ (qA7 _ (qA7 _ e))) ?_ ⟨(I.map λ_=>Value.none).toArray,?_,by simp [T]⟩ ?_ λb o e=>qA7 _ (qA7 _ (qA7 _ (k1 b o e)))
  .rw [<- z2]at g
   show g
  .rw[<- z0];show qA7 _ (qA7 _ (qC0 _ rfl))
  .rw[<- z1];show qA7 _ (qC0 _ rfl)
  .rw[<- z2,<- z1,<- z0];show qC0 _ rfl
def qw (a b c:Value):checkTypeCall "zip" ⟨[a,b,c],[]⟩=pure ():=ZJ
def qW (a b c:Value):checkBuiltinCall "zip.__new__" ⟨[.type "zip",a,b,c],[]⟩=pure ():=ZJ
def rY (a b c d:Value):argsOk "object.__init__" ⟨[a,b,c,d],[]⟩:=by
 unfold argsOk;rw[signature?_of (id := "object.__init__") (n:=['_','_','t','i','n','i','_','_']) (o:=['t','c','e','j','b','o']) ZJ F.owner_object];kernel_rfl
def yR (us:List (Bool×Addr×Array Value)) (I:us.length=2\/us.length=3) (T:∀u∈us,SrcAt s.heap u) (h:∀h',(∀v∈l7 s.heap.objs.size us,v.1.At h' 0)->J3 h' (s.heap.objs.size+us.length) ((l7 s.heap.objs.size us).map λv=>Value.ref v.1.i).toArray ->
    (∃arr,J3 h' (s.heap.objs.size+us.length+1) arr/\arr.size=us.length)->IsZip h' (s.heap.objs.size+us.length+2) (s.heap.objs.size+us.length) (s.heap.objs.size+us.length+1) .none ->
    (∀b o,s.heap.get? b=some o->h'.get? b=some o)->Q (.ref (s.heap.objs.size+us.length+2)) { s with heap:=h' }):
  wpAny (model prog w) A (call (.type "zip") (us.map λu=>Value.ref u.2.1)) Q E s:=by
 have O:us.length<=sizeLine:=qC1 (show us.length<=3 by omega) ZY;have k:∀h',_->_->_->_->_->({ s with heap:=h' }:Shared).TypeIs (.ref (s.heap.objs.size+us.length+2)) "zip" /\ Q (.ref (s.heap.objs.size+us.length+2)) { s with heap:=h' }:=λh' c1 c2 c3 c4 c5=>⟨⟨_,c4,rfl⟩,h h' c1 c2 c3 c4 c5⟩;cases us with
 |nil=>rcases I with I|I <;> cases I
 | cons a us=>
  cases us with
  |nil=>rcases I with I|I <;> cases I
  | cons b us=>
   cases us with
   |nil=>show callType_new F.called_zip ZY (F.typeCall_zip_2 _ _) (F.newCall_zip_2 _ _) (λobj=>F.args_object_init_3 obj _ _) F.entry_zip_new (kj [a,b] O) ⟨T,k⟩
   | cons c us=>
    cases us with
    |nil=>show callType_new F.called_zip ZY (qw _ _ _) (qW _ _ _) (λobj=>rY obj _ _ _) F.entry_zip_new (kj [a,b,c] O) ⟨T,k⟩
    |cons d us=>rcases I with I|I <;> (simp only [qC5]at I;omega)
end L2
namespace L2
open PySem PySem.Spec PyProof.Rows
def bG {α T:Type}{R:α->T->Prop}:∀{l:List α},(∀a∈l,∃b,R a b)->∃I:List (α×T),I.map (·.1)=l/\∀p∈I,R p.1 p.2:=by
 intro l
 induction l with
 |nil=>show λ_=>⟨[],rfl,λ_ h=>absurd h qE4⟩
 | cons a l ih=>
  intro h;obtain ⟨b,hb⟩:=h a qB3;obtain ⟨I,e,q⟩:=ih λx hx=>h x (qA8 _ hx);refine ⟨(a,b)::I,by rw[qC2,e],λp O=>?_⟩;rcases qB5.mp O with rfl|O
  .show hb
  .show q p O
def Sq (K:Frag)(H:Hp)(t:Bool)(a:Addr)(xs:List V):Prop:=if t=true then SqT K H a xs else SqL K H a xs
def kne {σ:St}(I:Inv X pins σ H s) (h:X.K.lookup a=some o) (f:A9 X pins H b):a≠b:=by
 intro e;subst e;have O:X.base.get? a=some o:=I.mod.kin a o h;obtain ⟨f0,f1,f2,T,f4,f5⟩:=f;rcases T with z|z
 .show I.ok.noex a o O z
 .show absurd (qB6 (qB2 (I.ok.bs a o O).1) z) (qE2 _)
def Sq.ne {σ:St}(I:Inv X pins σ H s) (h:Sq X.K H t a xs) (f:A9 X pins H b):a≠b:=by
 have O:∀{u:HO},Rd H a u->a≠b:=λ{u} r e=>by
  subst e;have T:=f.1;rcases r with r|⟨o,r⟩ <;> (rw[T]at r;cases r)
 unfold Sq at h
 split at h
 .rcases h with h|⟨o,its,n,hk,_⟩
  .show O h
  .show kne I hk f
 .rcases h with h|⟨o,its,n,hk,_⟩
  .show O h
  .show kne I hk f
def Sq.src {σ:St}(I:Inv X pins σ H s) (h:Sq X.K H t a xs):∃its:List Value,Vals xs its/\(Sub.mk t 0 a).Src s.heap its.toArray:=by
 unfold Sq at h;unfold Sub.Src
 split at h
 .rename_i ht
  obtain ⟨its,r,p,_⟩:=I.tuple h;show ⟨its,r,by simp only [ht,qP0];show p⟩
 .rename_i ht
  obtain ⟨its,r,p,_⟩:=I.list h;show ⟨its,r,by simp only [ht,qP1];show p.isList⟩
def Sq.inj {σ:St}(I:Inv X pins σ H s) (h:Sq X.K H t a xs) (h':Sq X.K H t a ys):xs=ys:=by
 unfold Sq at h h'
 split at h
 .rename_i ht;simp only [ht,qP0]at h';show I.tuple_inj h h'
 .rename_i ht;simp only [ht,qP1]at h';show I.list_inj h h'
def ItZ (K:Frag) (us:List (Bool×Addr)):It:=
  ⟨fun i H=>∀u∈us,∃xs x,Sq K H u.1 u.2 xs/\xs[i]?=some x,
   λi H x H'=>∃p ys,x=.ref p/\H p=none/\H'=upd H p (.tup ys)/\Paired (λ(u:Bool×Addr) (y:V)=>∀xs,Sq K H u.1 u.2 xs->xs[i]?=some y) us ys,
   λi H=>(∀u∈us,∃xs,Sq K H u.1 u.2 xs)/\∃u∈us,∃xs,Sq K H u.1 u.2 xs/\xs.length<=i⟩
structure ZSt (z TI TO:Addr) (subs:List Sub):Prop where
 zTO:z≠TO
 TIz:TI≠z
 TITO:TI≠TO
 zi:∀u∈subs,u.i≠z
 ti:∀u∈subs,u.i≠TO
 Ii:∀u∈subs,u.i≠TI
 nd:subs.Pairwise λu v=>u.i≠v.i
abbrev zTn (z TI TO:Addr) (subs:List Sub) (i:Nat) (h:Heap):Prop:=
 IsZip h z TI TO .none/\J3 h TI (subs.map λu=>Value.ref u.i).toArray/\(∃arr,J3 h TO arr/\arr.size=subs.length)/\∀u∈subs,u.At h i
def Y9 {I:Type}{F:α->γ->Prop}{f:I->α}{g:I->γ}:∀{l:List I},(∀b∈l,F (f b) (g b))->Paired F (l.map f) (l.map g)
 | [],_=>.nil
 |_::_,h=>.cons (h _ qB3) (Y9 λb O=>h b (qA8 _ O))
def wq {K:Frag}{TI TO:Addr}(D:ZSt z TI TO subs) (c0:subs ≠ []) (b4:subs.length<=sizeLine):
  Turn P w K (.Tuple elts k tp) (ItZ K (subs.map λu=>(u.t,u.l))) (z::TI::TO::subs.map (·.i)) z (zTn z TI TO subs) where
 mem:=ZV
 obj:=λi h st b hb=>by
  obtain ⟨hz,a6,⟨arr,a7,_⟩,hs⟩:=st;simp only [qB5,qB1]at hb;rcases hb with rfl|rfl|rfl|⟨u,O,rfl⟩
  .show ⟨_,hz,λv q=>by cases q⟩
  .show ⟨_,a6,λv q=>by cases q⟩
  .show ⟨_,a7,λv q=>by cases q⟩
  .obtain ⟨o,e,d⟩:=(hs u O).obj;show ⟨o,e,λv q=>by rw[d]at q;cases q⟩
 keep:=λi h h' st kp=>by
  obtain ⟨hz,a6,⟨arr,a7,ha⟩,hs⟩:=st;show ⟨kp z ZV _ hz,kp TI ZV _ a6,⟨arr,kp TO ZV _ a7,ha⟩,λu O=>(hs u O).keep λo e=>kp u.i (by simp only [qB5,qB1];show .inr (.inr (.inr ⟨u,O,rfl⟩))) o e⟩
 item:=by
  intro X hP hw hK hc i pins s σ H E I hf st hg;subst hP hw hK;obtain ⟨hz,a6,⟨arr,a7,ha⟩,hs⟩:=st;have fz:=hf z ZV;have fT:=hf TO ZV;have fi:∀u∈subs,A9 X pins H u.i:=λu O=>hf u.i (by simp only [qB5,qB1];show .inr (.inr (.inr ⟨u,O,rfl⟩)));obtain ⟨ss,a3,a0⟩:=bG (R:=λ(u:Sub) (q:List Value×List V×V)=>Sq X.K H u.t u.l q.2.1/\Vals q.2.1 q.1/\u.Src s.heap q.1.toArray/\q.2.1[i]?=some q.2.2) (l:=subs) (λu O=>by
   obtain ⟨xs,x,h1,h2⟩:=hg (u.t,u.l) (qB1.mpr ⟨u,O,rfl⟩);obtain ⟨its,r,a9⟩:=Sq.src I h1;show ⟨(its,xs,x),h1,r,a9,h2⟩)
  have a4:∀v∈ss,v.1∈subs:=λv T=>by rw[<- a3];show qB1.mpr ⟨v,T,rfl⟩
  have ab:ss.Pairwise λu v=>u.1.i≠v.1.i:=by
   have:=D.nd
   rw[<- a3,qK9]at this;show this
  have DA:Apart z TO (ss.map λv=>(v.1,v.2.1.toArray)):=by
   refine ⟨D.zTO,?_,?_,?_,?_,?_,?_⟩
   .rintro _ O;obtain ⟨v,T,rfl⟩:=qB1.mp O;show D.zi _ (a4 v T)
   .rintro _ O;obtain ⟨v,T,rfl⟩:=qB1.mp O;show D.ti _ (a4 v T)
   .rw[qK9];show ab
   .rintro _ O;obtain ⟨v,T,rfl⟩:=qB1.mp O;show Sq.ne I (a0 v T).1 fz
   .rintro _ O;obtain ⟨v,T,rfl⟩:=qB1.mp O;show Sq.ne I (a0 v T).1 fT
   .rintro _ O _ b5;obtain ⟨v,T,rfl⟩:=qB1.mp O;obtain ⟨v2,b0,rfl⟩:=qB1.mp b5;show Sq.ne I (a0 v T).1 (fi _ (a4 v2 b0))
  have el:(ss.map λv=>(v.1,v.2.1.toArray)).length=subs.length:=by rw[qA5,<- a3,qA5]
  have eI:((ss.map λv=>(v.1,v.2.1.toArray)).map λu=>Value.ref u.1.i)=subs.map λu=>Value.ref u.i:=by rw[<- a3,qC3,qC3];rfl
  have ys:∀v∈ss,∃u,v.2.1.toArray[i]?=some u/\RelV v.2.2.2 u:=λv T=>by
   obtain ⟨u,e,r⟩:=(a0 v T).2.1.get (a0 v T).2.2.2;show ⟨u,by simpa using e,r⟩
  refine we (n:=i) DA (by intro q;apply c0;have:=congrArg List.length q;rw[el]at this;show qY5.mp this) (by rw[ha,el]) (by rw[el];show b4) hz (by rw[eI];show a6) a7 (λu O=>?_) λh1 z1 T1 a1 p1 k1=>?_
  .obtain ⟨v,T,rfl⟩:=qB1.mp O;obtain ⟨u,e,_⟩:=ys v T;show ⟨hs _ (a4 v T),(a0 v T).2.2.1,u,e⟩
  refine ⟨_,rfl,wpAny_letOwnedTupleGo_zip z1 λh2 z2 sb2=>?_⟩;have b6:z<s.heap.objs.size:=qB2 hz;have kp:∀b o,b≠z->b≠TO->(∀u∈subs,b≠u.i)->s.heap.get? b=some o->h2.get? b=some o:=λb o b1 b2 b3 e=>sb2.extBut _ _ b1 (k1 b o b1 b2 (λu O=>by obtain ⟨v,T,rfl⟩:=qB1.mp O;show b3 _ (a4 v T)) e);have a8:H s.heap.objs.size=none:=I.hok.fresh (qB4 _);have trk:∀b u,H b=some u->b≠z/\b≠TO/\∀v∈subs,b≠v.i:=λb u e=>⟨λq=>(by subst q;rw[fz.1]at e;cases e),λq=>(by subst q;rw[fT.1]at e;cases e),λv T q=>(by subst q;rw[(fi v T).1]at e;cases e)⟩;have c1:J3 h2 s.heap.objs.size (ss.map λv=>v.2.1.toArray.getD i .none).toArray:=by
   have:=sb2.extBut _ _ (qJ4 b6) p1
   rw[qC3]at this;show this
  have c4:Vals (ss.map λv=>v.2.2.2) (ss.map λv=>v.2.1.toArray.getD i .none):=Y9 λv T=>by
   obtain ⟨u,e,r⟩:=ys v T;rw[show v.2.1.toArray.getD i Value.none=u by simp only [qG4,e,Option.getD_some]];show r
  have len:(ss.map λv=>v.2.2.2).length<=sizeLine:=by rw[qA5,show ss.length=subs.length by rw[<- a3,qA5]];show b4
  refine ⟨.ref s.heap.objs.size,upd H s.heap.objs.size (.tup (ss.map λv=>v.2.2.2)),?_,rfl,⟨_,_,rfl,a8,rfl,?_⟩,⟨z2,?_,?_,λu O=>?_⟩,λb hb=>?_⟩
  .change Inv X pins σ _ { s with heap:=h2 };refine I.step (g':=s.gens) (t':=s.toks) (d':=s.drawn) (ch:=z::TO::subs.map (·.i)) (λb hb=>?_) (λb o _ _ hc e _=>kp b o ?_ ?_ ?_ e) (λb o _ _ hc e _=>⟨o.slots,kp b o ?_ ?_ ?_ e⟩) (λb o hc e n=>?_) (λb o hc e=>⟨o,kp b o ?_ ?_ ?_ e⟩) (λb xs e=>?_) (λb o u e=>?_) (λb ps e=>?_) (λm hm=>?_) ?_ I.bare
   .simp only [qB5,qB1]at hb;rcases hb with rfl|rfl|⟨u,O,rfl⟩
    .show ⟨fz.2.2.2.1,fz.2.1,fz.2.2.2.2.1,fz.2.2.2.2.2⟩
    .show ⟨fT.2.2.2.1,fT.2.1,fT.2.2.2.2.1,fT.2.2.2.2.2⟩
    .have f:=fi u O;show ⟨f.2.2.2.1,f.2.1,f.2.2.2.2.1,f.2.2.2.2.2⟩
   all_goals first
    | (intro q;show hc (by simp [q];done))
    | (intro u O q;show hc (by rw[q];show qA8 _ (qA8 _ (qB1.mpr ⟨u,O,rfl⟩))))
    |skip
   .rw[e9 (qC8 (qB2 e))];show n
   .rw[e9 (f9 e a8)];show e
   .rw[e9 (f9 e a8)];show e
   .rw[e9 (f9 e a8)];show e
   .obtain ⟨o,es,ep,ho,r⟩:=hm;show ⟨o,es,ep,kp _ o (Ne.symm fz.2.1) (Ne.symm fT.2.1) (λu O=>Ne.symm (fi u O).2.1) ho,r⟩
   .intro b u e;by_cases hb:b=s.heap.objs.size
    .subst hb;rw[p8]at e;cases e;show ⟨len,_,c4,⟨_,c1,rfl,_,rfl⟩⟩
    .rw [e9 hb]at e
     refine (I.hok b u e).stay (λc v a5 q=>?_) (λc q=>by rw[e9 (f9 q a8)];show q) λc xs q=>by rw[e9 (f9 q a8)];show q
     rcases a5 with rfl|a5
     .show kp _ v (trk _ _ e).1 (trk _ _ e).2.1 (trk _ _ e).2.2 q
     .show kp _ v (trk _ _ a5).1 (trk _ _ a5).2.1 (trk _ _ a5).2.2 q
  .rw [<- a3,qC3]
   show Y9 λv T xs hx=>by rw[Sq.inj I hx (a0 v T).1];show (a0 v T).2.2.2
  .show kp TI _ D.TIz D.TITO (λu O=>Ne.symm (D.Ii u O)) a6
  .obtain ⟨arr',c3,c2⟩:=T1;show ⟨arr',sb2.extBut _ _ D.zTO.symm c3,by rw[c2,el]⟩
  .have T:∃v∈ss,v.1=u:=by rw[<- a3]at O;show qB1.mp O
   obtain ⟨v,T,rfl⟩:=T;show (a1 (v.1,v.2.1.toArray) (qB1.mpr ⟨v,T,rfl⟩)).keep λo e=>sb2.extBut _ _ (D.zi _ (a4 v T)) e
  .have:b≠s.heap.objs.size:=by
    simp only [qB5,qB1]at hb;rcases hb with rfl|rfl|rfl|⟨u,O,rfl⟩
    .show qC8 b6
    .show qC8 (qB2 a6)
    .show qC8 (qB2 a7)
    .obtain ⟨o,e,_⟩:=(hs u O).obj;show qC8 (qB2 e)
   rw[e9 this];show (hf b hb).1
 done:=by
  intro X hP hw hK hc i pins s σ H E I hf st hg;subst hP hw hK;obtain ⟨hz,a6,⟨arr,a7,ha⟩,hs⟩:=st;obtain ⟨bb,u0,c5,c6,bw,hl0⟩:=hg;have fz:=hf z ZV;have fT:=hf TO ZV;have fi:∀u∈subs,A9 X pins H u.i:=λu O=>hf u.i (by simp only [qB5,qB1];show .inr (.inr (.inr ⟨u,O,rfl⟩)));obtain ⟨ss,a3,a0⟩:=bG (R:=λ(u:Sub) (q:List Value×List V)=>Sq X.K H u.t u.l q.2/\Vals q.2 q.1/\u.Src s.heap q.1.toArray) (l:=subs) (λu O=>by
   obtain ⟨xs,h1⟩:=bb (u.t,u.l) (qB1.mpr ⟨u,O,rfl⟩);obtain ⟨its,r,a9⟩:=Sq.src I h1;show ⟨(its,xs),h1,r,a9⟩)
  have a4:∀v∈ss,v.1∈subs:=λv T=>by rw[<- a3];show qB1.mpr ⟨v,T,rfl⟩
  have ab:ss.Pairwise λu v=>u.1.i≠v.1.i:=by
   have:=D.nd
   rw[<- a3,qK9]at this;show this
  have DA:Apart z TO (ss.map λv=>(v.1,v.2.1.toArray)):=by
   refine ⟨D.zTO,?_,?_,?_,?_,?_,?_⟩
   .rintro _ O;obtain ⟨v,T,rfl⟩:=qB1.mp O;show D.zi _ (a4 v T)
   .rintro _ O;obtain ⟨v,T,rfl⟩:=qB1.mp O;show D.ti _ (a4 v T)
   .rw[qK9];show ab
   .rintro _ O;obtain ⟨v,T,rfl⟩:=qB1.mp O;show Sq.ne I (a0 v T).1 fz
   .rintro _ O;obtain ⟨v,T,rfl⟩:=qB1.mp O;show Sq.ne I (a0 v T).1 fT
   .rintro _ O _ b5;obtain ⟨v,T,rfl⟩:=qB1.mp O;obtain ⟨v2,b0,rfl⟩:=qB1.mp b5;show Sq.ne I (a0 v T).1 (fi _ (a4 v2 b0))
  have el:(ss.map λv=>(v.1,v.2.1.toArray)).length=subs.length:=by rw[qA5,<- a3,qA5]
  have eI:((ss.map λv=>(v.1,v.2.1.toArray)).map λu=>Value.ref u.1.i)=subs.map λu=>Value.ref u.i:=by rw[<- a3,qC3,qC3];rfl
  refine wd (n:=i) (I.ok.hd hc) DA (by rw[ha,el]) (by rw[el];show b4) hz (by rw[eI];show a6) a7 (λu O=>?_) ?_ λh1 k1=>⟨rfl,?_⟩
  .obtain ⟨v,T,rfl⟩:=qB1.mp O;show ⟨hs _ (a4 v T),(a0 v T).2.2⟩
  .obtain ⟨u,O,e0⟩:=qB1.mp c5;have T:∃v∈ss,v.1=u:=by rw[<- a3]at O;show qB1.mp O
   obtain ⟨v,T,rfl⟩:=T;subst e0;refine ⟨(v.1,v.2.1.toArray),qB1.mpr ⟨v,T,rfl⟩,?_⟩;have e1:=Sq.inj I (a0 v T).1 bw;have e2:=(a0 v T).2.1.length;rw[e1]at e2;simp only [List.getElem?_toArray];show qD7 ox
  .have kp:∀b o,b≠z->b≠TO->(∀u∈subs,b≠u.i)->s.heap.get? b=some o->h1.get? b=some o:=λb o b1 b2 b3 e=>k1 b o b1 b2 (λu O=>by obtain ⟨v,T,rfl⟩:=qB1.mp O;show b3 _ (a4 v T)) e;have trk:∀b u,H b=some u->b≠z/\b≠TO/\∀v∈subs,b≠v.i:=λb u e=>⟨λq=>(by subst q;rw[fz.1]at e;cases e),λq=>(by subst q;rw[fT.1]at e;cases e),λv T q=>(by subst q;rw[(fi v T).1]at e;cases e)⟩;refine I.step (g':=s.gens) (t':=s.toks) (d':=s.drawn) (ch:=z::TO::subs.map (·.i)) (λb hb=>?_) (λb o _ _ hc e _=>kp b o ?_ ?_ ?_ e) (λb o _ _ hc e _=>⟨o.slots,kp b o ?_ ?_ ?_ e⟩) (λb o hc e n=>n) (λb o hc e=>⟨o,kp b o ?_ ?_ ?_ e⟩) (λb xs e=>e) (λb o u e=>e) (λ_ _ e=>e) (λm hm=>?_) (λb u e=>?_) I.bare
   .simp only [qB5,qB1]at hb;rcases hb with rfl|rfl|⟨u,O,rfl⟩
    .show ⟨fz.2.2.2.1,fz.2.1,fz.2.2.2.2.1,fz.2.2.2.2.2⟩
    .show ⟨fT.2.2.2.1,fT.2.1,fT.2.2.2.2.1,fT.2.2.2.2.2⟩
    .have f:=fi u O;show ⟨f.2.2.2.1,f.2.1,f.2.2.2.2.1,f.2.2.2.2.2⟩
   all_goals first
    | (intro q;show hc (by simp [q];done))
    | (intro u O q;show hc (by rw[q];show qA8 _ (qA8 _ (qB1.mpr ⟨u,O,rfl⟩))))
    |skip
   .obtain ⟨o,es,ep,ho,r⟩:=hm;show ⟨o,es,ep,kp _ o (Ne.symm fz.2.1) (Ne.symm fT.2.1) (λu O=>Ne.symm (fi u O).2.1) ho,r⟩
   .refine (I.hok b u e).stay (λc v a5 q=>?_) (λc q=>q) λc xs q=>q;rcases a5 with rfl|a5
    .show kp _ v (trk _ _ e).1 (trk _ _ e).2.1 (trk _ _ e).2.2 q
    .show kp _ v (trk _ _ a5).1 (trk _ _ a5).2.1 (trk _ _ a5).2.2 q
 self:=λ_ _ _ _ _ st h=>wpAny_pyIter_zip st.1 h
def GG (K:Frag)(ta:TA):TI:=λσ H R=>ta σ H λvs H1=>∃us:List (Bool×Addr),vs=us.map (λu=>V.ref u.2)/\(us.length=2\/us.length=3)/\(∀u∈us,∃xs,Sq K H1 u.1 u.2 xs)/\R (ItZ K us) H1
def neN {b:Nat}(h:a≠b):(a:Addr)≠b:=h
def sL:∀{us:List (Bool×Addr)}{vs:VZ},Vals (us.map λu=>V.ref u.2) vs->vs=us.map λu=>Value.ref u.2:=by
 intro us
 induction us with
 |nil=>intro vs h;cases h;rfl
 | cons u us O=>
  intro vs h;cases h with
  | cons r t=>
   have I:_=Value.ref _:=r;rw[I,O t];rfl
def dG:∀(us:List (Bool×Addr×Array Value)) (n:Nat),∀v∈l7 n us,n<=v.1.i/\n+us.length>v.1.i:=by
 intro us
 induction us with
 |nil=>show λ_ _ h=>absurd h qE4
 | cons u r I=>
  intro n v h;rcases qB5.mp h with rfl|h
  .show ⟨qB4 _,by change n+(r.length+1)>n;omega⟩
  .have:=I (n+1) v h
   rw[qC5];omega
def oP:∀(us:List (Bool×Addr×Array Value)) (n:Nat),(l7 n us).Pairwise λu v=>u.1.i≠v.1.i
 | [],_=>.nil
 | u::r,n=>by
  refine qR8.mpr ⟨λv I=>?_,oP r (n+1)⟩
  have:=dG r (n+1) v I
  change (n:Nat)≠v.1.i;omega
def lL:∀(us:List (Bool×Addr×Array Value)) (n:Nat),(l7 n us).map (λu=>(u.1.t,u.1.l))=us.map λu=>(u.1,u.2.1)
 | [],_=>rfl
 |u::r,n=>by unfold l7;rw[qC2,lL r,qC2]
def Fo {X:Cx}{a:Expr}{es elts:VV}{ta:TA}{p pos tp:Pos}{k:Nat}(hg:Gl X "zip") (hm:X.mg "zip" = none) (ha:PA X (a::es) ta) (hs:starEach (a::es) X.env=(false,eval a X.env)::starEach es X.env:=by rfl) (a6:(backTo pos (starEach es X.env)).any (·.1)=false:=by rfl):PI X (.Tuple elts k tp) (.Call (.Name "zip" p) (a::es) [] pos) (GG X.K ta):=by
 intro pins s σ H R I h;refine Call_ (M5 I hg hm boot_zip (qG3 (thn (ha pos pins s σ H _ I h) λvs s1 a3=>?_) hs a6));obtain ⟨xs,H1,I1,r1,us,e1,hl,ab,q⟩:=a3;subst e1;have e2:=sL r1;subst e2;obtain ⟨ws,ew,a5⟩:=bG (R:=λ(u:Bool×Addr) (its:VW)=>SrcAt s1.heap (u.1,u.2,its)) (l:=us) (λu O=>by
  obtain ⟨ys,hy⟩:=ab u O;obtain ⟨its,_,a0⟩:=Sq.src I1 hy;show ⟨its.toArray,by unfold SrcAt;unfold Sub.Src at a0;show a0⟩)
 have ev:us.map (λu=>Value.ref u.2)=(ws.map λw=>(w.1.1,w.1.2,w.2)).map λu=>Value.ref u.2.1:=by rw[<- ew,qC3,qC3];rfl
 have el:(ws.map λw=>(w.1.1,w.1.2,w.2)).length=us.length:=by rw[<- ew,qA5,qA5]
 rw[ev];generalize hW:(ws.map λw=>(w.1.1,w.1.2,w.2))=W at el ev
 have a8:∀u∈W,SrcAt s1.heap u:=λu O=>by
  rw[<- hW]at O;obtain ⟨w,hw,rfl⟩:=qB1.mp O;show a5 w hw
 refine yR W (by rw[el];show hl) a8 λh' hA a7 a9 hz hk=>wpAny_pyIter_zip hz ?_;have I2:Inv X pins σ H1 { s1 with heap:=h' }:=I1.kept (t':=s1.toks) hk;have eS:((l7 s1.heap.objs.size W).map (·.1)).map (λu=>(u.t,u.l))=us:=by
  rw[qC3]
  change (l7 s1.heap.objs.size W).map (λu=>(u.1.t,u.1.l))=us;rw[lL,<- hW,qC3,<- ew];rfl
 have D:ZSt (s1.heap.objs.size+W.length+2) (s1.heap.objs.size+W.length) (s1.heap.objs.size+W.length+1) ((l7 s1.heap.objs.size W).map (·.1)):=by
  refine ⟨neN ox,neN ox,neN ox,?_,?_,?_,?_⟩
  .rintro _ O;obtain ⟨v,T,rfl⟩:=qB1.mp O;have:=dG W _ v T;show neN ox
  .rintro _ O;obtain ⟨v,T,rfl⟩:=qB1.mp O;have:=dG W _ v T;show neN ox
  .rintro _ O;obtain ⟨v,T,rfl⟩:=qB1.mp O;have:=dG W _ v T;show neN ox
  .rw[qK9];show oP W _
 have ls:((l7 s1.heap.objs.size W).map (·.1)).length=W.length:=by rw[qA5,V8]
 have TZ:=wq (P:=X.prog) (w:=X.w) (K:=X.K) (elts:=elts) (k:=k) (tp:=tp) D (by intro q;have:=congrArg List.length q;rw[ls,el]at this;have h0:us.length=0:=this;omega) (by rw[ls,el];show qC1 (show us.length<=3 by omega) ZY);rw[eS]at TZ;refine ⟨_,_,_,_,H1,rfl,I2,TZ,⟨hz,?_,?_,λu O=>?_⟩,λb hb=>?_,q⟩
 .rw[qC3];show a7
 .obtain ⟨arr,h1,h2⟩:=a9;show ⟨arr,h1,by rw[ls];show h2⟩
 .obtain ⟨v,T,rfl⟩:=qB1.mp O;show hA v T
 .have a4:s1.heap.objs.size<=b:=by
   simp only [qB5,qB1]at hb;rcases hb with rfl|rfl|rfl|⟨_,⟨v,T,rfl⟩,rfl⟩
   .omega
   .omega
   .omega
   .show (dG W _ v T).1
  have f:=I1.fpOk (H':=H1) a4 (I1.hok.fresh a4);show f
def y4 (cs:Scope) (env:Env) (x:Str):(relabel cs env).names.lookup x=(cs.names.lookup x).map λk=>if (k == .free&&env.scope.kind == .function&&env.kindOf x == some .cell)=true then .cell else k:=by
 unfold relabel
 change List.lookup x (cs.names.map _)=_
 induction cs.names with
 |nil=>rfl
 | cons p r ih=>
  obtain ⟨n,k⟩:=p;by_cases O:x=n
  .subst O;rw[qC2];simp only [qF6]
   split <;> simp_all
  .have I:(x == n)=false:=by simpa using O
   have T:List.lookup x ((n,k)::r)=List.lookup x r:=by rw[qF6,I]
   rw[qC2,T];refine Eq.trans ?_ ih;dsimp only;by_cases hc:(k == NameKind.free&&env.scope.kind == ScopeKind.function&&env.kindOf n == some NameKind.cell)=true
   .rw[qA2 hc,qF6,I]
   .rw[qA4 hc,qF6,I]
def Z5: ∀ (names : List (Str × NameKind)) (O : List (Str × Addr)), (∀x ∈ names, x.2 = .free -> ∃c, env.cells.lookup x.1 = some c) -> (∀x c, O.lookup x = some c -> env.cells.lookup x = some c) ->
    ∃ cl, (forIn (m := Sem) names O λx __s => if (x.snd == NameKind.free) = true then do
              let __do_lift <- cellOf env x.fst
              pure (ForInStep.yield ((x.fst, __do_lift) :: __s))
            else pure (ForInStep.yield __s)) = pure cl /\ (∀x c, cl.lookup x = some c -> env.cells.lookup x = some c) /\ (∀x, (x, NameKind.free) ∈ names -> ∃c, cl.lookup x = some c) /\ ∀x c, O.lookup x = some c -> ∃c', cl.lookup x = some c' := by
  intro names
  induction names with
  | nil =>
    intro O _ h0;show ⟨O, by simp only [qN7], h0, λ_ h => absurd h qE4, λ_ c h => ⟨c, h⟩⟩
  | cons p r ih =>
    intro O hf h0;obtain ⟨n, k⟩ := p;by_cases hk : k = .free
    · subst hk
      obtain ⟨c, hc⟩ := hf (n, .free) qB3 rfl;obtain ⟨cl, e, h1, h2, h3⟩ := ih ((n, c) :: O) (λx I => hf x (qA8 _ I)) (λx c' I => by
        rw[qF6]at I
        split at I
        · rename_i hb
          have T : x = n := by simpa using hb
          cases I;rw[T];show hc
        · show h0 x c' I)
      have hn : ∃c', cl.lookup n = some c' := h3 n c ZV;refine ⟨cl, ?_, h1, λx I => ?_, λx c' I => ?_⟩
      · rw [qL2]
        simp only [qT1, qP0, cellOf, hc];show e
      · rcases qB5.mp I with q|I
        · cases q;show hn
        · show h2 x I
      · by_cases T : x = n
        · subst T;show hn
        · show h3 x c' (by
            have hb : (x == n) = false := by simpa using T
            rw[qF6, hb];show I)
    · have hb : (k == NameKind.free) = false := by simpa using hk
      obtain ⟨cl, e, h1, h2, h3⟩ := ih O (λx I => hf x (qA8 _ I)) h0;refine ⟨cl, ?_, h1, λx I => ?_, h3⟩
      · rw [qL2]
        simp only [hb, qE1, qP1];show e
      · rcases qB5.mp I with q|I
        · cases q;show absurd rfl hk
        · show h2 x I
structure f7 (sc cs:Scope) (N N':VJ):Prop where
 kind:cs.kind=.function
 ncell:∀x∈cs.names,x.2≠.cell
 loc:∀x∈cs.names,x.2=.local->cs.names.lookup x.1=some .local
 free:∀x∈cs.names,x.2=.free->sc.names.lookup x.1=some .cell\/sc.names.lookup x.1=some .free
 nd:N'.Nodup
 len:N.length<=N'.length
 same:∀i∈List.range N.length,N'[i]?=N[i]?\/∀x∈N'[i]?,cs.names.lookup x=none
 out:∀x∈N'.take N.length,cs.names.lookup x≠some .local
abbrev m9 (X:Cx) (cs:Scope) (cl:List (Str×Addr)) (N':VJ) (ex:List Addr) (s:Shared) (H:Hp):Cx:=
 { X with N:=N',s₀:=s,H₀:=H,env:=compEnvC cs cl s.heap.objs.size X.env,outer:=X.stack,stack:=X.stack,ex:=ex,fn:=λ_=>false,pn:=[],xe:=λ_ _=>False }
def inner (N':VJ)(σ:St):St:=σ++List.replicate (N'.length-σ.length) none
def aY {i:Nat}(h:(inner N' σ)[i]?=some (some v)):σ[i]?=some (some v):=by
 unfold inner at h;by_cases hi:i<σ.length
 .rwa [qE6 hi]at h
 .rw [qH5 ox,qI3]at h
  split at h <;> cases h
def yO {σ:St}{fp:List Addr}(S:f7 X.env.scope cs X.N N') (I:Inv X pins σ H s3) (O:∀x c,cl.lookup x=some c->X.env.cells.lookup x=some c) (a4:∀x,(x,NameKind.free)∈cs.names->∃c,cl.lookup x=some c) (hf:∀b∈fp,A9 X pins H b) (b6:∀b∈fp,b<s3.heap.objs.size) (kp:∀b o,s3.heap.get? b=some o->s4.heap.get? b=some o) (hn:s4.heap.Ns s3.heap.objs.size m) (bb:s4.os=s3.os) (hg:s4.gens=s3.gens):Inv (m9 X cs cl N' fp s3 H) [] (inner N' σ) H s4:=by
 have a3:∀{c:Addr}{v:VY},s3.heap.IsCell c v->s4.heap.IsCell c v:=λ{c v} z=>by obtain ⟨o,e,d⟩:=z;show ⟨o,kp c o e,d⟩
 refine ⟨⟨I.ok.mod,S.kind,I.ok.glob,I.ok.blt,qB4 _,λx y c h1 h2=>I.ok.inj x y c (O x c h1) (O y c h2),λx hx=>?_,λx c h _=>absurd (show false=true from h) ZY,I.ok.hd,I.ok.frames,.inl rfl,λb hb=>⟨?_,λx c e=>(hf b hb).2.2.2.2.1 x c (O x c e)⟩,I.bs,qC1 I.ok.bsz I.sz,λb o e hb=>?_,λb hb b4=>?_,I.stack,I.stkFree,I.tab⟩,
  bb,by rw[hg];show I.bare,Un.kept kp,⟨m,hn,λi x v e1 e2 e3=>?_⟩,λx c e=>?_,I.hok.fresh (qB4 _),λx c e=>I.freeC x c (O x c e),λp hp=>absurd (show p∈([]:Vz) from hp) ZV,I.hok.kept kp,?_⟩
 .have a0:(relabel cs X.env).names.lookup x=some .cell\/(relabel cs X.env).names.lookup x=some .free:=hx;rw[y4]at a0;cases hl:cs.names.lookup x with
  |none=>rw[hl]at a0;rcases a0 with h|h <;> cases h
  | some k=>
   have hm:=qG7 hl;by_cases hk:k=.free
   .subst hk;show a4 x hm
   .exfalso;have hb:(k == NameKind.free)=false:=by simpa using hk
    rw[hl]at a0;simp only [qU3,hb,qL9,qE1,qP1]at a0;rcases a0 with h|h
    .cases h;show S.ncell _ hm rfl
    .cases h;show hk rfl
 .intro q;have b5:b=s3.heap.objs.size:=q;show absurd (b6 b hb) (by rw[b5];show qE2 _)
 .obtain ⟨f0,f1,f2,f3,f4,f5⟩:=hf b hb;rcases f3 with z|z
  .show I.ok.noex b o e z
  .show absurd (qB6 (qB2 (I.ok.bs b o e).1) z) (qE2 _)
 .have a9:b∈frs X.stack:=b4;rcases qB5.mp (I.stkSub b a9) with z|z
  .show (hf b hb).2.1 z
  .show (hf b hb).2.2.1 z
 .have ab:=aY e2;have hi:i<X.N.length:=by rw[<- I.len];show (qA9.mp ab).1
  have a6:N'[i]?=some x:=e1;have T:Vis (relabel cs X.env) x:=e3;have hv:∃k,cs.names.lookup x=some k:=by
   unfold Vis at T;rw[y4]at T;cases hl:cs.names.lookup x with
   |none=>rw[hl]at T;rcases T with h|h|h <;> cases h
   |some k=>show ⟨k,rfl⟩
  obtain ⟨k,hk⟩:=hv;have hN:X.N[i]?=some x:=by
   rcases S.same i (qF8.mpr hi) with q|q
   .rw[<- q];show a6
   .have:=q x (by rw[a6];rfl)
    rw[hk]at this;cases this
  have b0:k≠.local:=λq=>by
   subst q;show S.out x (qD4 (i:=i) (by rw[qR6 hi];show a6)) hk
  have hm:=qG7 hk;have a7:k=.free:=by
   unfold Vis at T;rw[y4,hk]at T;by_cases a5:k=.free
   .show a5
   .exfalso;have hb:(k == NameKind.free)=false:=by simpa using a5
    simp only [qU3,hb,qL9,qE1,qP1]at T;rcases T with h|h|h
    .show b0 (Option.some.inj h)
    .show S.ncell _ hm (Option.some.inj h)
    .show a5 (Option.some.inj h)
  subst a7;obtain ⟨m0,bw,hl0⟩:=I.loc;have a8:Vis X.env.scope x:=by
   rcases S.free _ hm rfl with h|h
   .show .inr (.inl h)
   .show .inr (.inr h)
  obtain ⟨u,r,l⟩:=hl0 i x v hN ab a8;refine ⟨u,r,.inr ⟨?_,?_⟩⟩
  .change (relabel cs X.env).names.lookup x=some .cell\/(relabel cs X.env).names.lookup x=some .free;rw[y4,hk]
   change some (if _ then _ else _)=_\/some (if _ then _ else _)=_
   split
   .show .inl rfl
   .show .inr rfl
  .obtain ⟨c,hc⟩:=a4 x hm;have b3:=O x c hc;rcases l with ⟨q,_⟩|⟨_,c',e,z⟩
   .exfalso;have q':X.env.scope.names.lookup x=some .local:=q;rcases S.free _ hm rfl with h|h <;> (rw[q']at h;cases h)
   .rw [b3]at e;cases e
    show ⟨c,hc,a3 z⟩
 .obtain ⟨v,z⟩:=I.cell x c (O x c e);show ⟨v,a3 z⟩
 .unfold inner;rw[qD1,qM0,I.len]
  have:=S.len
  change _=N'.length;omega
def K5 (n:Nat)(g:TG):Prop:=∀(v:V)(σ:St)(H:Hp)(Q:St->Hp->Prop),g v σ H Q->g v σ H λI H2=>Q I H2/\I.length=σ.length/\∀j,j<n->I[j]?=σ[j]?
def iU (n:Nat)(g:TGs):Prop:=∀(vs:List V)(σ:St)(H:Hp)(Q:St->Hp->Prop),g vs σ H Q->g vs σ H λI H2=>Q I H2/\I.length=σ.length/\∀j,j<n->I[j]?=σ[j]?
def m7 (h:n<=i):K5 n (P8 i):=λv σ H Q q=>⟨q,ZV,λj I=>qB9 ox⟩
def X6:iU n gNil:=λvs σ H Q I=>by obtain ⟨e,q⟩:=I;show ⟨e,q,rfl,λ_ _=>rfl⟩
def z8 (h:n<=i) (hu:iU n u):iU n (rE (P8 i) u):=λvs σ H Q a3=>by
 obtain ⟨v,r,e,q⟩:=a3;refine ⟨v,r,e,?_⟩;have q':=hu r (σ.set i (some v)) H Q q
 change u r (σ.set i (some v)) H _;have e1:∀I:St,(I.length=(σ.set i (some v)).length/\∀j,j<n->I[j]?=(σ.set i (some v))[j]?)=(I.length=σ.length/\∀j,j<n->I[j]?=σ[j]?):=λI=>by
  have:∀j,j<n->(σ.set i (some v))[j]?=σ[j]?:=λj O=>qB9 ox
  rw[qF2];show propext ⟨λa0=>by obtain ⟨a,b⟩:=a0;show ⟨a,λj O=>(b j O).trans (this j O)⟩,λT=>by obtain ⟨a,b⟩:=T;show ⟨a,λj O=>(b j O).trans (this j O).symm⟩⟩
 have e2:(λ(I:St) (H2:Hp)=>Q I H2/\I.length=σ.length/\∀j,j<n->I[j]?=σ[j]?)=λI H2=>Q I H2/\I.length=(σ.set i (some v)).length/\∀j,j<n->I[j]?=(σ.set i (some v))[j]?:=by
  funext I H2;rw[e1]
 rw[e2];show q'
def X5 {K:Frag}(T:iU n u):K5 n (rC K k u):=λv σ H Q I=>by obtain ⟨a,xs,e,O,h2,q⟩:=I;show ⟨a,xs,e,O,h2,T xs σ H Q q⟩
def PIf (X:Cx) (I:VV) (t:TT):Prop:=
 ∀ (pins:Vz) (s:Shared) (σ:St) (H:Hp) (Q:Bool->Hp->Prop),Inv X pins σ H s->t σ H Q ->
  wpAny (model X.prog X.w) X.A (forIn I true λc r=>if r=true then do let ok <- isTrue c X.env (eval c X.env);pure (ForInStep.yield ok) else pure (ForInStep.yield r)) (TP X pins σ Q) X.xe s
def tYes:TT:=λ_ H Q=>Q true H
def AZ:PIf X [] tYes:=λ_ _ _ H _ I h=>wpAny_tests_nil ⟨H,I,h⟩
def AY (h:PT X c t):PIf X [c] t:=λpins s σ H Q I q=>wpAny_tests_one (h pins s σ H Q I q)
def sA (J:It) (D:Addr) (g:TG) (tc:TT) (te:TE) (T:St) (H1:Hp) (Q:Hp->Prop):Prop:=
 ∃ W:Nat->Nat->Hp->Prop,(∃m,W 0 m (upd H1 D (.lst [])))/\∀i m H2,W i m H2 ->
  (J.stop i H2/\Q H2)\/(J.go i H2/\∀x H3,J.yld i H2 x H3->g x T H3 λO H4=>tc O H4 λb H5=>
   if b=true then te O H5 λy H6=>∃ys,H6 D=some (.lst ys)/\ys.length<sizeLine/\∃I,I<m/\W (i+1) I (upd H6 D (.lst (ys ++ [y])))
   else ∃I,I<m/\W (i+1) I H5)
def lf (N':VJ)(T:TI)(g:TG)(I:TT)(O:TE):TE:=λσ H Q=>T σ H λJ H1=>∀D,H1 D=none->sA J D g I O (inner N' σ) H1 (Q (.ref D))
def Jj (I:∀x c,cl.lookup x=some c->X.env.cells.lookup x=some c) (stk:∀b∈frs X.stack,b∈X.env.locals::X.fs) (a3:∀b∈fp,A9 X pins H3 b) (a4:∀b∈fp,b<s3.heap.objs.size) (hn:∀b∈fp,H' b=none):∀b∈fp,A9 (m9 X cs cl N' fp s3 H3) [] H' b:=λb T=>by
 obtain ⟨f0,f1,f2,f3,f4,f5⟩:=a3 b T;refine ⟨hn b T,qC8 (a4 b T),λa0=>?_,.inl T,λx c e=>f4 x c (I x c e),λp hp=>absurd (show p∈([]:Vz) from hp) ZV⟩;have O:b∈frs X.stack:=a0;rcases qB5.mp (stk b O) with z|z
 .show f1 z
 .show f2 z
def vz {σ:St}{Q:Hp->Prop}{W:Nat->Nat->Hp->Prop}(hc:X.calm=true) (hg:PG (m9 X cs cl N' fp s3 O) tg g) (hk:K5 X.N.length g) (ht:PIf (m9 X cs cl N' fp s3 O) ifs tc) (he:PE (m9 X cs cl N' fp s3 O) elt te) (b6:∀x c,cl.lookup x=some c->X.env.cells.lookup x=some c) (I3:Inv X pins σ O s3) (I4:Inv (m9 X cs cl N' fp s3 O) [] (inner N' σ) O s4) (T:Turn X.prog X.w X.K tg J fp it tn) (st:tn 0 s4.heap) (a5:∀b∈fp,A9 X pins O b) (cc:∀b∈fp,b<s3.heap.objs.size) (w0:W 0 m0 O) (turn:∀i m H2,W i m H2->(J.stop i H2/\Q H2)\/(J.go i H2/\∀x O,J.yld i H2 x O->g x (inner N' σ) O λab H4=>tc ab H4 λb H5=>
   if b=true then te ab H5 λy H6=>∃ys,H6 D=some (.lst ys)/\ys.length<sizeLine/\∃I,I<m/\W (i+1) I (upd H6 D (.lst (ys ++ [y])))
   else ∃I,I<m/\W (i+1) I H5)) (hR:∀(H':Hp) (s':Shared),Inv X pins σ H' s'->Q H'->(∃m,s'.heap.Ns s3.heap.objs.size m)->A9 X pins H' s3.heap.objs.size->R (.ok .next) s'):
  codeAny (model X.prog X.w) X.A (.compLoop (.ListComp elt [⟨tg,iter,ifs,0⟩] cs pos) 0 (.ref it) (.ref D) (m9 X cs cl N' fp s3 O).env) R s4:=by
 have a7:∀{H':Hp},(∀b∈fp,H' b=none)->∀b∈fp,A9 (m9 X cs cl N' fp s3 O) [] H' b:=λhn=>Jj b6 I3.stkSub a5 cc hn;have cv:(inner N' σ).length=N'.length:=I4.len;refine codeAny_loop rfl (λn s'=>∃i H',Inv (m9 X cs cl N' fp s3 O) [] (inner N' σ) H' s'/\tn i s'.heap/\(∀b∈fp,H' b=none)/\W i n H') (λn s5 hI=>?_) m0 ⟨0,O,I4,st,λb hb=>(a5 b hb).1,w0⟩;obtain ⟨i,H5,I5,b0,b4,w5⟩:=hI
 change wpAny _ _ ((compTurn (.ListComp elt [⟨tg,iter,ifs,0⟩] cs pos) 0 (.ref it) (.ref D) (m9 X cs cl N' fp s3 O).env).onRaise _) _ _ s5;refine wpAny_noted ?_;rw[compTurn_list];refine qA1 (qQ4 (qA1 ?_));have a3:∀{α:Type}{t:Sem α}{P:α->Shared->Prop}{E':VX}{s:Shared},wpAny (model X.prog X.w) X.A t P (λ_ _=>False) s->wpAny (model X.prog X.w) X.A t P E' s:=λh=>qP8 h (λ_ _ q=>q) λ_ _ q=>q.elim;rcases turn i n H5 w5 with ⟨stop,q⟩|⟨go,step⟩
 .refine thn (T.done (m9 X cs cl N' fp s3 O) rfl rfl rfl hc i [] s5 _ H5 _ I5 (a7 b4) b0 stop) λr s6 ⟨hr,I6⟩=>?_;subst hr;refine qO6 ?_;have J6:Inv X pins σ H5 s6:=I3.call' (H':=H5) (ch:=fp) I6.os I6.base I6.hok I6.bare λb hb=>by
   obtain ⟨f0,f1,f2,f3,f4,f5⟩:=a5 b hb;show ⟨f3,f1,f4,f5⟩
  obtain ⟨m,hn,_⟩:=I6.loc;show hR H5 s6 J6 q ⟨m,hn⟩ (I3.fpOk (qB4 _) I6.free)
 .refine thn (T.item (m9 X cs cl N' fp s3 O) rfl rfl rfl hc i [] s5 _ H5 _ I5 (a7 b4) b0 go) λr s6 ⟨u,hr,h6⟩=>?_;subst hr;refine qA1 (thn h6 λ_ s7 a9=>?_);obtain ⟨x,H7,I7,r7,y7,a4,c3⟩:=a9;have c4:=I7.pinned (a7 c3) (T.obj _ _ a4);refine qA1 (a3 (thn (hg _ s7 _ H7 x u _ c4 r7 (hk x _ H7 _ (step x H7 y7))) λ_ s8 a8=>?_));obtain ⟨a0,H8,I8,q8,l8,k8⟩:=a8;refine qA1 (a3 (thn (ht _ s8 a0 H8 _ I8 q8) λb s9 bb=>?_));obtain ⟨H9,I9,q9⟩:=bb;have again:∀{s':Shared}{H':Hp},Inv (m9 X cs cl N' fp s3 O) ([]++bP fp s7.heap) a0 H' s'->(∃I,I<n/\W (i+1) I H') ->
    ∃I,I<n/\∃i H',Inv (m9 X cs cl N' fp s3 O) [] (inner N' σ) H' s'/\tn i s'.heap/\(∀b∈fp,H' b=none)/\W i I H':=λ{s' H'} I' zz67=>by
   obtain ⟨I,hm,w'⟩:=zz67;refine ⟨I,hm,i+1,H',(I'.unpinned).weak (by rw[l8]) (λj v e=>?_),T.keep _ _ _ a4 λb hb o e=>(I'.pin (b,o) (qC9 _ (qC9 _ (N6 hb e)))).1,λb hb=>?_,w'⟩
   .have hj:j<X.N.length:=by rw[<- I3.len];show (qA9.mp (aY e)).1
    rw[k8 j hj];show e
   .obtain ⟨o,e,d⟩:=T.obj _ _ a4 b hb;show (I'.pin (b,o) (qC9 _ (qC9 _ (N6 hb e)))).2.1
  cases b with
  | false=>
   have a6:∃I,I<n/\W (i+1) I H9:=q9;show qO6 ⟨rfl,again I9 a6⟩
  | true=>
   have a6:te a0 H9 _:=q9;refine qA1 (qA1 (a3 (thn (he _ s9 a0 H9 _ I9 a6) λv c7 b5=>?_)));obtain ⟨y,c6,c5,c2,ys,hD,hy,bw⟩:=b5;refine qA1 (a3 (thn (eA _ c7 a0 c6 (.ref D) [y] (.ref D) [v] (λ_ H'=>∃I,I<n/\W (i+1) I H') c5 rfl (.cons c2 .nil) ⟨D,ys,y,rfl,rfl,hD,hy,bw⟩) λ_ cn b3=>?_));obtain ⟨_,cp,c1,_,c0⟩:=b3;show qO6 (qO6 ⟨rfl,again c1 c0⟩)
def kI {R:Value->Addr->Result->Shared->Prop}{Q:V->Hp->Prop}(S:f7 X.env.scope cs X.N N') (hc:X.calm=true) (hg:∀cl ex s H,PG (m9 X cs cl N' ex s H) tg g) (hk:K5 X.N.length g) (ht:∀cl ex s H,PIf (m9 X cs cl N' ex s H) ifs tc) (he:∀cl ex s H,PE (m9 X cs cl N' ex s H) elt te) (O:∀x c,cl.lookup x=some c->X.env.cells.lookup x=some c) (a6:∀x,(x,NameKind.free)∈cs.names->∃c,cl.lookup x=some c) (h:PIE X pins σ tg (λJ H1=>∀D,H1 D=none->sA J D g tc te (inner N' σ) H1 (Q (.ref D))) itv s2) (hR:∀(D C:Addr) (H':Hp) (s':Shared),Inv X pins σ H' s'->Q (.ref D) H'->(∃m,s'.heap.Ns C m)->A9 X pins H' C->R (.ref D) C (.ok .next) s'):
  wpAny (model X.prog X.w) X.A (newList []) (λa5 a7=>wpAny (model X.prog X.w) X.A (newFunctionEnv cs X.env.globals cl [] X.env.qual none .none (some X.env)) (λI a8=>
   codeAny (model X.prog X.w) X.A (.compStart (.ListComp elt [⟨tg,iter,ifs,0⟩] cs pos) 0 itv a5 { I with scope:=relabel cs X.env }) (R a5 I.locals) a8) X.xe a7) X.xe s2:=by
 obtain ⟨it,fp,tn,J,H2,e,I2,T,a9,f2,hw⟩:=h;subst e;refine qP5 (wpAny_newFunctionEnv S.ncell (by intro y hy;simp at hy) (λh1 a0 a4=>?_) S.kind);dsimp only at a0 a4 ⊢;have hD:=I2.hok.fresh (qB4 _);obtain ⟨W,⟨m0,w0⟩,turn⟩:=hw s2.heap.objs.size hD;have I3:Inv X pins σ (upd H2 s2.heap.objs.size (.lst [])) { s2 with heap:=s2.heap.push { cls:=.type "list",dict:=none,data:=.seq ([]:VZ).toArray } }:=I2.lnew (t':=s2.toks) .nil (qE0 _);have a3:∀b∈fp,b<s2.heap.objs.size:=λb hb=>by
  obtain ⟨o,e,_⟩:=T.obj 0 _ a9 b hb;show qB2 e
 have ab:∀b∈fp,A9 X pins (upd H2 s2.heap.objs.size (.lst [])) b:=λb hb=>by
  obtain ⟨f0,r⟩:=f2 b hb;show ⟨by rw[e9 (qC8 (a3 b hb))];show f0,r⟩
 have b0:∀b∈fp,b<(s2.heap.push { cls:=.type "list",dict:=none,data:=.seq ([]:VZ).toArray }).objs.size:=λb hb=>by rw[qI1];show qF3 (a3 b hb)
 have kp:∀b o,(s2.heap.push { cls:=.type "list",dict:=none,data:=.seq ([]:VZ).toArray }).get? b=some o->h1.get? b=some o:=λb o e=>a4.extBut b o (qC8 (qB2 e)) (qA7 _ e);have I4:=yO (cs:=cs) (cl:=cl) (N':=N') (fp:=fp) (s4:={ s2 with heap:=h1,toks:=s2.toks+([]:List (Str×Value)).length }) S I3 O a6 ab b0 kp a0 rfl rfl;have b3:tn 0 h1:=T.keep 0 _ _ a9 λb hb o e=>kp b o (qA7 _ e);have loop:=vz (R:=R (.ref s2.heap.objs.size) (s2.heap.push { cls:=.type "list",dict:=none,data:=.seq ([]:VZ).toArray }).objs.size) (D:=s2.heap.objs.size) (iter:=iter) (pos:=pos) (it:=it) (Q:=Q (.ref s2.heap.objs.size)) hc (hg cl fp _ _) hk (ht cl fp _ _) (he cl fp _ _) O I3 I4 T b3 ab b0 w0 turn λH' s' I' q n f=>hR _ _ H' s' I' q n f;show codeAny_compStart_list loop (T.self _ 0 _ _ _ b3 loop)
def Bc (S:f7 X.env.scope cs X.N N') (hc:X.calm=true) (hi:PI X tg iter wi) (hg:∀cl ex s H,PG (m9 X cs cl N' ex s H) tg g) (hk:K5 X.N.length g) (ht:∀cl ex s H,PIf (m9 X cs cl N' ex s H) ifs tc) (he:∀cl ex s H,PE (m9 X cs cl N' ex s H) elt te) (hs:∀x,foldedSetIterable iter X.env x=pure x:=by intro _;rfl):PE X (.ListComp elt [⟨tg,iter,ifs,0⟩] cs pos) (lf N' wi g tc te):=by
 intro pins s σ H Q I h;obtain ⟨cl,e,h1,h2,_⟩:=Z5 (env:=X.env) cs.names [] (λx hx hk=>I.ok.has x.1 (S.free x hx hk)) (λ_ _ z=>nomatch z);have O:closureFor cs X.env=pure cl:=by
  simp only [closureFor];rw[e];rfl
 rw[eval_ListComp];refine qR9 (use:=none) rfl hs O S.kind S.loc (thn (hi pins s σ H _ I h) λv s1 q1=>thn q1 λa0 s2 q2=>?_);refine kI (R:=λT C=>compPost (model X.prog X.w) X.A X.xe none (EP X pins σ Q) T C) (Q:=Q) S hc hg hk ht he h1 h2 q2 λD C H' s' I' q n f=>?_;obtain ⟨m,hn⟩:=n;obtain ⟨f0,f1,f2,f3,f4,f5⟩:=f;show ⟨m,hn,λh' sb=>⟨.ref D,H',I'.turned (t':=s'.toks) (λb o hb e=>sb.extBut b o hb e) f0 f1 f3 f4 f5,rfl,q⟩⟩
def AU {X:Cx}{cs:Scope}{N':VJ}{tg iter T:Expr}{O:VV}{wi:TI}{g:TG}{tc:TT}{te:TE}{pos:Pos}{i:Nat}{y:Str}{py a0:Pos}(S:f7 X.env.scope cs X.N N') (hc:X.calm=true) (hi:PI X tg iter wi) (hg:∀cl ex s H,PG (m9 X cs cl N' ex s H) tg g) (hk:K5 X.N.length g) (ht:∀cl ex s H,PIf (m9 X cs cl N' ex s H) O tc) (he:∀cl ex s H,PE (m9 X cs cl N' ex s H) T te) (hN:X.N.Nodup) (hy:X.N[i]?=some y) (hl:Loc X.env.scope y) (a9:swapsWith (.ListComp T [⟨tg,iter,O,0⟩] cs pos) (some (.Name y py)) a0.line X.env=pure true:=by rfl) (hf:X.fn y=true\/X.env.scope.names.lookup y=some .local:=by first|show .inl rfl|show .inr rfl|assumption) (hs:∀x,foldedSetIterable iter X.env x=pure x:=by intro _;rfl):PS X (.Assign [.Name y py] (.ListComp T [⟨tg,iter,O,0⟩] cs pos) a0) (cD (lf N' wi g tc te) (P8 i)):=by
 intro pins s σ H Q I h;obtain ⟨cl,e,h1,h2,_⟩:=Z5 (env:=X.env) cs.names [] (λx hx hk=>I.ok.has x.1 (S.free x hx hk)) (λ_ _ z=>nomatch z);have a3:closureFor cs X.env=pure cl:=by
  simp only [closureFor];rw[e];rfl
 rw[exec_Assign_Name_used _ _ _ _ a9];refine qA1 (qQ4 (qA1 ?_))
 change wpAny _ _ (comprehension (.ListComp T [⟨tg,iter,O,0⟩] cs pos) cs X.env _ (newList []) false (eval iter X.env) (some (assign (.Name y py) X.env))>>=_) _ _ s;refine qA1 (thn (qR9 (use:=some (assign (.Name y py) X.env)) (Q:=λ_ s'=>SP X pins Q .next s') rfl hs a3 S.kind S.loc (thn (hi pins s σ H _ I h) λv s1 q1=>thn q1 λb0 s2 q2=>?_)) λ_ s' q=>qO6 (qO6 q));refine kI (R:=λa7 C=>compPost (model X.prog X.w) X.A X.xe (some (assign (.Name y py) X.env)) (λ_ s'=>SP X pins Q .next s') a7 C) (Q:=λx H1=>P8 i x σ H1 Q.nx) S hc hg hk ht he h1 h2 q2 λD C H' s' I' q n f=>?_;obtain ⟨m,hn⟩:=n;obtain ⟨f0,f1,f2,f3,f4,f5⟩:=f
 change wpAny _ _ (assign (.Name y py) X.env (.ref D)) _ _ _;refine qW1 (dH (v:=.ref D) (u:=.ref D) I' hN hy hl rfl (λa6 a8 a4=>?_) hf);obtain ⟨a,sb,ha⟩:=a4;have a5:C≠a:=by
  rcases ha with rfl|ha
  .show f1
  .show λq=>f4 _ _ ha q.symm
 refine ⟨m,hn.sameBut sb a5,λh' ab=>?_⟩;show ⟨_,H',a8.turned (t':=a6.toks) (λb o hb e=>ab.extBut b o hb e) f0 f1 f3 f4 f5,q⟩
def Sq.same {K:Frag}(e:Same H H') (h:Sq K H t a xs):Sq K H' t a xs:=by
 unfold Sq at h ⊢
 split
 .rename_i ht;rw[qA2 ht]at h
  rcases h with (h|⟨o,h⟩)|h
  .show .inl (.inl (e _ _ h))
  .show .inl (.inr ⟨o,e _ _ h⟩)
  .show .inr h
 .rename_i ht;rw[qA4 ht]at h
  show e.seq h
def seqAt (K:Frag) (H:Hp) (p:Addr) (R:List V->Prop):Prop:=match H p with
 |some (.tup xs)=>R xs
 |some (.lst xs)=>R xs
 |_=>∃t xs,Sq K H t p xs/\R xs
def ItQ (K:Frag)(t:Bool)(a:Addr):It:=if t=true then Itt K a else Itl K a
def iSq (K:Frag)(I:TE):TI:=λσ H R=>I σ H λx H1=>∃a,x=.ref a/\∃t xs,Sq K H1 t a xs/\R (ItQ K t a) H1
def IQ (hl:PE X l tl):PI X tg l (iSq X.K tl):=by
 intro pins s σ H R I h;refine thn (hl pins s σ H _ I h) λv s1 a0=>?_;obtain ⟨x,H1,O,r1,q1⟩:=a0;obtain ⟨a,e,t,xs,hq,q⟩:=q1;subst e;cases r1;cases t with
 | true=>
  have T:SqT X.K H1 a xs:=by unfold Sq at hq;rw[qA2 rfl]at hq;show hq
  obtain ⟨its,rv,p,hz⟩:=O.tuple T;refine qQ0 (show s1.heap.IsTuple a its.toArray from p) ?_;refine ⟨s1.heap.objs.size,[s1.heap.objs.size],_,Itt X.K a,H1,rfl,O.kept (t':=s1.toks) λb o e=>qA7 _ e,qt a _,⟨_,qC0 _ rfl,rfl,rfl⟩,λb hb=>?_,q⟩;have e:b=s1.heap.objs.size:=by simpa using hb
  subst e;show O.fpOk (qB4 _) (O.hok.fresh (qB4 _))
 | false=>
  have T:SqL X.K H1 a xs:=by unfold Sq at hq;rw[qA4 qB0]at hq;show hq
  obtain ⟨its,rv,p,hz⟩:=O.list T;refine qQ6 p.isList ?_;refine ⟨s1.heap.objs.size,[s1.heap.objs.size],_,Itl X.K a,H1,rfl,O.kept (t':=s1.toks) λb o e=>qA7 _ e,sT a _,⟨_,qC0 _ rfl,rfl,rfl⟩,λb hb=>?_,q⟩;have e:b=s1.heap.objs.size:=by simpa using hb
  subst e;show O.fpOk (qB4 _) (O.hok.fresh (qB4 _))
def CP:bootBuiltins "bool" = some (.type "bool"):=ZU
def iL:bootBuiltins "int" = some (.type "int"):=ZU
def qk:bootBuiltins "list" = some (.type "list"):=ZU
def r9:bootBuiltins "tuple" = some (.type "tuple"):=ZU
def cj:bootBuiltins "max" = some (.builtin "max"):=ZU
def vN:bootBuiltins "min" = some (.builtin "min"):=ZU
def tyO:Option HO->Option String
 |some (.lst _)=>some "list"
 |some (.tup _)=>some "tuple"
 |some (.dK _)=>some "dict"
 |_=>none
def tyB (H:Hp):V->Option String
 | .non=>some "NoneType"
 | .bl _=>some "bool"
 | .int _=>some "int"
 | .str _=>some "str"
 | .ref a=>tyO (H a)
 |_=>none
def A8 (A T:String):Option Bool:=
 if A=T then some true else if A = "bool" /\ T = "int" then some true
 else if (A = "NoneType" \/ A = "bool" \/ A = "int" \/ A = "str" \/ A = "list" \/ A = "tuple" \/ A = "dict")/\(T = "bool" \/ T = "int" \/ T = "list" \/ T = "tuple") then some false else none
def Dv {K:Frag}(h:tyB H x=some A):V7 K H x (.type A):=by
 cases x with
 |non=>cases h;show .non
 |bl _=>cases h;show .bl _
 |int _=>cases h;show .int _
 |str _=>cases h;show .str _
 | ref a=>
  have h:tyO (H a)=some A:=h;cases e:H a with
  |none=>rw[e]at h;cases h
  | some o=>
   rw[e]at h;cases o <;> first | (cases h;show .lst e) | (cases h;show .tup e) | (cases h;show .dK e)|cases h
 |_=>cases h
def BV {K:Frag}(h:A8 A T=some b):PySem.W.kitOne K (.type A) (.type T)=some b:=by
 unfold A8 at h
 split at h
 .rename_i e;subst e;cases h
  unfold PySem.W.kitOne;rw[qA2 ZV]
 .split at h
  .rename_i e;obtain ⟨rfl,rfl⟩:=e;cases h;with_unfolding_all rfl
  .split at h
   .rename_i h1 h2 e
    obtain ⟨I,O⟩:=e;cases h;rcases I with rfl|rfl|rfl|rfl|rfl|rfl|rfl <;> rcases O with rfl|rfl|rfl|rfl <;>
     first|show absurd rfl h1|show absurd ⟨rfl,rfl⟩ h2|with_unfolding_all rfl
   .cases h
def rIsi:List V->Hp->VK->Prop:=λxs H Q=>∃x T,xs = [x,.ty T]/\∃A,tyB H x=some A/\∃b,A8 A T=some b/\Q (.bl b) H
def aM:K6 X (.builtin "isinstance") rIsi:=by
 intro pins s σ H xs us Q I r h;obtain ⟨x,T,rfl,A,ty,b,e,q⟩:=h;obtain ⟨u,w',rfl,r1,r2⟩:=vals2 r;have O:w'=Value.type T:=r2;subst O;show uZ I r1 (Dv ty) (BV e) λtk=>⟨.bl b,H,I.tok tk,rfl,q⟩
def Gq:A8 "bool" "bool" = some true:=ZY
def Gp:A8 "bool" "int" = some true:=ZY
def Go:A8 "int" "bool" = some false:=ZY
def Gn:A8 "int" "int" = some true:=ZY
def FX:A8 "tuple" "tuple" = some true:=ZY
def Gj:A8 "list" "list" = some true:=ZY
def Gg:A8 "NoneType" "int" = some false:=ZY
def Gh:A8 "NoneType" "bool" = some false:=ZY
def Gb:A8 "str" "int" = some false:=ZY
def Gc:A8 "str" "bool" = some false:=ZY
def Gk:A8 "list" "int" = some false:=ZY
def Gm:A8 "list" "bool" = some false:=ZY
def FZ:A8 "tuple" "int" = some false:=ZY
def Ga:A8 "tuple" "bool" = some false:=ZY
def bZ {n:Nat}{i:Int}(h0:0<=i)(I:i<n):ixN n i=some i.toNat:=by unfold ixN;rw[qA2 h0,qA2 I]
def mem_getD {ms:Zz}{P:Int->Prop}(h:∀x∈ms,P x) (hi:i<ms.length):P (ms.getD i 0):=by
 have:ms.getD i 0=ms[i]:=by simp [hi]
 rw[this];show h _ (qG1 hi)
structure Runs (J:It) (n:Nat) (H1:Hp) (Y:Nat->V->Hp->Hp->Prop):Prop where
 go:∀i H,i<n->Same H1 H->J.go i H
 stop:∀H,Same H1 H->J.stop n H
 yld:∀i H x H',i<n->Same H1 H->J.yld i H x H'->Y i x H H'
def tU {K:Frag}(h:Sq K H1 t a xs) (h':Sq K H1 u b ys):
  Runs (ItZ K [(t,a),(u,b)]) (min xs.length ys.length) H1 λi x H H'=>∃p y z,x=.ref p/\H p=none/\H'=upd H p (.tup [y,z])/\xs[i]?=some y/\ys[i]?=some z:=by
 refine ⟨λi H hi s v I=>?_,λH s=>⟨λv I=>?_,?_⟩,λi H x H' hi s hy=>?_⟩
 .simp only [qB5,qE4,qR2]at I;rcases I with rfl|rfl
  .show ⟨xs,xs[i]'(qB6 hi (qN2 _ _)),Sq.same s h,ZV⟩
  .show ⟨ys,ys[i]'(qB6 hi (qM3 _ _)),Sq.same s h',ZV⟩
 .simp only [qB5,qE4,qR2]at I;rcases I with rfl|rfl
  .show ⟨xs,Sq.same s h⟩
  .show ⟨ys,Sq.same s h'⟩
 .rcases Nat.le_total xs.length ys.length with q|q
  .show ⟨(t,a),ZV,xs,Sq.same s h,ox⟩
  .show ⟨(u,b),ZV,ys,Sq.same s h',ox⟩
 .obtain ⟨p,zs,T,e2,e3,O⟩:=hy;cases O with
  | cons r1 O=>
   cases O with
   | cons r2 O=>
    cases O;show ⟨p,_,_,T,e2,e3,r1 xs (Sq.same s h),r2 ys (Sq.same s h')⟩
def tS {K:Frag}(h:Sq K H1 t a xs) (h':Sq K H1 u b ys) (I:Sq K H1 w c zs):
  Runs (ItZ K [(t,a),(u,b),(w,c)]) (min xs.length (min ys.length zs.length)) H1 λi x H H'=>∃p y z v,x=.ref p/\H p=none/\H'=upd H p (.tup [y,z,v])/\xs[i]?=some y/\ys[i]?=some z/\zs[i]?=some v:=by
 refine ⟨λi H hi s v T=>?_,λH s=>⟨λv T=>?_,?_⟩,λi H x H' hi s hy=>?_⟩
 .simp only [qB5,qE4,qR2]at T;rcases T with rfl|rfl|rfl
  .show ⟨xs,xs[i]'(qB6 hi (qN2 _ _)),Sq.same s h,ZV⟩
  .show ⟨ys,ys[i]'(qB6 hi (qC1 (qM3 _ _) (qN2 _ _))),Sq.same s h',ZV⟩
  .show ⟨zs,zs[i]'(qB6 hi (qC1 (qM3 _ _) (qM3 _ _))),Sq.same s I,ZV⟩
 .simp only [qB5,qE4,qR2]at T;rcases T with rfl|rfl|rfl
  .show ⟨xs,Sq.same s h⟩
  .show ⟨ys,Sq.same s h'⟩
  .show ⟨zs,Sq.same s I⟩
 .have:min xs.length (min ys.length zs.length)=xs.length\/min xs.length (min ys.length zs.length)=ys.length\/min xs.length (min ys.length zs.length)=zs.length:=ox
  rcases this with q|q|q
  .show ⟨(t,a),ZV,xs,Sq.same s h,ox⟩
  .show ⟨(u,b),ZV,ys,Sq.same s h',ox⟩
  .show ⟨(w,c),ZV,zs,Sq.same s I,ox⟩
 .obtain ⟨p,vs,e1,e2,e3,O⟩:=hy;cases O with
  | cons r1 O=>
   cases O with
   | cons r2 O=>
    cases O with
    | cons r3 O=>
     cases O;show ⟨p,_,_,_,e1,e2,e3,r1 xs (Sq.same s h),r2 ys (Sq.same s h'),r3 zs (Sq.same s I)⟩
structure Def (K:Frag) (mg:Vx) (x:Str) (st:Stmt) (ps:VJ) (f:Addr) (fd:FuncData):Prop where
 F:Fun K x x st f fd
 m:mg x=some (.ref f)
 b:Binds K fd ps []
def B4 {X:Cx}(K:Frag){es:VV}{pos:Pos}{k:Nat}{t:TGs}(n:Nat)(hc:X.calm=true)(h:PGs X es t)(O:X.K=K:=by rfl)(hn:(assignEach es X.env).length=n:=by rfl)(I:(assignEach es X.env).findIdx? (·.1)=none:=by rfl):PG X (.Tuple es k pos) (rC K n t):=by subst O;show Fq hc h hn I
def wF (O:TE) (I:TE):TE:=λσ H Q=>O σ H λx H1=>∃p,x=.ref p/\(∃xs,H1 p=some (.lst xs))/\I σ H1 λy H2=>match H2 p with
 |some (.lst xs)=>xs.length<sizeLine/\Q .non (upd H2 p (.lst (xs ++ [y])))
 |_=>False
def ka {X:Cx}{o e:Expr}{to te:TE}{apos O:Pos}(ho:PE X o to) (ha:PE X e te) (a0:attributeBase o "append" X.env (eval o X.env)=eval o X.env:=by rfl) (a6:((backTo O (starEach [e] X.env)).all (λx=>!x.1)&&(backToKw O (keywordEach [] X.env)).all (λx=>x.1.isSome)
   && decide (([e]:VV).length+([]:List Keyword).length+(if ([]:List Keyword).isEmpty then 0 else 1)<30))=true:=by rfl) (a3:(apos.endLine == O.line)=true:=by rfl) (hs:starEach [e] X.env=(false,eval e X.env)::starEach [] X.env:=by rfl):PE X (.Call (.Attribute o "append" apos) [e] [] O) (wF to te):=by
 intro pins s σ H Q I h;refine wpAny_Call_method_late a0 a6 a3 rfl (thn (ho pins s σ H _ I h) λv s1 a7=>?_);obtain ⟨x,H1,I1,r1,p,ex,⟨xs,e1⟩,q1⟩:=a7;subst ex;obtain ⟨h1,h2⟩:=lB (T := "list") I1 r1 (.inl ⟨rfl,xs,SqL.of e1⟩);refine ⟨"list","list.append",qS3,PySem.F.slot_list_append,PySem.F.type_list_append,h1,h2,?_⟩;have hA:=fB ha pa_nil hs O pins s1 σ H1 (λvs H2=>∃y,vs = [y]/\match H2 p with
  |some (.lst xs)=>xs.length<sizeLine/\Q .non (upd H2 p (.lst (xs ++ [y])))
  | _=>False) I1 (by
   have e:(λ(y:V) (H2:Hp)=>match H2 p with
     |some (.lst xs)=>xs.length<sizeLine/\Q .non (upd H2 p (.lst (xs ++ [y])))
     |_=>False)=λ(y:V) (H2:Hp)=>∃y',[y] = [y']/\match H2 p with
     |some (.lst xs)=>xs.length<sizeLine/\Q .non (upd H2 p (.lst (xs ++ [y'])))
     |_=>False:=by
    funext y H2
    show propext ⟨λq=>⟨y,rfl,q⟩,λa4=>by obtain ⟨y',e,q⟩:=a4;cases e;show q⟩
   rw[e]at q1;show q1)
 rw[hs]at hA ⊢;refine qS7 rfl (Calls.evalArgs_plain ?_);refine thn hA λus s2 a5=>?_;obtain ⟨vs,H2,I2,r2,y,ev,q2⟩:=a5;subst ev;refine eA pins s2 σ H2 (.ref p) [y] v us Q I2 r1 r2 ?_
 split at q2
 .rename_i ys e2;show ⟨p,ys,y,rfl,rfl,e2,q2.1,q2.2⟩
 .show q2.elim
def xi (K:Frag):V->Option Int->Option Int->Hp->VK->Prop:=λx lo hi H Q=>∃p,x=.ref p/\∃xs,SqL K H p xs/\∀l,H l=none->Q (.ref l) (upd H l (.lst (db xs lo hi)))
def zX (i j:Int):Prop:=0<=j/\(Builtin.Int.intBits i:Int)*j<=2^27
def Cd {ns:Zz}(h:ns[i]?=some z):ns.getD i 0=z:=by rw[qA0,h];rfl
def R1 {ns:Zz}(h:i<ns.length):ns[i]?=some (ns.getD i 0):=by rw[qA0];simp [h]
end L2
namespace TP
open PySem L2
inductive W where
 |non|bl (b:Bool)|int (i:Int)|str (x:Str)|ty (n:String)|tup (ws:List W)|lst (ws:List W)|scr (ws:List W)
 |exc (c:Str) (i:VQ)|cls (c:Str)
abbrev Zk:=List W
def XD (F:Hp) (od:Option Addr):Option Int->Prop
 |none=>od=none
 |some i=>∃d,od=some d/\F d=some (.xd [("at",.int i)])
mutual
inductive Rep (K:Frag) (F:Hp):V->W->Prop where
 |non:Rep K F .non .non
 |bl {b:Bool}:Rep K F (.bl b) (.bl b)
 |int {i:Int}:Rep K F (.int i) (.int i)
 |str {x:Str}:Rep K F (.str x) (.str x)
 |ty {n:String}:Rep K F (.ty n) (.ty n)
 |tup {a:Addr}{vs:List V}{ws:Zk}:F a=some (.tup vs)->Reps K F vs ws->Rep K F (.ref a) (.tup ws)
 |lst {a:Addr}{vs:List V}{ws:Zk}:F a=some (.lst vs)->Reps K F vs ws->Rep K F (.ref a) (.lst ws)
 |scr {a:Addr}{vs:List V}{ws:Zk}:SqL K F a vs->Reps K F vs ws->Rep K F (.ref a) (.scr ws)
 |exc {a C:Addr}{o:Obj}{vs:VW}{c:Str}{i:VQ}:F a=some (.ext λh=>h.get? a=some o)->o.cls=.ref C->o.data=.fields vs->PySem.W.nsIn K mainGlobals c=some (some (.ref C))->XD F o.dict i->Rep K F (.ref a) (.exc c i)
 |cls {C:Addr}{c:Str}:PySem.W.nsIn K mainGlobals c=some (some (.ref C))->Rep K F (.ref C) (.cls c)
inductive Reps (K:Frag) (F:Hp):List V->List W->Prop where
 |nil:Reps K F [] []
 |cons {v:V}{w:W}{vs:List V}{ws:Zk}:Rep K F v w->Reps K F vs ws->Reps K F (v::vs) (w::ws)
end
def wJ (e:Same F F') (h:SqT K F a xs):SqT K F' a xs:=by
 rcases h with (h|⟨o,h⟩)|h
 .show .inl (.inl (e _ _ h))
 .show .inl (.inr ⟨o,e _ _ h⟩)
 .show .inr h
def XD.same (e:Same F F'):∀{i:VQ},XD F od i->XD F' od i:=by
 intro i h;cases i with
 |none=>show h
 |some _=>obtain ⟨d,I,O⟩:=h;show ⟨d,I,e _ _ O⟩
def Rep.same (e:Same F F') (r:Rep K F v w):Rep K F' v w:=
 @Rep.rec K F (λv w _=>Rep K F' v w) (λvs ws _=>Reps K F' vs ws) .non .bl .int .str .ty (λh _ r=>.tup (e _ _ h) r) (λh _ r=>.lst (e _ _ h) r) (λh _ r=>.scr (Same.seq e h) r) (λT h2 h3 O I=>.exc (e _ _ T) h2 h3 O (XD.same e I)) (λh=>.cls h) .nil (λ_ _ a b=>.cons a b) v w r
def Reps.same (e:Same F F') (r:Reps K F vs ws):Reps K F' vs ws:=
 @Reps.rec K F (λ_ _ _=>True) (λvs ws _=>Reps K F' vs ws) trivial trivial trivial trivial trivial (λ_ _ _=>trivial) (λ_ _ _=>trivial) (λ_ _ _=>trivial) (λ_ _ _ _ _=>trivial) (λ_=>trivial) .nil (λh _ _ b=>.cons (Rep.same e h) b) vs ws r
def Reps.ind {P:List V->List W->Prop}(h0:P [] []) (I:∀{v:V}{w:W}{vs:List V}{ws:Zk},Rep K F v w->Reps K F vs ws->P vs ws->P (v::vs) (w::ws)) (r:Reps K F vs ws):P vs ws:=
 @Reps.rec K F (λ_ _ _=>True) (λvs ws _=>P vs ws) trivial trivial trivial trivial trivial (λ_ _ _=>trivial) (λ_ _ _=>trivial) (λ_ _ _=>trivial) (λ_ _ _ _ _=>trivial) (λ_=>trivial) h0 (λh r _ b=>I h r b) vs ws r
def Io (K:Frag) (F:Hp) (v:V):W->Prop
 | .non=>v=.non
 | .bl b=>v=.bl b
 | .int i=>v=.int i
 | .str x=>v=.str x
 | .ty n=>v=.ty n
 | .tup ws=>∃a vs,v=.ref a/\F a=some (.tup vs)/\Reps K F vs ws
 | .lst ws=>∃a vs,v=.ref a/\F a=some (.lst vs)/\Reps K F vs ws
 | .scr ws=>∃a vs,v=.ref a/\SqL K F a vs/\Reps K F vs ws
 | .exc _ _=>True
 | .cls _=>True
def Rep.inv (r:Rep K F v w):Io K F v w:=
 @Rep.rec K F (λv w _=>Io K F v w) (λ_ _ _=>True) rfl rfl rfl rfl rfl (λh r _=>⟨_,_,rfl,h,r⟩) (λh r _=>⟨_,_,rfl,h,r⟩) (λh r _=>⟨_,_,rfl,h,r⟩) (λ_ _ _ _ _=>trivial) (λ_=>trivial) trivial (λ_ _ _ _=>trivial) v w r
def zS (K:Frag) (F:Hp) (vs:List V):List W->Prop
 | []=>vs = []
 |w::ws=>∃v us,vs=v::us/\Rep K F v w/\Reps K F us ws
def Reps.inv (r:Reps K F vs ws):zS K F vs ws:=
 Reps.ind (P:=λvs ws=>zS K F vs ws) rfl (λh t _=>⟨_,_,rfl,h,t⟩) r
def Reps.length (r:Reps K F vs ws):vs.length=ws.length:=
 Reps.ind (P:=λvs ws=>vs.length=ws.length) rfl (λ_ _ h=>congrArg (·+1) h) r
def Reps.get {i:Nat}(r:Reps K F vs ws):ws[i]?=some w->∃v,vs[i]?=some v/\Rep K F v w:=
 Reps.ind (P:=λvs ws=>∀(i:Nat) (w:W),ws[i]?=some w->∃v,vs[i]?=some v/\Rep K F v w) (λi w e=>by cases e) (λh _ b i w e=>by
  cases i with
  |zero=>cases e;show ⟨_,rfl,h⟩
  |succ i=>show b i w e) r i w
def Reps.get' {i:Nat}(r:Reps K F vs ws):vs[i]?=some v->∃w,ws[i]?=some w/\Rep K F v w:=
 Reps.ind (P:=λvs ws=>∀(i:Nat) (v:V),vs[i]?=some v->∃w,ws[i]?=some w/\Rep K F v w) (λi w e=>by cases e) (λh _ b i w e=>by
  cases i with
  |zero=>cases e;show ⟨_,rfl,h⟩
  |succ i=>show b i w e) r i v
def Reps.append (r:Reps K F vs ws) (s:Reps K F us xs):Reps K F (vs++us) (ws++xs):=
 Reps.ind (P:=λvs ws=>Reps K F (vs++us) (ws++xs)) s (λh _ b=>.cons h b) r
def Reps.take (n:Nat) (r:Reps K F vs ws):Reps K F (vs.take n) (ws.take n):=
 Reps.ind (P:=λvs ws=>∀n,Reps K F (vs.take n) (ws.take n)) (λn=>by simpa using .nil) (λh _ b n=>by
  cases n with
  |zero=>show .nil
  |succ n=>show .cons h (b n)) r n
def Reps.drop (n:Nat) (r:Reps K F vs ws):Reps K F (vs.drop n) (ws.drop n):=
 Reps.ind (P:=λvs ws=>∀n,Reps K F (vs.drop n) (ws.drop n)) (λn=>by simpa using .nil) (λh r b n=>by
  cases n with
  |zero=>show .cons h r
  |succ n=>show b n) r n
def Reps.reverse (r:Reps K F vs ws):Reps K F vs.reverse ws.reverse:=by
 induction r using Reps.rec (motive_1:=λ_ _ _=>True) with
 |nil=>show .nil
 |cons h _ _ I=>rw[qI4,qI4];show Reps.append I (.cons h .nil)
 |_=>trivial
def Reps.set (h:Rep K F v w) (i:Nat) (r:Reps K F vs ws):Reps K F (vs.set i v) (ws.set i w):=
 Reps.ind (P:=λvs ws=>∀i,Reps K F (vs.set i v) (ws.set i w)) (λ_=>.nil) (λq t b i=>by
  cases i with
  |zero=>show .cons h t
  |succ i=>show .cons q (b i)) r i
def Reps.snoc (r:Reps K F vs ws)(h:Rep K F v w):Reps K F (vs ++ [v]) (ws ++ [w]):=r.append (.cons h .nil)
mutual
def noL:W->Bool
 | .lst _=>false
 | .scr _=>false
 | .tup ws=>n5 ws
 |_=>true
def n5:List W->Bool
 | []=>true
 |w::ws=>noL w&&n5 ws
end
def isL:HO->Bool
 | .lst _=>true
 | .dT _=>true
 | .dK _=>true
 | .frz _ (.lst _)=>true
 |_=>false
def join (H0 G:Hp):Hp:=λa=>match H0 a with
 |some o=>if isL o then some o else G a
 |none=>G a
inductive Sl where
 |un|val (w:W)|par (w:W)|own (ws:Zk)|dic (ks:Zq)|dik (ks:Zz)|iop (p:Addr) (ws:Zk)|hz (w:W)
abbrev Rho:=List Sl
def jp (G:Hp):Hp:=λa=>match G a with
 |some o=>if isL o then none else some o
 |none=>none
def aV (h:Same G G'):Same (jp G) (jp G'):=λa o e=>by
 unfold jp at e ⊢;cases q:G a with
 |none=>rw[q]at e;cases e
 |some u=>rw[q]at e;rw[h a u q];show e
def xI:Same (jp G) G:=λa o e=>by
 unfold jp at e;cases q:G a with
 |none=>rw[q]at e;cases e
 | some u=>
  rw[q]at e;dsimp only at e;cases I:isL u
  .rw[I]at e;show e
  .rw[I]at e;cases e
def SlR (K:Frag) (H0 G H:Hp):Sl->Option V->Prop
 | .un,_=>True
 | .val w,o=>∃v,o=some v/\Rep K G v w
 | .par w,o=>∃v,o=some v/\Rep K (join H0 G) v w
 | .own ws,o=>∃a vs,o=some (.ref a)/\H a=some (.lst vs)/\G a=none/\H0 a=none/\Reps K G vs ws
 | .dic ks,o=>∃(a:Addr) (kvs:List (List Key×V)),o=some (.ref a)/\H a=some (.dT kvs)/\G a=none/\H0 a=none/\kvs.map (·.1)=ks.map λk=>k.map Sum.inl
 | .dik ks,o=>∃(a:Addr) (kvs:List (Key×V)),o=some (.ref a)/\H a=some (.dK kvs)/\G a=none/\H0 a=none/\kvs.map (·.1)=ks.map Sum.inl
 | .iop p ws,o=>o=some (.ref p)/\∃vs,H0 p=some (.lst vs)/\Reps K G vs ws
 | .hz w,o=>∃v,o=some v/\Rep K (join H0 (jp G)) v w
structure PIv (K:Frag) (H0 G:Hp) (ρ:Rho) (σ:St) (H:Hp):Prop where
 g0:∀a o,H0 a=some o->isL o=false->G a=some o
 gl:∀a o,H0 a=some o->isL o=true->G a=none
 gh:Same G H
 hh:Same H0 H
 len:ρ.length=σ.length
 sl:∀(i:Nat) (x:Sl) (o:Option V),ρ[i]?=some x->σ[i]?=some o->SlR K H0 G H x o
 ne:∀(i j:Nat) (ws us:Zk) (a:Addr),i≠j->ρ[i]?=some (.own ws)->ρ[j]?=some (.own us)->σ[i]?=some (some (.ref a))->σ[j]?≠some (some (.ref a))
structure Ext (G H G' H':Hp):Prop where
 gg:Same G G'
 hh:Same H H'
 gh:Same G' H'
 keep:∀a o,H a=some o->isL o=true->G a=none->G' a=none
def Ext.refl (h:Same G H):Ext G H G H:=⟨Same.refl G,Same.refl H,h,λ_ _ _ _ e=>e⟩
def Ext.trans (a:Ext G H G1 H1) (b:Ext G1 H1 G2 H2):Ext G H G2 H2:=
 ⟨a.gg.trans b.gg,a.hh.trans b.hh,b.gh,λx o h l e=>b.keep x o (a.hh x o h) l (a.keep x o h l e)⟩
def y9 (h:Same G G'):Same (join H0 G) (join H0 G'):=λa o e=>by
 unfold join at e ⊢;cases q:H0 a with
 |none=>rw[q]at e;show h a o e
 | some u=>
  rw[q]at e;dsimp only at e ⊢;by_cases I:isL u=true
  .rw[qA2 I]at e ⊢;show e
  .rw[qA4 I]at e ⊢;show h a o e
def PIv.G_join (I:PIv K H0 G ρ σ H):Same G (join H0 G):=λa o e=>by
 unfold join;cases q:H0 a with
 |none=>show e
 | some u=>
  dsimp only;by_cases O:isL u=true
  .rw[I.gl a u q O]at e;cases e
  .rw[qA4 O];show e
def PIv.join_H (I:PIv K H0 G ρ σ H):Same (join H0 G) H:=λa o e=>by
 unfold join at e;cases q:H0 a with
 |none=>rw[q]at e;show I.gh a o e
 | some u=>
  rw[q]at e;dsimp only at e;by_cases O:isL u=true
  .rw[qA2 O]at e;cases e;show I.hh a _ q
  .rw[qA4 O]at e;show I.gh a o e
def PIv.ext (I:PIv K H0 G ρ σ H) (x:Ext G H G' H'):PIv K H0 G' ρ σ H' where
 g0 a o e l:=x.gg a o (I.g0 a o e l)
 gl a o e l:=x.keep a o (I.hh a o e) l (I.gl a o e l)
 gh:=x.gh
 hh:=I.hh.trans x.hh
 len:=I.len
 sl i s o h1 h2:=by
  have:=I.sl i s o h1 h2
  cases s with
  |un=>trivial
  |val w=>obtain ⟨v,e,r⟩:=this;show ⟨v,e,r.same x.gg⟩
  |par w=>obtain ⟨v,e,r⟩:=this;show ⟨v,e,r.same (y9 x.gg)⟩
  | own ws=>
   obtain ⟨a,vs,e,h,g,h0,r⟩:=this;show ⟨a,vs,e,x.hh a _ h,x.keep a _ h rfl g,h0,r.same x.gg⟩
  | dic ks=>
   obtain ⟨a,kvs,e,h,g,h0,r⟩:=this;show ⟨a,kvs,e,x.hh a _ h,x.keep a _ h rfl g,h0,r⟩
  | dik ks=>
   obtain ⟨a,kvs,e,h,g,h0,r⟩:=this;show ⟨a,kvs,e,x.hh a _ h,x.keep a _ h rfl g,h0,r⟩
  | iop p ws=>
   obtain ⟨e,vs,h,r⟩:=this;show ⟨e,vs,h,r.same x.gg⟩
  |hz w=>obtain ⟨v,e,r⟩:=this;show ⟨v,e,r.same (y9 (aV x.gg))⟩
 ne:=I.ne
def gJ (h:join H0 G a=some o) (l:isL o=false):G a=some o:=by
 unfold join at h;cases q:H0 a with
 |none=>rw[q]at h;show h
 | some u=>
  rw[q]at h;dsimp only at h;by_cases I:isL u=true
  .rw[qA2 I]at h;cases h;rw[I]at l;cases l
  .rw[qA4 I]at h;show h
def XD.clean:∀{i:VQ},XD (join H0 G) od i->XD G od i
 |none,h=>h
 |some _,⟨d,h1,h2⟩=>⟨d,h1,gJ h2 rfl⟩
def Rep.clean (I:PIv K H0 G ρ σ H) (r:Rep K (join H0 G) v w):noL w=true->Rep K G v w:=
 @Rep.rec K (join H0 G) (λv w _=>noL w=true->Rep K G v w) (λvs ws _=>n5 ws=true->Reps K G vs ws) (λ_=>.non) (λ_=>.bl) (λ_=>.int) (λ_=>.str) (λ_=>.ty)
  (λh _ r n=>.tup (gJ h rfl) (r n)) (λ_ _ _ n=>by cases n) (λ_ _ _ n=>by cases n) (λh1 h2 h3 T O _=>.exc (gJ h1 rfl) h2 h3 T (XD.clean O)) (λh _=>.cls h) (λ_=>.nil)
  (λ_ _ a b n=>by rw[n5,qG6]at n;show .cons (a n.1) (b n.2)) v w r
def Reps.clean (I:PIv K H0 G ρ σ H) (r:Reps K (join H0 G) vs ws):n5 ws=true->Reps K G vs ws:=
 @Reps.rec K (join H0 G) (λ_ _ _=>True) (λvs ws _=>n5 ws=true->Reps K G vs ws) trivial trivial trivial trivial trivial (λ_ _ _=>trivial) (λ_ _ _=>trivial) (λ_ _ _=>trivial) (λ_ _ _ _ _=>trivial) (λ_=>trivial) (λ_=>.nil)
  (λh _ _ b n=>by rw[n5,qG6]at n;show .cons (Rep.clean I h n.1) (b n.2)) vs ws r
structure XW where
 cls:Str
 at_:Option Int
inductive R (α:Type) where
 |ok (a:α)|ex (e:XW)|stuck
def R.bind {α I:Type}(x:R α) (f:α->R I):R I:=match x with
 | .ok a=>f a
 | .ex e=>.ex e
 | .stuck=>.stuck
instance:Monad R where
 pure:=R.ok
 bind:=R.bind
@[simp] theorem R.ok_bind {α I:Type}(a:α) (f:α->R I):((R.ok a:R α)>>=f)=f a:=rfl
@[simp] theorem R.stuck_bind {α I:Type}(f:α->R I):((R.stuck:R α)>>=f)=.stuck:=rfl
@[simp] theorem R.ex_bind {α I:Type}(e:XW) (f:α->R I):((R.ex e:R α)>>=f)=.ex e:=rfl
@[simp] theorem R.pure_eq (a:α):(pure a:R α)=.ok a:=rfl
inductive Mode where
 |F|V|U|C|B
def Md (K:Frag) (H0 H G' H':Hp) (v:V) (w:W):Mode->Prop
 | .V=>Rep K G' v w
 | .U=>Rep K (join H0 G') v w
 | .F=>match w with
  | .lst ws=>∃a vs,v=.ref a/\H' a=some (.lst vs)/\G' a=none/\H a=none/\Reps K G' vs ws
  |w=>Rep K G' v w
 | .C=>Rep K G' v w\/∃a vs ws,v=.ref a/\w=.lst ws/\H' a=some (.lst vs)/\Reps K G' vs ws
 | .B=>Rep K (join H0 G') v w\/∃a vs ws,v=.ref a/\w=.lst ws/\H' a=some (.lst vs)/\Reps K G' vs ws
abbrev EXT:=XW->Hp->Prop
def Out {α I:Type}(EX:EXT) (G H:Hp) (md:α->I->Hp->Hp->Prop) (r:R α) (Q:I->Hp->Prop):Prop:=match r with
 | .ok w=>∀v G' H',Ext G H G' H'->md w v G' H'->Q v H'
 | .ex e=>∀H',Same H H'->EX e H'
 | .stuck=>False
abbrev mdW (K:Frag)(d:Mode)(H0 H:Hp):W->V->Hp->Hp->Prop:=λw v G' H'=>Md K H0 H G' H' v w d
abbrev mdB:Bool->Bool->Hp->Hp->Prop:=λb c _ _=>c=b
inductive MdA (K:Frag) (d:Mode) (H0 H G' H':Hp):List W->List V->Prop where
 |nil:MdA K d H0 H G' H' [] []
 |cons {w:W}{v:V}{ws:Zk}{vs:List V}:Md K H0 H G' H' v w d->MdA K d H0 H G' H' ws vs->MdA K d H0 H G' H' (w::ws) (v::vs)
def MdAI (K:Frag) (d:Mode) (H0 H G' H':Hp) (vs:List V):List W->Prop
 | []=>vs = []
 |w::ws=>∃v us,vs=v::us/\Md K H0 H G' H' v w d/\MdA K d H0 H G' H' ws us
abbrev mdA (K:Frag)(d:Mode)(H0 H:Hp):List W->List V->Hp->Hp->Prop:=λws vs G' H'=>MdA K d H0 H G' H' ws vs
def tM (K:Frag)(EX:EXT)(d:Mode)(m:Rho->R W):TE:=λσ H Q=>∃H0 G ρ,PIv K H0 G ρ σ H/\Out EX G H (mdW K d H0 H) (m ρ) Q
def tT (K:Frag)(EX:EXT)(m:Rho->R Bool):TT:=λσ H Q=>∃H0 G ρ,PIv K H0 G ρ σ H/\Out EX G H mdB (m ρ) Q
def tA (K:Frag)(EX:EXT)(d:Mode)(m:Rho->R Zk):TA:=λσ H Q=>∃H0 G ρ,PIv K H0 G ρ σ H/\Out EX G H (mdA K d H0 H) (m ρ) Q
def Out.bind {md:α->β->Hp->Hp->Prop}{I:γ->δ->Hp->Hp->Prop}{m:R α}{k:α->R γ}{Q:δ->Hp->Prop}{O:β->Hp->Prop}(o:Out EX G H I (m>>=k) Q) (h:∀x G1 H1 w,Ext G H G1 H1->md w x G1 H1->Out EX G1 H1 I (k w) Q->O x H1):Out EX G H md m O:=by
 cases m with
 | ok w=>
  intro v G' H' e d;refine h v G' H' w e d ?_;rw[R.ok_bind]at o
  revert o
  cases k w with
  |ok u=>show λo T G2 H2 e2 d2=>o T G2 H2 (e.trans e2) d2
  |ex x=>show λo H2 s2=>o H2 (e.hh.trans s2)
  |stuck=>show λo=>o
 |ex x=>show o
 |stuck=>show o
def Md.start (s:Same H H1) (h:Md K H0 H1 G2 H2 v w d):Md K H0 H G2 H2 v w d:=by
 cases d with
 | F=>
  cases w with
  |lst ws=>obtain ⟨a,vs,e,I,O,T,r⟩:=h;show ⟨a,vs,e,I,O,s.free T,r⟩
  |_=>show h
 |_=>show h
def Md.move (x:Ext G1 H1 G2 H2) (h:Md K H0 H G1 H1 v w d):Md K H0 H G2 H2 v w d:=by
 cases d with
 |V=>show Rep.same x.gg h
 |U=>show Rep.same (y9 x.gg) h
 | F=>
  cases w with
  |lst ws=>obtain ⟨a,vs,e,I,O,T,r⟩:=h;show ⟨a,vs,e,x.hh _ _ I,x.keep _ _ I rfl O,T,r.same x.gg⟩
  |non=>show Rep.same x.gg h
  |bl _=>show Rep.same x.gg h
  |int _=>show Rep.same x.gg h
  |str _=>show Rep.same x.gg h
  |ty _=>show Rep.same x.gg h
  |tup _=>show Rep.same x.gg h
  |scr _=>show Rep.same x.gg h
  |exc _ _=>show Rep.same x.gg h
  |cls _=>show Rep.same x.gg h
 | C=>
  rcases h with h|⟨a,vs,ws,e,e2,I,r⟩
  .show .inl (h.same x.gg)
  .show .inr ⟨a,vs,ws,e,e2,x.hh _ _ I,r.same x.gg⟩
 | B=>
  rcases h with h|⟨a,vs,ws,e,e2,I,r⟩
  .show .inl (h.same (y9 x.gg))
  .show .inr ⟨a,vs,ws,e,e2,x.hh _ _ I,r.same x.gg⟩
def Md.CB (I:PIv K H0 G1 ρ σ H1) (h:Md K H0 H G1 H1 v w .C):Md K H0 H G1 H1 v w .B:=by
 rcases h with h|h
 .show .inl (h.same I.G_join)
 .show .inr h
def sca:W->Bool
 | .tup _=>false
 | .scr _=>false
 | .lst _=>false
 |_=>true
def Md.sca (I:sca w=true) (r:∀F,Rep K F v w) (d:Mode):Md K H0 H G1 H1 v w d:=by
 cases d with
 |V=>show r _
 |U=>show r _
 |C=>show .inl (r _)
 |B=>show .inl (r _)
 |F=>cases w <;> first|show r _|cases I
def Md.repB (h:Md K H0 H G1 H1 v w .B)(n:∀us,w≠.lst us):Rep K (join H0 G1) v w:=Or.elim h id λI=>by obtain ⟨_,_,us,_,e,_⟩:=I;show absurd e (n us)
def Md.repC (h:Md K H0 H G1 H1 v w .C)(n:∀us,w≠.lst us):Rep K G1 v w:=Or.elim h id λI=>by obtain ⟨_,_,us,_,e,_⟩:=I;show absurd e (n us)
def Md.lstB (I:PIv K H0 G1 ρ σ H1) (h:Md K H0 H G1 H1 v (.lst ws) .B):∃a vs,v=.ref a/\H1 a=some (.lst vs)/\Reps K (join H0 G1) vs ws:=by
 rcases h with h|⟨a,vs,us,e,e2,h1,r⟩
 .obtain ⟨a,vs,e,s,r⟩:=h.inv;show ⟨a,vs,e,I.join_H _ _ s,r⟩
 .rw[W.lst.inj e2];show ⟨a,vs,e,h1,r.same I.G_join⟩
def Md.scrB (I:PIv K H0 G1 ρ σ H1) (h:Md K H0 H G1 H1 v (.scr ws) .B):∃a vs,v=.ref a/\SqL K H1 a vs/\Reps K (join H0 G1) vs ws:=by
 obtain ⟨a,vs,e,s,r⟩:=(h.repB λ_=>W.noConfusion).inv;show ⟨a,vs,e,Same.seq I.join_H s,r⟩
def Md.lstC (I:PIv K H0 G1 ρ σ H1) (h:Md K H0 H G1 H1 v (.lst ws) .C):∃a vs,v=.ref a/\H1 a=some (.lst vs)/\Reps K G1 vs ws:=by
 rcases h with h|⟨a,vs,us,e,e2,h1,r⟩
 .obtain ⟨a,vs,e,s,r⟩:=h.inv;show ⟨a,vs,e,I.gh _ _ s,r⟩
 .rw[W.lst.inj e2];show ⟨a,vs,e,h1,r⟩
def Md.tupB (I:PIv K H0 G1 ρ σ H1) (h:Md K H0 H G1 H1 v (.tup ws) .B):∃a vs,v=.ref a/\H1 a=some (.tup vs)/\Reps K (join H0 G1) vs ws:=by
 obtain ⟨a,vs,e,s,r⟩:=(h.repB λ_=>W.noConfusion).inv;show ⟨a,vs,e,I.join_H _ _ s,r⟩
def Md.tupC (I:PIv K H0 G1 ρ σ H1) (h:Md K H0 H G1 H1 v (.tup ws) .C):∃a vs,v=.ref a/\H1 a=some (.tup vs)/\Reps K G1 vs ws:=by
 obtain ⟨a,vs,e,s,r⟩:=(h.repC λ_=>W.noConfusion).inv;show ⟨a,vs,e,I.gh _ _ s,r⟩
def Md.intB (h:Md K H0 H G1 H1 v (.int i) .B):v=.int i:=(h.repB λ_=>W.noConfusion).inv
def Md.blB (h:Md K H0 H G1 H1 v (.bl i) .B):v=.bl i:=(h.repB λ_=>W.noConfusion).inv
def Md.strB (h:Md K H0 H G1 H1 v (.str i) .B):v=.str i:=(h.repB λ_=>W.noConfusion).inv
def Md.nonB (h:Md K H0 H G1 H1 v .non .B):v=.non:=(h.repB λ_=>W.noConfusion).inv
def Md.tyB (h:Md K H0 H G1 H1 v (.ty n) .B):v=.ty n:=(h.repB λ_=>W.noConfusion).inv
def By (h:tM K EX .V m σ H Q):tM K EX .F m σ H Q:=by
 obtain ⟨H0,G,ρ,I,o⟩:=h;refine ⟨H0,G,ρ,I,?_⟩
 revert o
 cases m ρ with
 |ex e=>show id
 |stuck=>show id
 | ok w=>
  intro o v G' H' e d;cases w with
  | lst ws=>
   obtain ⟨a,vs,rfl,h1,h2,T,r⟩:=d;have s1:Same G' (upd G' a (.lst vs)):=λb o q=>by rw[e9 (f9 q h2)];show q
   refine o _ (upd G' a (.lst vs)) H' ⟨e.gg.trans s1,e.hh,λb o q=>?_,λb o q l g=>?_⟩ (.lst p8 (r.same s1))
   .by_cases O:b=a
    .subst O;rw[p8]at q;cases q;show h1
    .rw[e9 O]at q;show e.gh b o q
   .rw[e9 (f9 q T)];show e.keep b o q l g
  |_=>show o v G' H' e d
def Bv (h:tM K EX .U m σ H Q):tM K EX .V m σ H Q:=by
 obtain ⟨H0,G,ρ,I,o⟩:=h;refine ⟨H0,G,ρ,I,?_⟩
 revert o
 cases m ρ with
 |ex e=>show id
 |stuck=>show id
 |ok w=>show λo v G' H' e d=>o v G' H' e (Rep.same (I.ext e).G_join d)
def Bw (h:tM K EX .C m σ H Q):tM K EX .V m σ H Q:=by
 obtain ⟨H0,G,ρ,I,o⟩:=h;refine ⟨H0,G,ρ,I,?_⟩
 revert o
 cases m ρ with
 |ex e=>show id
 |stuck=>show id
 |ok w=>show λo v G' H' e d=>o v G' H' e (.inl d)
def Bx (h:tM K EX .B m σ H Q):tM K EX .U m σ H Q:=by
 obtain ⟨H0,G,ρ,I,o⟩:=h;refine ⟨H0,G,ρ,I,?_⟩
 revert o
 cases m ρ with
 |ex e=>show id
 |stuck=>show id
 |ok w=>show λo v G' H' e d=>o v G' H' e (.inl d)
def BA (h:tM K EX .B m σ H Q):tM K EX .C m σ H Q:=by
 obtain ⟨H0,G,ρ,I,o⟩:=h;refine ⟨H0,G,ρ,I,?_⟩
 revert o
 cases m ρ with
 |ex e=>show id
 |stuck=>show id
 |ok w=>show λo v G' H' e d=>o v G' H' e (Md.CB (H:=H) (I.ext e) d)
def Bz (h:tM K EX .C m σ H Q):tM K EX .F m σ H Q:=by
 obtain ⟨H0,G,ρ,I,o⟩:=h;refine ⟨H0,G,ρ,I,?_⟩
 revert o
 cases m ρ with
 |ex e=>show id
 |stuck=>show id
 | ok w=>
  intro o v G' H' e d;cases w with
  |lst ws=>obtain ⟨a,vs,rfl,O,h2,T,r⟩:=d;show o _ G' H' e (.inr ⟨a,vs,ws,rfl,rfl,O,r⟩)
  |_=>show o v G' H' e (.inl d)
def chk (w:W):R W:=if noL w then .ok w else .stuck
def qV (n:noL w=true) (r:Rep K G1 v w):Md K H0 H G1 H1 v w .F:=by
 cases w with
 |lst ws=>cases n
 |_=>show r
def mX (hd:d=.F\/d=.V) (h:tM K EX d (λρ=>m ρ>>=chk) σ H Q):tM K EX .U m σ H Q:=by
 obtain ⟨H0,G,ρ,I,o⟩:=h;refine ⟨H0,G,ρ,I,Out.bind o λx G1 H1 w e T O=>?_⟩;unfold chk at O;by_cases n:noL w=true
 .rw [qA2 n]at O
  have r:=Rep.clean (I.ext e) T n;refine O x G1 H1 (Ext.refl e.gh) ?_;rcases hd with rfl|rfl
  .show qV n r
  .show r
 .rw[qA4 n]at O;show O.elim
def ci (O:sca w=true) (r:∀F,Rep K F v w) (h:tM K EX d (λ_=>.ok w) σ H Q):tC v σ H Q:=by
 obtain ⟨H0,G,ρ,I,o⟩:=h;show o v G H (Ext.refl I.gh) (Md.sca O r d)
def b8 (d:Mode) (i:Nat):Rho->R W:=λρ=>match ρ[i]? with
 |some (.val w)=>(match d with | .F=>chk w|_=>.ok w)
 |some (.par w)=>(match d with | .F=>chk w | .V=>chk w | .C=>chk w|_=>.ok w)
 |some (.own ws)=>(match d with | .C=>.ok (.lst ws) | .B=>.ok (.lst ws)|_=>.stuck)
 |some (.iop _ ws)=>(match d with | .B=>.ok (.lst ws) | .U=>.ok (.lst ws)|_=>.stuck)
 |some (.hz w)=>(match d with | .B=>.ok w | .U=>.ok w|_=>.stuck)
 |_=>.stuck
def Out.chk {v:V}{md:W->α->Hp->Hp->Prop}(o:Out EX G H md (chk w) Q):noL w=true/\Out EX G H md (.ok w) Q:=by
 unfold TP.chk at o;by_cases n:noL w=true
 .rw[qA2 n]at o;show ⟨n,o⟩
 .rw[qA4 n]at o;show o.elim
def lr (h:tM K EX d (b8 d i) σ H Q):ah i σ H Q:=by
 obtain ⟨H0,G,ρ,I,o⟩:=h;unfold b8 at o;cases e:ρ[i]? with
 |none=>rw[e]at o;show o.elim
 | some s=>
  rw[e]at o;have hi:i<σ.length:=by rw[<- I.len];show (qA9.mp e).1
  have es:σ[i]?=some σ[i]:=ZV;have r:=I.sl i s _ e es;cases s with
  |un=>show o.elim
  | val w=>
   obtain ⟨v,O,r⟩:=r;refine ⟨v,by rw[es,O],?_⟩;cases d with
   |F=>obtain ⟨n,o⟩:=Out.chk (v:=v) o;show o v G H (Ext.refl I.gh) (qV n r)
   |V=>show o v G H (Ext.refl I.gh) r
   |U=>show o v G H (Ext.refl I.gh) (r.same I.G_join)
   |C=>show o v G H (Ext.refl I.gh) (.inl r)
   |B=>show o v G H (Ext.refl I.gh) (.inl (r.same I.G_join))
  | par w=>
   obtain ⟨v,O,r⟩:=r;refine ⟨v,by rw[es,O],?_⟩;cases d with
   |F=>obtain ⟨n,o⟩:=Out.chk (v:=v) o;show o v G H (Ext.refl I.gh) (qV n (Rep.clean I r n))
   |V=>obtain ⟨n,o⟩:=Out.chk (v:=v) o;show o v G H (Ext.refl I.gh) (Rep.clean I r n)
   |U=>show o v G H (Ext.refl I.gh) r
   |C=>obtain ⟨n,o⟩:=Out.chk (v:=v) o;show o v G H (Ext.refl I.gh) (.inl (Rep.clean I r n))
   |B=>show o v G H (Ext.refl I.gh) (.inl r)
  | own ws=>
   obtain ⟨a,vs,O,ha,hg,h0,r⟩:=r;refine ⟨.ref a,by rw[es,O],?_⟩;cases d with
   |F=>show o.elim
   |V=>show o.elim
   |U=>show o.elim
   |C=>show o _ G H (Ext.refl I.gh) (.inr ⟨a,vs,ws,rfl,rfl,ha,r⟩)
   |B=>show o _ G H (Ext.refl I.gh) (.inr ⟨a,vs,ws,rfl,rfl,ha,r⟩)
  |dic ks=>show o.elim
  |dik ks=>show o.elim
  | hz w=>
   obtain ⟨v,O,r⟩:=r;refine ⟨v,by rw[es,O],?_⟩;have T:=r.same (y9 (H0:=H0) (xI (G:=G)));cases d with
   |F=>show o.elim
   |V=>show o.elim
   |C=>show o.elim
   |U=>show o v G H (Ext.refl I.gh) T
   |B=>show o v G H (Ext.refl I.gh) (.inl T)
  | iop p ws=>
   obtain ⟨O,vs,h0,r⟩:=r;refine ⟨.ref p,by rw[es,O],?_⟩;have T:Rep K (join H0 G) (.ref p) (.lst ws):=by
    refine .lst (vs:=vs) ?_ (r.same I.G_join);unfold join;rw[h0];rfl
   cases d with
   |F=>show o.elim
   |V=>show o.elim
   |U=>show o _ G H (Ext.refl I.gh) T
   |C=>show o.elim
   |B=>show o _ G H (Ext.refl I.gh) (.inl T)
def Op2 (K:Frag) (b d:Mode) (r:R2) (f:W->W->R W):Prop:=∀(EX:EXT) (H0 Hs G H:Hp) (ρ:Rho) (σ:St) (O I:Hp) (x y:V) (u v:W) (Q:VK),PIv K H0 G ρ σ H->Same Hs H->Md K H0 O G H x u b->Md K H0 I G H y v b ->
 Out EX G H (mdW K d H0 Hs) (f u v) Q->r x y H Q
def nY (hr:Op2 K b d r f) (h:tM K EX d (λρ=>ma ρ>>=λx=>mb ρ>>=λy=>f x y) σ H Q):tOp r (tM K EX b ma) (tM K EX b mb) σ H Q:=by
 obtain ⟨H0,G,ρ,I,o⟩:=h;refine ⟨H0,G,ρ,I,Out.bind o λx G1 H1 u O m1 o1=>⟨H0,G1,ρ,I.ext O,Out.bind o1 λy G2 H2 v T m2 o2=>?_⟩⟩;show hr EX H0 H G2 H2 ρ σ H H1 x y u v Q ((I.ext O).ext T) (O.hh.trans T.hh) (m1.move T) m2 o2
def Op1 (K:Frag) (b d:Mode) (r:V->Hp->VK->Prop) (f:W->R W):Prop:=∀(EX:EXT) (H0 Hs G H:Hp) (ρ:Rho) (σ:St) (I:Hp) (x:V) (u:W) (Q:VK),PIv K H0 G ρ σ H->Same Hs H->Md K H0 I G H x u b ->
 Out EX G H (mdW K d H0 Hs) (f u) Q->r x H Q
def c_un (hr:Op1 K b d r f) (h:tM K EX d (λρ=>ma ρ>>=λx=>f x) σ H Q):tUn r (tM K EX b ma) σ H Q:=by
 obtain ⟨H0,G,ρ,I,o⟩:=h;show ⟨H0,G,ρ,I,Out.bind o λx G1 H1 u O T o1=>hr EX H0 H G1 H1 ρ σ H x u Q (I.ext O) O.hh T o1⟩
def fI (C:Int->Int->Prop) [∀i j,Decidable (C i j)] (g:Int->Int->W):W->W->R W
 | .int i,.int j=>if C i j then .ok (g i j) else .stuck
 |_,_=>.stuck
def fI0 (g:Int->Int->W):W->W->R W
 | .int i,.int j=>.ok (g i j)
 |_,_=>.stuck
def o7 [∀i j,Decidable (C i j)](O:∀i j,sca (g i j)=true) (hg:∀i j F,Rep K F (gv i j) (g i j)):Op2 K .B d (rI C gv) (fI C g):=by
 intro EX H0 Hs G H ρ σ Ha Hb x y u v Q I s mx T o;cases u <;> first|show o.elim|skip
 all_goals (cases v <;> first|show o.elim|skip)
 rename_i i j
 have o':Out EX G H (mdW K d H0 Hs) (if C i j then R.ok (g i j) else .stuck) Q:=o;by_cases c:C i j
 .rw [qA2 c]at o'
  show ⟨i,j,mx.intB,T.intB,c,o' _ G H (Ext.refl I.gh) (Md.sca (O i j) (hg i j) d)⟩
 .rw[qA4 c]at o';show o'.elim
def fC (O:∀i j,sca (g i j)=true) (hg:∀i j F,Rep K F (gv i j) (g i j)):Op2 K .B d (rI0 gv) (fI0 g):=by
 intro EX H0 Hs G H ρ σ Ha Hb x y u v Q I s mx T o;cases u <;> first|show o.elim|skip
 all_goals (cases v <;> first|show o.elim|skip)
 rename_i i j
 show ⟨i,j,mx.intB,T.intB,o _ G H (Ext.refl I.gh) (Md.sca (O i j) (hg i j) d)⟩
def fU (g:Int->W):W->R W
 | .int i=>.ok (g i)
 |_=>.stuck
def br (O:∀i,sca (g i)=true) (T:∀i F,Rep K F (gv i) (g i)):Op1 K .B d (rU gv) (fU g):=by
 intro EX H0 Hs G H ρ σ Ha x u Q I s mx o;cases u <;> first|show o.elim|skip
 rename_i i
 show ⟨i,mx.intB,o _ G H (Ext.refl I.gh) (Md.sca (O i) (T i) d)⟩
def isN:W->Bool
 | .non=>true
 |_=>false
def D1 (neg:Bool):W->W->R W
 |u,.non=>.ok (.bl (if neg then !isN u else isN u))
 |_,_=>.stuck
def va (O:b=.B\/b=.U\/b=.V\/b=.C) (h:Md K H0 Hs G1 H1 v w b):decide (v=.non)=isN w:=by
 have I:∀F,Rep K F v w->decide (v=.non)=isN w:=λF r=>by
  cases r <;> first|rfl | (apply qO7;intro z;cases z)
 rcases O with rfl|rfl|rfl|rfl
 .rcases h with h|⟨a,vs,ws,rfl,rfl,_⟩
  .show I _ h
  .apply qO7;intro z;cases z
 .show I _ h
 .show I _ h
 .rcases h with h|⟨a,vs,ws,rfl,rfl,_⟩
  .show I _ h
  .apply qO7;intro z;cases z
def T6:Op2 K .B d (λx y H Q=>y=.non/\Q (.bl (decide (x=.non))) H) (D1 false):=by
 intro EX H0 Hs G H ρ σ Ha Hb x y u v Q I s T O o;cases v <;> first|show o.elim|skip
 refine ⟨O.nonB,?_⟩;rw[va (.inl rfl) T];show o _ G H (Ext.refl I.gh) (Md.sca rfl (λ_=>.bl) d)
def ad:Op2 K .B d (λx y H Q=>y=.non/\Q (.bl (!decide (x=.non))) H) (D1 true):=by
 intro EX H0 Hs G H ρ σ Ha Hb x y u v Q I s T O o;cases v <;> first|show o.elim|skip
 refine ⟨O.nonB,?_⟩;rw[va (.inl rfl) T];show o _ G H (Ext.refl I.gh) (Md.sca rfl (λ_=>.bl) d)
def toB:W->R Bool
 | .bl b=>.ok b
 |_=>.stuck
def nW (h:tT K EX (λρ=>ma ρ>>=toB) σ H Q):qx (tM K EX .B ma) σ H Q:=by
 obtain ⟨H0,G,ρ,I,o⟩:=h;refine ⟨H0,G,ρ,I,Out.bind o λx G1 H1 u T m1 O=>?_⟩;cases u <;> first|show O.elim|skip
 rename_i b
 show ⟨b,m1.blB,O b G1 H1 (Ext.refl T.gh) rfl⟩
def c_tB (h:tT K EX (λρ=>ma ρ>>=toB) σ H Q):tB (tM K EX .B ma) σ H Q:=nW h
def jg (a b:R Bool):R Bool:=a>>=λc=>if c then b else .ok false
def rOr (a b:R Bool):R Bool:=a>>=λc=>if c then .ok true else b
def qI (a:R Bool):R Bool:=a>>=λc=>.ok (!c)
def JK (h:tT K EX (λρ=>jg (ma ρ) (mb ρ)) σ H Q):DK (tT K EX ma) (tT K EX mb) σ H Q:=by
 obtain ⟨H0,G,ρ,I,o⟩:=h;refine ⟨H0,G,ρ,I,Out.bind o λx G1 H1 u T m1 O=>?_⟩;cases m1;cases x with
 |true=>show ⟨H0,G1,ρ,I.ext T,O⟩
 |false=>show O false G1 H1 (Ext.refl T.gh) rfl
def c_or (h:tT K EX (λρ=>rOr (ma ρ) (mb ρ)) σ H Q):tOr (tT K EX ma) (tT K EX mb) σ H Q:=by
 obtain ⟨H0,G,ρ,I,o⟩:=h;refine ⟨H0,G,ρ,I,Out.bind o λx G1 H1 u T m1 O=>?_⟩;cases m1;cases x with
 |true=>show O true G1 H1 (Ext.refl T.gh) rfl
 |false=>show ⟨H0,G1,ρ,I.ext T,O⟩
def Jz (h:tT K EX (λρ=>qI (ma ρ)) σ H Q):DE (tT K EX ma) σ H Q:=by
 obtain ⟨H0,G,ρ,I,o⟩:=h;refine ⟨H0,G,ρ,I,Out.bind o λx G1 H1 u T m1 O=>?_⟩;cases m1;show O _ G1 H1 (Ext.refl T.gh) rfl
def fu (a b:R W):R W:=a>>=λx=>toB x>>=λc=>if c then b else .ok (.bl false)
def mf (a b:R W):R W:=a>>=λx=>toB x>>=λc=>if c then .ok (.bl true) else b
def qH (a:R W):R W:=a>>=λx=>toB x>>=λc=>.ok (.bl (!c))
def Ib (h:tM K EX d (λρ=>fu (ma ρ) (mb ρ)) σ H Q):zj (tM K EX .B ma) (tM K EX d mb) σ H Q:=by
 obtain ⟨H0,G,ρ,I,o⟩:=h;refine ⟨H0,G,ρ,I,Out.bind o λx G1 H1 u O m1 T=>?_⟩;cases u <;> first|show T.elim|skip
 rename_i b
 refine ⟨b,m1.blB,?_⟩;cases b with
 | true=>
  rw[qA2 rfl];refine ⟨H0,G1,ρ,I.ext O,?_⟩;have o2:Out EX G1 H1 (mdW K d H0 H) (mb ρ) Q:=T
  revert o2
  cases mb ρ with
  |ok w=>show λo2 v G2 H2 e2 m2=>o2 v G2 H2 e2 (m2.start O.hh)
  |ex _=>show id
  |stuck=>show id
 | false=>
  rw[qA4 qB0];show T _ G1 H1 (Ext.refl O.gh) (Md.sca rfl (λ_=>.bl) d)
def Out.restart {Q:VK}(s:Same H H1) (o:Out EX G1 H1 (mdW K d H0 H) r Q):Out EX G1 H1 (mdW K d H0 H1) r Q:=by
 revert o
 cases r with
 |ok w=>show λo v G2 H2 O I=>o v G2 H2 O (I.start s)
 |ex _=>show id
 |stuck=>show id
def c_if (h:tM K EX d (λρ=>mc ρ>>=λc=>if c then ma ρ else mb ρ) σ H Q):tIf (tT K EX mc) (tM K EX d ma) (tM K EX d mb) σ H Q:=by
 obtain ⟨H0,G,ρ,I,o⟩:=h;refine ⟨H0,G,ρ,I,Out.bind o λx G1 H1 u O m1 T=>?_⟩;cases m1;cases x with
 |true=>show ⟨H0,G1,ρ,I.ext O,Out.restart O.hh T⟩
 |false=>show ⟨H0,G1,ρ,I.ext O,Out.restart O.hh T⟩
def CM (hr:Op2 K b .B r f) (a0:Op2 K b d r' f') (h:tM K EX d (λρ=>ma ρ>>=λx=>mb ρ>>=λy=>f x y>>=λz=>toB z>>=λc=>if c then mc ρ>>=λu=>f' y u else .ok (.bl false)) σ H Q):
  (λσ H Q=>tM K EX b ma σ H λx H1=>tM K EX b mb σ H1 λy H2=>r x y H2 λz T=>∃k,z=.bl k/\if k=true then tM K EX b mc σ T λu H4=>r' y u H4 Q else Q (.bl false) T) σ H Q:=by
 obtain ⟨H0,G,ρ,I,o⟩:=h;refine ⟨H0,G,ρ,I,Out.bind o λx G1 H1 u e1 m1 o1=>⟨H0,G1,ρ,I.ext e1,Out.bind o1 λy G2 H2 v e2 m2 o2=>?_⟩⟩;have I2:=(I.ext e1).ext e2;refine hr EX H0 H G2 H2 ρ σ H H1 x y u v _ I2 (e1.hh.trans e2.hh) (m1.move e2) m2 (Out.bind o2 λz G3 T wz O m3 o3=>?_);cases wz <;> first|show o3.elim|skip
 rename_i k
 refine ⟨k,m3.blB,?_⟩;cases k with
 | true=>
  rw[qA2 rfl];refine ⟨H0,G3,ρ,I2.ext O,Out.bind (k:=λu=>f' v u) o3 λt G4 H4 wt e4 m4 o4=>?_⟩;show a0 EX H0 H G4 H4 ρ σ H1 T y t v wt Q ((I2.ext O).ext e4) (((e1.hh.trans e2.hh).trans O.hh).trans e4.hh) ((m2.move O).move e4) m4 o4
 | false=>
  rw[qA4 qB0];show o3 _ G3 T (Ext.refl O.gh) (Md.sca rfl (λ_=>.bl) d)
def JA (h:tA K EX d (λ_=>.ok []) σ H QA):tNil σ H QA:=by
 obtain ⟨H0,G,ρ,I,o⟩:=h;show o [] G H (Ext.refl I.gh) .nil
def HY (h:tA K EX d (λρ=>ma ρ>>=λx=>mr ρ>>=λxs=>.ok (x::xs)) σ H QA):cB (tM K EX d ma) (tA K EX d mr) σ H QA:=by
 obtain ⟨H0,G,ρ,I,o⟩:=h;refine ⟨H0,G,ρ,I,Out.bind o λx G1 H1 u O m1 o1=>⟨H0,G1,ρ,I.ext O,Out.bind o1 λxs G2 H2 us T m2 o2=>?_⟩⟩;refine o2 (x::xs) G2 H2 (Ext.refl T.gh) (.cons (m1.move T) ?_);have go:∀{ws:Zk}{vs:List V},MdA K d H0 H1 G2 H2 ws vs->MdA K d H0 H G2 H2 ws vs:=λ{ws vs} q=>by
  induction q with
  |nil=>show .nil
  |cons a _ ih=>show .cons (a.start O.hh) ih
 show go m2
def MdA.reps (h:MdA K .V H0 H G1 H1 ws vs):Reps K G1 vs ws:=
 @MdA.rec K .V H0 H G1 H1 (λws vs _=>Reps K G1 vs ws) .nil (λh _ b=>.cons h b) ws vs h
def MdA.repsU (h:MdA K .U H0 H G1 H1 ws vs):Reps K (join H0 G1) vs ws:=
 @MdA.rec K .U H0 H G1 H1 (λws vs _=>Reps K (join H0 G1) vs ws) .nil (λh _ b=>.cons h b) ws vs h
def Br (O:Same G H) (I:H p=none):Ext G H G (upd H p o):=
 ⟨Same.refl G,λb u q=>by rw[e9 (f9 q I)];show q,λb u q=>by rw[e9 (f9 (O b u q) I)];show O b u q,λ_ _ _ _ e=>e⟩
def gC (T:Same G H) (I:H p=none):Ext G H (upd G p o) (upd H p o):=by
 have gp:G p=none:=T.free I;refine ⟨λb u q=>by rw[e9 (f9 q gp)];show q,λb u q=>by rw[e9 (f9 q I)];show q,λb u q=>?_,λb u q l g=>?_⟩
 .by_cases O:b=p
  .subst O;rw[p8]at q ⊢;show q
  .rw[e9 O]at q ⊢;show T b u q
 .rw[e9 (f9 q I)];show g
def Out.newL {Q:VK}(I:PIv K H0 G ρ σ H) (s:Same Hs H) (r:Reps K G vs ws) (O:H p=none) (o:Out EX G H (mdW K .F H0 Hs) (.ok (.lst ws)) Q):Q (.ref p) (upd H p (.lst vs)):=
 o _ G _ (Br I.gh O) ⟨p,vs,rfl,p8,I.gh.free O,s.free O,r⟩
def Out.newTF {Q:VK}(I:PIv K H0 G ρ σ H) (r:Reps K G vs ws) (O:H p=none) (o:Out EX G H (mdW K .F H0 Hs) (.ok (.tup ws)) Q):Q (.ref p) (upd H p (.tup vs)):=
 o _ (upd G p (.tup vs)) _ (gC I.gh O) (.tup p8 (r.same λb u q=>by rw[e9 (f9 q (I.gh.free O))];show q))
def lim (n:Nat)(w:W):R W:=if n<=1000 then .ok w else .stuck
def Out.lim {md:W->α->Hp->Hp->Prop}(o:Out EX G H md (lim n w) Q):n<=1000/\Out EX G H md (.ok w) Q:=by
 unfold TP.lim at o;by_cases n:n<=1000
 .rw[qA2 n]at o;show ⟨n,o⟩
 .rw[qA4 n]at o;show o.elim
def V0 (h:n<=1000):n<=sizeLine:=qC1 h ZY
def Jt (h:tM K EX .F (λρ=>ma ρ>>=λws=>lim ws.length (.tup ws)) σ H Q):wC (tA K EX .V ma) σ H Q:=by
 obtain ⟨H0,G,ρ,I,o⟩:=h;refine ⟨H0,G,ρ,I,Out.bind o λxs G1 H1 ws e1 m1 T=>?_⟩;obtain ⟨O,o2⟩:=Out.lim T;have r:=MdA.reps m1;show ⟨by rw[r.length];show V0 O,λp hp=>Out.newTF (I.ext e1) r hp o2⟩
def JB (h:tM K EX .F (λρ=>ma ρ>>=λws=>lim ws.length (.lst ws)) σ H Q):DF (tA K EX .V ma) σ H Q:=by
 obtain ⟨H0,G,ρ,I,o⟩:=h;refine ⟨H0,G,ρ,I,Out.bind o λxs G1 H1 ws O m1 o1=>?_⟩;obtain ⟨T,o2⟩:=Out.lim o1;have r:=MdA.reps m1;show ⟨by rw[r.length];show V0 T,λp hp=>Out.newL (I.ext O) O.hh r hp o2⟩
def nA (h:H0 p=none):join H0 (upd G p o)=upd (join H0 G) p o:=by
 funext b
 by_cases I:b=p
 .subst I;unfold join;rw[h];dsimp only;rw[p8,p8]
 .rw [e9 I];unfold join;cases H0 b with
  |none=>dsimp only;rw[e9 I]
  |some u=>dsimp only;rw[e9 I]
def HM (h:tM K EX .U (λρ=>ma ρ>>=λws=>lim ws.length (.tup ws)) σ H Q):wC (tA K EX .U ma) σ H Q:=by
 obtain ⟨H0,G,ρ,I,o⟩:=h;refine ⟨H0,G,ρ,I,Out.bind o λxs G1 H1 ws e1 m1 o1=>?_⟩;obtain ⟨hl,o2⟩:=Out.lim o1;have r:=MdA.repsU m1;have T:=I.ext e1;refine ⟨by rw[r.length];show V0 hl,λp O=>o2 _ (upd G1 p (.tup xs)) _ (gC T.gh O) ?_⟩
 change Rep K (join H0 (upd G1 p (.tup xs))) _ _;rw[nA (T.hh.free O)];show .tup p8 (r.same λb u q=>by rw[e9 (f9 (T.join_H b u q) O)];show q)
inductive Fl where
 |nx (ρ:Rho)|rt (w:W)|bk (ρ:Rho)|ct (ρ:Rho)
abbrev Zg:=W->Rho->Option Rho
abbrev Zo:=Rho->R Bool
abbrev Zp:=Rho->R Zk
abbrev Zy:=Rho->R Fl
abbrev Zx:=Rho->R W
def OutS (K:Frag) (EX:EXT) (d:Mode) (H0 G:Hp) (r:R Fl) (D:Ends):Prop:=match r with
 | .ok (.nx ρ)=>∀G' I H',Same G G'->PIv K H0 G' ρ I H'->D.nx I H'
 | .ok (.bk ρ)=>∀G' I H',Same G G'->PIv K H0 G' ρ I H'->D.bk I H'
 | .ok (.ct ρ)=>∀G' I H',Same G G'->PIv K H0 G' ρ I H'->D.ct I H'
 | .ok (.rt w)=>∀v G' H',Same G G'->Same G' H'->Same H0 H'->(∀a o,H0 a=some o->isL o=true->G' a=none)->Md K H0 H0 G' H' v w d->D.rt v H'
 | .ex e=>∀H',Same H0 H'->EX e H'
 | .stuck=>False
def tSt (K:Frag)(EX:EXT)(d:Mode)(m:Zy):TS:=λD σ H=>∃H0 G ρ,PIv K H0 G ρ σ H/\OutS K EX d H0 G (m ρ) D
def OutS.move (s:Same G G1) (o:OutS K EX d H0 G r D):OutS K EX d H0 G1 r D:=by
 cases r with
 |stuck=>show o
 |ex e=>show o
 | ok f=>
  cases f with
  |nx T=>show λG' I H' s' O=>o G' I H' (s.trans s') O
  |bk T=>show λG' I H' s' O=>o G' I H' (s.trans s') O
  |ct T=>show λG' I H' s' O=>o G' I H' (s.trans s') O
  |rt w=>show λv G' H' s0 s1 s2 c md=>o v G' H' (s.trans s0) s1 s2 c md
def OutS.bind {md:α->β->Hp->Hp->Prop}(I:PIv K H0 G ρ σ H) (o:OutS K EX d H0 G (m>>=k) D) (h:∀x G1 H1 w,Ext G H G1 H1->md w x G1 H1->OutS K EX d H0 G1 (k w) D->Q1 x H1):Out EX G H md m Q1:=by
 cases m with
 |ok w=>show λv G' H' e q=>h v G' H' w e q (OutS.move e.gg o)
 |ex e=>show λH' s=>o H' (I.hh.trans s)
 |stuck=>show o
def d9 (m n:Zy):Zy:=λρ=>m ρ>>=λf=>match f with
 | .nx I=>n I
 | .rt w=>.ok (.rt w)
 | .bk I=>.ok (.bk I)
 | .ct I=>.ok (.ct I)
def HV (h:tSt K EX d (λρ=>.ok (.nx ρ)) D σ H):tNext D σ H:=by
 obtain ⟨H0,G,ρ,I,o⟩:=h;show o G σ H (Same.refl G) I
def Jw (h:tSt K EX d (d9 m n) D σ H):wD (tSt K EX d m) (tSt K EX d n) D σ H:=by
 obtain ⟨H0,G,ρ,I,o⟩:=h;refine ⟨H0,G,ρ,I,?_⟩;unfold d9 at o
 revert o
 cases m ρ with
 |stuck=>show id
 |ex e=>show id
 | ok f=>
  cases f with
  |nx O=>show λo G' a0 H' s' T=>⟨H0,G',O,T,OutS.move s' o⟩
  |_=>show id
def CK (h:tSt K EX d (λ_=>.stuck) D σ H):tNever D σ H:=by
 obtain ⟨H0,G,ρ,I,o⟩:=h;show o
def zP (h:tSt K EX d (λρ=>m ρ>>=λw=>.ok (.rt w)) D σ H):qy (tM K EX d m) D σ H:=by
 obtain ⟨H0,G,ρ,I,o⟩:=h;refine ⟨H0,G,ρ,I,OutS.bind I o λx G1 H1 w T m1 o1=>?_⟩;have O:=I.ext T;show o1 x G1 H1 (Same.refl _) T.gh O.hh O.gl (m1.start I.hh)
def x3 (d:Mode) (i:Nat):Zy:=λρ=>match ρ[i]? with
 |some (.own ws)=>.ok (.rt (.lst ws))
 |_=>b8 d i ρ>>=λw=>.ok (.rt w)
def yT (hd:d=.F\/d=.V) (h:tSt K EX d (x3 d i) D σ H):qy (ah i) D σ H:=by
 obtain ⟨H0,G,ρ,I,o⟩:=h;unfold x3 at o;by_cases O:∃ws,ρ[i]?=some (.own ws)
 .obtain ⟨ws,e⟩:=O;rw[e]at o;have hi:i<σ.length:=by rw[<- I.len];show (qA9.mp e).1
  have es:σ[i]?=some σ[i]:=ZV;obtain ⟨a,vs,ev,ha,hg,h0,r⟩:=I.sl i _ _ e es;refine ⟨.ref a,by rw[es,ev],?_⟩;rcases hd with rfl|rfl
  .show o _ G H (Same.refl _) I.gh I.hh I.gl ⟨a,vs,rfl,ha,hg,h0,r⟩
  .have s1:Same G (upd G a (.lst vs)):=λb o q=>by rw[e9 (f9 q hg)];show q
   refine o _ (upd G a (.lst vs)) H s1 (λb o q=>?_) I.hh (λb u q l=>?_) (.lst p8 (r.same s1))
   .by_cases T:b=a
    .subst T;rw[p8]at q;cases q;show ha
    .rw[e9 T]at q;show I.gh b o q
   .rw[e9 (f9 q h0)];show I.gl b u q l
 .have o':OutS K EX d H0 G (b8 d i ρ>>=λw=>.ok (.rt w)) D:=by
   revert o
   split
   .rename_i ws e;show absurd ⟨ws,e⟩ O
   .show id
  have c:qy (tM K EX d (b8 d i)) D σ H:=zP (m:=b8 d i) ⟨H0,G,ρ,I,o'⟩;show lr c
def PIv.setV (I:PIv K H0 G ρ σ H) (r:Rep K G v w):PIv K H0 G (ρ.set i (.val w)) (σ.set i (some v)) H where
 g0:=I.g0
 gl:=I.gl
 gh:=I.gh
 hh:=I.hh
 len:=by rw[qF2,qF2];show I.len
 sl j x o h1 h2:=by
  by_cases O:i=j
  .subst O;rw[qE9]at h1 h2;simp only [qP0]at h1 h2
   split at h1 <;> split at h2 <;> simp only [qI5,reduceCtorEq]at h1 h2
   subst h1;subst h2;show ⟨v,rfl,r⟩
  .rw[qB9 O]at h1 h2;show I.sl j x o h1 h2
 ne a b ws us c hab h1 h2 h3 h4:=by
  have T:i≠a:=by
   rintro rfl;rw[qE9]at h1;simp only [qP0]at h1
   split at h1 <;> simp at h1
  have nb:i≠b:=by
   rintro rfl;rw[qE9]at h2;simp only [qP0]at h2
   split at h2 <;> simp at h2
  rw[qB9 T]at h1 h3;rw[qB9 nb]at h2 h4;show I.ne a b ws us c hab h1 h2 h3 h4
def PIv.setU (I:PIv K H0 G ρ σ H) (r:Rep K (join H0 G) v w):PIv K H0 G (ρ.set i (.par w)) (σ.set i (some v)) H where
 g0:=I.g0
 gl:=I.gl
 gh:=I.gh
 hh:=I.hh
 len:=by rw[qF2,qF2];show I.len
 sl j x o h1 h2:=by
  by_cases O:i=j
  .subst O;rw[qE9]at h1 h2;simp only [qP0]at h1 h2
   split at h1 <;> split at h2 <;> simp only [qI5,reduceCtorEq]at h1 h2
   subst h1;subst h2;show ⟨v,rfl,r⟩
  .rw[qB9 O]at h1 h2;show I.sl j x o h1 h2
 ne a b ws us c hab h1 h2 h3 h4:=by
  have T:i≠a:=by
   rintro rfl;rw[qE9]at h1;simp only [qP0]at h1
   split at h1 <;> simp at h1
  have nb:i≠b:=by
   rintro rfl;rw[qE9]at h2;simp only [qP0]at h2
   split at h2 <;> simp at h2
  rw[qB9 T]at h1 h3;rw[qB9 nb]at h2 h4;show I.ne a b ws us c hab h1 h2 h3 h4
def PIv.setO (I:PIv K H0 G ρ σ H) (ha:H a=some (.lst vs)) (hg:G a=none) (h0:H0 a=none) (r:Reps K G vs ws) (nw:∀(j:Nat) (us:Zk),ρ[j]?=some (Sl.own us)->σ[j]?≠some (some (V.ref a))):PIv K H0 G (ρ.set i (.own ws)) (σ.set i (some (.ref a))) H where
 g0:=I.g0
 gl:=I.gl
 gh:=I.gh
 hh:=I.hh
 len:=by rw[qF2,qF2];show I.len
 sl j x o h1 h2:=by
  by_cases T:i=j
  .subst T;rw[qE9]at h1 h2;simp only [qP0]at h1 h2
   split at h1 <;> split at h2 <;> simp only [qI5,reduceCtorEq]at h1 h2
   subst h1;subst h2;show ⟨a,vs,rfl,ha,hg,h0,r⟩
  .rw[qB9 T]at h1 h2;show I.sl j x o h1 h2
 ne p q ws' us c hab h1 h2 h3 h4:=by
  by_cases hp:i=p
  .subst hp;rw[qB9 hab]at h2 h4;rw[qE9]at h3;simp only [qP0]at h3
   split at h3 <;> simp only [qI5,reduceCtorEq,V.ref.injEq]at h3
   subst h3;show nw q us h2 h4
  .rw [qB9 hp]at h1 h3
   by_cases O:i=q
   .subst O;rw[qE9]at h4;simp only [qP0]at h4
    split at h4 <;> simp only [qI5,reduceCtorEq,V.ref.injEq]at h4
    subst h4;show nw p ws' h1 h3
   .rw [qB9 O]at h2 h4
    show I.ne p q ws' us c hab h1 h2 h3 h4
def R9:W->Sl
 | .lst ws=>.own ws
 |w=>.val w
def HN (h:tSt K EX d (λρ=>m ρ>>=λw=>.ok (.nx (ρ.set i (.val w)))) D σ H):cD (tM K EX .V m) (P8 i) D σ H:=by
 obtain ⟨H0,G,ρ,I,o⟩:=h;show ⟨H0,G,ρ,I,OutS.bind I o λx G1 H1 w T m1 O=>O G1 _ H1 (Same.refl _) ((I.ext T).setV m1)⟩
def HP (h:tSt K EX d (λρ=>m ρ>>=λw=>.ok (.nx (ρ.set i (.par w)))) D σ H):cD (tM K EX .U m) (P8 i) D σ H:=by
 obtain ⟨H0,G,ρ,I,o⟩:=h;show ⟨H0,G,ρ,I,OutS.bind I o λx G1 H1 w T m1 O=>O G1 _ H1 (Same.refl _) ((I.ext T).setU m1)⟩
def nX (h:tSt K EX d (λρ=>m ρ>>=λw=>.ok (.nx (ρ.set i (R9 w)))) D σ H):cD (tM K EX .F m) (P8 i) D σ H:=by
 obtain ⟨H0,G,ρ,I,o⟩:=h;refine ⟨H0,G,ρ,I,OutS.bind I o λx G1 H1 w e1 m1 T=>?_⟩;have O:=I.ext e1;cases w with
 | lst ws=>
  obtain ⟨a,vs,rfl,h1,h2,h3,r⟩:=m1;refine T G1 _ H1 (Same.refl _) (O.setO h1 h2 (I.hh.free h3) r λj us q z=>?_);obtain ⟨b,a0,eb,hb,_⟩:=I.sl j _ _ q z;cases eb;rw[h3]at hb;cases hb
 |non=>show T G1 _ H1 (Same.refl _) (O.setV m1)
 |bl _=>show T G1 _ H1 (Same.refl _) (O.setV m1)
 |int _=>show T G1 _ H1 (Same.refl _) (O.setV m1)
 |str _=>show T G1 _ H1 (Same.refl _) (O.setV m1)
 |ty _=>show T G1 _ H1 (Same.refl _) (O.setV m1)
 |tup _=>show T G1 _ H1 (Same.refl _) (O.setV m1)
 |scr _=>show T G1 _ H1 (Same.refl _) (O.setV m1)
 |exc _ _=>show T G1 _ H1 (Same.refl _) (O.setV m1)
 |cls _=>show T G1 _ H1 (Same.refl _) (O.setV m1)
instance:DecidableEq Mode:=λa b=>by cases a <;> cases b <;> first|show isTrue rfl|show isFalse (by intro h;cases h)
def Gt (K:Frag) (e:Mode) (g:TG) (mg:Zg):Prop:=∀(H0 Hs G:Hp) (ρ:Rho) (σ:St) (H:Hp) (v:V) (w:W) (I:Rho) (Q:St->Hp->Prop),PIv K H0 G ρ σ H->Md K H0 Hs G H v w e->mg w ρ=some I ->
 (∀O,PIv K H0 G I O H->Q O H)->g v σ H Q
def Gts (K:Frag) (e:Mode) (g:TGs) (mg:List W->Rho->Option Rho):Prop:=∀(H0 G:Hp) (ρ:Rho) (σ:St) (H:Hp) (vs:List V) (ws:Zk) (I:Rho) (Q:St->Hp->Prop),PIv K H0 G ρ σ H->Reps K (if e=.V then G else join H0 G) vs ws->mg ws ρ=some I ->
 (∀O,PIv K H0 G I O H->Q O H)->g vs σ H Q
def gN (e:Mode)(i:Nat):Zg:=λw ρ=>some (ρ.set i (if e=.V then .val w else .par w))
def i5:Gt K .U (P8 i) (gN .U i):=λH0 Hs G ρ σ H v w O Q I m e h=>by
 cases e;show h _ (I.setU m)
def gsNil:List W->Rho->Option Rho
 | [],ρ=>some ρ
 |_,_=>none
def o5 (f:Zg) (g:List W->Rho->Option Rho):List W->Rho->Option Rho
 |w::ws,ρ=>(f w ρ).bind (g ws)
 | [],_=>none
def B5:Gts K e gNil gsNil:=λH0 G ρ σ H vs ws O Q I r e h=>by
 cases r with
 |nil=>cases e;show ⟨rfl,h _ I⟩
 |cons _ _=>cases e
def k9 (he:e=.V\/e=.U) (h1:Gt K e t f) (h2:Gts K e u g):Gts K e (rE t u) (o5 f g):=λH0 G ρ σ H vs ws T Q I r q h=>by
 cases r with
 |nil=>cases q
 | cons a b=>
  unfold o5 at q;obtain ⟨O,q1,q2⟩:=Option.bind_eq_some_iff.mp q;refine ⟨_,_,rfl,h1 H0 H G ρ σ H _ _ O _ I ?_ q1 λa0 I1=>h2 H0 G O a0 H _ _ T Q I1 b q2 h⟩;rcases he with rfl|rfl
  .show a
  .show a
def gT (n:Nat) (g:List W->Rho->Option Rho):W->Rho->Option Rho
 | .tup ws,ρ=>if ws.length=n then g ws ρ else none
 |_,_=>none
def F5 (he:e=.V\/e=.U) (h:Gts K e u g):Gt K e (rC K n u) (gT n g):=λH0 Hs G ρ σ H v w O Q I m q k=>by
 cases w <;> first|cases q|skip
 rename_i ws
 have T:(if ws.length=n then g ws ρ else none)=some O:=q;by_cases hn:ws.length=n
 .rw [qA2 hn]at T
  rcases he with rfl|rfl
  .obtain ⟨a,vs,e,s,r⟩:=Rep.inv m;show ⟨a,vs,e,SqT.of (I.gh _ _ s),by rw[r.length];show hn,h H0 G ρ σ H _ ws O Q I (by rw[qA2 rfl];show r) T k⟩
  .obtain ⟨a,vs,e,s,r⟩:=Rep.inv m;show ⟨a,vs,e,SqT.of (I.join_H _ _ s),by rw[r.length];show hn,h H0 G ρ σ H _ ws O Q I (by rw[qA4 (by intro z;cases z)];show r) T k⟩
 .rw[qA4 hn]at T;cases T
def toR {α:Type}:Option α->R α
 |some a=>.ok a
 |none=>.stuck
def JI (hg:Gt K e g mg) (h:tSt K EX d (λρ=>m ρ>>=λw=>toR (mg w ρ)>>=λO=>.ok (.nx O)) D σ H):cD (tM K EX e m) g D σ H:=by
 obtain ⟨H0,G,ρ,I,o⟩:=h;refine ⟨H0,G,ρ,I,OutS.bind I o λx G1 H1 w e1 m1 T=>?_⟩;cases q:mg w ρ with
 |none=>rw[q]at T;show T.elim
 | some O=>
  rw[q]at T;show hg H0 H G1 ρ σ H1 x w O _ (I.ext e1) m1 q λa0 I'=>T G1 a0 H1 (Same.refl _) I'
def PIv.own_upd (I:PIv K H0 G ρ σ H) (e:ρ[i]?=some (.own ws)) (es:σ[i]?=some (some (.ref a))) (r:Reps K G vs' ws'):PIv K H0 G (ρ.set i (.own ws')) σ (upd H a (.lst vs')):=by
 obtain ⟨a',vs,ev,ha,hg,h0,_⟩:=I.sl i _ _ e es;cases ev;refine ⟨I.g0,I.gl,λb o q=>by rw[e9 (f9 q hg)];show I.gh b o q,λb o q=>by rw[e9 (f9 q h0)];show I.hh b o q,by rw[qF2];show I.len,λj x o h1 h2=>?_,λp q a7 us c a6 h1 h2 h3 h4=>?_⟩
 .by_cases hj:i=j
  .subst hj;rw[qE9]at h1;simp only [qP0]at h1
   split at h1 <;> simp only [qI5,reduceCtorEq]at h1
   subst h1;rw[es]at h2;cases h2;show ⟨a,vs',rfl,p8,hg,h0,r⟩
  .rw [qB9 hj]at h1
   have:=I.sl j x o h1 h2
   cases x with
   | own us=>
    obtain ⟨b,O,eb,hb,T,a0,rb⟩:=this;subst eb;have a3:b≠a:=by
     rintro rfl;show I.ne i j ws us b hj e h1 es h2
    show ⟨b,O,rfl,by rw[e9 a3];show hb,T,a0,rb⟩
   | dic ks=>
    obtain ⟨b,O,eb,hb,T,a0,rb⟩:=this;have a3:b≠a:=by
     rintro rfl;rw[ha]at hb;cases hb
    show ⟨b,O,eb,by rw[e9 a3];show hb,T,a0,rb⟩
   | dik ks=>
    obtain ⟨b,O,eb,hb,T,a0,rb⟩:=this;have a3:b≠a:=by
     rintro rfl;rw[ha]at hb;cases hb
    show ⟨b,O,eb,by rw[e9 a3];show hb,T,a0,rb⟩
   |un=>show this
   |val _=>show this
   |par _=>show this
   |iop _ _=>show this
   |hz _=>show this
 .have a5:∀{k:Nat}{us:Zk},(ρ.set i (.own ws'))[k]?=some (.own us)->∃O,ρ[k]?=some (.own O):=λ{k us} hk=>by
   by_cases a4:i=k
   .subst a4;show ⟨ws,e⟩
   .rw[qB9 a4]at hk;show ⟨us,hk⟩
  obtain ⟨w1,k1⟩:=a5 h1;obtain ⟨w2,k2⟩:=a5 h2;show I.ne p q w1 w2 c a6 k1 k2 h3 h4
def PIv.own_at {i:Nat}(I:PIv K H0 G ρ σ H) (e:ρ[i]?=some (.own ws)):∃a vs,σ[i]?=some (some (.ref a))/\H a=some (.lst vs)/\G a=none/\H0 a=none/\Reps K G vs ws:=by
 have hi:i<σ.length:=by rw[<- I.len];show (qA9.mp e).1
 have es:σ[i]?=some σ[i]:=ZV;obtain ⟨a,vs,O,r⟩:=I.sl i _ _ e es;show ⟨a,vs,by rw[es,O],r⟩
def T8 (i:Nat) (m:Zx):Zy:=λρ=>match ρ[i]? with
 |some (.own ws)=>m ρ>>=λw=>if ws.length<1000 then .ok (.nx (ρ.set i (.own (ws ++ [w])))) else .stuck
 |_=>.stuck
def JJ (h:tSt K EX d (T8 i m) D σ H):gY (wF (ah i) (tM K EX .V m)) D σ H:=by
 obtain ⟨H0,G,ρ,I,o⟩:=h;unfold T8 at o
 split at o
 .rename_i ws e
  obtain ⟨a,vs,es,ha,hg,h0,r⟩:=I.own_at e;refine ⟨.ref a,es,a,rfl,⟨vs,ha⟩,H0,G,ρ,I,OutS.bind I o λx G1 H1 w T m1 O=>?_⟩;by_cases hl:ws.length<1000
  .rw [qA2 hl]at O
   have h1:=T.hh a _ ha;dsimp only;rw[h1];dsimp only;have hlen:vs.length=ws.length:=r.length;show ⟨qB6 (by omega:vs.length<1000) ZY,O G1 σ _ (Same.refl _) ((I.ext T).own_upd e es ((r.same T.gg).snoc m1))⟩
  .rw[qA4 hl]at O;show O.elim
 .show o.elim
def cR (i:Nat) (I me:Zx):Zy:=λρ=>match ρ[i]? with
 | some (.own ws)=>me ρ>>=λw=>I ρ>>=λk=>(match k with
  | .int k=>(match ixN ws.length k with
   |some j=>.ok (.nx (ρ.set i (.own (ws.set j w))))
   |none=>.stuck)
  |_=>.stuck)
 |_=>.stuck
def Jv (h:tSt K EX d (cR i mk me) D σ H):cD (tM K EX .V me) (gSub (ah i) (tM K EX .B mk) rSetL) D σ H:=by
 obtain ⟨H0,G,ρ,I,o⟩:=h;unfold cR at o
 split at o
 .rename_i ws e
  obtain ⟨a,vs,es,ha,hg,h0,r⟩:=I.own_at e;refine ⟨H0,G,ρ,I,OutS.bind I o λx G1 H1 w T m1 o1=>⟨.ref a,es,H0,G1,ρ,I.ext T,OutS.bind (I.ext T) o1 λy G2 H2 k e2 m2 O=>?_⟩⟩;cases k <;> first|show O.elim|skip
  rename_i k
  dsimp only at O;cases q:ixN ws.length k with
  |none=>rw[q]at O;show O.elim
  | some j=>
   rw[q]at O;refine ⟨a,vs,k,j,rfl,m2.intB,e2.hh _ _ (T.hh _ _ ha),by rw[r.length];show q,?_⟩;show O G2 σ _ (Same.refl _) (((I.ext T).ext e2).own_upd e es (Reps.set (Rep.same e2.gg m1) j ((r.same T.gg).same e2.gg)))
 .show o.elim
def nt (i:Nat) (f:Int->Int->Int) (m:Zx):Zy:=λρ=>b8 .B i ρ>>=λx=>m ρ>>=λy=>match x,y with
 | .int a,.int b=>.ok (.nx (ρ.set i (.val (.int (f a b)))))
 |_,_=>.stuck
def JH (h:tSt K EX d (nt i f m) D σ H):DJ i (tM K EX .B m) (ipI f) D σ H:=by
 obtain ⟨H0,G,ρ,I,o⟩:=h;unfold nt at o;have c:tM K EX .B (b8 .B i) σ H (λx H1=>∃G1 w,Ext G H G1 H1/\Md K H0 H G1 H1 x w .B/\OutS K EX d H0 G1 (m ρ>>=λy=>match w,y with
   | .int a,.int b=>.ok (.nx (ρ.set i (.val (.int (f a b)))))
   |_,_=>.stuck) D):=⟨H0,G,ρ,I,OutS.bind I o λx G1 H1 w O m1 o1=>⟨G1,w,O,m1,o1⟩⟩
 obtain ⟨v,es,G1,w,O,m1,o1⟩:=lr c;have T:=I.ext O;refine ⟨v,es,H0,G1,ρ,T,OutS.bind T o1 λy G2 H2 u e2 m2 o2=>?_⟩;cases w <;> first|show o2.elim|skip
 cases u <;> first|show o2.elim|skip
 rename_i a b
 show ⟨a,b,m1.intB,m2.intB,o2 G2 _ H2 (Same.refl _) ((T.ext e2).setV .int)⟩
def mIf (c:Zo)(m n:Zy):Zy:=λρ=>c ρ>>=λb=>if b then m ρ else n ρ
def JC (h:tSt K EX d (mIf c m n) D σ H):wE (tT K EX c) (tSt K EX d m) (tSt K EX d n) D σ H:=by
 obtain ⟨H0,G,ρ,I,o⟩:=h;refine ⟨H0,G,ρ,I,OutS.bind I o λx G1 H1 w T m1 O=>?_⟩;cases m1;cases x with
 |true=>show ⟨H0,G1,ρ,I.ext T,O⟩
 |false=>show ⟨H0,G1,ρ,I.ext T,O⟩
def frz (i:Nat) (ρ:Rho):Rho:=match ρ[i]? with
 |some (.own ws)=>ρ.set i (.val (.lst ws))
 |_=>ρ
def PIv.frz (I:PIv K H0 G ρ σ H):∃G',Same G G'/\PIv K H0 G' (frz i ρ) σ H:=by
 unfold TP.frz
 split
 .rename_i ws e
  obtain ⟨a,vs,es,ha,hg,h0,r⟩:=I.own_at e;have s1:Same G (upd G a (.lst vs)):=λb o q=>by rw[e9 (f9 q hg)];show q
  refine ⟨upd G a (.lst vs),s1,?_⟩;have I1:PIv K H0 G (ρ.set i .un) σ H:=by
   refine ⟨I.g0,I.gl,I.gh,I.hh,by rw[qF2];show I.len,λj x o O h2=>?_,λp q a8 us c a9 O h2 h3 h4=>?_⟩
   .by_cases hj:i=j
    .subst hj;rw[qE9]at O;simp only [qP0]at O
     split at O <;> simp only [qI5,reduceCtorEq]at O
     subst O;trivial
    .rw[qB9 hj]at O;show I.sl j x o O h2
   .have na:i≠p:=by
     rintro rfl;rw[qE9]at O;simp only [qP0]at O
     split at O <;> simp at O
    have nb:i≠q:=by
     rintro rfl;rw[qE9]at h2;simp only [qP0]at h2
     split at h2 <;> simp at h2
    rw[qB9 na]at O;rw[qB9 nb]at h2;show I.ne p q a8 us c a9 O h2 h3 h4
  have I2:PIv K H0 (upd G a (.lst vs)) (ρ.set i .un) σ H:=by
   refine ⟨λb o q l=>s1 b o (I.g0 b o q l),λb o q l=>by rw[e9 (f9 q h0)];show I.gl b o q l,λb o q=>?_,I.hh,I1.len,λj x o O h2=>?_,I1.ne⟩
   .by_cases T:b=a
    .subst T;rw[p8]at q;cases q;show ha
    .rw[e9 T]at q;show I.gh b o q
   .have:=I1.sl j x o O h2
    cases x with
    |un=>trivial
    |val w=>obtain ⟨v,e1,r1⟩:=this;show ⟨v,e1,r1.same s1⟩
    |par w=>obtain ⟨v,e1,r1⟩:=this;show ⟨v,e1,r1.same (y9 s1)⟩
    | own us=>
     obtain ⟨b,a5,eb,T,a0,a3,rb⟩:=this;subst eb;have a6:i≠j:=by
      rintro rfl;rw[qE9]at O;simp only [qP0]at O
      split at O <;> simp at O
     rw[qB9 a6]at O;have a4:b≠a:=by
      rintro rfl;show I.ne i j ws us b a6 e O es h2
     show ⟨b,a5,rfl,T,by rw[e9 a4];show a0,a3,rb.same s1⟩
    | dic ks=>
     obtain ⟨b,a5,eb,T,a0,a3,rb⟩:=this;have a4:b≠a:=by
      rintro rfl;rw[ha]at T;cases T
     show ⟨b,a5,eb,T,by rw[e9 a4];show a0,a3,rb⟩
    | dik ks=>
     obtain ⟨b,a5,eb,T,a0,a3,rb⟩:=this;have a4:b≠a:=by
      rintro rfl;rw[ha]at T;cases T
     show ⟨b,a5,eb,T,by rw[e9 a4];show a0,a3,rb⟩
    |iop p us=>obtain ⟨e1,ab,a7,r1⟩:=this;show ⟨e1,ab,a7,r1.same s1⟩
    |hz w=>obtain ⟨v,e,r⟩:=this;show ⟨v,e,r.same (y9 (aV s1))⟩
  have I3:=I2.setV (i:=i) (v:=.ref a) (w:=.lst ws) (.lst p8 (r.same s1));have e3:σ.set i (some (V.ref a))=σ:=by
   apply qH7;intro j;by_cases hj:i=j
   .subst hj;rw[es,qE9];simp only [qP0];rw[qA2 (qA9.mp es).1]
   .rw[qB9 hj]
  rw[e3,List.set_set]at I3;show I3
 .show ⟨G,Same.refl G,I⟩
def JF (h:tSt K EX d (λρ=>m (frz i ρ)) D σ H):tSt K EX d m D σ H:=by
 obtain ⟨H0,G,ρ,I,o⟩:=h;obtain ⟨G',s,O⟩:=I.frz (i:=i);show ⟨H0,G',_,O,OutS.move s o⟩
section
variable {K:Frag}{EX:EXT}{H0 G H G1 H1 G2 H2:Hp}{ρ:Rho}{σ:St}{d:Mode}{D:Ends}
structure di (K:Frag) (e:Mode) (H0 Z G:Hp) (J:It) (ws:Zk):Prop where
 go:∀i H,i<ws.length->Same Z H->J.go i H
 stop:∀H,Same Z H->J.stop ws.length H
 yld:∀i H x H' w,ws[i]?=some w->Same Z H->J.yld i H x H'->∀G2 ρ σ,PIv K H0 G2 ρ σ H->Same G G2->∃G3,Ext G2 H G3 H'/\Md K H0 H G3 H' x w e
def oy (K:Frag) (EX:EXT) (lp:Bool) (e:Mode) (H0 G H:Hp) (r:R Zk) (I:It->Hp->Prop):Prop:=match r with
 | .ok ws=>∀J G' H',Ext G H G' H'->di K e H0 (if lp then join H0 G' else H') G' J ws->I J H'
 | .ex x=>∀H',Same H H'->EX x H'
 | .stuck=>False
def tIt (K:Frag)(EX:EXT)(lp:Bool)(e:Mode)(m:Zp):TI:=λσ H I=>∃H0 G ρ,PIv K H0 G ρ σ H/\oy K EX lp e H0 G H (m ρ) I
def M4 (mg:Zg) (mb:Zy):List W->Rho->R Fl
 | [],ρ=>.ok (.nx ρ)
 | w::ws,ρ=>toR (mg w ρ)>>=λO=>mb O>>=λf=>match f with
  | .nx I=>M4 mg mb ws I
  | .ct I=>M4 mg mb ws I
  | .bk I=>.ok (.nx I)
  | .rt w=>.ok (.rt w)
def JG (hg:Gt K e g mg) (h:tSt K EX d (λρ=>mi ρ>>=λws=>M4 mg mb ws ρ) D σ H):
  DG (tIt K EX true e mi) g (tSt K EX d mb) D σ H:=by
 obtain ⟨H0,G,ρ,I,o⟩:=h;refine ⟨H0,G,ρ,I,?_⟩;replace o:OutS K EX d H0 G (mi ρ>>=λws=>M4 mg mb ws ρ) D:=o
 revert o
 cases mi ρ with
 |stuck=>show id
 |ex x=>show λo H' s=>o H' (I.hh.trans s)
 | ok ws=>
  intro o J G1 H1 e1 T;have o1:OutS K EX d H0 G1 (M4 mg mb ws ρ) D:=OutS.move e1.gg o;refine ⟨λi m σ H=>m=ws.length-i/\i<=ws.length/\∃G2 O,Same G1 G2/\PIv K H0 G2 O σ H/\OutS K EX d H0 G2 (M4 mg mb (ws.drop i) O) D,⟨_,rfl,qE0 _,G1,ρ,Same.refl _,I.ext e1,o1⟩,?_⟩;rintro i m a4 Hh ⟨rfl,hi,G2,O,s2,I2,o2⟩;have hz:Same (join H0 G1) Hh:=(y9 s2).trans I2.join_H;by_cases a5:i<ws.length
  .refine .inr ⟨T.go i Hh a5 hz,λa6 H'=>∃G4 a0,Same G1 G4/\PIv K H0 G4 a0 a6 H'/\OutS K EX d H0 G4 (M4 mg mb (ws.drop (i+1)) a0) D,λa6 H' a7=>by obtain ⟨G4,a0,s4,I4,o4⟩:=a7;show ⟨ws.length-(i+1),ox,rfl,a5,G4,a0,s4,I4,o4⟩,λx H' y=>?_⟩;obtain ⟨G3,e3,m3⟩:=T.yld i Hh x H' ws[i] ZV hz y G2 O a4 I2 s2;rw[qW8 a5]at o2;unfold M4 at o2;cases q:mg ws[i] O with
   |none=>rw[q]at o2;show o2.elim
   | some a3=>
    rw[q]at o2;refine hg H0 Hh G3 O a4 H' x _ a3 _ (I2.ext e3) m3 q λa6 I'=>⟨H0,G3,a3,I',?_⟩;have o3:OutS K EX d H0 G3 (mb a3>>=λf=>match f with
     | .nx O=>M4 mg mb (ws.drop (i+1)) O
     | .ct O=>M4 mg mb (ws.drop (i+1)) O
     | .bk O=>.ok (.nx O)
     | .rt w=>.ok (.rt w)) D:=OutS.move e3.gg o2
    revert o3
    have s3:Same G1 G3:=s2.trans e3.gg;cases mb a3 with
    |stuck=>show id
    |ex x=>show id
    | ok f=>
     cases f with
     |nx a0=>show λo4 G4 a8 H4 s4 I4=>⟨G4,a0,s3.trans s4,I4,OutS.move s4 o4⟩
     |ct a0=>show λo4 G4 a8 H4 s4 I4=>⟨G4,a0,s3.trans s4,I4,OutS.move s4 o4⟩
     |bk a0=>show id
     |rt w=>show id
  .have e:i=ws.length:=ox;subst e;refine .inl ⟨T.stop Hh hz,?_⟩;rw[List.drop_length]at o2;show o2 G2 a4 Hh (Same.refl _) I2
def L4 (c:Zo) (b:Zy):Nat->Rho->Option (R Fl)
 |0,_=>none
 | n+1,ρ=>match c ρ with
  | .ok false=>some (.ok (.nx ρ))
  | .ok true=>(match b ρ with
   | .ok (.nx ρ')=>L4 c b n ρ'
   | .ok (.ct ρ')=>L4 c b n ρ'
   | .ok (.bk ρ')=>some (.ok (.nx ρ'))
   | .ok (.rt w)=>some (.ok (.rt w))
   | .ex e=>some (.ex e)
   | .stuck=>some .stuck)
  | .ex e=>some (.ex e)
  | .stuck=>some .stuck
def cV:∀(n:Nat) (ρ:Rho) (r:R Fl),L4 c b n ρ=some r->∀m,n<=m->L4 c b m ρ=some r:=by
 intro n
 induction n with
 |zero=>intro ρ r h;cases h
 | succ n O=>
  intro ρ r h m hm;obtain ⟨k,rfl⟩:∃k,m=k+1:=⟨m-1,ox⟩;have hk:=qH6 hm;unfold L4 at h ⊢
  revert h
  cases c ρ with
  |ex e=>show id
  |stuck=>show id
  | ok t=>
   cases t with
   |false=>show id
   | true=>
    cases b ρ with
    |ex e=>show id
    |stuck=>show id
    | ok f=>
     cases f with
     |nx I=>show λh=>O I r h k hk
     |ct I=>show λh=>O I r h k hk
     |bk I=>show id
     |rt w=>show id
open Classical in
def P3 (c:Zo)(b:Zy):Zy:=λρ=>if h:∃r n,L4 c b n ρ=some r then h.choose else .stuck
def kA (h:L4 c b n ρ=some r):P3 c b ρ=r:=by
 unfold P3;have I:∃r n,L4 c b n ρ=some r:=⟨r,n,h⟩;rw[dif_pos I];obtain ⟨m,hm⟩:=I.choose_spec;have a:=cV n ρ r h (max n m) (Nat.le_max_left _ _);have b:=cV m ρ _ hm (max n m) (Nat.le_max_right _ _);rw[a]at b;show (Option.some.inj b).symm
def CJ (h:tSt K EX d (P3 c b) D σ H):sY (tT K EX c) (tSt K EX d b) D σ H:=by
 obtain ⟨H0,G,ρ,I,o⟩:=h;by_cases hx:∃r n,L4 c b n ρ=some r
 .obtain ⟨r,n,hn⟩:=hx;rw[kA hn]at o;refine ⟨λm a3 Hh=>∃G2 a0,Same G G2/\PIv K H0 G2 a0 a3 Hh/\L4 c b m a0=some r,⟨n,G,ρ,Same.refl _,I,hn⟩,?_⟩;rintro m a3 Hh ⟨G2,a0,s2,I2,O⟩;have o2:OutS K EX d H0 G2 r D:=OutS.move s2 o;refine ⟨H0,G2,a0,I2,?_⟩;cases m with
  |zero=>cases O
  | succ m=>
   unfold L4 at O
   revert O
   cases c a0 with
   |stuck=>intro O;cases O;show o2
   |ex x=>intro O;cases O;show λH' s=>o2 H' (I2.hh.trans s)
   | ok t=>
    cases t with
    | false=>
     intro O;cases O;intro v G3 H3 e3 q;cases q;rw[qA4 qB0];show o2 G3 a3 H3 e3.gg (I2.ext e3)
    | true=>
     intro O v G3 H3 e3 q;cases q;rw[qA2 rfl];refine ⟨λa5 H'=>∃G4 T,Same G G4/\PIv K H0 G4 T a5 H'/\L4 c b m T=some r,λa5 H' a4=>by obtain ⟨G4,T,s4,I4,h4⟩:=a4;show ⟨m,qD8 m,G4,T,s4,I4,h4⟩,H0,G3,a0,I2.ext e3,?_⟩;have o3:OutS K EX d H0 G3 r D:=OutS.move e3.gg o2;have s3:Same G G3:=s2.trans e3.gg
     revert O
     cases b a0 with
     |stuck=>intro O;cases O;show o3
     |ex x=>intro O;cases O;show o3
     | ok f=>
      cases f with
      |nx T=>show λO G4 a6 H4 s4 I4=>⟨G4,T,s3.trans s4,I4,O⟩
      |ct T=>show λO G4 a6 H4 s4 I4=>⟨G4,T,s3.trans s4,I4,O⟩
      |bk T=>intro O;cases O;show o3
      |rt w=>intro O;cases O;show o3
 .unfold P3 at o;rw[dif_neg hx]at o;show o.elim
def Md.whole (I:PIv K H0 G ρ σ H) (h:Md K H0 Hs G H v w .B):Rep K H v w:=by
 rcases h with h|⟨a,vs,ws,rfl,rfl,h1,r⟩
 .show h.same I.join_H
 .show .lst h1 (r.same I.gh)
def MdA.whole (I:PIv K H0 G ρ σ H) (h:MdA K .B H0 Hs G H ws vs):Reps K H vs ws:=
 @MdA.rec K .B H0 Hs G H (λws vs _=>Reps K H vs ws) .nil (λh _ b=>.cons (h.whole I) b) ws vs h
def XE (_:XK):EXT:=λ_ _=>False
def spM (K:Frag) (n:Nat) (d:Mode) (f:List W->R W):Sp:=λvs H Q E=>vs.length=n/\∃ws,Reps K H vs ws/\match f ws with
 | .ok w=>∀v G' H',Same H H'->Same G' H'->(∀a o,H a=some o->isL o=true->G' a=none)->Md K H H G' H' v w d->Q v H'
 | .ex e=>∀H',Same H H'->XE E e H'
 | .stuck=>False
def i4 (n N:Nat) (m:Zy) (ws:Zk):R W:=if ws.length=n then (m (ws.map Sl.par++List.replicate (N-n) Sl.un)>>=λf=>match f with
 | .rt w=>.ok w
 | .nx _=>.ok .non
 |_=>.stuck) else .stuck
def wT (ws:Zk) (h:i4 n N m ws≠.stuck):ws.length=n:=by
 unfold i4 at h;by_cases e:ws.length=n
 .show e
 .rw[qA4 e]at h;show absurd rfl h
def both (G G':Hp):Hp:=λb=>match G b with
 |some o=>some o
 |none=>G' b
def HZ (hd:d=.F\/d=.V) (hf:∀ws,f ws≠.stuck->ws.length=n) (hE:∀e H,EX e H->XE E e H) (h:tM K EX d (λρ=>ma ρ>>=λws=>f ws) σ H Q):
  qz (spM K n d f) [] E (tA K EX .B ma) σ H Q:=by
 obtain ⟨H0,G,ρ,I,o⟩:=h;refine ⟨H0,G,ρ,I,Out.bind o λxs G1 H1 ws e1 m1 T=>?_⟩;have I1:=I.ext e1;have r:=MdA.whole I1 m1;rw[qH3];refine ⟨?_,ws,r,?_⟩
 .rw [r.length]
  refine hf ws λz=>?_;rw[z]at T;show T
 .revert T
  cases f ws with
  |stuck=>show id
  |ex e=>show λT H' s=>hE e H' (T H' s)
  | ok w=>
   intro T v G' H' sH gH cl md;have sB:Same G1 (both G1 G'):=λb o q=>by unfold both;rw[q]
   have O:Same G' (both G1 G'):=λb o q=>by
    unfold both;cases q1:G1 b with
    |none=>show q
    | some u=>
     have a1:=sH b u (I1.gh b u q1);rw[gH b o q]at a1;show a1.symm
   have a0:Same (both G1 G') H':=λb o q=>by
    unfold both at q;cases q1:G1 b with
    |none=>rw[q1]at q;show gH b o q
    |some u=>rw[q1]at q;cases q;show sH b _ (I1.gh b _ q1)
   have ex:Ext G1 H1 (both G1 G') H':=⟨sB,sH,a0,λb o q l g=>by unfold both;rw[g];show cl b o q l⟩;refine T v (both G1 G') H' ex ?_;rcases hd with rfl|rfl
   .cases w with
    | lst us=>
     obtain ⟨a,vs,rfl,h1,h2,h3,r3⟩:=md;show ⟨a,vs,rfl,h1,by unfold both;rw[I1.gh.free h3];show h2,e1.hh.free h3,r3.same O⟩
    |non=>show Rep.same O md
    |bl _=>show Rep.same O md
    |int _=>show Rep.same O md
    |str _=>show Rep.same O md
    |ty _=>show Rep.same O md
    |tup _=>show Rep.same O md
    |scr _=>show Rep.same O md
    |exc _ _=>show Rep.same O md
    |cls _=>show Rep.same O md
   .show Rep.same O md
def cP (H:Hp):Hp:=λa=>match H a with
 |some o=>if isL o then none else some o
 |none=>none
def kE:join H (cP H)=H:=by
 funext a
 unfold join cP;cases q:H a with
 |none=>rfl
 | some o=>
  dsimp only;cases isL o <;> rfl
def Reps.slots {i:Nat}(r:Reps K H vs ws):(ws.map Sl.par++List.replicate k Sl.un)[i]?=some x->(vs.map some++List.replicate k' none)[i]?=some o->x=.un\/∃v w,x=.par w/\o=some v/\Rep K H v w:=
 Reps.ind (P:=λvs ws=>∀i,(ws.map Sl.par++List.replicate k Sl.un)[i]?=some x->(vs.map some++List.replicate k' none)[i]?=some o->x=.un\/∃v w,x=.par w/\o=some v/\Rep K H v w) (λi I O=>by
  have I:(List.replicate k Sl.un)[i]?=some x:=I;rw[qI3]at I;by_cases hk:i<k
  .rw[qA2 hk]at I;show .inl (Option.some.inj I).symm
  .rw[qA4 hk]at I;cases I) (λr _ b i I O=>by
  cases i with
  |zero=>show .inr ⟨_,_,(Option.some.inj I).symm,(Option.some.inj O).symm,r⟩
  |succ i=>show b i I O) r i
def PIv.begin (r:Reps K H vs ws) (hk:k=k'):PIv K H (cP H) (ws.map Sl.par++List.replicate k Sl.un) (vs.map some++List.replicate k' none) H where
 g0 a o e l:=by unfold cP;rw[e];dsimp only;rw[l];rfl
 gl a o e l:=by unfold cP;rw[e];dsimp only;rw[l];rfl
 gh a o e:=by
  unfold cP at e;cases q:H a with
  |none=>rw[q]at e;cases e
  | some u=>
   rw[q]at e;dsimp only at e;cases I:isL u
   .rw[I]at e;show e
   .rw[I]at e;cases e
 hh:=Same.refl H
 len:=by subst hk;simp [r.length]
 sl i x o h1 h2:=by
  rcases Reps.slots r h1 h2 with rfl|⟨v,w,rfl,rfl,q⟩
  .trivial
  .show ⟨v,rfl,by rw[kE];show q⟩
 ne i j us xs a hij h1 _ _ _:=by
  have:∀(i:Nat) (us:Zk),(ws.map Sl.par++List.replicate k Sl.un)[i]?≠some (Sl.own us):=λi us q=>by
   rw[List.getElem?_append]at q
   split at q
   .rw [qA6]at q
    cases hh:ws[i]? <;> rw[hh]at q <;> cases q
   .rw [qI3]at q
    split at q <;> cases q
  show absurd h1 (this i us)
def vK (hd:d=.F\/d=.V) (h:spM K n d (i4 n Nl.length m) vs H Q E):tSt K (λ_ _=>False) d m { nx:=λ_ H'=>Q .non H',rt:=Q } (L2.start Nl vs) H:=by
 obtain ⟨O,ws,r,o⟩:=h;have hw:ws.length=n:=by rw[<- r.length];show O
 unfold i4 at o;rw[qA2 hw]at o;refine ⟨H,cP H,_,PIv.begin (k:=Nl.length-n) r (by rw[O]),?_⟩
 revert o
 cases m (ws.map Sl.par++List.replicate (Nl.length-n) Sl.un) with
 |stuck=>show id
 |ex e=>show λo=>(o H (Same.refl H)).elim
 | ok f=>
  cases f with
  |nx T=>show λo G' a0 H' s' I=>o .non G' H' I.hh I.gh I.gl (Md.sca rfl (λ_=>.non) d)
  |rt w=>show λo v G' H' _ s1 s2 c md=>o v G' H' s2 s1 c md
  |bk _=>show λo=>o.elim
  |ct _=>show λo=>o.elim
end
def elR (mg:Zg) (mc:Zo) (me:Zx) (ρ:Rho) (w:W):R (Option W):=match mg w ρ with
 |none=>.stuck
 | some I=>(match mc I with
  | .ok true=>(match me I with
   | .ok y=>.ok (some y)
   |_=>.stuck)
  | .ok false=>.ok none
  |_=>.stuck)
def mapR (f:W->R (Option W)):List W->R Zk
 | []=>.ok []
 | w::ws=>match f w,mapR f ws with
  | .ok (some y),.ok ys=>.ok (y::ys)
  | .ok none,.ok ys=>.ok ys
  |_,_=>.stuck
def j6 (N':Nat) (mg:Zg) (mc:Zo) (me:Zx) (ws:Zk) (ρ:Rho):R W:=
 if ws.length<=1000 then (match mapR (elR mg mc me (ρ++List.replicate (N'-ρ.length) Sl.un)) ws with
  | .ok ys=>.ok (.lst ys)
  |_=>.stuck) else .stuck
def BG:∀{ws ys:Zk},mapR f ws=.ok ys->(∀w∈ws,∃o,f w=.ok o)/\ys=ws.filterMap λw=>match f w with
  | .ok o=>o
  |_=>none:=by
 intro ws
 induction ws with
 |nil=>intro ys h;cases h;show ⟨ZV,rfl⟩
 | cons w ws ih=>
  intro ys h;unfold mapR at h;cases I:f w with
  |stuck=>rw[I]at h;cases h
  |ex e=>rw[I]at h;cases h
  | ok o=>
   rw[I]at h;cases hm:mapR f ws with
   |stuck=>rw[hm]at h;cases o <;> cases h
   |ex e=>rw[hm]at h;cases o <;> cases h
   | ok zs=>
    rw[hm]at h;obtain ⟨h1,T⟩:=ih hm;refine ⟨λu O=>?_,?_⟩
    .rcases qB5.mp O with rfl|O
     .show ⟨o,I⟩
     .show h1 u O
    .cases o with
     |none=>cases h;rw[qI7,I];show T
     |some y=>cases h;rw[qI7,I,T]
def PIv.inner (I:PIv K H0 G ρ σ H):PIv K H0 G (ρ++List.replicate (N'.length-ρ.length) Sl.un) (inner N' σ) H:=by
 have hl:=I.len;unfold L2.inner;rw[hl];refine ⟨I.g0,I.gl,I.gh,I.hh,by simp [hl],λi x o O h2=>?_,λp q ws us c a0 O h2 h3 h4=>?_⟩
 .by_cases hi:i<ρ.length
  .rw [qE6 hi]at O
   rw[qE6 ox]at h2;show I.sl i x o O h2
  .rw [qH5 ox,qI3]at O
   split at O <;> simp only [qI5,reduceCtorEq]at O
   subst O;trivial
 .have T:∀{k:Nat}{us:Zk},(ρ++List.replicate (N'.length-σ.length) Sl.un)[k]?=some (Sl.own us)->k<ρ.length/\ρ[k]?=some (Sl.own us):=λ{k us} hk=>by
   by_cases hi:k<ρ.length
   .rw[qE6 hi]at hk;show ⟨hi,hk⟩
   .rw [qH5 ox,qI3]at hk
    split at hk <;> simp at hk
  obtain ⟨l1,k1⟩:=T O;obtain ⟨l2,k2⟩:=T h2;rw[qE6 ox]at h3 h4;show I.ne p q ws us c a0 k1 k2 h3 h4
open Classical in
def rest (G H:Hp)(Dd:Addr)(H':Hp):Hp:=λb=>if b=Dd\/∃o,H b=some o/\isL o=true/\G b=none then none else H' b
def F1 (h:b=Dd\/∃o,H b=some o/\isL o=true/\G b=none):rest G H Dd H' b=none:=by unfold rest;rw[qA2 h]
def aT (h:¬ (b=Dd\/∃o,H b=some o/\isL o=true/\G b=none)):rest G H Dd H' b=H' b:=by unfold rest;rw[qA4 h]
def oX (h:rest G H Dd H' b=some o):H' b=some o/\¬ (b=Dd\/∃o,H b=some o/\isL o=true/\G b=none):=by
 by_cases c:b=Dd\/∃o,H b=some o/\isL o=true/\G b=none
 .rw[F1 c]at h;cases h
 .rw[aT c]at h;show ⟨h,c⟩
def PIv.rest (I:PIv K H0 G ρ σ H) (hD:H Dd=none) (s:Same H H'):Same G (rest G H Dd H')/\PIv K H0 (rest G H Dd H') ρ σ H':=by
 have sG:Same G (TP.rest G H Dd H'):=λb o q=>by
  rw[aT]
  .show s b o (I.gh b o q)
  .rintro (rfl|⟨u,h1,h2,h3⟩)
   .rw[I.gh _ _ q]at hD;cases hD
   .rw[q]at h3;cases h3
 refine ⟨sG,λa o e l=>sG a o (I.g0 a o e l),λa o e l=>F1 (.inr ⟨o,I.hh a o e,l,I.gl a o e l⟩),λb o q=>(oX q).1,I.hh.trans s,I.len,λi x o h1 h2=>?_,I.ne⟩
 have:=I.sl i x o h1 h2
 cases x with
 |un=>trivial
 |val w=>obtain ⟨v,e,r⟩:=this;show ⟨v,e,r.same sG⟩
 |par w=>obtain ⟨v,e,r⟩:=this;show ⟨v,e,r.same (y9 sG)⟩
 | own ws=>
  obtain ⟨a,vs,e,h,g,h0,r⟩:=this;show ⟨a,vs,e,s a _ h,F1 (.inr ⟨_,h,rfl,g⟩),h0,r.same sG⟩
 | dic ks=>
  obtain ⟨a,vs,e,h,g,h0,r⟩:=this;show ⟨a,vs,e,s a _ h,F1 (.inr ⟨_,h,rfl,g⟩),h0,r⟩
 | dik ks=>
  obtain ⟨a,vs,e,h,g,h0,r⟩:=this;show ⟨a,vs,e,s a _ h,F1 (.inr ⟨_,h,rfl,g⟩),h0,r⟩
 |iop p ws=>obtain ⟨e1,T,O,r1⟩:=this;show ⟨e1,T,O,r1.same sG⟩
 |hz w=>obtain ⟨v,e,r⟩:=this;show ⟨v,e,r.same (y9 (aV sG))⟩
def dQ (s:∀b o,b≠Dd->Ha b=some o->Hb b=some o):Same (rest G H Dd Ha) (rest G H Dd Hb):=λb o q=>by
 obtain ⟨h,c⟩:=oX q;rw[aT c];show s b o (λz=>c (.inl z)) h
def xc (I:∃ys,Ha Dd=some (.lst ys)) (s:Same H Ha) (e:Ext (rest G H Dd Ha) Ha G' Hb):Same G' (rest G H Dd Hb):=λb o q=>by
 rw[aT]
 .show e.gh b o q
 .rintro (rfl|⟨u,h1,h2,h3⟩)
  .obtain ⟨ys,I⟩:=I;rw[e.keep _ _ I rfl (F1 (.inl rfl))]at q;cases q
  .rw[e.keep _ _ (s _ _ h1) h2 (F1 (.inr ⟨u,h1,h2,h3⟩))]at q;cases q
def nZ (hg:Gt K e g mg) (h:tM K EX .F (λρ=>mi ρ>>=λws=>j6 N'.length mg mc me ws ρ) σ H Q):
  lf N' (tIt K EX false e mi) g (tT K EX mc) (tM K EX .V me) σ H Q:=by
 obtain ⟨H0,G,ρ,I,o⟩:=h;refine ⟨H0,G,ρ,I,?_⟩;replace o:Out EX G H (mdW K .F H0 H) (mi ρ>>=λws=>j6 N'.length mg mc me ws ρ) Q:=o
 revert o
 cases mi ρ with
 |stuck=>show id
 |ex x=>show id
 | ok ws=>
  intro o J G1 H1 e1 T Dd hD;have I1:=I.ext e1;replace o:Out EX G H (mdW K .F H0 H) (j6 N'.length mg mc me ws ρ) Q:=o
  unfold j6 at o;by_cases hlen:ws.length<=1000
  .rw [qA2 hlen]at o
   cases hm:mapR (elR mg mc me (ρ++List.replicate (N'.length-ρ.length) Sl.un)) ws with
   |stuck=>rw[hm]at o;show o.elim
   |ex x=>rw[hm]at o;show o.elim
   | ok ys=>
    rw[hm]at o;obtain ⟨a7,b0⟩:=BG hm;have T':di K e H0 H1 G1 J ws:=by
     have:=T
     rw[qA4 qB0]at this;show this
    generalize b6:ρ++List.replicate (N'.length-ρ.length) Sl.un=a9 at hm a7 b0
    refine ⟨λi m H2=>m=ws.length-i/\i<=ws.length/\Same H1 H2/\∃vs,H2 Dd=some (.lst vs)/\vs.length<=i/\Reps K (rest G1 H1 Dd H2) vs ((ws.take i).filterMap λw=>match elR mg mc me a9 w with
     | .ok o=>o
     |_=>none),⟨_,rfl,qE0 _,λb u q=>by rw[e9 (f9 q hD)];show q,[],p8,qB4 _,.nil⟩,?_⟩
    rintro i m H2 ⟨rfl,hi,s2,vs,a6,b5,r2⟩;by_cases a5:i<ws.length
    .refine .inr ⟨T'.go i H2 a5 s2,λx H3 y=>?_⟩;obtain ⟨sG,I2⟩:=I1.rest (Dd:=Dd) hD s2;have b4:=I2.inner (N':=N');obtain ⟨G3,e3,m3⟩:=T'.yld i H2 x H3 ws[i] ZV s2 y _ _ _ b4 sG;obtain ⟨op,O⟩:=a7 ws[i] (qG1 a5);have a8:=O;unfold elR at O;rw[<- b6]at O;have a0:ws.take (i+1)=ws.take i ++ [ws[i]]:=by rw[qT2 a5]
     cases q:mg ws[i] (ρ++List.replicate (N'.length-ρ.length) Sl.un) with
     |none=>rw[q]at O;cases O
     | some a3=>
      rw[q]at O;dsimp only at O;refine hg H0 H2 G3 _ _ H3 x _ a3 _ (b4.ext e3) m3 q λbb I4=>⟨H0,G3,a3,I4,?_⟩;cases hc:mc a3 with
      |stuck=>rw[hc]at O;cases O
      |ex x=>rw[hc]at O;cases O
      | ok b=>
       intro b' G5 H5 e5 eb;cases eb;rw[hc]at O;cases b with
       | false=>
        rw[qA4 qB0];have a4:op=none:=by cases O;rfl
        have s5:Same H2 H5:=e3.hh.trans e5.hh;refine ⟨ws.length-(i+1),ox,rfl,a5,s2.trans s5,vs,s5 _ _ a6,ox,?_⟩;rw[a0,List.filterMap_append]
        have:([ws[i]].filterMap λw=>match elR mg mc me a9 w with
         | .ok o=>o
         |_=>none) = []:=by
         rw[qI7,a8,a4];rfl
        rw[this,qH3];show r2.same (dQ λb o _ q=>s5 b o q)
       | true=>
        dsimp only at O;rw[qA2 rfl];refine ⟨H0,G5,a3,I4.ext e5,?_⟩;cases ab:me a3 with
        |stuck=>rw[ab]at O;cases O
        |ex x=>rw[ab]at O;cases O
        | ok z=>
         rw[ab]at O;have a4:op=some z:=by cases O;rfl
         intro yv G6 H6 e6 m6;have b3:Ext (TP.rest G1 H1 Dd H2) H2 G6 H6:=(e3.trans e5).trans e6;have s6:Same H2 H6:=b3.hh;refine ⟨vs,s6 _ _ a6,qG5 b5 (qB6 (by omega:i<1000) ZY),ws.length-(i+1),ox,rfl,a5,λb u q=>by rw[e9 (f9 q hD)];show s6 b u (s2 b u q),vs ++ [yv],p8,by rw[qD1];simp;omega,?_⟩;rw[a0,List.filterMap_append]
         have:([ws[i]].filterMap λw=>match elR mg mc me a9 w with
          | .ok o=>o
          |_=>none) = [z]:=by
          rw[qI7,a8,a4];rfl
         rw[this];have k1:Same (TP.rest G1 H1 Dd H2) (TP.rest G1 H1 Dd (upd H6 Dd (.lst (vs ++ [yv])))):=dQ λb o hb q=>by rw[e9 hb];show s6 b o q
         have k2:Same G6 (TP.rest G1 H1 Dd (upd H6 Dd (.lst (vs ++ [yv])))):=(xc ⟨vs,a6⟩ s2 b3).trans (dQ λb o hb q=>by rw[e9 hb];show q);show (r2.same k1).snoc (Rep.same k2 m6)
    .have ei:i=ws.length:=ox;subst ei;refine .inl ⟨T'.stop H2 s2,?_⟩;rw[qH4,<- b0]at r2;obtain ⟨sG,I2⟩:=I1.rest (Dd:=Dd) hD s2;refine o _ (TP.rest G1 H1 Dd H2) H2 ⟨e1.gg.trans sG,e1.hh.trans s2,I2.gh,λb u q l g=>F1 (.inr ⟨u,e1.hh b u q,l,e1.keep b u q l g⟩)⟩ ⟨Dd,vs,rfl,a6,F1 (.inl rfl),e1.hh.free hD,r2⟩
  .rw[qA4 hlen]at o;show o.elim
def C3:W->R Zk
 | .lst ws=>.ok ws
 | .tup ws=>.ok ws
 | .scr ws=>.ok ws
 |_=>.stuck
def K8 (e:Same H H1) (h:Sq K H t a xs):Sq K H1 t a xs:=by
 unfold Sq at h ⊢
 split at h
 .rename_i ht;rw[qA2 ht];show wJ e h
 .rename_i ht;rw[qA4 ht];show Same.seq e h
def sqT (h:SqT K H a xs):Sq K H true a xs:=by unfold Sq;rw[qA2 rfl];show h
def sqL (h:SqL K H a xs):Sq K H false a xs:=by unfold Sq;rw[qA4 qB0];show h
def Rep.sq (h:Rep K F x w) (hw:C3 w=.ok ws):∃t a vs,x=.ref a/\Sq K F t a vs/\Reps K F vs ws:=by
 cases w <;> first | (cases hw;done)|skip
 .obtain ⟨a,vs,e,s,r⟩:=h.inv;show ⟨true,a,vs,e,sqT (SqT.of s),R.ok.inj hw ▸ r⟩
 .obtain ⟨a,vs,e,s,r⟩:=h.inv;show ⟨false,a,vs,e,sqL (SqL.of s),R.ok.inj hw ▸ r⟩
 .obtain ⟨a,vs,e,s,r⟩:=h.inv;show ⟨false,a,vs,e,sqL s,R.ok.inj hw ▸ r⟩
def dI:Bool->Mode->Mode
 |true,e=>e
 |false,.V=>.C
 |false,_=>.B
def fz (e:Mode)(H0 G:Hp):Hp:=if e=.V then G else join H0 G
def Md.src (he:e=.V\/e=.U) (I:PIv K H0 G ρ σ H) (m:Md K H0 Hs G H x w (dI lp e)) (hw:C3 w=.ok ws):
  ∃t a vs,x=.ref a/\Sq K (if lp then join H0 G else H) t a vs/\Reps K (fz e H0 G) vs ws:=by
 unfold fz;rcases he with rfl|rfl
 .rw [qA2 rfl]
  cases lp with
  | true=>
   obtain ⟨t,a,vs,O,T,e3⟩:=Rep.sq m hw;show ⟨t,a,vs,O,by rw[qA2 rfl];show K8 I.G_join T,e3⟩
  | false=>
   rw[qA4 qB0];rcases m with m|⟨a,vs,us,rfl,rfl,h1,r⟩
   .obtain ⟨t,a,vs,O,T,e3⟩:=Rep.sq m hw;show ⟨t,a,vs,O,K8 I.gh T,e3⟩
   .cases hw;show ⟨false,a,vs,rfl,sqL (SqL.of h1),r⟩
 .rw [qA4 (show ¬ (Mode.U=Mode.V) by intro z;cases z)]
  cases lp with
  | true=>
   obtain ⟨t,a,vs,O,T,e3⟩:=Rep.sq m hw;show ⟨t,a,vs,O,by rw[qA2 rfl];show T,e3⟩
  | false=>
   rw[qA4 qB0];rcases m with m|⟨a,vs,us,rfl,rfl,h1,r⟩
   .obtain ⟨t,a,vs,O,T,e3⟩:=Rep.sq m hw;show ⟨t,a,vs,O,K8 I.join_H T,e3⟩
   .cases hw;show ⟨false,a,vs,rfl,sqL (SqL.of h1),r.same I.G_join⟩
def Md.of_fz (I:e=.V\/e=.U) (h:Rep K (fz e H0 G) v w):Md K H0 Hs G H v w e:=by
 unfold fz at h;rcases I with rfl|rfl
 .rw[qA2 rfl]at h;show h
 .rw[qA4 (show ¬ (Mode.U=Mode.V) by intro z;cases z)]at h;show h
def N7 (s:Same G G1):Same (fz e H0 G) (fz e H0 G1):=by
 unfold fz
 split
 .show s
 .show y9 s
def BU (he:e=.V\/e=.U) (s:Sq K Z t a vs) (r:Reps K (fz e H0 G) vs ws):di K e H0 Z G (ItQ K t a) ws:=by
 have hl:=r.length;cases t with
 | true=>
  have O:∀H,Same Z H->SqT K H a vs:=λH z=>by have:=K8 z s;unfold Sq at this;rw[qA2 rfl]at this;show this
  refine ⟨λi H hi z=>⟨vs,vs[i]'ox,O H z,ZV⟩,λH z=>⟨vs,O H z,ox⟩,λi H x H' w hw z a0 G2 ρ σ I sg=>?_⟩;obtain ⟨e1,y⟩:=a0;subst e1;have hx:=y vs (O _ z);obtain ⟨v,T,rv⟩:=Reps.get r hw;rw[hx]at T;cases T;show ⟨G2,Ext.refl I.gh,Md.of_fz he (rv.same (N7 sg))⟩
 | false=>
  have O:∀H,Same Z H->SqL K H a vs:=λH z=>by have:=K8 z s;unfold Sq at this;rw[qA4 qB0]at this;show this
  refine ⟨λi H hi z=>⟨vs,vs[i]'ox,O H z,ZV⟩,λH z=>⟨vs,O H z,ox⟩,λi H x H' w hw z a3 G2 ρ σ I sg=>?_⟩;obtain ⟨e1,y⟩:=a3;subst e1;have hx:=y vs (O _ z);obtain ⟨v,T,rv⟩:=Reps.get r hw;rw[hx]at T;cases T;show ⟨G2,Ext.refl I.gh,Md.of_fz he (rv.same (N7 sg))⟩
def jw {lp:Bool}(I:PIv K H0 G ρ σ H):Same (if lp then join H0 G else H) H:=by
 cases lp
 .show Same.refl H
 .show I.join_H
def JE (he:e=.V\/e=.U) (h:tIt K EX lp e (λρ=>ml ρ>>=C3) σ H Rr):iSq K (tM K EX (dI lp e) ml) σ H Rr:=by
 obtain ⟨H0,G,ρ,I,o⟩:=h;refine ⟨H0,G,ρ,I,?_⟩;replace o:oy K EX lp e H0 G H (ml ρ>>=C3) Rr:=o
 revert o
 cases ml ρ with
 |stuck=>show id
 |ex x=>show id
 | ok w=>
  intro o x G1 H1 O m1;have T:=I.ext O;have o':oy K EX lp e H0 G H (C3 w) Rr:=o;cases q:C3 w with
  |stuck=>rw[q]at o';show o'.elim
  |ex z=>cases w <;> cases q
  | ok ws=>
   rw[q]at o';obtain ⟨t,a,vs,ex,s,r⟩:=Md.src he T m1 q;show ⟨a,ex,t,vs,K8 (jw T) s,o' _ G1 H1 O (BU he s r)⟩
def S4 (lo hi:Int):R Zk:=if -1000000<=lo/\lo<=1000000 /\ -1000000<=hi/\hi<=1000000 then .ok ((List.range (hi-lo).toNat).map λk=>W.int (lo+(k:Nat))) else .stuck
def C5:List W->R Zk
 | [.int j]=>S4 0 j
 |_=>.stuck
def rng2:List W->R Zk
 | [.int i,.int j]=>S4 i j
 |_=>.stuck
def xY (he:e=.V\/e=.U):di K e H0 Z G (Itr lo n) ((List.range n).map λk=>W.int (lo+(k:Nat))):=by
 refine ⟨λi H hi _=>by change i<n;simpa using hi,λH _=>by simp [Itr],λi H x H' w hw _ O G2 ρ σ I _=>?_⟩;obtain ⟨T,e2⟩:=O;subst T;subst e2;rw[qA6]at hw;cases q:(List.range n)[i]? with
 |none=>rw[q]at hw;cases hw
 | some k=>
  rw[q]at hw;have hk:k=i:=by
   have:=qA9.mp q
   obtain ⟨h1,h2⟩:=this;simpa using h2.symm
  subst hk;cases hw;refine ⟨G2,Ext.refl I.gh,Md.sca rfl (λ_=>.int) e⟩
def cz (h:tIt K EX lp e (λρ=>ma ρ>>=k) σ H Rr) (O:∀H0 G ρ G1 H1 xs ws us,PIv K H0 G ρ σ H->Ext G H G1 H1->MdA K b H0 H G1 H1 ws xs->k ws=.ok us->(∀J G' H',Ext G H G' H'->di K e H0 (if lp then join H0 G' else H') G' J us->Rr J H')->Q xs H1) (hx:∀ws e,k ws≠.ex e):tA K EX b ma σ H Q:=by
 obtain ⟨H0,G,ρ,I,o⟩:=h;refine ⟨H0,G,ρ,I,?_⟩;replace o:oy K EX lp e H0 G H (ma ρ>>=k) Rr:=o
 revert o
 cases ma ρ with
 |stuck=>show id
 |ex x=>show id
 | ok ws=>
  intro o xs G1 H1 T m1;have o':oy K EX lp e H0 G H (k ws) Rr:=o;cases q:k ws with
  |stuck=>rw[q]at o';show o'.elim
  |ex z=>show absurd q (hx ws z)
  |ok us=>rw[q]at o';show O H0 G ρ G1 H1 xs ws us I T m1 q o'
def Ax (h:S4 lo hi=.ok us):(-1000000<=lo/\lo<=1000000 /\ -1000000<=hi/\hi<=1000000)/\us=(List.range (hi-lo).toNat).map λk=>W.int (lo+(k:Nat)):=by
 unfold S4 at h
 split at h
 .cases h;rename_i c;show ⟨c,rfl⟩
 .cases h
def wW (h:S4 lo hi=.ex e):False:=by
 unfold S4 at h;by_cases c:-1000000<=lo/\lo<=1000000 /\ -1000000<=hi/\hi<=1000000
 .rw[qA2 c]at h;cases h
 .rw[qA4 c]at h;cases h
def HR (he:e=.V\/e=.U) (h:tIt K EX lp e (λρ=>ma ρ>>=C5) σ H Rr):zF (tA K EX .B ma) σ H Rr:=by
 refine cz h (λH0 G ρ G1 H1 xs ws us I O T q o=>?_) (λws e z=>?_)
 .cases T with
  |nil=>cases q
  | @cons w _ _ _ a t=>
   cases t with
   |cons _ _=>first | (cases q;done) | (cases w <;> cases q)
   | nil=>
    cases w <;> first | (cases q;done)|skip
    rename_i j
    obtain ⟨c,rfl⟩:=Ax (show S4 0 j=_ from q);refine ⟨j,by rw[Md.intB a],ox,ox,?_⟩
    have:=o (Itr 0 j.toNat) G1 H1 O
    rw[Int.sub_zero]at this;show this (xY he)
 .cases ws with
  |nil=>cases z
  | cons w t=>
   cases t with
   |cons _ _=>first | (cases z;done) | (cases w <;> cases z)
   | nil=>
    cases w <;> first | (cases z;done)|skip
    show wW (lo:=0) z
def ck:List Zk->List Zk
 | [xs,ys]=>xs.zipWith (λx y=>[x,y]) ys
 | [xs,ys,zs]=>(xs.zip ys).zipWith (λp z=>[p.1,p.2,z]) zs
 |_=>[]
def Y7:List W->R (List Zk)
 | []=>.ok []
 | w::ws=>match C3 w,Y7 ws with
  | .ok x,.ok xs=>.ok (x::xs)
  |_,_=>.stuck
def K9 (ws:Zk):R Zk:=if ws.length=2\/ws.length=3 then (match Y7 ws with
 | .ok xs=>.ok ((ck xs).map W.tup)
 |_=>.stuck) else .stuck
def jf (he:e=.V\/e=.U) (I:PIv K H0 G ρ σ H) (O:H p=none) (r:Reps K (fz e H0 G) vs ws):Ext G H (upd G p (.tup vs)) (upd H p (.tup vs))/\Md K H0 Hs (upd G p (.tup vs)) (upd H p (.tup vs)) (.ref p) (.tup ws) e:=by
 refine ⟨gC I.gh O,?_⟩;have T:G p=none:=I.gh.free O;rcases he with rfl|rfl
 .unfold fz at r;rw[qA2 rfl]at r;show .tup p8 (r.same λb u q=>by rw[e9 (f9 q T)];show q)
 .unfold fz at r;rw[qA4 (show ¬ (Mode.U=Mode.V) by intro z;cases z)]at r
  change Rep K (join H0 (upd G p (.tup vs))) _ _;rw[nA (I.hh.free O)];show .tup p8 (r.same λb u q=>by rw[e9 (f9 (I.join_H b u q) O)];show q)
def uX (he:e=.V\/e=.U) (s1:Sq K Z t a xs) (s2:Sq K Z u b ys) (r1:Reps K (fz e H0 G) xs us) (r2:Reps K (fz e H0 G) ys vs):
  di K e H0 Z G (ItZ K [(t,a),(u,b)]) ((us.zipWith (λx y=>[x,y]) vs).map W.tup):=by
 have O:=tU s1 s2;have l1:=r1.length;have l2:=r2.length;have hl:((us.zipWith (λx y=>[x,y]) vs).map W.tup).length=min xs.length ys.length:=by simp [l1,l2]
 refine ⟨λi H hi z=>O.go i H ox z,λH z=>by rw[hl];show O.stop H z,λi H x H' w hw z y G2 ρ σ I sg=>?_⟩;have hi:i<min xs.length ys.length:=by
  rw[<- hl];show (qA9.mp hw).1
 obtain ⟨p,y1,z1,rfl,hp,rfl,hy,hz⟩:=O.yld i H x H' hi z y;obtain ⟨w1,e1,q1⟩:=Reps.get' r1 hy;obtain ⟨w2,e2,q2⟩:=Reps.get' r2 hz;have T:w=.tup [w1,w2]:=by
  rw[qA6,qJ1,e1,e2]at hw;cases hw;rfl
 subst T;obtain ⟨x1,x2⟩:=jf (Hs:=H) he I hp (.cons (q1.same (N7 sg)) (.cons (q2.same (N7 sg)) .nil));show ⟨_,x1,x2⟩
def uW (he:e=.V\/e=.U) (s1:Sq K Z t a xs) (s2:Sq K Z u b ys) (s3:Sq K Z v c zs) (r1:Reps K (fz e H0 G) xs us) (r2:Reps K (fz e H0 G) ys vs) (r3:Reps K (fz e H0 G) zs ts):
  di K e H0 Z G (ItZ K [(t,a),(u,b),(v,c)]) (((us.zip vs).zipWith (λp z=>[p.1,p.2,z]) ts).map W.tup):=by
 have O:=tS s1 s2 s3;have l1:=r1.length;have l2:=r2.length;have l3:=r3.length;have hl:(((us.zip vs).zipWith (λp z=>[p.1,p.2,z]) ts).map W.tup).length=min xs.length (min ys.length zs.length):=by simp [l1,l2,l3,Nat.min_assoc]
 refine ⟨λi H hi z=>O.go i H ox z,λH z=>by rw[hl];show O.stop H z,λi H x H' w hw z y G2 ρ σ I T=>?_⟩;have hi:i<min xs.length (min ys.length zs.length):=by
  rw[<- hl];show (qA9.mp hw).1
 obtain ⟨p,y1,z1,t1,rfl,hp,rfl,hy,hz,ht⟩:=O.yld i H x H' hi z y;obtain ⟨w1,e1,q1⟩:=Reps.get' r1 hy;obtain ⟨w2,e2,q2⟩:=Reps.get' r2 hz;obtain ⟨w3,e3,q3⟩:=Reps.get' r3 ht;have a0:w=.tup [w1,w2,w3]:=by
  rw[qA6,qJ1,List.zip,qJ1,e1,e2,e3]at hw;cases hw;rfl
 subst a0;obtain ⟨x1,x2⟩:=jf (Hs:=H) he I hp (.cons (q1.same (N7 T)) (.cons (q2.same (N7 T)) (.cons (q3.same (N7 T)) .nil)));show ⟨_,x1,x2⟩
def cG (h:Y7 (w::ws)=.ok xs):∃y ys,C3 w=.ok y/\Y7 ws=.ok ys/\xs=y::ys:=by
 unfold Y7 at h;cases I:C3 w with
 |stuck=>rw[I]at h;cases h
 |ex _=>rw[I]at h;cases h
 | ok y=>
  rw[I]at h;cases O:Y7 ws with
  |stuck=>rw[O]at h;cases h
  |ex _=>rw[O]at h;cases h
  |ok ys=>rw[O]at h;cases h;show ⟨y,ys,rfl,rfl,rfl⟩
def Js (he:e=.V\/e=.U) (h:tIt K EX lp e (λρ=>ma ρ>>=K9) σ H Rr):GG K (tA K EX (dI lp e) ma) σ H Rr:=by
 refine cz h (λH0 G ρ G1 H1 xs ws us I e1 O q o=>?_) (λws e z=>?_)
 .have T:=I.ext e1;unfold K9 at q
  split at q
  .rename_i hn
   cases hs:Y7 ws with
   |stuck=>rw[hs]at q;cases q
   |ex _=>rw[hs]at q;cases q
   | ok ls=>
    rw[hs]at q;cases q;cases O with
    |nil=>simp at hn
    | cons a1 O=>
     cases O with
     |nil=>simp at hn
     | cons a2 O=>
      obtain ⟨y1,ys,h1,a4,rfl⟩:=cG hs;obtain ⟨y2,ys,h2,a0,rfl⟩:=cG a4;obtain ⟨t1,p1,v1,rfl,q1,r1⟩:=Md.src he T a1 h1;obtain ⟨t2,p2,v2,rfl,q2,r2⟩:=Md.src he T a2 h2;have k1:=K8 (jw T) q1;have k2:=K8 (jw T) q2;cases O with
      | nil=>
       cases a0;refine ⟨[(t1,p1),(t2,p2)],rfl,.inl rfl,λu hu=>?_,o _ G1 H1 e1 (uX he q1 q2 r1 r2)⟩;simp only [qB5,qE4,qR2]at hu;rcases hu with rfl|rfl
       .show ⟨_,k1⟩
       .show ⟨_,k2⟩
      | cons a3 O=>
       cases O with
       |cons _ _=>simp at hn
       | nil=>
        obtain ⟨y3,ys,h3,a5,rfl⟩:=cG a0;cases a5;obtain ⟨t3,p3,v3,rfl,q3,r3⟩:=Md.src he T a3 h3;refine ⟨[(t1,p1),(t2,p2),(t3,p3)],rfl,.inr rfl,λu hu=>?_,o _ G1 H1 e1 (uW he q1 q2 q3 r1 r2 r3)⟩;simp only [qB5,qE4,qR2]at hu;rcases hu with rfl|rfl|rfl
        .show ⟨_,k1⟩
        .show ⟨_,k2⟩
        .show ⟨_,K8 (jw T) q3⟩
  .cases q
 .unfold K9 at z
  split at z
  .split at z <;> cases z
  .cases z
def Reps.atI (r:Reps K F vs ws) (h:L2.atI ws i=some w):∃v,L2.atI vs i=some v/\Rep K F v w:=by
 unfold L2.atI at h ⊢;rw[r.length];cases q:ixN ws.length i with
 |none=>rw[q]at h;cases h
 |some j=>rw[q]at h;show Reps.get r h
def fIx:W->W->R W
 | .lst ws,.int i=>toR (L2.atI ws i)
 | .tup ws,.int i=>toR (L2.atI ws i)
 | .scr ws,.int i=>toR (L2.atI ws i)
 |_,_=>.stuck
def FE:Op2 K .B .U (rIx K) fIx:=by
 intro EX H0 Hs G H ρ σ Ha Hb x y u v Q I s mx my o;cases u <;> first|show o.elim|skip
 all_goals (cases v <;> first|show o.elim|skip)
 .rename_i ws i
  obtain ⟨a,vs,rfl,O,r⟩:=mx.tupB I;replace o:Out EX G H (mdW K .U H0 Hs) (toR (L2.atI ws i)) Q:=o
  cases q:L2.atI ws i with
  |none=>rw[q]at o;show o.elim
  | some w=>
   rw[q]at o;obtain ⟨v,T,rv⟩:=r.atI q;show .inr (.inl ⟨a,vs,i,v,rfl,my.intB,SqT.of O,T,o v G H (Ext.refl I.gh) rv⟩)
 .rename_i ws i
  obtain ⟨a,vs,rfl,O,r⟩:=mx.lstB I;replace o:Out EX G H (mdW K .U H0 Hs) (toR (L2.atI ws i)) Q:=o
  cases q:L2.atI ws i with
  |none=>rw[q]at o;show o.elim
  | some w=>
   rw[q]at o;obtain ⟨v,T,rv⟩:=r.atI q;show .inl ⟨a,vs,i,v,rfl,my.intB,SqL.of O,T,o v G H (Ext.refl I.gh) rv⟩
 .rename_i ws i
  obtain ⟨a,vs,rfl,O,r⟩:=mx.scrB I;replace o:Out EX G H (mdW K .U H0 Hs) (toR (L2.atI ws i)) Q:=o
  cases q:L2.atI ws i with
  |none=>rw[q]at o;show o.elim
  | some w=>
   rw[q]at o;obtain ⟨v,T,rv⟩:=r.atI q;show .inl ⟨a,vs,i,v,rfl,my.intB,O,T,o v G H (Ext.refl I.gh) rv⟩
def FC:Op2 K .C .V (rIx K) fIx:=by
 intro EX H0 Hs G H ρ σ Ha Hb x y u v Q I s mx my o;cases u <;> first|show o.elim|skip
 all_goals (cases v <;> first|show o.elim|skip)
 .rename_i ws i
  obtain ⟨a,vs,rfl,O,r⟩:=mx.tupC I;replace o:Out EX G H (mdW K .V H0 Hs) (toR (L2.atI ws i)) Q:=o
  cases q:L2.atI ws i with
  |none=>rw[q]at o;show o.elim
  | some w=>
   rw[q]at o;obtain ⟨v,T,rv⟩:=r.atI q;show .inr (.inl ⟨a,vs,i,v,rfl,Md.intB (Md.CB I my),SqT.of O,T,o v G H (Ext.refl I.gh) rv⟩)
 .rename_i ws i
  obtain ⟨a,vs,rfl,O,r⟩:=mx.lstC I;replace o:Out EX G H (mdW K .V H0 Hs) (toR (L2.atI ws i)) Q:=o
  cases q:L2.atI ws i with
  |none=>rw[q]at o;show o.elim
  | some w=>
   rw[q]at o;obtain ⟨v,T,rv⟩:=r.atI q;show .inl ⟨a,vs,i,v,rfl,Md.intB (Md.CB I my),SqL.of O,T,o v G H (Ext.refl I.gh) rv⟩
 .rename_i ws i
  obtain ⟨a,vs,rfl,O,r⟩:=(Md.repC mx λ_=>W.noConfusion).inv;replace o:Out EX G H (mdW K .V H0 Hs) (toR (L2.atI ws i)) Q:=o
  cases q:L2.atI ws i with
  |none=>rw[q]at o;show o.elim
  | some w=>
    rw[q]at o;obtain ⟨v,T,rv⟩:=r.atI q;show .inl ⟨_,_,i,v,rfl,Md.intB (Md.CB I my),Same.seq I.gh O,T,o v G H (Ext.refl I.gh) rv⟩
def X8 (K:Frag)(EX:EXT)(m:Rho->R VQ):TO:=λσ H Q=>∃H0 G ρ,PIv K H0 G ρ σ H/\Out EX G H (λ(b c:VQ) _ _=>c=b) (m ρ) Q
def lh:W->R VQ
 | .int i=>.ok (some i)
 |_=>.stuck
def yU (h:X8 K EX (λ_=>.ok none) σ H Q):tNoPart σ H Q:=by
 obtain ⟨H0,G,ρ,I,o⟩:=h;show o none G H (Ext.refl I.gh) rfl
def HU (h:X8 K EX (λρ=>m ρ>>=lh) σ H Q):zf (tM K EX .B m) σ H Q:=by
 obtain ⟨H0,G,ρ,I,o⟩:=h;refine ⟨H0,G,ρ,I,Out.bind o λx G1 H1 u T m1 O=>?_⟩;cases u <;> first|show O.elim|skip
 rename_i i
 show ⟨i,m1.intB,O _ G1 H1 (Ext.refl T.gh) rfl⟩
def M8 (xs:Zk)(lo hi:VQ):Zk:=(xs.drop (HT.sIx xs.length 0 lo)).take (HT.sIx xs.length xs.length hi-HT.sIx xs.length 0 lo)
def Reps.cut (r:Reps K F vs ws) (lo hi:VQ):Reps K F (db vs lo hi) (M8 ws lo hi):=by
 unfold db M8;rw[r.length];show (r.drop _).take _
def lstOf:W->Option Zk
 | .lst ws=>some ws
 | .scr ws=>some ws
 |_=>none
def chks (c:Bool)(ws:Zk):R W:=if c||n5 ws then .ok (.lst ws) else .stuck
def cb (c:Bool):Mode:=if c then .C else .B
def Md.lstOf (I:PIv K H0 G ρ σ H) (m:Md K H0 Ha G H x w (cb c)) (h:lstOf w=some ws):∃a vs,x=.ref a/\SqL K H a vs/\Reps K (if c then G else join H0 G) vs ws:=by
 cases c with
 | true=>
  rw[qA2 rfl];cases w <;> first|cases h|skip
  .obtain ⟨a,vs,e,O,r⟩:=Md.lstC (H:=Ha) I m;show ⟨a,vs,e,SqL.of O,r⟩
  .obtain ⟨a,vs,e,O,r⟩:=(Md.repC m λ_=>W.noConfusion).inv;show ⟨a,vs,e,Same.seq I.gh O,r⟩
 | false=>
  rw[qA4 qB0];cases w <;> first|cases h|skip
  .obtain ⟨a,vs,e,O,r⟩:=Md.lstB (H:=Ha) I m;show ⟨a,vs,e,SqL.of O,r⟩
  .show Md.scrB (H:=Ha) I m
def Out.chks {Q:VK}(I:PIv K H0 G ρ σ H) (s:Same Hs H) (r:Reps K (if c then G else join H0 G) vs ws) (o:Out EX G H (mdW K .F H0 Hs) (chks c ws) Q):∀p,H p=none->Q (.ref p) (upd H p (.lst vs)):=by
 unfold TP.chks at o;by_cases n:(c||n5 ws)=true
 .rw [qA2 n]at o
  have O:Reps K G vs ws:=by
   cases c with
   |true=>rw[qA2 rfl]at r;show r
   |false=>rw[qA4 qB0]at r;show Reps.clean I r (by simpa using n)
  show λp T=>Out.newL I s O T o
 .rw[qA4 n]at o;show o.elim
def c_sl (h:tM K EX .F (λρ=>m ρ>>=λx=>ml ρ>>=λl=>mh ρ>>=λu=>toR (lstOf x)>>=λws=>chks c (M8 ws l u)) σ H Q):
  tSl (EG K) (tM K EX (cb c) m) (X8 K EX ml) (X8 K EX mh) σ H Q:=by
 obtain ⟨H0,G,ρ,I,o⟩:=h;refine ⟨H0,G,ρ,I,Out.bind o λx G1 H1 w O m1 o1=>⟨H0,G1,ρ,I.ext O,Out.bind o1 λl' G2 H2 l T m2 o2=>⟨H0,G2,ρ,(I.ext O).ext T,Out.bind o2 λu' G3 H3 u e3 m3 o3=>?_⟩⟩⟩;subst m2;subst m3;have I3:=((I.ext O).ext T).ext e3;cases q:lstOf w with
 |none=>rw[q]at o3;show o3.elim
 | some ws=>
  rw[q]at o3;obtain ⟨a,vs,ex,hs,r⟩:=Md.lstOf I3 ((m1.move T).move e3) q;refine ⟨a,vs,ex,hs,Out.chks I3 ((O.hh.trans T.hh).trans e3.hh) (c:=c) ?_ o3⟩;cases c with
  |true=>rw[qA2 rfl]at r ⊢;show r.cut _ _
  |false=>rw[qA4 qB0]at r ⊢;show r.cut _ _
def Cal (K:Frag) (b d:Mode) (r:List V->Hp->VK->Prop) (f:List W->R W):Prop:=∀(EX:EXT) (H0 Hs G H:Hp) (ρ:Rho) (σ:St) (I:Hp) (vs:List V) (ws:Zk) (Q:VK),PIv K H0 G ρ σ H->Same Hs H->MdA K b H0 I G H ws vs ->
 Out EX G H (mdW K d H0 Hs) (f ws) Q->r vs H Q
def yV (hr:Cal K b d r f) (h:tM K EX d (λρ=>ma ρ>>=λws=>f ws) σ H Q):tCB r (tA K EX b ma) σ H Q:=by
 obtain ⟨H0,G,ρ,I,o⟩:=h;show ⟨H0,G,ρ,I,Out.bind o λxs G1 H1 ws O T o1=>hr EX H0 H G1 H1 ρ σ H xs ws Q (I.ext O) O.hh T o1⟩
def fLen:List W->R W
 | [w]=>C3 w>>=λws=>.ok (.int ws.length)
 |_=>.stuck
def t4:Cal K .B d (λxs H Q=>∃p ys,xs = [.ref p]/\(SqL K H p ys\/SqT K H p ys)/\Q (.int ys.length) H) fLen:=by
 intro EX H0 Hs G H ρ σ T vs ws Q I s m o;cases m with
 |nil=>show o.elim
 | cons a t=>
  cases t with
  |cons _ _=>show o.elim
  | nil=>
   rename_i w v
   cases w <;> first|show o.elim|skip
   .obtain ⟨p,ys,rfl,O,r⟩:=a.tupB I;show ⟨p,ys,rfl,.inr (SqT.of O),by rw[r.length];show o _ G H (Ext.refl I.gh) (Md.sca rfl (λ_=>.int) d)⟩
   .obtain ⟨p,ys,rfl,O,r⟩:=a.lstB I;show ⟨p,ys,rfl,.inl (SqL.of O),by rw[r.length];show o _ G H (Ext.refl I.gh) (Md.sca rfl (λ_=>.int) d)⟩
   .obtain ⟨p,ys,rfl,O,r⟩:=a.scrB I;show ⟨p,ys,rfl,.inl O,by rw[r.length];show o _ G H (Ext.refl I.gh) (Md.sca rfl (λ_=>.int) d)⟩
def zL (c:Bool):List W->R W
 | [w]=>C3 w>>=chks c
 |_=>.stuck
def aL (c:Bool)(ws:Zk):R W:=if c||n5 ws then .ok (.tup ws) else .stuck
def B9 (c:Bool):List W->R W
 | [w]=>C3 w>>=aL c
 |_=>.stuck
def B6:Cal K (cb c) .F (λxs H Q=>∃p ys,xs = [.ref p]/\((SqL K H p ys/\∀l,H l=none->Q (.ref l) (upd H l (.tup ys)))\/(SqT K H p ys/\Q (.ref p) H))) (B9 c):=by
 intro EX H0 Hs G H ρ σ Ha vs ws Q I s m o;have a0:∀{vs:List V}{us:Zk},Reps K (if c then G else join H0 G) vs us->Out EX G H (mdW K .F H0 Hs) (aL c us) Q->Reps K G vs us/\Out EX G H (mdW K .F H0 Hs) (.ok (.tup us)) Q:=λ{vs us} r o=>by
  unfold aL at o;by_cases n:(c||n5 us)=true
  .rw [qA2 n]at o
   refine ⟨?_,o⟩;cases c with
   |true=>rw[qA2 rfl]at r;show r
   |false=>rw[qA4 qB0]at r;show Reps.clean I r (by simpa using n)
  .rw[qA4 n]at o;show o.elim
 cases m with
 |nil=>show o.elim
 | cons a t=>
  cases t with
  |cons _ _=>show o.elim
  | nil=>
   rename_i w v
   cases w <;> first|show o.elim|skip
   .rename_i us
    have hx:∃p ys,v=.ref p/\(if c then G else join H0 G) p=some (.tup ys)/\Reps K (if c then G else join H0 G) ys us:=by
     cases c with
     |true=>rw[qA2 rfl];show (Md.repC a λ_=>W.noConfusion).inv
     |false=>rw[qA4 qB0];show (Md.repB a λ_=>W.noConfusion).inv
    obtain ⟨p,ys,rfl,O,r⟩:=hx;obtain ⟨r',o'⟩:=a0 r o;have hH:H p=some (.tup ys):=by
     cases c with
     |true=>rw[qA2 rfl]at O;show I.gh _ _ O
     |false=>rw[qA4 qB0]at O;show I.join_H _ _ O
    have hG:G p=some (.tup ys):=by
     cases c with
     |true=>rw[qA2 rfl]at O;show O
     | false=>
      rw[qA4 qB0]at O;unfold join at O;cases q:H0 p with
      |none=>rw[q]at O;show O
      | some u=>
       rw[q]at O;dsimp only at O;by_cases T:isL u=true
       .rw[qA2 T]at O;cases O;cases T
       .rw[qA4 T]at O;show O
    show ⟨p,ys,rfl,.inr ⟨SqT.of hH,o' _ G H (Ext.refl I.gh) (.tup hG r')⟩⟩
   .obtain ⟨p,ys,rfl,hs,r⟩:=Md.lstOf I a rfl;obtain ⟨r',o'⟩:=a0 r o;show ⟨p,ys,rfl,.inl ⟨hs,λl T=>Out.newTF I r' T o'⟩⟩
   .obtain ⟨p,ys,rfl,hs,r⟩:=Md.lstOf I a rfl;obtain ⟨r',o'⟩:=a0 r o;show ⟨p,ys,rfl,.inl ⟨hs,λl T=>Out.newTF I r' T o'⟩⟩
def f2 (g:Int->Int->Int):List W->R W
 | [.int i,.int j]=>.ok (.int (g i j))
 |_=>.stuck
def b_2:Cal K .B d (λxs H Q=>∃i j,xs = [.int i,.int j]/\Q (.int (g i j)) H) (f2 g):=by
 intro EX H0 Hs G H ρ σ O vs ws Q I s m o;unfold f2 at o
 split at o
 .cases m with
  | cons a t=>
   cases t with
   | cons b t=>
    cases t;show ⟨_,_,by rw[a.intB,b.intB],o _ G H (Ext.refl I.gh) (Md.sca rfl (λ_=>.int) d)⟩
 .show o.elim
def tyW:W->Option String
 | .non=>some "NoneType"
 | .bl _=>some "bool"
 | .int _=>some "int"
 | .str _=>some "str"
 | .tup _=>some "tuple"
 | .lst _=>some "list"
 |_=>none
def fIsi:List W->R W
 | [x,.ty T]=>toR ((tyW x).bind λA=>A8 A T)>>=λb=>.ok (.bl b)
 |_=>.stuck
def Du (I:PIv K H0 G ρ σ H) (m:Md K H0 Ha G H v w .B) (h:tyW w=some A):L2.tyB H v=some A:=by
 cases w <;> first|cases h|skip
 .rw[m.nonB];rfl
 .rw[m.blB];rfl
 .rw[m.intB];rfl
 .rw[m.strB];rfl
 .obtain ⟨a,vs,rfl,O,r⟩:=m.tupB I
  change L2.tyO (H a)=_;rw[O];rfl
 .obtain ⟨a,vs,rfl,O,r⟩:=m.lstB I
  change L2.tyO (H a)=_;rw[O];rfl
def iM:Cal K .B d rIsi fIsi:=by
 intro EX H0 Hs G H ρ σ Ha vs ws Q I s m o;cases m with
 |nil=>show o.elim
 | @cons x _ _ _ a t=>
  cases t with
  |nil=>show o.elim
  | @cons y _ _ _ b t=>
   cases t with
   |cons _ _=>first|show o.elim | (cases y <;> show o.elim)
   | nil=>
    cases y <;> first|show o.elim|skip
    rename_i T
    replace o:Out EX G H (mdW K d H0 Hs) (toR ((tyW x).bind λA=>A8 A T)>>=λb=>.ok (.bl b)) Q:=o
    cases q:tyW x with
    |none=>rw[q]at o;show o.elim
    | some A=>
     rw[q]at o;replace o:Out EX G H (mdW K d H0 Hs) (toR (A8 A T)>>=λb=>.ok (.bl b)) Q:=o
     cases O:A8 A T with
     |none=>rw[O]at o;show o.elim
     | some c=>
      rw[O]at o;show ⟨_,T,by rw[b.tyB],A,Du I a q,c,O,o _ G H (Ext.refl I.gh) (Md.sca rfl (λ_=>.bl) d)⟩
def rL (c:Bool):W->W->R W
 | .lst us,.lst vs=>if us.length+vs.length<=1000 then chks c (us++vs) else .stuck
 |_,_=>.stuck
def FF:Op2 K (cb c) .F rCat (rL c):=by
 intro EX H0 Hs G H ρ σ Ha T x y u v Q I s mx O o;cases u <;> first|show o.elim|skip
 all_goals (cases v <;> first|show o.elim|skip)
 rename_i us vs
 replace o:Out EX G H (mdW K .F H0 Hs) (if us.length+vs.length<=1000 then chks c (us++vs) else .stuck) Q:=o
 by_cases hn:us.length+vs.length<=1000
 .rw [qA2 hn]at o
  have h1:∃a ws,x=.ref a/\H a=some (.lst ws)/\Reps K (if c then G else join H0 G) ws us:=by
   cases c with
   |true=>show Md.lstC (H:=Ha) I mx
   |false=>show Md.lstB (H:=Ha) I mx
  have h2:∃a ws,y=.ref a/\H a=some (.lst ws)/\Reps K (if c then G else join H0 G) ws vs:=by
   cases c with
   |true=>show Md.lstC (H:=T) I O
   |false=>show Md.lstB (H:=T) I O
  obtain ⟨a,xs,rfl,ha,ra⟩:=h1;obtain ⟨b,ys,rfl,hb,rb⟩:=h2;show ⟨a,b,xs,ys,rfl,rfl,ha,hb,by rw[ra.length,rb.length];show V0 hn,Out.chks I s (ra.append rb) o⟩
 .rw[qA4 hn]at o;show o.elim
def Reps.rep (r:Reps K F vs ws):∀k:Nat,Reps K F (List.replicate k vs).flatten (List.replicate k ws).flatten
 |0=>.nil
 |k+1=>by rw[qE7,qE7,qG8,qG8];show r.append (Reps.rep r k)
def gM (c:Bool):W->W->R W
 | .lst us,.int k=>if us.length*k.toNat<=1000 /\ -1000<=k/\k<=1000 then chks c (List.replicate k.toNat us).flatten else .stuck
 |_,_=>.stuck
def mR:Op2 K (cb c) .F rRep (gM c):=by
 intro EX H0 Hs G H ρ σ Ha T x y u v Q I s mx O o;cases u <;> first|show o.elim|skip
 all_goals (cases v <;> first|show o.elim|skip)
 rename_i us k
 replace o:Out EX G H (mdW K .F H0 Hs) (if us.length*k.toNat<=1000 /\ -1000<=k/\k<=1000 then chks c (List.replicate k.toNat us).flatten else .stuck) Q:=o
 by_cases hn:us.length*k.toNat<=1000 /\ -1000<=k/\k<=1000
 .rw [qA2 hn]at o
  have h1:∃a ws,x=.ref a/\H a=some (.lst ws)/\Reps K (if c then G else join H0 G) ws us:=by
   cases c with
   |true=>show Md.lstC (H:=Ha) I mx
   |false=>show Md.lstB (H:=Ha) I mx
  have h2:y=.int k:=by
   cases c with
   |true=>show Md.intB (Md.CB (H:=T) I O)
   |false=>show Md.intB (H:=T) O
  obtain ⟨a,xs,rfl,ha,ra⟩:=h1;subst h2;show ⟨a,k,xs,rfl,rfl,ha,ox,ox,by rw[ra.length];show V0 hn.1,Out.chks I s (ra.rep _) o⟩
 .rw[qA4 hn]at o;show o.elim
def mC (w:W):Zx:=λ_=>.ok w
def b1 (f:W->R W)(ma:Zx):Zx:=λρ=>ma ρ>>=λx=>f x
def b2 (f:W->W->R W)(ma mb:Zx):Zx:=λρ=>ma ρ>>=λx=>mb ρ>>=λy=>f x y
def bA (f:List W->R W)(ma:Zp):Zx:=λρ=>ma ρ>>=λws=>f ws
def bI (f:List W->R Zk)(ma:Zp):Zp:=λρ=>ma ρ>>=f
def bS (ma:Zx):Zp:=λρ=>ma ρ>>=C3
def aN:Zp:=λ_=>.ok []
def aC (ma:Zx)(I:Zp):Zp:=λρ=>ma ρ>>=λx=>I ρ>>=λxs=>.ok (x::xs)
def V3 (ma:Zx):Zx:=λρ=>ma ρ>>=chk
def g8 (ma:Zx):Zo:=λρ=>ma ρ>>=toB
def fm (a b:Zo):Zo:=λρ=>jg (a ρ) (b ρ)
def Q3 (a b:Zo):Zo:=λρ=>rOr (a ρ) (b ρ)
def D8 (a:Zo):Zo:=λρ=>qI (a ρ)
def iX (a b:Zx):Zx:=λρ=>fu (a ρ) (b ρ)
def vOr (a b:Zx):Zx:=λρ=>mf (a ρ) (b ρ)
def vNot (a:Zx):Zx:=λρ=>qH (a ρ)
def vIf (c:Zo)(a b:Zx):Zx:=λρ=>c ρ>>=λt=>if t then a ρ else b ρ
def gR (f I:W->W->R W)(ma mb mc:Zx):Zx:=λρ=>ma ρ>>=λx=>mb ρ>>=λy=>f x y>>=λz=>toB z>>=λc=>if c then mc ρ>>=λu=>I y u else .ok (.bl false)
def G7 (ma:Zp):Zx:=λρ=>ma ρ>>=λws=>lim ws.length (.tup ws)
def C2 (ma:Zp):Zx:=λρ=>ma ρ>>=λws=>lim ws.length (.lst ws)
def pN:Rho->R VQ:=λ_=>.ok none
def pS (m:Zx):Rho->R VQ:=λρ=>m ρ>>=lh
def vSl (c:Bool)(m:Zx)(O I:Rho->R VQ):Zx:=λρ=>m ρ>>=λx=>O ρ>>=λl=>I ρ>>=λu=>toR (lstOf x)>>=λws=>chks c (M8 ws l u)
def j8 (n:Nat)(I:Zp)(mg:Zg)(mc:Zo)(me:Zx):Zx:=λρ=>I ρ>>=λws=>j6 n mg mc me ws ρ
def yes:Zo:=λ_=>.ok true
def sNx:Zy:=λρ=>.ok (.nx ρ)
def IG (m:Zx):Zy:=λρ=>m ρ>>=λ_=>.ok (.nx ρ)
def j3 (m:Zx):Zy:=λρ=>m ρ>>=λw=>.ok (.rt w)
def ID:Zy:=λ_=>.ok (.rt .non)
def sV (i:Nat)(m:Zx):Zy:=λρ=>m ρ>>=λw=>.ok (.nx (ρ.set i (.val w)))
def sU (i:Nat)(m:Zx):Zy:=λρ=>m ρ>>=λw=>.ok (.nx (ρ.set i (.par w)))
def sF (i:Nat)(m:Zx):Zy:=λρ=>m ρ>>=λw=>.ok (.nx (ρ.set i (R9 w)))
def sG (mg:Zg)(m:Zx):Zy:=λρ=>m ρ>>=λw=>toR (mg w ρ)>>=λI=>.ok (.nx I)
def C4 (I:Zp)(mg:Zg)(mb:Zy):Zy:=λρ=>I ρ>>=λws=>M4 mg mb ws ρ
def dN (i:Nat)(m:Zy):Zy:=λρ=>m (frz i ρ)
def tQ:Zy:=λ_=>.stuck
def sBk:Zy:=λρ=>.ok (.bk ρ)
def sCt:Zy:=λρ=>.ok (.ct ρ)
def _root_.L2.PE.mono {X:Cx}{e:Expr}{t t':TE}(h:PE X e t)(hm:∀σ H Q,t' σ H Q->t σ H Q):PE X e t':=λpins s σ H Q I q=>h pins s σ H Q I (hm σ H Q q)
def _root_.L2.PT.mono {X:Cx}{e:Expr}{t t':TT}(h:PT X e t)(hm:∀σ H Q,t' σ H Q->t σ H Q):PT X e t':=λpins s σ H Q I q=>h pins s σ H Q I (hm σ H Q q)
def _root_.L2.PW.mono {X:Cx}{e:Expr}{t t':TT}(h:PW X e t)(hm:∀σ H Q,t' σ H Q->t σ H Q):PW X e t':=λO pins s σ H Q I q=>h O pins s σ H Q I (hm σ H Q q)
def _root_.L2.PA.mono {X:Cx}{es:VV}{t t':TA}(h:PA X es t)(hm:∀σ H Q,t' σ H Q->t σ H Q):PA X es t':=λpos pins s σ H Q I q=>h pos pins s σ H Q I (hm σ H Q q)
def _root_.L2.PS.mono {X:Cx}{st:Stmt}{t t':TS}(h:PS X st t)(hm:∀D σ H,t' D σ H->t D σ H):PS X st t':=λpins s σ H D I q=>h pins s σ H D I (hm D σ H q)
def _root_.L2.PSs.mono {X:Cx}{O:List Stmt}{t t':TS}(h:PSs X O t)(hm:∀D σ H,t' D σ H->t D σ H):PSs X O t':=λpins s σ H D I q=>h pins s σ H D I (hm D σ H q)
def _root_.L2.PI.mono {X:Cx}{e:Expr}{tg:Expr}{t t':TI}(h:PI X tg e t)(hm:∀σ H Q,t' σ H Q->t σ H Q):PI X tg e t':=λpins s σ H Q I q=>h pins s σ H Q I (hm σ H Q q)
def _root_.L2.PO.mono {X:Cx}{O:Option Expr}{t t':TO}(h:PO X O t) (hm:∀σ H Q,t' σ H Q->t σ H Q):PO X O t':=by
 intro pins s σ H Q I q;show h pins s σ H Q I (hm σ H Q q)
def B8 (h:PE X e (tM K EX .F ma)):PE X e (tM K EX .V ma):=h.mono λ_ _ _ q=>By q
def jj (h:PE X e (tM K EX .V ma)):PE X e (tM K EX .U ma):=h.mono λ_ _ _ q=>Bv q
def xp (h:PE X e (tM K EX .V ma)):PE X e (tM K EX .C ma):=h.mono λ_ _ _ q=>Bw q
def h7 (h:PE X e (tM K EX .F ma)):PE X e (tM K EX .C ma):=h.mono λ_ _ _ q=>Bz q
def f6 (h:PE X e (tM K EX .U ma)):PE X e (tM K EX .B ma):=h.mono λ_ _ _ q=>Bx q
def l9 (h:PE X e (tM K EX .C ma)):PE X e (tM K EX .B ma):=h.mono λ_ _ _ q=>BA q
def S6 (h:PE X e (tM K EX .U ma)):PE X e (tM K EX .V (V3 ma)):=h.mono λ_ _ _ q=>mX (.inr rfl) q
def Fa (h:PE X e (tM K EX .U ma)):PE X e (tM K EX .F (V3 ma)):=h.mono λ_ _ _ q=>mX (.inl rfl) q
def qv {X:Cx}{K:Frag}{EX:EXT}{pos:Pos}(d:Mode)(i:Nat){x:Str}(O:X.N[i]?=some x:=by rfl)(T:Vis X.env.scope x:=by first|show Or.inl rfl|show Or.inr (Or.inl rfl)|show Or.inr (Or.inr rfl))(hd:(x == ("__debug__" : Str))=false:=by decide)(I:(x == ("__classdict__" : Str))=false:=by decide):PE X (.Name x pos) (tM K EX d (b8 d i)):=(ay O T hd I).mono λ_ _ _ q=>lr q
def d6 {i j}:PE X (.Constant (.int i) j pos) (tM K EX d (mC (.int i))):=pe_int.mono λ_ _ _ q=>ci rfl (λ_=>.int) q
def S7 {t j}:PE X (.Constant (.bool t) j pos) (tM K EX d (mC (.bl t))):=pe_bl.mono λ_ _ _ q=>ci rfl (λ_=>.bl) q
def v7 {j}:PE X (.Constant .none j pos) (tM K EX d (mC .non)):=pe_non.mono λ_ _ _ q=>ci rfl (λ_=>.non) q
def P7 {x j}:PE X (.Constant (.str x) j pos) (tM K EX d (mC (.str x))):=pe_str.mono λ_ _ _ q=>ci rfl (λ_=>.str) q
def mm {X:Cx}{K:Frag}{EX:EXT}{d:Mode}{pos:Pos}{x:Str}{n:String}(I:Gl X x) (hm:X.mg x=none) (O:bootBuiltins x=some (.type n)) (hn:x ≠ "__name__" := by decide) (hd:(x == ("__debug__" : Str))=false:=by decide):PE X (.Name x pos) (tM K EX d (mC (.ty n))):=
 (Be (v:=.ty n) I hm O rfl hn hd).mono λ_ _ _ q=>ci rfl (λ_=>.ty) q
def g9 (I:OpR X (binaryOp op) r) (T:Op2 K b d r f) (ha:PE X a (tM K EX b ma)) (O:PE X c (tM K EX b mb)):PE X (.BinOp a op c pos) (tM K EX d (b2 f ma mb)):=
 (IS I ha O).mono λ_ _ _ q=>nY T q
def L3 (I:OpR X (compareOp op) r) (T:Op2 K b d r f) (ha:PE X a (tM K EX b ma)) (O:PE X c (tM K EX b mb)) (hm:behindInMarks op c=false:=by first|show uF _|rfl):PE X (.Compare a [op] [c] pos) (tM K EX d (b2 f ma mb)):=
 (Bd I ha O hm).mono λ_ _ _ q=>nY T q
def i6 (O:OpR X (compareOp op) r) (hr:Op2 K b .B r f) (ha:PE X a (tM K EX b ma)) (T:PE X c (tM K EX b mb)) (hm:behindInMarks op c=false:=by first|show uF _|rfl):PT X (.Compare a [op] [c] pos) (tT K EX (g8 (b2 f ma mb))):=
 (AT O ha T hm).mono λσ H Q q=>by
  obtain ⟨H0,G,ρ,I,o⟩:=q
  have:=nW (ma:=b2 f ma mb) ⟨H0,G,ρ,I,o⟩
  show nY hr this
def bq (I:UnR X (unaryOp op) r) (O:Op1 K b d r f) (ha:PE X a (tM K EX b ma)):PE X (.UnaryOp op a pos) (tM K EX d (b1 f ma)):=
 (IR I ha).mono λ_ _ _ q=>c_un O q
def C6 (ha:PE X a (tM K EX .B ma)) (I:∀whole,isTrue a X.env whole=(do let v <- whole;standAt a.pos;holding [v] (truthy v)):=by intro _;rfl):PT X a (tT K EX (g8 ma)):=
 (Ff ha I).mono λ_ _ _ q=>c_tB q
def fw (ha:PT X a (tT K EX ta)):PW X (.BoolOp .And [a] pos) (tT K EX ta):=AS ha
def P0 (ha:PT X a (tT K EX ta)):PW X (.BoolOp .Or [a] pos) (tT K EX ta):=Fd ha
def ic {rest:VV}(ha:PT X a (tT K EX ta))(I:PW X (.BoolOp .And (b::rest) pos) (tT K EX tb)):PW X (.BoolOp .And (a::b::rest) pos) (tT K EX (fm ta tb)):=(Fe ha I).mono λ_ _ _ q=>JK q
def N4 {rest:VV}(ha:PT X a (tT K EX ta))(I:PW X (.BoolOp .Or (b::rest) pos) (tT K EX tb)):PW X (.BoolOp .Or (a::b::rest) pos) (tT K EX (Q3 ta tb)):=(IL ha I).mono λ_ _ _ q=>c_or q
def C0 (ha:PT X a (tT K EX ta)):PT X (.UnaryOp .Not a pos) (tT K EX (D8 ta)):=(Fg ha).mono λ_ _ _ q=>Jz q
def qL {op}(h:PE X a (tM K EX d ma)):PE X (.BoolOp op [a] pos) (tM K EX d ma):=Fs h
def lg {rest:VV}(ha:PE X a (tM K EX .B ma))(I:PE X (.BoolOp .And (b::rest) pos) (tM K EX d mb)):PE X (.BoolOp .And (a::b::rest) pos) (tM K EX d (iX ma mb)):=(Fv ha I).mono λ_ _ _ q=>Ib q
def ji (I:PT X t (tT K EX ta))(ha:PE X a (tM K EX d ma))(O:PE X c (tM K EX d mb)):PE X (.IfExp t a c pos) (tM K EX d (vIf ta ma mb)):=(xy I ha O).mono λ_ _ _ q=>c_if q
def xo {X:Cx}{K:Frag}{EX:EXT}{b:Mode}{pos:Pos}{ma mb mc:Zx}{op O:CmpOp}{r r':R2}{f T:W->W->R W}{x y z:Expr}(ho:OpR X (compareOp op) r) (hr:Op2 K b .B r f) (a3:OpR X (compareOp O) r') (a0:Op2 K b .B r' T) (ha:PE X x (tM K EX b ma)) (hb:PE X y (tM K EX b mb)) (hc:PE X z (tM K EX b mc)) (hm:lastMarks [op,O] [y,z]=false:=by with_unfolding_all rfl):PT X (.Compare x [op,O] [y,z] pos) (tT K EX (g8 (gR f T ma mb mc))):=
 (xq ho a3 ha hb hc hm).mono λσ H Q q=>by
  obtain ⟨H0,G,ρ,I,o⟩:=q
  have:=nW (ma:=gR f T ma mb mc) ⟨H0,G,ρ,I,o⟩
  show CM hr a0 this
def b9:PA X [] (tA K EX d aN):=pa_nil.mono λ_ _ _ q=>JA q
def b7 (ha:PE X e (tM K EX d ma))(O:PA X es (tA K EX d mr))(I:starEach (e::es) X.env=(false,eval e X.env)::starEach es X.env:=by rfl):PA X (e::es) (tA K EX d (aC ma mr)):=(fB ha O I).mono λ_ _ _ q=>HY q
def F2 {x1}(h:PA X es (tA K EX .V mr)):PE X (.Tuple es x1 pos) (tM K EX .F (G7 mr)):=(um h).mono λ_ _ _ q=>Jt q
def EO {x1}(h:PA X es (tA K EX .U mr)):PE X (.Tuple es x1 pos) (tM K EX .U (G7 mr)):=(um h).mono λ_ _ _ q=>HM q
def B0 (h:PA X es (tA K EX .V mr)):PE X (.List es pos) (tM K EX .F (C2 mr)):=(Ft h).mono λ_ _ _ q=>JB q
def d8 {X:Cx}{K:Frag}{EX:EXT}{a c:Expr}{pos:Pos}{ma mb:Zx}(ha:PE X a (tM K EX .B ma)) (T:PE X c (tM K EX .B mb)) (O:jQ c:=by show λ_ _=>rfl) (I:X.K=K:=by rfl):PE X (.Subscript a c pos) (tM K EX .U (b2 fIx ma mb)):=by
 subst I;show (zy uV ha T O).mono λ_ _ _ q=>nY FE q
def cK {X:Cx}{K:Frag}{EX:EXT}{a c:Expr}{pos:Pos}{ma mb:Zx}(ha:PE X a (tM K EX .C ma)) (T:PE X c (tM K EX .C mb)) (O:jQ c:=by show λ_ _=>rfl) (I:X.K=K:=by rfl):PE X (.Subscript a c pos) (tM K EX .V (b2 fIx ma mb)):=by
 subst I;show (zy uV ha T O).mono λ_ _ _ q=>nY FC q
def mw:PO X none (X8 K EX pN):=po_none.mono λ_ _ _ q=>yU q
def mq (h:PE X e (tM K EX .B ma)):PO X (some e) (X8 K EX (pS ma)):=(AV h).mono λ_ _ _ q=>HU q
def qK {X:Cx}{K:Frag}{EX:EXT}{e:Expr}{pos:Pos}{ma:Zx}(k:Bool){lo hi:Option Expr}{T:Pos}{O I:Rho->R VQ}(he:PE X e (tM K EX (cb k) ma)) (hl:PO X lo (X8 K EX O)) (hu:PO X hi (X8 K EX I)) (hK:X.K=K:=by rfl):PE X (.Subscript e (.Slice lo hi none T) pos) (tM K EX .F (vSl k ma O I)):=by
 subst hK;show (mE Ao he hl hu).mono λ_ _ _ q=>c_sl q
def n9 {X:Cx}{K:Frag}{EX:EXT}{d b:Mode}{e:Expr}{es:VV}{pos:Pos}{T:Zp}{x:Str}{id:String}{r:List V->Hp->VK->Prop}{f:List W->R W}{p:Pos}(hc:K6 X (.builtin id) r) (hr:Cal K b d r f) (hg:Gl X x) (hm:X.mg x=none) (hv:bootBuiltins x=some (.builtin id)) (ha:PA X (e::es) (tA K EX b T)) (hn:x ≠ "__name__" := by decide) (I:(x == ("__debug__" : Str))=false:=by decide) (he:starEach (e::es) X.env=(false,eval e X.env)::starEach es X.env:=by rfl) (O:(backTo pos (starEach es X.env)).any (·.1)=false:=by rfl):
  PE X (.Call (.Name x p) (e::es) [] pos) (tM K EX d (bA f T)):=(xz hc hg hm hv ha hn I he O).mono λ_ _ _ q=>yV hr q
def D6 {X:Cx}{K:Frag}{EX:EXT}{d b:Mode}{e:Expr}{es:VV}{pos:Pos}{mr:Zp}{x:Str}{T:String}{r:List V->Hp->VK->Prop}{f:List W->R W}{p:Pos}(hc:K6 X (.type T) r) (hr:Cal K b d r f) (hg:Gl X x) (hm:X.mg x=none) (hv:bootBuiltins x=some (.type T)) (ha:PA X (e::es) (tA K EX b mr)) (hn:x ≠ "__name__" := by decide) (I:(x == ("__debug__" : Str))=false:=by decide) (he:starEach (e::es) X.env=(false,eval e X.env)::starEach es X.env:=by rfl) (O:(backTo pos (starEach es X.env)).any (·.1)=false:=by rfl):
  PE X (.Call (.Name x p) (e::es) [] pos) (tM K EX d (bA f mr)):=(uo hc hg hm hv ha hn I he O).mono λ_ _ _ q=>yV hr q
def t5 (I:X.K=K:=by rfl):K6 X (.builtin "len") (λxs H Q=>∃p ys,xs = [.ref p]/\(SqL K H p ys\/SqT K H p ys)/\Q (.int ys.length) H):=by subst I;show nV
def B7 (I:X.K=K:=by rfl):K6 X (.type "tuple") (λxs H Q=>∃p ys,xs = [.ref p]/\((SqL K H p ys/\∀l,H l=none->Q (.ref l) (upd H l (.tup ys)))\/(SqT K H p ys/\Q (.ref p) H))):=by subst I;show kY
def Fb {X:Cx}{K:Frag}{d:Mode}{e:Expr}{es:VV}{pos:Pos}{T:Zp}{k:Nat}{f:Addr}{fd:FuncData}{ps:VJ}{x:Str}{p:Pos}{n N:Nat}{m:Zy}(F:FnOk X.prog X.w X.K X.mg X.base CX0 k f fd ps (spM K n d (i4 n N m))) (hd:d=.F\/d=.V) (hr:Room k X.A) (hg:Gl X x) (hm:X.mg x=some (.ref f)) (hk:PySem.W.keepIn X.K (.ref f)=true) (hb:Binds X.K fd ps []) (ha:PA X (e::es) (tA K (λ_ _=>False) .B T)) (I:(x == ("__debug__" : Str))=false:=by decide) (he:starEach (e::es) X.env=(false,eval e X.env)::starEach es X.env:=by rfl) (O:(backTo pos (starEach es X.env)).any (·.1)=false:=by rfl):
  PE X (.Call (.Name x p) (e::es) [] pos) (tM K (λ_ _=>False) d (bA (i4 n N m) T)):=
 (pi F hr hg hm hk hb .nil qP ha I he O).mono λ_ _ _ q=>HZ hd (λws h=>wT ws h) (λ_ _ z=>z) q
def zu (h:PE X e (tM K EX (dI lp .U) ma))(I:X.K=K:=by rfl):PI X tg e (tIt K EX lp .U (bS ma)):=by subst I;show (IQ h).mono λ_ _ _ q=>JE (.inr rfl) q
def x6 (O:Gl X "range") (hm:X.mg "range" = none) (ha:PA X [a] (tA K EX .B mr)) (I:starEach [a] X.env = [(false,eval a X.env)]:=by rfl):PI X tg (.Call (.Name "range" p) [a] [] pos) (tIt K EX lp .U (bI C5 mr)):=
 (ul O hm ha I).mono λ_ _ _ q=>HR (.inr rfl) q
def zp {X:Cx}{K:Frag}{EX:EXT}{a:Expr}{es:VV}{pos:Pos}{O:Zp}{lp:Bool}{elts:VV}{p tp:Pos}{k:Nat}(hg:Gl X "zip") (hm:X.mg "zip" = none) (ha:PA X (a::es) (tA K EX (dI lp .U) O)) (hK:X.K=K:=by rfl) (T:starEach (a::es) X.env=(false,eval a X.env)::starEach es X.env:=by rfl) (I:(backTo pos (starEach es X.env)).any (·.1)=false:=by rfl):
  PI X (.Tuple elts k tp) (.Call (.Name "zip" p) (a::es) [] pos) (tIt K EX lp .U (bI K9 O)):=by subst hK;show (Fo hg hm ha T I).mono λ_ _ _ q=>Js (.inr rfl) q
def EZ (S:f7 X.env.scope cs X.N N') (hc:X.calm=true) (hi:PI X tg iter (tIt K EX false dd mi)) (hg:∀cl ex s H,PG (m9 X cs cl N' ex s H) tg g) (I:Gt K dd g mg) (hk:K5 X.N.length g) (O:∀cl ex s H,PIf (m9 X cs cl N' ex s H) ifs (tT K EX ta)) (he:∀cl ex s H,PE (m9 X cs cl N' ex s H) elt (tM K EX .V ma)) (T:∀x,foldedSetIterable iter X.env x=pure x:=by intro _;rfl):PE X (.ListComp elt [⟨tg,iter,ifs,0⟩] cs pos) (tM K EX .F (j8 N'.length mi mg ta ma)):=
 (Bc S hc hi hg hk O he T).mono λ_ _ _ q=>nZ I q
def EQ {X:Cx}{K:Frag}{EX:EXT}{d:Mode}{pos:Pos}{ma:Zx}{ta:Zo}{i:Nat}{y:Str}{py:Pos}{cs:Scope}{N':VJ}{tg iter T:Expr}{O:VV}{dd:Mode}{g:TG}{mg:Zg}{mi:Zp}{I:Pos}(S:f7 X.env.scope cs X.N N') (hc:X.calm=true) (hi:PI X tg iter (tIt K EX false dd mi)) (hg:∀cl ex s H,PG (m9 X cs cl N' ex s H) tg g) (a0:Gt K dd g mg) (hk:K5 X.N.length g) (ht:∀cl ex s H,PIf (m9 X cs cl N' ex s H) O (tT K EX ta)) (he:∀cl ex s H,PE (m9 X cs cl N' ex s H) T (tM K EX .V ma)) (hN:X.N.Nodup) (hy:X.N[i]?=some y) (hl:Loc X.env.scope y) (a3:swapsWith (.ListComp T [⟨tg,iter,O,0⟩] cs I) (some (.Name y py)) pos.line X.env=pure true:=by rfl) (hf:X.fn y=true\/X.env.scope.names.lookup y=some .local:=by first|show .inl rfl|show .inr rfl|assumption) (hs:∀x,foldedSetIterable iter X.env x=pure x:=by intro _;rfl):PS X (.Assign [.Name y py] (.ListComp T [⟨tg,iter,O,0⟩] cs I) pos) (tSt K EX d (sF i (j8 N'.length mi mg ta ma))):=
 (AU S hc hi hg hk ht he hN hy hl a3 hf hs).mono λD σ H q=>by
  have:=nX (m:=j8 N'.length mi mg ta ma) q
  show nZ a0 this
def n6:PIf X [] (tT K EX yes):=λpins s σ H Q I q=>AZ pins s σ H Q I (by obtain ⟨H0,G,ρ,O,o⟩:=q;show o true G H (Ext.refl O.gh) rfl)
def bM (h:PT X c (tT K EX ta)):PIf X [c] (tT K EX ta):=AY h
def o9:PSs X [] (tSt K EX d sNx):=pss_nil.mono λ_ _ _ q=>HV q
def c9 (I:PS X st (tSt K EX d m))(O:PSs X sts (tSt K EX d n)):PSs X (st::sts) (tSt K EX d (d9 m n)):=(mz I O).mono λ_ _ _ q=>Jw q
def d5 (I:PS X st (tSt K EX d m)):PSs X [st] (tSt K EX d m):=oZ I
def fx (h:PS X st (tSt K EX d m)):PS X st (tSt K EX d (dN i m)):=h.mono λ_ _ _ q=>JF q
def AO:PS X st (tSt K EX d tQ):=ps_never.mono λ_ _ _ q=>CK q
def h9 (I:PE X e (tM K EX d ma)):PS X (.Return (some e) pos) (tSt K EX d (j3 ma)):=(uf I).mono λ_ _ _ q=>zP q
def F3 {X:Cx}{K:Frag}{EX:EXT}{d:Mode}{pos:Pos}(i:Nat){x:Str}{p:Pos}(hd:d=.F\/d=.V)(T:X.N[i]?=some x:=by rfl)(hv:Vis X.env.scope x:=by first|show Or.inl rfl|show Or.inr (Or.inl rfl)|show Or.inr (Or.inr rfl))(I:(x == ("__debug__" : Str))=false:=by decide)(O:(x == ("__classdict__" : Str))=false:=by decide):PS X (.Return (some (.Name x p)) pos) (tSt K EX d (x3 d i)):=(uf (ay T hv I O)).mono λ_ _ _ q=>yT hd q
def y6 {X:Cx}{K:Frag}{EX:EXT}{d:Mode}{e:Expr}{pos:Pos}{ma:Zx}{i:Nat}{x:Str}{pos':Pos}(O:X.N.Nodup) (hi:X.N[i]?=some x) (hx:Loc X.env.scope x) (T:PE X e (tM K EX .V ma)) (I:swapsWith e (some (.Name x pos')) pos.line X.env=pure false:=by rfl) (hf:X.fn x=true\/X.env.scope.names.lookup x=some .local:=by first|show .inl rfl|show .inr rfl|assumption):
  PS X (.Assign [.Name x pos'] e pos) (tSt K EX d (sV i ma)):=(mB O hi hx T I hf).mono λ_ _ _ q=>HN q
def ie {X:Cx}{K:Frag}{EX:EXT}{d:Mode}{e:Expr}{pos:Pos}{ma:Zx}{i:Nat}{x:Str}{pos':Pos}(O:X.N.Nodup) (hi:X.N[i]?=some x) (hx:Loc X.env.scope x) (T:PE X e (tM K EX .U ma)) (I:swapsWith e (some (.Name x pos')) pos.line X.env=pure false:=by rfl) (hf:X.fn x=true\/X.env.scope.names.lookup x=some .local:=by first|show .inl rfl|show .inr rfl|assumption):
  PS X (.Assign [.Name x pos'] e pos) (tSt K EX d (sU i ma)):=(mB O hi hx T I hf).mono λ_ _ _ q=>HP q
def i7 {X:Cx}{K:Frag}{EX:EXT}{d:Mode}{e:Expr}{pos:Pos}{ma:Zx}{i:Nat}{x:Str}{pos':Pos}(O:X.N.Nodup) (hi:X.N[i]?=some x) (hx:Loc X.env.scope x) (T:PE X e (tM K EX .F ma)) (I:swapsWith e (some (.Name x pos')) pos.line X.env=pure false:=by rfl) (hf:X.fn x=true\/X.env.scope.names.lookup x=some .local:=by first|show .inl rfl|show .inr rfl|assumption):
  PS X (.Assign [.Name x pos'] e pos) (tSt K EX d (sF i ma)):=(mB O hi hx T I hf).mono λ_ _ _ q=>nX q
def zw {X:Cx}{K:Frag}{EX:EXT}{d b:Mode}{e:Expr}{pos:Pos}{ma:Zx}{tg:Expr}{g:TG}{mg:Zg}(he:PE X e (tM K EX b ma)) (hg:PG X tg g) (I:Gt K b g mg) (O:swapsWithSole [tg] e pos.line X.env=pure false:=by rfl) (hw:swappedStores [tg] e X.env=pure none:=by rfl) (T:(assignEach [tg] X.env).map (·.2) = [assign tg X.env]:=by rfl):PS X (.Assign [tg] e pos) (tSt K EX d (sG mg ma)):=
 (ug he hg O hw T).mono λ_ _ _ q=>JI I q
def V9 {X:Cx}{K:Frag}{EX:EXT}{d:Mode}{e:Expr}{pos:Pos}{ma:Zx}{i:Nat}{x:Str}{p apos I:Pos}(hN:X.N[i]?=some x) (hv:Vis X.env.scope x) (ha:PE X e (tM K EX .V ma)) (hd:(x == ("__debug__" : Str))=false:=by decide) (a3:(x == ("__classdict__" : Str))=false:=by decide) (O:attributeBase (.Name x p) "append" X.env (eval (.Name x p) X.env)=eval (.Name x p) X.env:=by rfl) (a0:((backTo I (starEach [e] X.env)).all (λx=>!x.1)&&(backToKw I (keywordEach [] X.env)).all (λx=>x.1.isSome)
   && decide (([e]:VV).length+([]:List Keyword).length+(if ([]:List Keyword).isEmpty then 0 else 1)<30))=true:=by rfl) (T:(apos.endLine == I.line)=true:=by rfl) (hs:starEach [e] X.env=(false,eval e X.env)::starEach [] X.env:=by rfl) (a4:swapsWith (.Call (.Attribute (.Name x p) "append" apos) [e] [] I) none pos.line X.env=pure false:=by rfl):
  PS X (.Expr (.Call (.Attribute (.Name x p) "append" apos) [e] [] I) pos) (tSt K EX d (T8 i ma)):=(fA (ka (ay hN hv hd a3) ha O a0 T hs) a4).mono λ_ _ _ q=>JJ q
def r6 (hc:PT X c (tT K EX ta))(ha:PSs X x (tSt K EX d m))(I:PSs X y (tSt K EX d n)):PS X (.If c x y pos) (tSt K EX d (mIf ta m n)):=(zx hc ha I).mono λ_ _ _ q=>JC q
def fv (I:PassesOwn (model X.prog X.w) X.A X.env X.xe)(hc:PT X c (tT K EX ta))(O:PSs X body (tSt K EX d m)):PS X (.While c body [] pos) (tSt K EX d (P3 ta m)):=(xr I hc O).mono λ_ _ _ q=>CJ q
def A4 (hp:PassesOwn (model X.prog X.w) X.A X.env X.xe)(hc:X.calm=true)(hi:PI X tg iter (tIt K EX true dd mi))(T:PG X tg g)(I:Gt K dd g mg)(hb:PSs X body (tSt K EX d m))(O:∀x,foldedSetIterable iter X.env x=pure x:=by intro _;rfl):PS X (.For tg iter body [] pos) (tSt K EX d (C4 mi mg m)):=(Fh hp hc hi T hb O).mono λ_ _ _ q=>JG I q
def IK {X:Cx}{K:Frag}{EX:EXT}{d:Mode}{e:Expr}{pos:Pos}{ma:Zx}{i:Nat}{x:Str}{op:Operator}{f:Int->Int->Int}{pos':Pos}(hN:X.N.Nodup) (hi:X.N[i]?=some x) (I:Loc X.env.scope x) (he:PE X e (tM K EX .B ma)) (O:PIp X op (ipI f)) (T:X.fn x=true\/X.env.scope.names.lookup x=some .local:=by first|show .inl rfl|show .inr rfl|assumption):
  PS X (.AugAssign (.Name x pos') op e pos) (tSt K EX d (nt i f ma)):=(Fi hN hi I he O T).mono λ_ _ _ q=>JH q
def ig {X:Cx}{K:Frag}{EX:EXT}{d:Mode}{e:Expr}{pos:Pos}{ma mb:Zx}{i:Nat}{x:Str}{k:Expr}{p I:Pos}(hN:X.N[i]?=some x) (hv:Vis X.env.scope x) (hk:PE X k (tM K EX .B mb)) (he:PE X e (tM K EX .V ma)) (hd:(x == ("__debug__" : Str))=false:=by decide) (T:(x == ("__classdict__" : Str))=false:=by decide) (hg:PG X (.Subscript (.Name x p) k I) (gSub (ah i) (tM K EX .B mb) rSetL)) (O:swapsWithSole [.Subscript (.Name x p) k I] e pos.line X.env=pure false:=by rfl) (hw:swappedStores [.Subscript (.Name x p) k I] e X.env=pure none:=by rfl):PS X (.Assign [.Subscript (.Name x p) k I] e pos) (tSt K EX d (cR i mb ma)):=
 (ug he hg O hw).mono λ_ _ _ q=>Jv q
abbrev gLt (i j:Int):W:=.bl (decide (i<j))
abbrev gLe (i j:Int):W:=.bl (decide (i<=j))
abbrev gGt (i j:Int):W:=.bl (decide (j<i))
abbrev gGe (i j:Int):W:=.bl (decide (j<=i))
abbrev C9 (i j:Int):W:=.int (i+j)
abbrev gSub (i j:Int):W:=.int (i-j)
abbrev o8 (i j:Int):W:=.int (i*j)
abbrev u8 (i j:Int):W:=.int (i%j)
abbrev K3 (i j:Int):W:=.int (i/j)
abbrev nE (i j:Int):W:=.int (i^j.toNat)
abbrev G8 (i:Int):W:=.int (-i)
abbrev eK (i j:Int):Int:=if j>i then j else i
abbrev rD (i j:Int):Int:=if j<i then j else i
abbrev zH (i j:Int):Int:=i+j
abbrev Ji (i j:Int):Int:=i-j
abbrev t9 (_ j:Int):Prop:=0<j
instance (i j:Int):Decidable (CMul i j):=by unfold CMul;infer_instance
instance (i j:Int):Decidable (O6 i j):=by unfold O6;infer_instance
instance (i j:Int):Decidable (dj i j):=by unfold dj;infer_instance
instance (i j:Int):Decidable (zX i j):=by unfold zX;infer_instance
def vOf:W->Option V
 | .non=>some .non
 | .bl b=>some (.bl b)
 | .int i=>some (.int i)
 | .str x=>some (.str x)
 |_=>none
def yC (u v:W):Option Bool:=match vOf u,vOf v with
 |some x,some y=>if lR x y then some (decide (x=y)) else none
 |_,_=>none
def v6 (neg:Bool) (u v:W):R W:=match yC u v with
 |some b=>.ok (.bl (if neg then !b else b))
 |none=>.stuck
def kZ (h:Md K H0 Ha G H v w .B) (e:vOf w=some x):v=x:=by
 cases w <;> first|cases e|skip
 .show h.nonB
 .show h.blB
 .show h.intB
 .show h.strB
def M0:Op2 K .B d rEq (v6 false):=by
 intro EX H0 Hs G H ρ σ Ha Hb x y u v Q I s mx my o;unfold v6 yC at o;cases O:vOf u with
 |none=>rw[O]at o;show o.elim
 | some p=>
  cases T:vOf v with
  |none=>rw[O,T]at o;show o.elim
  | some q=>
   rw[O,T]at o;cases kZ mx O;cases kZ my T;dsimp only at o;by_cases c:lR x y=true
   .rw [qA2 c]at o
    show ⟨c,o _ G H (Ext.refl I.gh) (Md.sca rfl (λ_=>.bl) d)⟩
   .rw[qA4 c]at o;show o.elim
def dY:Op2 K .B d rNe (v6 true):=by
 intro EX H0 Hs G H ρ σ Ha Hb x y u v Q I s mx my o;unfold v6 yC at o;cases O:vOf u with
 |none=>rw[O]at o;show o.elim
 | some p=>
  cases T:vOf v with
  |none=>rw[O,T]at o;show o.elim
  | some q=>
   rw[O,T]at o;cases kZ mx O;cases kZ my T;dsimp only at o;by_cases c:lR x y=true
   .rw [qA2 c]at o
    show ⟨c,o _ G H (Ext.refl I.gh) (Md.sca rfl (λ_=>.bl) d)⟩
   .rw[qA4 c]at o;show o.elim
mutual
def pd:W->PyData
 | .non=>.none
 | .bl b=>.bool b
 | .int i=>.int i
 | .str x=>.str x
 | .ty _=>.none
 | .exc _ _=>.none
 | .cls _=>.none
 | .tup ws=>.tuple (pds ws)
 | .lst ws=>.list (pds ws)
 | .scr ws=>.list (pds ws)
def pds:List W->List PyData
 | []=>[]
 |w::ws=>pd w::pds ws
end
mutual
def shp:Nat->W->Bool
 |_,.non=>true
 |_,.bl _=>true
 |_,.int _=>true
 |_,.str x=>PyData.strOk x
 |n+1,.tup ws=>X9 n ws
 |n+1,.lst ws=>X9 n ws
 |n+1,.scr ws=>X9 n ws
 |_,_=>false
def X9:Nat->List W->Bool
 |_,[]=>true
 |n,w::ws=>shp n w&&X9 n ws
end
def hV:∀(w:W) (n:Nat),shp n w=true->(pd w).canLay0=true/\(pd w).depth<=n:=by
 intro w;have tl:∀(ws:Zk) (c:List PyData->PyData),(∀l,(c l).canLay0=PyData.canLayAll0 l)->(∀l,(c l).depth=PyData.depthAll l+1)->(∀n:Nat,X9 n ws=true->PyData.canLayAll0 (pds ws)=true/\PyData.depthAll (pds ws)<=n)->∀n:Nat,(match n with|0=>false|n+1=>X9 n ws)=true->(c (pds ws)).canLay0=true/\(c (pds ws)).depth<=n:=λws c T O I n h=>by
  cases n with
  |zero=>cases h
  |succ n=>have:=I n h;show ⟨by rw[T];show this.1,by rw[O];show qJ0 this.2⟩
 have fl:∀{n:Nat}{w:W}{P:Prop},shp n w=false->shp n w=true->P:=λT O=>by rw[T]at O;cases O
 induction w using W.rec (motive_2:=λws=>∀n:Nat,X9 n ws=true->PyData.canLayAll0 (pds ws)=true/\PyData.depthAll (pds ws)<=n) with
 |non=>show λn _=>⟨rfl,qE0 _⟩
 |bl b=>show λn _=>⟨rfl,qE0 _⟩
 |int i=>show λn _=>⟨rfl,qE0 _⟩
 |str x=>show λn h=>⟨by cases n <;> show h,qE0 _⟩
 |ty a=>show λn h=>fl (by cases n <;> rfl) h
 |exc a b=>show λn h=>fl (by cases n <;> rfl) h
 |cls a=>show λn h=>fl (by cases n <;> rfl) h
 |tup ws I=>show λn h=>tl ws .tuple (λ_=>rfl) (λ_=>rfl) I n (by cases n <;> show h)
 |lst ws I=>show λn h=>tl ws .list (λ_=>rfl) (λ_=>rfl) I n (by cases n <;> show h)
 |scr ws I=>show λn h=>tl ws .list (λ_=>rfl) (λ_=>rfl) I n (by cases n <;> show h)
 |nil=>show ⟨rfl,qE0 _⟩
 | cons w ws T O=>
  rename_i n h
  have h':shp n w=true/\X9 n ws=true:=(qG6 _ _).mp h;have a:=T n h'.1;have b:=O n h'.2;show ⟨by change (PyData.canLay0 _&&PyData.canLayAll0 _)=true;rw[a.1,b.1];rfl,Nat.max_le.mpr ⟨a.2,b.2⟩⟩
def oR (ws:Zk) (n:Nat) (h:X9 n ws=true):PyData.canLayAll0 (pds ws)=true/\PyData.depthAll (pds ws)<=n:=by
 have:=hV (.tup ws) (n+1) h
 show ⟨this.1,qH6 this.2⟩
def Rep.reads {σ:St}(I:Inv X pins σ H s) (n:Nat) (r:Rep X.K H x w):shp n w=true->RelV x u->∃as,Reads s.heap u (pd w) as:=by
 have fl:∀{n:Nat}{w:W}{P:Prop},shp n w=false->shp n w=true->P:=λh1 T=>by rw[h1]at T;cases T
 induction r using Rep.rec (motive_2:=λxs ws _=>∀(us:VZ) (n:Nat),X9 n ws=true->Vals xs us->∃as,ReadsAll s.heap us (pds ws) as) generalizing u n with
 |non=>intro _ r;cases r;show ⟨_,.none⟩
 |bl=>intro _ r;cases r;show ⟨_,.bool _⟩
 |int=>intro _ r;obtain ⟨t,rfl⟩:=r;show ⟨_,.int _ _⟩
 |str=>intro _ r;obtain ⟨t,rfl⟩:=r;show ⟨_,.str _ _⟩
 |ty=>show λh _=>fl (by cases n <;> rfl) h
 |exc=>show λh _=>fl (by cases n <;> rfl) h
 |cls=>show λh _=>fl (by cases n <;> rfl) h
 | tup ha _ O=>
  intro h r;cases r;cases n with
  |zero=>cases h
  | succ n=>
   obtain ⟨its,rv,⟨o,e,c,k,dd⟩,_⟩:=I.tuple (SqT.of ha);obtain ⟨as,q⟩:=O _ n h rv;show ⟨_,.tuple e c dd (by simpa using q)⟩
 | lst ha _ O=>
  intro h r;cases r;cases n with
  |zero=>cases h
  | succ n=>
   obtain ⟨its,rv,pl,_⟩:=I.list (SqL.of ha);obtain ⟨o,e,c,k,dd⟩:=pl.isList;obtain ⟨as,q⟩:=O _ n h rv;show ⟨_,.list e c dd (by simpa using q)⟩
 | scr ha _ O=>
  intro h r;cases r;cases n with
  |zero=>cases h
  | succ n=>
   obtain ⟨its,rv,pl,_⟩:=I.list ha;obtain ⟨o,e,c,k,dd⟩:=pl.isList;obtain ⟨as,q⟩:=O _ n h rv;show ⟨_,.list e c dd (by simpa using q)⟩
 |nil=>rename_i us n _ r;cases r;show ⟨_,.nil⟩
 | cons _ _ h1 T=>
  rename_i us n h r
  cases r with
  | cons r1 r2=>
   have h':=(qG6 _ _).mp h;obtain ⟨as,q1⟩:=h1 n h'.1 r1;obtain ⟨bs,q2⟩:=T _ n h'.2 r2;show ⟨_,.cons q1 q2⟩
def eqW (u v:W):Bool:=PyData.eqv (pd u) (pd v)
def xk (K:Frag)(neg:Bool):R2:=λx y H Q=>∃u v,Rep K H x u/\Rep K H y v/\shp 8 u=true/\shp 8 v=true/\Q (.bl (if neg then !eqW u v else eqW u v)) H
def aQ (h:shp 8 w=true):SeqAt.shaped (pd w)=true:=by
 obtain ⟨a,b⟩:=hV w 8 h;unfold SeqAt.shaped;rw[a,Bool.true_and];show qO8 (qC1 b ZY)
def W7 (hu:X.A.units+64<cLine):OpR X (compareOp .Eq) (xk X.K false):=by
 intro pins s σ H x y v u Q I rx T h;obtain ⟨a,b,ra,rb,sa,O,q⟩:=h;obtain ⟨as,qa⟩:=Rep.reads I 8 ra sa rx;obtain ⟨bs,qb⟩:=Rep.reads I 8 rb O T;show PyProof.Rows.eq_dataH qa qb (aQ sa) (aQ O) hu ⟨.bl (eqW a b),H,I,rfl,q⟩
def Fw (hu:X.A.units+64<cLine):OpR X (compareOp .NotEq) (xk X.K true):=by
 intro pins s σ H x y v u Q I rx T h;obtain ⟨a,b,ra,rb,sa,O,q⟩:=h;obtain ⟨as,qa⟩:=Rep.reads I 8 ra sa rx;obtain ⟨bs,qb⟩:=Rep.reads I 8 rb O T;show PyProof.Rows.ne_dataH qa qb (aQ sa) (aQ O) hu ⟨.bl (!eqW a b),H,I,rfl,q⟩
def fEq (neg:Bool)(u v:W):R W:=if shp 8 u&&shp 8 v then .ok (.bl (if neg then !eqW u v else eqW u v)) else .stuck
def T7:Op2 K .B d (xk K neg) (fEq neg):=by
 intro EX H0 Hs G H ρ σ Ha Hb x y u v Q I s mx T o;unfold fEq at o;by_cases c:(shp 8 u&&shp 8 v)=true
 .rw [qA2 c]at o
  have O:shp 8 u=true/\shp 8 v=true:=by simpa using c
  show ⟨u,v,mx.whole I,T.whole I,O.1,O.2,o _ G H (Ext.refl I.gh) (Md.sca rfl (λ_=>.bl) d)⟩
 .rw[qA4 c]at o;show o.elim
def bv:W->Bool->Bool
 | .bl a,b=>a == b
 |_,_=>false
def fIsB (neg:Bool):W->W->R W
 |u,.bl b=>.ok (.bl (if neg then !bv u b else bv u b))
 |_,_=>.stuck
def aD (I:Room k A):A.units+64<cLine:=I.units
def L5 (r:Vals [x] us):∃u,us = [u]/\RelV x u:=by
 cases r with
 |cons a t=>cases t;show ⟨_,rfl,a⟩
def X3 {s:Shared}{h':Heap}(hk:∀b u,b ∉ [s.heap.objs.size]->(s.heap.push o).get? b=some u->h'.get? b=some u):∀b u,s.heap.get? b=some u->h'.get? b=some u:=λb u e=>
 hk b u (by simp;show qC8 (qB2 e)) (qA7 _ e)
def sN {α:Type}{f:α->V}{g:α->Value->Prop}(I:∀a u,RelV (f a) u->g a u){as:List α}(r:Vals (as.map f) its){i:Nat}(h:its.toArray[i]?=some v):∃a,as[i]?=some a/\g a v:=by
 have h':its[i]?=some v:=by simpa using h
 induction as generalizing its i with
 |nil=>cases r;simp at h'
 | cons a as O=>
  cases r with
  | cons q t=>
   cases i with
   |zero=>simp at h';subst h';show ⟨a,rfl,I _ _ q⟩
   |succ i=>simpa using O t (i:=i) (by simpa using h') (by simpa using h')
def dC {σ:St}(I:Inv X pins σ H s) (hc:X.calm=true) (T:H p=some (.lst xs)):∃its:List Value,Vals xs its/\s.heap.IsList p its.toArray/\xs.length=its.toArray.size/\p≠s.heap.objs.size /\
  Walks X.prog X.w X.A.in1 s.heap.objs.size [s.heap.objs.size,p] [s.heap.objs.size] its.toArray.size (λi v=>its.toArray[i]?=some v) (λi h=>h.IsListIter s.heap.objs.size p i/\h.IsList p its.toArray):=by
 obtain ⟨its,rv,pl,hz⟩:=I.list (SqL.of T);obtain ⟨o,e,_⟩:=pl.isList;have O:p≠s.heap.objs.size:=qC8 (qB2 e);show ⟨its,rv,pl.isList,by rw[qB8];show rv.length,O,Walks.list (show X.A.in1.handled=none from I.ok.hd hc) _ p O _⟩
def og:List W->Option (List Bool)
 | []=>some []
 | .bl b::ws=>(og ws).map (b::·)
 |_=>none
def CQ (bs:List Bool):og (bs.map W.bl)=some bs:=by
 induction bs with
 |nil=>rfl
 |cons b bs I=>rw[qC2,og,I];rfl
def Hl (g:List Bool->Bool):List W->R W
 | [.lst ws]=>toR (og ws)>>=λbs=>.ok (.bl (g bs))
 |_=>.stuck
def vL:bootBuiltins "sum" = some (.builtin "sum"):=ZU
def kL (hc:X.calm=true):K6 X (.builtin "sum") (λxs H Q=>∃(p:Addr) (ns:Zz),xs = [.ref p]/\H p=some (.lst (ns.map V.int))/\Q (.int ns.sum) H):=by
 intro pins s σ H xs us Q I r h;obtain ⟨p,ns,rfl,hp,q⟩:=h;obtain ⟨u,rfl,rx⟩:=L5 r;cases rx;obtain ⟨its,rv,T,hlen,a4,Wk⟩:=dC I hc hp;rw[qA5]at hlen;have pre:∀(ms:Zz) (k:Nat),k<=ms.length->preSum (λi=>ms.getD i 0) k=(ms.take k).sum:=by
  intro ms k
  induction k with
  |zero=>intro _;simp [preSum]
  | succ k ih=>
   intro hk;rw[preSum,ih ox,qT2 (by omega:k<ms.length),List.sum_append];have a0:k<ms.length:=ox;simp [qA0,a0]
 refine call_sum_walkAnyS (qQ6 T ⟨_,_,_,_,_,_,_,(λi=>ns.getD i 0),rfl,Wk.toS,⟨⟨_,qC0 _ rfl,rfl,rfl⟩,T.push _⟩,λb hb=>?_,λi v hv=>?_,λs' t' O=>?_⟩)
 .obtain ⟨o,e,_⟩:=id T;have a3:=qB2 e;simp at hb;rcases hb with rfl|rfl
  .simp [Heap.push]
  .show qB6 a3 (by simp [Heap.push])
 .obtain ⟨n,hn,t,e⟩:=sN (f:=V.int) (g:=λn u=>∃t,u=.int n t) (λb u r=>r) rv hv;refine ⟨t,?_⟩
  change v=Value.int (ns.getD i 0) t;rw[e,qA0,hn];rfl
 .rw [<- hlen,pre ns ns.length (qB4 _),qH4]
  obtain ⟨hh,g,dd,tk,os⟩:=s';obtain rfl:g=s.gens:=O.gens;obtain rfl:dd=s.drawn:=O.drawn;obtain rfl:os=s.os:=O.os;show ⟨.int ns.sum,H,I.kept (t':=tk) (X3 O.heap),⟨t',rfl⟩,q⟩
def v8:List W->Option Zz
 | []=>some []
 | .int b::ws=>(v8 ws).map (b::·)
 |_=>none
def ints_map (bs:Zz):v8 (bs.map W.int)=some bs:=by
 induction bs with
 |nil=>rfl
 |cons b bs I=>rw[qC2,v8,I];rfl
def Reps.ints (r:Reps K F vs ws):v8 ws=some bs->vs=bs.map V.int:=
 Reps.ind (P:=λvs ws=>∀bs,v8 ws=some bs->vs=bs.map V.int) (λbs h=>by cases h;rfl) (λ{v w vs ws} r _ ih bs h=>by
  cases w <;> first|cases h|skip
  rename_i b
  have e:v=.int b:=r.inv;subst e;have h':(v8 ws).map (b::·)=some bs:=h;cases q:v8 ws with
  |none=>rw[q]at h';cases h'
  |some cs=>rw[q]at h';cases h';rw[ih cs q];rfl) r bs
def ln (g:List Int->Int):List W->R W
 | [.lst ws]=>toR (v8 ws)>>=λbs=>.ok (.int (g bs))
 |_=>.stuck
def vV:Cal K .B d (λxs H Q=>∃(p:Addr) (ns:Zz),xs = [.ref p]/\H p=some (.lst (ns.map V.int))/\Q (.int (g ns)) H) (ln g):=by
 intro EX H0 Hs G H ρ σ Ha vs ws Q I s m o;cases m with
 |nil=>show o.elim
 | @cons w v a0 T a t=>
  cases t with
  |cons _ _=>first|show o.elim | (cases w <;> show o.elim)
  | nil=>
   cases w <;> first|show o.elim|skip
   rename_i ws
   obtain ⟨p,ys,rfl,O,r⟩:=a.lstB I;replace o:Out EX G H (mdW K d H0 Hs) (toR (v8 ws)>>=λbs=>.ok (.int (g bs))) Q:=o
   cases q:v8 ws with
   |none=>rw[q]at o;show o.elim
   | some bs=>
    rw[q]at o;rw[Reps.ints r q]at O;show ⟨p,bs,rfl,O,o _ G H (Ext.refl I.gh) (Md.sca rfl (λ_=>.int) d)⟩
def jD (ns:Zz):Int:=ns.sum
def fAbs:List W->R W
 | [.int i]=>.ok (.int (if i<0 then -i else i))
 |_=>.stuck
def fInt:List W->R W
 | [.int i]=>.ok (.int i)
 | [.bl k]=>.ok (.int (if k then 1 else 0))
 |_=>.stuck
def rX:Cal K .B d (λxs H Q=>(∃i,xs = [.int i]/\Q (.int i) H)\/∃k:Bool,xs = [.bl k]/\Q (.int (if k then 1 else 0)) H) fInt:=by
 intro EX H0 Hs G H ρ σ Ha vs ws Q I s m o;cases m with
 |nil=>show o.elim
 | @cons w v T O a t=>
  cases t with
  |cons _ _=>first|show o.elim | (cases w <;> show o.elim)
  | nil=>
   cases w <;> first|show o.elim|skip
   .show .inr ⟨_,by rw[a.blB],o _ G H (Ext.refl I.gh) (Md.sca rfl (λ_=>.int) d)⟩
   .show .inl ⟨_,by rw[a.intB],o _ G H (Ext.refl I.gh) (Md.sca rfl (λ_=>.int) d)⟩
def fStr:List W->R W
 | [.int i]=>if i.natAbs.log2<1920 then .ok (.str (toString i)) else .stuck
 |_=>.stuck
def mExt (i:Nat) (c:Bool) (m:Zx):Zy:=λρ=>match ρ[i]? with
 | some (.own ws)=>m ρ>>=λw=>(match w with
  | .lst us=>if ws.length+us.length<=1000 then (if c||n5 us then .ok (.nx (ρ.set i (.own (ws++us)))) else .stuck) else .stuck
  |_=>.stuck)
 |_=>.stuck
def jv (i:Nat):Zy:=λρ=>match ρ[i]? with
 |some (.own ws)=>.ok (.nx (ρ.set i (.own ws.reverse)))
 |_=>.stuck
def Jy (h:tSt K EX d (jv i) D σ H):gY (DI K "list" rReverse (ah i)) D σ H:=by
 obtain ⟨H0,G,ρ,I,o⟩:=h;unfold jv at o
 split at o
 .rename_i ws e
  obtain ⟨a,vs,es,ha,O,h0,r⟩:=I.own_at e;show ⟨.ref a,es,.inl ⟨rfl,vs,SqL.of ha⟩,a,vs,rfl,rfl,ha,o G σ _ (Same.refl _) (I.own_upd e es r.reverse)⟩
 .show o.elim
def zr {X:Cx}{K:Frag}{EX:EXT}{d:Mode}{pos:Pos}{i:Nat}{x:Str}{p apos I:Pos}(hN:X.N[i]?=some x) (hv:Vis X.env.scope x) (hK:X.K=K:=by rfl) (hd:(x == ("__debug__" : Str))=false:=by decide) (a0:(x == ("__classdict__" : Str))=false:=by decide) (O:attributeBase (.Name x p) "reverse" X.env (eval (.Name x p) X.env)=eval (.Name x p) X.env:=by rfl) (T:(apos.endLine == I.line)=true:=by rfl) (a3:swapsWith (.Call (.Attribute (.Name x p) "reverse" apos) [] [] I) none pos.line X.env=pure false:=by rfl):
  PS X (.Expr (.Call (.Attribute (.Name x p) "reverse" apos) [] [] I) pos) (tSt K EX d (jv i)):=by
 subst hK;show (fA (Fu qS3 PySem.F.slot_list_reverse PySem.F.type_list_reverse qX (ay hN hv hd a0) O T) a3).mono λ_ _ _ q=>Jy q
def A7 (h:PE X e (tM K EX .B ma))(I:X.K=K:=by rfl):PI X tg e (tIt K EX false .U (bS ma)):=zu (lp:=false) h I
def P1 (h:PE X e (tM K EX .U ma))(I:X.K=K:=by rfl):PI X tg e (tIt K EX true .U (bS ma)):=zu (lp:=true) h I
def aw {X:Cx}{K:Frag}{EX:EXT}{a:Expr}{es:VV}{pos:Pos}{O:Zp}{elts:VV}{p tp:Pos}{k:Nat}(hg:Gl X "zip") (hm:X.mg "zip" = none) (ha:PA X (a::es) (tA K EX .B O)) (T:X.K=K:=by rfl) (hs:starEach (a::es) X.env=(false,eval a X.env)::starEach es X.env:=by rfl) (I:(backTo pos (starEach es X.env)).any (·.1)=false:=by rfl):
  PI X (.Tuple elts k tp) (.Call (.Name "zip" p) (a::es) [] pos) (tIt K EX false .U (bI K9 O)):=zp (lp:=false) hg hm ha T hs I
def EN {X:Cx}{K:Frag}{EX:EXT}{a:Expr}{es:VV}{pos:Pos}{O:Zp}{elts:VV}{p tp:Pos}{k:Nat}(hg:Gl X "zip") (hm:X.mg "zip" = none) (ha:PA X (a::es) (tA K EX .U O)) (T:X.K=K:=by rfl) (hs:starEach (a::es) X.env=(false,eval a X.env)::starEach es X.env:=by rfl) (I:(backTo pos (starEach es X.env)).any (·.1)=false:=by rfl):
  PI X (.Tuple elts k tp) (.Call (.Name "zip" p) (a::es) [] pos) (tIt K EX true .U (bI K9 O)):=zp (lp:=true) hg hm ha T hs I
def Jh:Sl->Bool
 | .own _=>true
 | .dic _=>true
 | .dik _=>true
 |_=>false
def noOwn (ρ:Rho):Bool:=ρ.all λs=>!Jh s
def sCU (i:Nat)(f:List W->R W)(ma:Zp):Zy:=λρ=>if noOwn ρ then (ma ρ>>=λws=>f ws>>=λw=>.ok (.nx (ρ.set i (.par w)))) else .stuck
def sx (K:Frag) (a:Addr) (n:Nat):It:=
 ⟨λi H=>i<n/\∃xs x,SqL K H a xs/\xs.length=n/\xs[n-1-i]?=some x,λi H x H'=>H'=H/\∀xs,SqL K H a xs->xs[n-1-i]?=some x,λi H=>i=n/\∃xs,SqL K H a xs/\xs.length=n⟩
def wu (a it:Addr) (n:Nat):Turn P w K tg (sx K a n) [it] it (λi h=>i<=n/\h.IsRevIter it a ((n:Int)-1-(i:Int))) where
 mem:=ZV
 obj:=λi h st b T=>by
  have e:b=it:=by simpa using T
  subst e;obtain ⟨_,o,e,c,d⟩:=st;show ⟨o,e,λv z=>by rw[d]at z;cases z⟩
 keep:=λi h h' st k=>⟨st.1,st.2.at λo e=>k it ZV o e⟩
 item:=by
  intro X hP hw hK hc i pins s σ H E I hf st hg;subst hP hw hK;obtain ⟨hi,xs,x,hq,hn,hx⟩:=hg;obtain ⟨its,rv,p,hz⟩:=I.list hq;obtain ⟨u,hu,ru⟩:=rv.get hx;obtain ⟨f0,f1,f2,f3,f4,f5⟩:=hf it ZV;have e1:(n:Int)-1-(i:Int)=((n-1-i:Nat):Int):=ox;have O:=st.2;rw[e1]at O;refine wpAny_pyNext_rev_item O p.isList (x:=u) (by simpa using hu) λh' a0 sb=>?_;have I1:Inv X pins σ H { s with heap:=h' }:=I.turned (t':=s.toks) (λb o T e=>(sb.2 b T).trans e) f0 f1 f3 f4 f5;have e2:((n-1-i:Nat):Int)-1=(n:Int)-1-((i+1:Nat):Int):=ox;rw[e2]at a0;obtain ⟨o,e,c,d⟩:=id a0;show ⟨u,rfl,ll (s:={ s with heap:=h' }) e c d ZY ⟨x,H,I1,ru,⟨rfl,λys hy=>by rw[I.list_inj hy hq];show hx⟩,⟨hi,a0⟩,λb T=>(hf b T).1⟩⟩
 done:=by
  intro X hP hw hK hc i pins s σ H E I hf st hg;subst hP hw hK;obtain ⟨rfl,xs,hq,hn⟩:=hg;obtain ⟨f0,f1,f2,f3,f4,f5⟩:=hf it ZV;have e1:(i:Int)-1-(i:Int) = -1:=ox;have O:=st.2;rw[e1]at O;show wpAny_pyNext_rev_end (I.ok.hd hc) O λh' eb=>⟨rfl,I.turned (t':=s.toks) (λb o T e=>eb b o T e) f0 f1 f3 f4 f5⟩
 self:=λ_ _ _ _ _ st h=>qU4 st.2 h
def GH (K:Frag)(ta:TA):TI:=λσ H R=>ta σ H λvs H1=>∃a,vs = [.ref a]/\∃xs,SqL K H1 a xs/\R (sx K a xs.length) H1
def gf:bootBuiltins "reversed" = some (.type "reversed"):=ZU
def Fp (hg:Gl X "reversed") (hm:X.mg "reversed" = none) (ha:PA X [a] ta) (hs:starEach [a] X.env = [(false,eval a X.env)]:=by rfl):PI X tg (.Call (.Name "reversed" p) [a] [] pos) (GH X.K ta):=by
 intro pins s σ H R I h;refine qP3 (M5 I hg hm gf ?_ ZY ZY);refine qG3 (thn (ha pos pins s σ H _ I h) λus s1 O=>?_) hs ZQ;obtain ⟨vs,H1,I1,r1,q1⟩:=O;obtain ⟨b,e,xs,hq,q⟩:=q1;subst e;obtain ⟨u,rfl,ru⟩:=L5 r1;cases ru;obtain ⟨its,rv,pl,hz⟩:=I1.list hq;have hl:=rv.length;refine call_reversed_list pl.isList ?_;have T:(s1.heap.push (revObj b ((its.toArray.size:Int)-1))).IsRevIter s1.heap.objs.size b ((xs.length:Int)-1-((0:Nat):Int)):=by
  refine ⟨_,qC0 _ rfl,rfl,?_⟩
  have:((xs.length:Int)-1-((0:Nat):Int))=((its.toArray.size:Int)-1):=by simp;omega
  rw[this];rfl
 refine qU4 T ?_;refine ⟨s1.heap.objs.size,[s1.heap.objs.size],_,sx X.K b xs.length,H1,rfl,I1.kept (t':=s1.toks) λb o e=>qA7 _ e,wu b _ _,⟨qE0 _,T⟩,λc hc=>?_,q⟩;have e:c=s1.heap.objs.size:=by simpa using hc
 subst e;show I1.fpOk (qB4 _) (I1.hok.fresh (qB4 _))
def gu:List W->R Zk
 | [.lst ws]=>.ok ws.reverse
 |_=>.stuck
def xZ (he:e=.V\/e=.U) (s:SqL K Z a vs) (r:Reps K (fz e H0 G) vs ws):di K e H0 Z G (sx K a vs.length) ws.reverse:=by
 have O:=r.length;have T:∀H,Same Z H->SqL K H a vs:=λH z=>Same.seq z s;refine ⟨λi H hi z=>?_,λH z=>⟨by rw[qB7,O],vs,T H z,rfl⟩,λi H x H' w hw z ⟨e1,y⟩ G2 ρ σ I sg=>?_⟩
 .rw [qB7]at hi
  show ⟨ox,vs,vs[vs.length-1-i]'(qG5 (Nat.sub_le _ _) (Nat.sub_lt (O ▸ qG5 (qE0 i) hi) ZY)),T H z,rfl,ZV⟩
 .subst e1;have hi:i<ws.length:=by have:=(qA9.mp hw).1;simpa using this
  have hx:=y vs (T _ z);rw[List.getElem?_reverse hi]at hw;obtain ⟨v,hv,rv⟩:=Reps.get r hw;rw[O,hv]at hx;cases hx;show ⟨G2,Ext.refl I.gh,Md.of_fz he (rv.same (N7 sg))⟩
def Md.srcL (I:PIv K H0 G ρ σ H) (m:Md K H0 Hs G H x (.lst ws) (dI lp .U)):∃a vs,x=.ref a/\SqL K (if lp then join H0 G else H) a vs/\Reps K (fz .U H0 G) vs ws:=by
 have O:fz .U H0 G=join H0 G:=by unfold fz;rw[qA4 (show ¬ (Mode.U=Mode.V) by intro z;cases z)]
 rw[O];cases lp with
 | true=>
  rw[qA2 rfl];obtain ⟨a,vs,e,s,r⟩:=Rep.inv m;show ⟨a,vs,e,SqL.of s,r⟩
 | false=>
  rw[qA4 qB0];rcases m with m|⟨a,vs,us,rfl,e2,h1,r⟩
  .obtain ⟨a,vs,e,s,r⟩:=Rep.inv m;show ⟨a,vs,e,SqL.of (I.join_H _ _ s),r⟩
  .rw[W.lst.inj e2];show ⟨a,vs,rfl,SqL.of h1,r.same I.G_join⟩
def Jx (h:tIt K EX lp .U (λρ=>ma ρ>>=gu) σ H Rr):GH K (tA K EX (dI lp .U) ma) σ H Rr:=by
 refine cz h (λH0 G ρ G1 H1 xs ws us I O m1 q o=>?_) (λws e z=>?_)
 .have T:=I.ext O;unfold gu at q
  split at q
  .rename_i ws'
   cases q;cases m1 with
   | cons a1 t=>
    cases t;obtain ⟨p,vs,rfl,hL,r⟩:=Md.srcL T a1;show ⟨p,rfl,vs,Same.seq (jw T) hL,o _ G1 H1 O (xZ (.inr rfl) hL r)⟩
  .cases q
 .unfold gu at z
  split at z <;> cases z
def zq {X:Cx}{K:Frag}{EX:EXT}{a tg:Expr}{pos:Pos}{I:Zp}{p:Pos}(hg:Gl X "reversed") (hm:X.mg "reversed" = none) (ha:PA X [a] (tA K EX .U I)) (O:X.K=K:=by rfl) (T:starEach [a] X.env = [(false,eval a X.env)]:=by rfl):PI X tg (.Call (.Name "reversed" p) [a] [] pos) (tIt K EX true .U (bI gu I)):=by
 subst O;show (Fp hg hm ha T).mono λ_ _ _ q=>Jx (lp:=true) q
def aB (ns:Zz):Int:=ns.getD (argBest (λi j=>decide (ns.getD i 0<ns.getD j 0)) (ns.length-1)) 0
def C7 (ns:Zz):Int:=ns.getD (argBest (λi j=>decide (ns.getD j 0<ns.getD i 0)) (ns.length-1)) 0
def df (bt:Nat->Nat->Bool):∀k,argBest bt k<=k
 |0=>qB4 _
 | k+1=>by
  unfold argBest
  split
  .show qB4 _
  .show Nat.le_succ_of_le (df bt k)
def xR (h:0<ns.length):aB ns∈ns:=by
 unfold aB
 have:=df (λi j=>decide (ns.getD i 0<ns.getD j 0)) (ns.length-1)
 have hi:argBest (λi j=>decide (ns.getD i 0<ns.getD j 0)) (ns.length-1)<ns.length:=ox;generalize argBest (λi j=>decide (ns.getD i 0<ns.getD j 0)) (ns.length-1)=k at hi
 rw[qA0];simp [hi]
def jz: ∀ k, k < ns.length -> ns.getD k 0 <= C7 ns := by
  have I : ∀ m k, k <= m -> ns.getD k 0 <= ns.getD (argBest (λi j => decide (ns.getD j 0 < ns.getD i 0)) m) 0 := by
    intro m
    induction m with
    | zero => intro k hk;have : k = 0 := ox
              subst this;show qE8 _
    | succ m O =>
      intro k hk;unfold argBest
      split
      · rename_i h
        have h := qO9 h;by_cases e : k = m + 1
        · subst e;show qE8 _
        · have := O k ox;omega
      · rename_i h
        by_cases e : k = m + 1
        · subst e;have : ¬ (ns.getD (argBest (λi j => decide (ns.getD j 0 < ns.getD i 0)) m) 0 < ns.getD (m + 1) 0) := λz => h (qO8 z)
          omega
        · show O k ox
  intro k hk;show I _ k ox
def mY (h:0<ns.length):C7 ns∈ns:=by
 unfold C7
 have:=df (λi j=>decide (ns.getD j 0<ns.getD i 0)) (ns.length-1)
 have hi:argBest (λi j=>decide (ns.getD j 0<ns.getD i 0)) (ns.length-1)<ns.length:=ox;generalize argBest (λi j=>decide (ns.getD j 0<ns.getD i 0)) (ns.length-1)=k at hi
 rw[qA0];simp [hi]
def int_at {ns:Zz}(rv:Vals (ns.map V.int) its){i:Nat}(h:its.toArray[i]?=some v):∃t,v=.int (ns.getD i 0) t:=by
 obtain ⟨n,hn,t,e⟩:=sN (f:=V.int) (g:=λn u=>∃t,u=.int n t) (λb u r=>r) rv h;show ⟨t,by rw[e,qA0,hn];rfl⟩
def vC {X:Cx}{ns:Zz}(rv:Vals (ns.map V.int) its):CmpOf X.prog X.w A .Lt (λi v=>its.toArray[i]?=some v) (λi j=>decide (ns.getD i 0<ns.getD j 0)):=λi j vi T s' Q' E hi O I=>by
 obtain ⟨t,rfl⟩:=int_at rv hi;obtain ⟨u,rfl⟩:=int_at rv O;show PyProof.Rows.lt_int I
def cmp_gt {X:Cx}{ns:Zz}(rv:Vals (ns.map V.int) its):CmpOf X.prog X.w A .Gt (λi v=>its.toArray[i]?=some v) (λi j=>decide (ns.getD j 0<ns.getD i 0)):=λi j vi T s' Q' E hi O I=>by
 obtain ⟨t,rfl⟩:=int_at rv hi;obtain ⟨u,rfl⟩:=int_at rv O;show PyProof.Rows.gt_int I
def lt2 {s:Shared}(e:s.heap.get? p=some u):∀b ∈ [s.heap.objs.size,p],b<(s.heap.push o).objs.size:=λb O=>by
 have I:=qB2 e;simp at O;rcases O with rfl|rfl
 .simp [Heap.push]
 .show qB6 I (by simp [Heap.push])
def vG (hc:X.calm=true):K6 X (.builtin "min") (λxs H Q=>∃(p:Addr) (ns:Zz),xs = [.ref p]/\(H p=some (.lst (ns.map V.int))\/H p=some (.tup (ns.map V.int)))/\0<ns.length/\Q (.int (aB ns)) H):=by
 intro pins s σ H xs us Q I r h;obtain ⟨p,ns,rfl,O,hn,q⟩:=h;obtain ⟨u,rfl,rx⟩:=L5 r;cases rx;have hd:X.A.in1.handled=none:=I.ok.hd hc;rcases O with O|O
 .obtain ⟨its,rv,hl,hlen,T,Wk⟩:=dC I hc O;rw[qA5]at hlen;obtain ⟨o,e,_⟩:=id hl;refine call_min_walk (qQ6 hl ⟨_,_,_,_,_,_,_,rfl,Wk,⟨⟨_,qC0 _ rfl,rfl,rfl⟩,hl.push _⟩,lt2 e,ox,vC rv,λv h' tk hv hk=>?_⟩);obtain ⟨t,rfl⟩:=int_at rv hv;rw[<- hlen];show ⟨.int (aB ns),H,I.kept (t':=tk) (X3 hk),⟨t,rfl⟩,q⟩
 .obtain ⟨its,rv,pl,hz⟩:=I.tuple (SqT.of O);have hlen:ns.length=its.toArray.size:=by rw[qB8,<- rv.length,qA5]
  have ht:s.heap.IsTuple p its.toArray:=pl;obtain ⟨o,e,_⟩:=id ht;have T:p≠s.heap.objs.size:=qC8 (qB2 e);refine call_min_walk (qQ0 ht ⟨_,_,_,_,_,_,_,rfl,Walks.tuple hd _ p T its.toArray,⟨⟨_,qC0 _ rfl,rfl,rfl⟩,ht.push _⟩,lt2 e,ox,vC rv,λv h' tk hv hk=>?_⟩);obtain ⟨t,rfl⟩:=int_at rv hv;rw[<- hlen];show ⟨.int (aB ns),H,I.kept (t':=tk) (X3 hk),⟨t,rfl⟩,q⟩
def fb (hc:X.calm=true):K6 X (.builtin "max") (λxs H Q=>∃(p:Addr) (ns:Zz),xs = [.ref p]/\(H p=some (.lst (ns.map V.int))\/H p=some (.tup (ns.map V.int)))/\0<ns.length/\Q (.int (C7 ns)) H):=by
 intro pins s σ H xs us Q I r h;obtain ⟨p,ns,rfl,O,hn,q⟩:=h;obtain ⟨u,rfl,rx⟩:=L5 r;cases rx;have hd:X.A.in1.handled=none:=I.ok.hd hc;rcases O with O|O
 .obtain ⟨its,rv,hl,hlen,T,Wk⟩:=dC I hc O;rw[qA5]at hlen;obtain ⟨o,e,_⟩:=id hl;refine call_max_walk (qQ6 hl ⟨_,_,_,_,_,_,_,rfl,Wk,⟨⟨_,qC0 _ rfl,rfl,rfl⟩,hl.push _⟩,lt2 e,ox,cmp_gt rv,λv h' tk hv hk=>?_⟩);obtain ⟨t,rfl⟩:=int_at rv hv;rw[<- hlen];show ⟨.int (C7 ns),H,I.kept (t':=tk) (X3 hk),⟨t,rfl⟩,q⟩
 .obtain ⟨its,rv,pl,hz⟩:=I.tuple (SqT.of O);have hlen:ns.length=its.toArray.size:=by rw[qB8,<- rv.length,qA5]
  have ht:s.heap.IsTuple p its.toArray:=pl;obtain ⟨o,e,_⟩:=id ht;have T:p≠s.heap.objs.size:=qC8 (qB2 e);refine call_max_walk (qQ0 ht ⟨_,_,_,_,_,_,_,rfl,Walks.tuple hd _ p T its.toArray,⟨⟨_,qC0 _ rfl,rfl,rfl⟩,ht.push _⟩,lt2 e,ox,cmp_gt rv,λv h' tk hv hk=>?_⟩);obtain ⟨t,rfl⟩:=int_at rv hv;rw[<- hlen];show ⟨.int (C7 ns),H,I.kept (t':=tk) (X3 hk),⟨t,rfl⟩,q⟩
def DW:W->Option Zz
 | .lst ws=>v8 ws
 | .tup ws=>v8 ws
 |_=>none
def Q2 (g:List Int->Int):List W->R W
 | [w]=>toR (DW w)>>=λns=>if 0<ns.length then .ok (.int (g ns)) else .stuck
 |_=>.stuck
def iN:Cal K .B d (λxs H Q=>∃(p:Addr) (ns:Zz),xs = [.ref p]/\(H p=some (.lst (ns.map V.int))\/H p=some (.tup (ns.map V.int)))/\0<ns.length/\Q (.int (g ns)) H) (Q2 g):=by
 intro EX H0 Hs G H ρ σ T vs ws Q I s m o;unfold Q2 at o
 split at o
 .rename_i w
  cases m with
  | cons a t=>
   cases t;cases q:DW w with
   |none=>rw[q]at o;show o.elim
   | some ns=>
    rw[q]at o;replace o:Out EX G H (mdW K d H0 Hs) (if 0<ns.length then R.ok (W.int (g ns)) else .stuck) Q:=o
    by_cases hn:0<ns.length
    .rw [qA2 hn]at o
     cases w <;> first|cases q|skip
     .obtain ⟨p,ys,rfl,O,r⟩:=a.tupB I;rw[Reps.ints r q]at O;show ⟨p,ns,rfl,.inr O,hn,o _ G H (Ext.refl I.gh) (Md.sca rfl (λ_=>.int) d)⟩
     .obtain ⟨p,ys,rfl,O,r⟩:=a.lstB I;rw[Reps.ints r q]at O;show ⟨p,ns,rfl,.inl O,hn,o _ G H (Ext.refl I.gh) (Md.sca rfl (λ_=>.int) d)⟩
    .rw[qA4 hn]at o;show o.elim
 .show o.elim
end TP
namespace HT
open PySem PySem.Spec PyProof.Rows
def aX:typeLookup (.type "tuple") (dunderR "mul")=pure (some (.builtin "tuple.__rmul__")):=by rw[typeLookup_type,qT4];kernel_rfl
def noFill_tuple_mul:fillsNumberSlot (.type "tuple") "mul" = pure false:=
 PySem.fillsNumberSlot_seq (id := "tuple.__mul__") (r:=some (.builtin "tuple.__rmul__")) F.slot_tuple_mul.lookup ZU aX ZU
def repeat_tuple:seqRepeat? (.type "tuple")=pure (some (.builtin "tuple.__mul__")):=by
 unfold seqRepeat?;rw[PySem.seqSlot_of (T := "tuple") (name := "__mul__") (id := "tuple.__mul__") F.slot_tuple_mul.lookup ZU,PySem.seqSlot_of (T := "tuple") (name := "__rmul__") (id := "tuple.__rmul__") aX ZU];rfl
def rmul_declines (a:Int) (t:Tok) (l:Addr) (items:VW) (n:Nat) (dd:Option Addr) (sl:Array VY) :
  Meets (Builtin.«int.__rmul__» ⟨[.int a t,.ref l],[]⟩) (λ_ R s=>s.heap.get? l=some { cls:=.type "tuple",dict:=dd,data:=.seq items n,slots:=sl }/\R (.ok (.ret Value.notImplemented)) s):=
 .of_wp λprog w A R s h=>by obtain ⟨T,g,d,O,os⟩:=s;obtain ⟨I,h⟩:=h;wp_walk;show ⟨_,rfl,h⟩
def tuple_mul1 (l:Addr) (items:VW) (n:Nat) (dd:Option Addr) (sl:Array VY) (u:Tok) :
  Meets (Builtin.«tuple.__mul__» ⟨[.ref l,.int 1 u],[]⟩) (λ_ R s=>s.heap.get? l=some { cls:=.type "tuple",dict:=dd,data:=.seq items n,slots:=sl }/\R (.ok (.ret (.ref l))) s):=
 .of_wp λprog w A R s h=>by
  obtain ⟨T,g,d,O,os⟩:=s;obtain ⟨I,h⟩:=h;have f1:=AutoSeq1.idx_int
  wp_walk using qR5 I;show ⟨_,rfl,h⟩
def tuple_mul2 (l:Addr) (items:VW) (n:Nat) (dd:Option Addr) (sl:Array VY) (k:Int) (u:Tok) (hc:¬ (decide (k < -(2^63))||decide (k≥2^63))=true)
  (hi:¬ (items.isEmpty||k == 1)=true) (h0:¬ (decide (k<=0)||items.isEmpty)=true) (hm:¬ (items.size*k>(2^63-1)/8)) (hz:¬ Builtin.Tuple.tupleTooMany (items.size*k)=true) (O:((List.replicate k.toNat items).foldl (·++·) #[]).size<=sizeLine) :
  Meets (Builtin.«tuple.__mul__» ⟨[.ref l,.int k u],[]⟩) (λ_ R s=>s.heap.get? l=some { cls:=.type "tuple",dict:=dd,data:=.seq items n,slots:=sl }/\R (.ok (.ret (.ref s.heap.objs.size))) { s with heap:=s.heap.push { cls:=.type "tuple",data:=.seq ((List.replicate k.toNat items).foldl (·++·) #[]) } }):=
 .of_wp λprog w A R s h=>by
  obtain ⟨hp,g,d,T,os⟩:=s;obtain ⟨I,h⟩:=h;have f1:=AutoSeq1.idx_int
  wp_walk using qR5 I
  rw[qA4 hc]
  wp_walk using qR5 I
  rw[qA4 hm]
  wp_walk using qR5 I
  show ⟨_,rfl,h⟩
end HT
namespace TP
open PySem L2 PySem.Spec PyProof.Rows
def len_reps {α:Type}(xs:List α):∀k:Nat,(List.replicate k xs).flatten.length=k*xs.length
 |0=>by simp
 |k+1=>by rw[qE7,qG8,qD1,len_reps xs k,Nat.succ_mul,qX5]
def iC (its:VZ):∀(m:Nat) (I:VZ),List.foldl (λT O=>T++O) I.toArray (List.replicate m its.toArray)=(I++(List.replicate m its).flatten).toArray
 |0,I=>ZV
 |m+1,I=>by rw[qE7,List.foldl_cons,List.append_toArray,iC its m (I++its),qE7,qG8,qJ8]
def zm (K:Frag):R2:=λx y H Q=>∃a k xs,x=.ref a/\y=.int k/\SqT K H a xs/\xs ≠ []/\1<=k/\k<2^63/\xs.length*k.toNat<=sizeLine /\
 (k=1->Q (.ref a) H)/\(k≠1->∀l,H l=none->Q (.ref l) (upd H l (.tup (List.replicate k.toNat xs).flatten)))
def pk {X:Cx}{K:Frag}(hK:X.K=K:=by rfl):OpR X (binaryOp .Mult) (zm K):=by
 subst hK;intro pins s σ H x y v u Q I rx ry h;obtain ⟨l,k,xs,rfl,rfl,hH,a3,h1,h2,hz,q1,q2⟩:=h;cases rx;obtain ⟨t,rfl⟩:=ry;obtain ⟨its,r,p,_⟩:=I.tuple hH;obtain ⟨⟨cls,dd,data,sl⟩,ho,hc,n,hd⟩:=id p;simp only at hc hd;subst hc hd;have a0:its ≠ []:=λz=>a3 (r.nil_iff.mp z);refine wpAny_binaryOp_repeat_ref (T := "tuple") (U := "int") ZY ⟨_,ho,rfl⟩ (λs'=>qW6 s' k t) HT.noFill_tuple_mul F.fills_int_mul qU1 HT.repeat_tuple F.slot_int_index.lookup
  (qR4 qU1 (qW6 s k t) F.entry_int_rmul (F.args_int_rmul_2 _ _) (HT.rmul_declines k t l its.toArray n dd sl)
   ⟨ho,rfl,⟨_,ho,rfl⟩,?_⟩)
 by_cases e:k=1
 .subst e;show qR4 F.slot_tuple_mul ⟨_,ho,rfl⟩ F.entry_tuple_mul (F.args_tuple_mul_2 _ _) (HT.tuple_mul1 l its.toArray n dd sl t) ⟨ho,.ref l,H,I,rfl,q1 rfl⟩
 .have O:List.foldl (λx1 x2=>x1++x2) #[] (List.replicate k.toNat its.toArray)=(List.replicate k.toNat its).flatten.toArray:=by
   have:=iC its k.toNat []
   rw[qZ2]at this;show this
  have hlen:its.length*k.toNat<=sizeLine:=by rw[<- r.length];show hz
  have a5:(its.toArray.size:Int)*k<=(sizeLine:Nat):=by
   have e2:((its.length*k.toNat:Nat):Int)=(its.toArray.size:Int)*k:=by
    rw[Int.natCast_mul,qU9 ox,qB8]
   rw[<- e2];exact_mod_cast hlen
  have a4:((sizeLine:Nat):Int)<=(2^63-1)/8:=ZY;refine qR4 F.slot_tuple_mul ⟨_,ho,rfl⟩ F.entry_tuple_mul (F.args_tuple_mul_2 _ _) (HT.tuple_mul2 l its.toArray n dd sl k t ?_ ?_ ?_ ?_ ?_ ?_) ⟨ho,?_⟩
  .simp only [Bool.or_eq_true,qQ7];omega
  .simp [a0,e]
  .simp only [Bool.or_eq_true,qQ7];rintro (z|z)
   .omega
   .simp [a0]at z
  .omega
  .simp only [Builtin.Tuple.tupleTooMany,qQ7];omega
  .rw[O,qB8,len_reps,qX6];show hlen
  .rw [O]
   refine ⟨.ref s.heap.objs.size,_,I.laid (t':=s.toks) (o:=.tup (List.replicate k.toNat xs).flatten) (λb ob q=>qA7 _ q) (qB4 _) ?_,rfl,q2 e _ (I.hok.fresh (qB4 _))⟩;show ⟨by rw[len_reps,qX6];show hz,_,r.rep k.toNat,IsTup.new _ _⟩
def fRepT:W->W->R W
 | .tup us,.int k=>if us ≠ []/\us.length*k.toNat<=1000/\1<=k/\k<=1000 then .ok (.tup (List.replicate k.toNat us).flatten) else .stuck
 |_,_=>.stuck
def pq {K:Frag}:Op2 K .C .F (zm K) fRepT:=by
 intro EX H0 Hs G H ρ σ Ha Hb x y u v Q I s mx my o;cases u <;> first|show o.elim|skip
 all_goals (cases v <;> first|show o.elim|skip)
 rename_i us k
 replace o:Out EX G H (mdW K .F H0 Hs) (if us ≠ []/\us.length*k.toNat<=1000/\1<=k/\k<=1000 then .ok (.tup (List.replicate k.toNat us).flatten) else .stuck) Q:=o
 by_cases hn:us ≠ []/\us.length*k.toNat<=1000/\1<=k/\k<=1000
 .rw [qA2 hn]at o
  obtain ⟨O,hz,h1,h2⟩:=hn;have hy:y=.int k:=Md.intB (Md.CB (H:=Hb) I my);subst hy;obtain ⟨a,vs,rfl,h,r⟩:=(Md.repC mx λ_=>W.noConfusion).inv;refine ⟨_,k,_,rfl,rfl,SqT.of (I.gh _ _ h),?_,h1,ox,by rw[r.length];show V0 hz,?_,?_⟩
  .intro z
   have:=r.length
   rw[z]at this;show O (qR3 this.symm)
  .intro e;subst e;refine o _ G H (Ext.refl I.gh) (.tup h ?_);simpa using r
  .intro _ l T;show Out.newTF I (r.rep _) T o
 .rw[qA4 hn]at o;show o.elim
end TP
namespace TP
open PySem PySem.W PyProof.Rows
section
variable (r:Zv)
def runK {α:Type}:KasT α->α
 | .ret a=>a
 | .ask i j k=>runK (k (decide (r i<r j)))
def W6 (f:α->KasT β) (t:KasT α):runK r (t.bind f)=runK r (f (runK r t)):=by
 induction t with
 |ret _=>rfl
 |ask i j k I=>show I _
def iQ {k:Bool->KasT α}(h:r i<r j):runK r (.ask i j k)=runK r (k true):=congrArg (λb=>runK r (k b)) (qO8 h)
def fM {k:Bool->KasT α}(h:¬ r i<r j):runK r (.ask i j k)=runK r (k false):=congrArg (λb=>runK r (k b)) (qO7 h)
def ky (p:Array Nat)(k:Nat):Int:=r (p.getD k 0)
def iA (h:p[k]?=q[l]?):ky r p k=ky r q l:=by
 unfold ky;rw[qG4,qG4,h]
def ny (I:j<=p.size) (k:Nat):ky r (kas_rev p i j) k=if i<=k/\k<j then ky r p (i+j-1-k) else ky r p k:=by
 have e:=getElem?_mirror_all (i:=i) I k;by_cases h:i<=k/\k<j
 .rw[qA2 h]at e ⊢;show iA r e
 .rw[qA4 h]at e ⊢;show iA r e
def FP (O:k<p.size) (hd:d<=k) (i:Nat):ky r (bubble p k d) i=if i=k-d then ky r p k else if k-d<i/\i<=k then ky r p (i-1) else ky r p i:=by
 have e:=getElem?_bubble O d hd i;by_cases h:i=k-d
 .rw[qA2 h]at e ⊢;show iA r e
 .rw [qA4 h]at e ⊢
  by_cases I:k-d<i/\i<=k
  .rw[qA2 I]at e ⊢;show iA r e
  .rw[qA4 I]at e ⊢;show iA r e
def rev_eq (I:j<=p.size) (h:∀k,i<=k->k<j->ky r p k=c) (k:Nat):ky r (kas_rev p i j) k=ky r p k:=by
 rw[ny r I];by_cases hk:i<=k/\k<j
 .rw[qA2 hk,h k hk.1 hk.2,h _ ox ox]
 .rw[qA4 hk]
def up (p:Array Nat)(n:Nat):Prop:=∀k,k+1<n->ky r p k<=ky r p (k+1)
def dn (p:Array Nat)(n:Nat):Prop:=∀k,k+1<n->ky r p (k+1)<=ky r p k
def Af (h:up r p (n+1)) (e:ky r p n<=ky r p (n+1)):up r p (n+2):=λk hk=>by
 rcases qN4 (qH6 (qH6 hk)) with q|rfl
 .show h k (Nat.succ_lt_succ q)
 .show e
def cg (h:dn r p (n+1)) (e:ky r p (n+1)<=ky r p n):dn r p (n+2):=λk hk=>by
 rcases qN4 (qH6 (qH6 hk)) with q|rfl
 .show h k (Nat.succ_lt_succ q)
 .show e
def vY (p:Array Nat):∀(f m:Nat),up r p (m+1)->∃R,runK r (kas_asc p f (m+1))=R+1/\m<=R/\R<=m+f/\up r p (R+1)/\(R<m+f->ky r p (R+1)<ky r p R):=by
 intro f
 induction f with
 |zero=>show λm I=>⟨m,rfl,qB4 _,qB4 _,I,λh=>absurd h (qE2 _)⟩
 | succ f T=>
  intro m I;by_cases h:ky r p (m+1)<ky r p m
  .show ⟨m,iQ r h,qB4 _,qM4 _ _,I,λ_=>h⟩
  .obtain ⟨R,e,a,b,c,d⟩:=T (m+1) (Af r I (qW9.mp h));have O:m+1+f=m+(f+1):=qG9 m f;rw[O]at b d;show ⟨R,(fM r h).trans e,qI6 a,b,c,d⟩
def CD:∀(f:Nat) (p:Array Nat) (m q:Nat),m+1+f<=p.size->q<=m->dn r p (m+1)->(∀k,m+1-(q+1)<=k->k<=m->ky r p k=ky r p m) ->
  ∃p' I q',runK r (kas_desc f p (m+1) q)=(p',I+1,q')/\p'.Perm p/\m<=I/\I<=m+f/\dn r p' (I+1)/\∀k,I+1-(q'+1)<=k->k<=I->ky r p' k=ky r p' I:=by
 intro f
 induction f with
 |zero=>show λp m q _ _ hd he=>⟨p,m,q,rfl,.refl _,qB4 _,qB4 _,hd,he⟩
 | succ f ih=>
  intro p m q hz hq hd he;have hf:m+1+f=m+(f+1):=qG9 m f;have a0:m+1+1+f<=p.size:=by rw[qG9 (m+1) f];show hz
  by_cases h:ky r p (m+1)<ky r p m
  .have e0:runK r (kas_desc (f+1) p (m+1) q)=runK r (if q>0 then kas_desc f (kas_rev p (m+1-(q+1)) (m+1)) (m+1+1) 0 else kas_desc f p (m+1+1) 0):=iQ r h;by_cases a3:q>0
   .have O:=rev_eq r (p:=p) (i:=m+1-(q+1)) (j:=m+1) (c:=ky r p m) (qC1 (qM4 _ _) hz) λk a b=>he k a (qJ9 b);obtain ⟨p',I,q',e,h1,h2,T,h5⟩:=ih (kas_rev p (m+1-(q+1)) (m+1)) (m+1) 0 (by rw[kas_rev_size];show a0) (qE0 _) (cg r (λk hk=>by rw[O,O];show hd k hk) (by rw[O,O];show qN5 h)) λk a b=>by rw[qN3 b a]
    rw[e0,qA2 a3];rw[hf]at T;show ⟨p',I,q',e,h1.trans (mirror_perm _ _ _ _),qI6 h2,T,h5⟩
   .obtain ⟨p',I,q',e,h1,h2,T,h5⟩:=ih p (m+1) 0 a0 (qE0 _) (cg r hd (qN5 h)) λk a b=>by rw[qN3 b a]
    rw[e0,qA4 a3];rw[hf]at T;show ⟨p',I,q',e,h1,qI6 h2,T,h5⟩
  .by_cases h2:ky r p m<ky r p (m+1)
   .show ⟨p,m,q,(fM r h).trans (iQ r h2),.refl _,qB4 _,qM4 _ _,hd,he⟩
   .have ee:ky r p (m+1)=ky r p m:=Int.le_antisymm (qW9.mp h2) (qW9.mp h);obtain ⟨p',I,q',e,h1,a4,T,h5⟩:=ih p (m+1) (q+1) a0 (qJ0 hq) (cg r hd (Int.le_of_eq ee)) λk a b=>by
     rcases qN4 b with b|rfl
     .rw[ee];show he k (by rw[Nat.add_sub_add_right]at a;show a) (qJ9 b)
     .rfl
    rw[hf]at T;show ⟨p',I,q',(fM r h).trans ((fM r h2).trans e),h1,qI6 a4,T,h5⟩
def rQ (nrem:Nat)(p:Array Nat)(R:Nat×Array Nat):Prop:=R.2.Perm p/\R.1<=nrem/\up r R.2 R.1
def lF (hn:m+1<=nrem) (hz:nrem<=p.size) (hd:dn r p (m+1)):rQ r nrem p (runK r (kas_tail3 (m+1) nrem p)):=by
 unfold kas_tail3;rw[W6];have hm:=qC1 hn hz;have I:up r (kas_rev p 0 (m+1)) (m+1):=λk hk=>by
  rw[ny r hm,ny r hm,qA2 ⟨qE0 _,qL7 hk⟩,qA2 ⟨qE0 _,hk⟩,Nat.zero_add,Nat.add_sub_cancel];have e:m-k=m-(k+1)+1:=(qS4 (qW2 (Nat.lt_of_succ_lt_succ hk))).symm;rw[e];show hd _ (by rw[<- e];show Nat.lt_succ_of_le (Nat.sub_le _ _))
 obtain ⟨R,e,a,b,c,_⟩:=vY r (kas_rev p 0 (m+1)) (nrem-(m+1)) m I;rw[e];show ⟨mirror_perm _ _ _ _,by change R+1<=nrem;omega,c⟩
def ga (hn:m+1<=nrem) (hz:nrem<=p.size) (hd:dn r p (m+1)):rQ r nrem p (runK r (kas_descPart m nrem p)):=by
 unfold kas_descPart;rw[W6];obtain ⟨p',I,T,e,h1,h2,h3,h5,h6⟩:=CD r (nrem-(m+1)) p m 0 (by rw[qM8 hn];show hz) (qE0 _) hd λk a b=>by rw[qN3 b a]
 rw[e]
 change rQ r nrem p (runK r (if T>0 then kas_tail3 (I+1) nrem (kas_rev p' (I+1-(T+1)) (I+1)) else kas_tail3 (I+1) nrem p'));have hm:I+1<=nrem:=ox;have O:nrem<=p'.size:=by rw[h1.size_eq];show hz
 by_cases hq:T>0
 .rw [qA2 hq]
  have a0:=rev_eq r (p:=p') (i:=I+1-(T+1)) (j:=I+1) (c:=ky r p' I) (qC1 hm O) λk a b=>h6 k a (qJ9 b);obtain ⟨t1,t2⟩:=lF r (p:=kas_rev p' (I+1-(T+1)) (I+1)) hm (by rw[kas_rev_size];show O) λk hk=>by rw[a0,a0];show h5 k hk
  show ⟨(t1.trans (mirror_perm _ _ _ _)).trans h1,t2⟩
 .rw [qA4 hq]
  obtain ⟨t1,t2⟩:=lF r hm O h5;show ⟨t1.trans h1,t2⟩
def dE (h:up r p n):∀j i,i<=j->j<n->ky r p i<=ky r p j:=by
 intro j
 induction j with
 |zero=>intro i a _;rw[Nat.le_zero.mp a];show qE8 _
 | succ j I=>
  intro i a b;rcases qN4 a with q|rfl
  .show qC6 (I i (qJ9 q) (qL7 b)) (h j b)
  .show qE8 _
def vy (h2:2<=nrem) (hz:nrem<=p.size):rQ r nrem p (runK r (kas_count nrem p)):=by
 unfold kas_count;rw[W6];obtain ⟨R,e,_,b,c,d⟩:=vY r p (nrem-1) 0 λk hk=>absurd hk (qO1 (qJ0 (qE0 k)));have e:runK r (kas_asc p (nrem-1) 1)=R+1:=e;rw[e];by_cases e1:R+1=nrem
 .rw [qA2 (xB4.mpr e1)]
  show ⟨.refl _,Nat.le_of_eq e1,c⟩
 .rw [qA4 λq=>e1 (xB4.mp q)]
  have hR:R+1+1<=nrem:=ox;have T:=d ox;by_cases h1:R+1>1
  .rw [qA2 h1]
   by_cases h:ky r p 0<ky r p R
   .have q:runK r (KasT.ask (p.getD 0 0) (p.getD (R+1-1) 0) λc=>if c=true then .ret (R+1,p) else kas_descPart (R+1) nrem (kas_rev p 0 (R+1)))=(R+1,p):=iQ r h;rw[q];show ⟨.refl _,qI6 hR,c⟩
   .have q:runK r (KasT.ask (p.getD 0 0) (p.getD (R+1-1) 0) λc=>if c=true then .ret (R+1,p) else kas_descPart (R+1) nrem (kas_rev p 0 (R+1)))=runK r (kas_descPart (R+1) nrem (kas_rev p 0 (R+1))):=fM r h;rw[q];have I:∀k,k<R+1->ky r p k=ky r p 0:=λk hk=>
     Int.le_antisymm (qC6 (dE r c R k (qJ9 hk) (qD8 _)) (qW9.mp h)) (dE r c k 0 (qE0 _) hk)
    have O:=rev_eq r (p:=p) (i:=0) (j:=R+1) (c:=ky r p 0) (qC1 (qI6 hR) hz) λk _ hk=>I k hk;obtain ⟨t1,t2⟩:=ga r (p:=kas_rev p 0 (R+1)) (m:=R+1) hR (by rw[kas_rev_size];show hz) (cg r (λk hk=>by rw[O,O,I _ hk,I k (qL7 hk)];show qE8 _) (by rw[O,O];show qN5 T));show ⟨t1.trans (mirror_perm _ _ _ _),t2⟩
  .rw [qA4 h1]
   have a0:R=0:=ox;show ga r hR hz (cg r (λk hk=>absurd hk (by rw[a0];show qO1 (qJ0 (qE0 k)))) (qN5 T))
def xu (hu:up r p k):∀(f l h:Nat),h-l<=f->l<=h->h<=k->(∀i,i<l->ky r p i<=ky r p k)->(∀i,h<=i->i<k->ky r p k<ky r p i) ->
  ∃R,runK r (kas_place p k f l h)=R/\R<=k/\(∀i,i<R->ky r p i<=ky r p k)/\∀i,R<=i->i<k->ky r p k<ky r p i:=by
 intro f
 induction f with
 | zero=>
  intro l h hf hl hk a b;have e:h=l:=ox;subst e;show ⟨h,rfl,hk,a,b⟩
 | succ f ih=>
  intro l h hf hl hk a b;by_cases O:l≥h
  .have e:h=l:=qN3 O hl;subst e;show ⟨h,by change runK r (if h≥h then .ret h else _)=h;rw[qA2 (qB4 _)];rfl,hk,a,b⟩
  .obtain ⟨md,I⟩:∃md,md=(l+h)/2:=⟨_,rfl⟩;have m1:l<=md:=by rw[I];show (Nat.le_div_iff_mul_le ZY).mpr (by rw[Nat.mul_two];show Nat.add_le_add_left hl _)
   have T:md<h:=by rw[I];show (Nat.div_lt_iff_lt_mul ZY).mpr (by rw[Nat.mul_two];show Nat.add_lt_add_right (Nat.lt_of_not_le O) _)
   have m3:md-l<=f:=qJ9 (qB6 (Nat.sub_lt_sub_right m1 T) hf);have m4:h-(md+1)<=f:=qC1 (Nat.sub_le_sub_left (qJ0 m1) h) (Nat.pred_le_pred hf);have e0:runK r (kas_place p k (f+1) l h)=runK r (.ask (p.getD k 0) (p.getD md 0) λc=>if c=true then kas_place p k f l md else kas_place p k f (md+1) h):=by
    rw[I]
    change runK r (if l≥h then .ret l else _)=_;rw[qA4 O]
   by_cases c:ky r p k<ky r p md
   .obtain ⟨R,e,x⟩:=ih l md m3 m1 (qC1 (qK4 T) hk) a λi x y=>Int.lt_of_lt_of_le c (dE r hu i md x y);show ⟨R,e0.trans ((iQ r c).trans e),x⟩
   .obtain ⟨R,e,x⟩:=ih (md+1) h m4 T hk (λi x=>qC6 (dE r hu md i (qJ9 x) (qB6 T hk)) (qW9.mp c)) b;show ⟨R,e0.trans ((fM r c).trans e),x⟩
def Ic:∀(f:Nat) (p:Array Nat) (k:Nat),k+f<=p.size->up r p k->(runK r (kas_bin f p k)).Perm p/\up r (runK r (kas_bin f p k)) (k+f):=by
 intro f
 induction f with
 |zero=>show λp k _ T=>⟨.refl _,T⟩
 | succ f ih=>
  intro p k hz T;obtain ⟨l,e,p1,p2,p3⟩:=xu r T k 0 k (qB4 _) (qE0 _) (qB4 _) (λi x=>absurd x (qF0 _)) λi x y=>absurd y (qO1 x);have e0:runK r (kas_bin (f+1) p k)=runK r (kas_bin f (bubble p k (k-l)) (k+1)):=by
   change runK r ((kas_place p k k 0 k).bind _)=_;rw[W6,e]
  have hf:k+(f+1)=k+1+f:=(qG9 k f).symm;rw[hf]at hz;have I:=λi=>FP r (p:=p) (k:=k) (d:=k-l) (qB6 (qD8 k) (qC1 (qM4 _ _) hz)) (Nat.sub_le _ _) i;rw[Nat.sub_sub_self p1]at I;have ih:=ih (bubble p k (k-l)) (k+1) (by rw[bubble_size];show hz) λi hi=>by
   rw[I,I];have hi:=Nat.lt_of_succ_lt_succ hi;rcases Nat.lt_trichotomy i l with c|c|c
   .rw [qA4 (qC8 c),qA4 λz=>Nat.lt_asymm z.1 c]
    by_cases O:i+1=l
    .rw[qA2 O];show p2 i c
    .have c3:i+1<l:=Nat.lt_of_le_of_ne c O;rw[qA4 O,qA4 λz=>Nat.lt_asymm z.1 c3];show T i (qB6 c3 p1)
   .subst c;rw[qA2 rfl,qA4 (Nat.succ_ne_self _),qA2 ⟨qD8 _,hi⟩];show qN5 (p3 i (qB4 _) hi)
   .have O:=qF3 c;rw[qA4 (qJ4 c),qA2 ⟨c,qK4 hi⟩,qA4 (qJ4 O),qA2 ⟨O,hi⟩];cases i with
    |zero=>show absurd c (qF0 _)
    |succ j=>show T j hi
  rw[e0,hf];show ⟨ih.1.trans (bubble_perm _ _ _),ih.2⟩
def oQ (h2:2<=n):(runK r (kas_sort n)).Perm (List.toArray (List.range n))/\up r (runK r (kas_sort n)) n:=by
 unfold kas_sort;rw[W6];have c:=vy r (p:=List.toArray (List.range n)) (nrem:=n) h2 ZV;generalize runK r (kas_count n (List.toArray (List.range n)))=R at c
 obtain ⟨O,T,I⟩:=c;by_cases h:R.1<n
 .rw [qA2 h]
  have hm:max R.1 1<=n:=Nat.max_le.mpr ⟨T,qI6 h2⟩;have b:=Ic r (n-max R.1 1) R.2 (max R.1 1) (by rw[qM8 hm,O.size_eq];simp) λk hk=>I k ox;rw[qM8 hm]at b;show ⟨b.1.trans O,b.2⟩
 .rw [qA4 h]
  rw[qN3 T (qX0.mp h)]at I;show ⟨O,I⟩
end
end TP
namespace TP
open PySem L2
def jS (hh:A.handled=none) (u:Sub) (I:u.l≠u.i) (its:VW):
  Draws prog w A u.i [u.i,u.l] its.size (λi v=>its[i]?=some v) (λi h=>u.At h i/\u.Src h its) where
 live:=λ_ _ st=>by obtain ⟨o,e,_⟩:=st.1.obj;show ⟨o,e⟩
 frame:=λ_ _ _ st hk=>⟨st.1.keep λo e=>hk u.i ZV o e,st.2.keep λo e=>hk u.l ZV o e⟩
 item:=λi s Q E hi st T=>Sub.item st.1 st.2 (x:=its[i]) (by simp [hi]) λh' a O=>T _ h' s.toks (by simp [hi]) ⟨a,st.2.keep λo e=>O.extBut _ _ I e⟩ O
 done:=λs Q E st hE=>Sub.ends hh st.1 st.2 ZV hE
def oF (l:Addr) (its:VW) (m:Nat) (T:Option Addr) (sl:Array VY) :
  Meets (Builtin.«enumerate.__new__» ⟨[.type "enumerate",.ref l],[]⟩) (λ_ R s=>s.heap.get? l=some { cls:=.type "tuple",dict:=T,data:=.seq its m,slots:=sl } /\
   R (.ok (.ret (.ref (s.heap.push { cls:=.type "tuple_iterator",data:=.fields #[.ref l,.int 0 0] }).objs.size)))
    { s with heap:=(s.heap.push { cls:=.type "tuple_iterator",data:=.fields #[.ref l,.int 0 0] }).push { cls:=.type "enumerate",data:=.fields #[.none,.bool false,.ref s.heap.objs.size,rawInt 0,.none,.none] } }):=
 .of_wp λprog w A R s I=>by
  obtain ⟨hp,g,d,tk,os⟩:=s;obtain ⟨O,I⟩:=I;have a0:=sub_enumerate;have hT:Heap.IsTuple (Shared.heap ⟨hp,g,d,tk,os⟩) l its:=⟨_,O,rfl,m,rfl⟩
  wp_walk using qH0 O
  refine wpAny_stack_any λstk=>qO6 ?_
  split
  .rename_i cc _ _ _ _ _
   cases (cc == Value.type "enumerate") <;>
   .wp_walk using qH0 O,qQ0 hT
    show ⟨_,rfl,I⟩
  .wp_walk using qH0 O,qQ0 hT
   show ⟨_,rfl,I⟩
def rW (hL:s.heap.IsTuple l its) (a0:∀h',IsEnum h' (s.heap.objs.size+1) s.heap.objs.size 0 .none->h'.IsTupleIter s.heap.objs.size l 0->(∀b o,s.heap.get? b=some o->h'.get? b=some o)->Q (.ref (s.heap.objs.size+1)) { s with heap:=h' }):
  wpAny (model prog w) A (call (.type "enumerate") [.ref l]) Q E s:=by
 obtain ⟨⟨c,O,dt,sl⟩,hl,hc,m,hd⟩:=hL;have T:c=.type "tuple" := hc;have I:dt=.seq its m:=hd;subst T I;refine callType_new F.called_enumerate ZY (F.typeCall_enumerate_1 _) (F.newCall_enumerate_1 _) (λobj=>F.args_object_init_2 obj _) F.entry_enumerate_new (oF l its m O sl) ⟨hl,?_⟩;generalize hP:s.heap.push { cls:=.type "tuple_iterator",data:=.fields #[.ref l,.int 0 0] }=P
 have hz:P.objs.size=s.heap.objs.size+1:=by rw[<- hP];show qI1 ..
 have hi:P.get? s.heap.objs.size=some { cls:=.type "tuple_iterator",data:=.fields #[.ref l,.int 0 0] }:=by rw[<- hP];show qC0 _ rfl
 have hk:∀b o,s.heap.get? b=some o->P.get? b=some o:=λb o e=>by rw[<- hP];show qA7 _ e
 change _/\_;have en:IsEnum (P.push { cls:=.type "enumerate",data:=.fields #[.none,.bool false,.ref s.heap.objs.size,rawInt 0,.none,.none] }) (s.heap.objs.size+1) s.heap.objs.size 0 .none:=by rw[<- hz];show qC0 _ rfl
 rw[hz];show ⟨⟨_,en,rfl⟩,a0 _ en ⟨_,qA7 _ hi,rfl,rfl⟩ λb o e=>qA7 _ (hk b o e)⟩
def vI (O:SrcAt s.heap (t,l,its)) (I:∀h',IsEnum h' (s.heap.objs.size+1) s.heap.objs.size 0 .none->(L2.Sub.mk t s.heap.objs.size l).At h' 0->(∀b o,s.heap.get? b=some o->h'.get? b=some o)->Q (.ref (s.heap.objs.size+1)) { s with heap:=h' }):
  wpAny (model prog w) A (call (.type "enumerate") [.ref l]) Q E s:=by
 unfold SrcAt at O;cases t with
 |true=>show rW O λh' a b c=>I h' a (by unfold Sub.At;show b) c
 |false=>show call_enumerate_list O λh' a b _ c=>I h' a (by unfold Sub.At;show b) c
def ItE (K:Frag) (t:Bool) (a:Addr):It:=
  ⟨fun i H=>∃xs x,Sq K H t a xs/\xs[i]?=some x,
   λi H x H'=>∃p y,x=.ref p/\H p=none/\H'=upd H p (.tup [.int (i:Int),y])/\∀xs,Sq K H t a xs->xs[i]?=some y,
   λi H=>∃xs,Sq K H t a xs/\xs.length=i⟩
abbrev eTn (e:Addr)(u:Sub)(i:Nat)(h:Heap):Prop:=(∃I,IsEnum h e u.i (i:Int) I)/\u.At h i
def sW (a5:e≠u.i):
  Turn P w K (.Tuple elts k tp) (ItE K u.t u.l) [e,u.i] e (eTn e u) where
 mem:=ZV
 obj:=λi h st b O=>by
  obtain ⟨⟨a3,he⟩,ha⟩:=st;simp only [qB5,qE4,qR2]at O;rcases O with rfl|rfl
  .show ⟨_,he,λv q=>by cases q⟩
  .obtain ⟨o,q,d⟩:=ha.obj;show ⟨o,q,λv z=>by rw[d]at z;cases z⟩
 keep:=λi h h' st kp=>⟨st.1.imp λa3 he=>kp e ZV _ he,st.2.keep λo q=>kp u.i ZV o q⟩
 item:=by
  intro X hP hw hK hc i pins s σ H E I hf st hg;subst hP hw hK;obtain ⟨⟨a3,he⟩,ha⟩:=st;obtain ⟨xs,x,hq,hx⟩:=hg;obtain ⟨its,rv,a0⟩:=Sq.src I hq;obtain ⟨v,hv,rx⟩:=rv.get hx;have fe:=hf e ZV;have fi:=hf u.i ZV;have a6:u.l≠u.i:=Sq.ne I hq fi;have b3:u.l≠e:=Sq.ne I hq fe;have hi:i<its.toArray.size:=by have:=(qA9.mp hv).1;simpa using this
  refine wpAny_pyNext_enum_itemD (jS (prog:=X.prog) (w:=X.w) (show X.A.in1.handled=none from I.ok.hd hc) u a6 its.toArray) he ⟨ha,a0⟩ hi a5 (by simp only [qB5,qE4,qR2,not_or];show ⟨a5,Ne.symm b3⟩) λy h1 tk hy z1 s1 p1 z2 k1=>?_;have ey:y=v:=by
   have e1:its[i]?=some y:=by simpa using hy
   rw[hv]at e1;cases e1;rfl
  subst ey;refine ⟨_,rfl,wpAny_letOwnedTupleGo_enum z1 λh2 e2 sb2=>?_⟩;have a7:e<s.heap.objs.size:=qB2 he;have a8:u.i<s.heap.objs.size:=by obtain ⟨o,q,_⟩:=ha.obj;show qB2 q
  have kp:∀b o,b≠e->b≠u.i->s.heap.get? b=some o->h2.get? b=some o:=λb o b1 b2 q=>sb2.extBut _ _ b1 (k1 b o b1 b2 q);have T:H s.heap.objs.size=none:=I.hok.fresh (qB4 _);have trk:∀b c,H b=some c->b≠e/\b≠u.i:=λb c q=>⟨λz=>(by subst z;rw[fe.1]at q;cases q),λz=>(by subst z;rw[fi.1]at q;cases q)⟩;have a9:h2.get? s.heap.objs.size=some { cls:=.type "tuple",data:=.seq #[.int i tk,y] }:=sb2.extBut _ _ (qJ4 a7) p1;have b0:Vals [.int (i:Int),x] [.int i tk,y]:=.cons ⟨tk,rfl⟩ (.cons rx .nil);refine ⟨.ref s.heap.objs.size,upd H s.heap.objs.size (.tup [.int (i:Int),x]),?_,rfl,⟨_,_,rfl,T,rfl,?_⟩,⟨⟨y,?_⟩,?_⟩,λb O=>?_⟩
  .change Inv X pins σ _ { s with heap:=h2,toks:=tk+1 };refine I.step (g':=s.gens) (t':=tk+1) (d':=s.drawn) (ch:=[e,u.i]) (λb O=>?_) (λb o _ _ hc q _=>kp b o ?_ ?_ q) (λb o _ _ hc q _=>⟨o.slots,kp b o ?_ ?_ q⟩) (λb o hc q n=>?_) (λb o hc q=>⟨o,kp b o ?_ ?_ q⟩) (λb ys q=>?_) (λb o c q=>?_) (λb ps q=>?_) (λm hm=>?_) ?_ I.bare
   .simp only [qB5,qE4,qR2]at O;rcases O with rfl|rfl
    .show ⟨fe.2.2.2.1,fe.2.1,fe.2.2.2.2.1,fe.2.2.2.2.2⟩
    .show ⟨fi.2.2.2.1,fi.2.1,fi.2.2.2.2.1,fi.2.2.2.2.2⟩
   all_goals first
    | (intro z;show hc (by simp [z];done))
    |skip
   .rw[e9 (qC8 (qB2 q))];show n
   .rw[e9 (f9 q T)];show q
   .rw[e9 (f9 q T)];show q
   .rw[e9 (f9 q T)];show q
   .obtain ⟨o,es,ep,ho,r⟩:=hm;show ⟨o,es,ep,kp _ o (Ne.symm fe.2.1) (Ne.symm fi.2.1) ho,r⟩
   .intro b c q;by_cases O:b=s.heap.objs.size
    .subst O;rw[p8]at q;cases q;show ⟨(show 2<=sizeLine by decide),_,b0,⟨_,a9,rfl,_,rfl⟩⟩
    .rw [e9 O]at q
     refine (I.hok b c q).stay (λd v a4 z=>?_) (λd z=>by rw[e9 (f9 z T)];show z) λd ys z=>by rw[e9 (f9 z T)];show z
     rcases a4 with rfl|a4
     .show kp _ v (trk _ _ q).1 (trk _ _ q).2 z
     .show kp _ v (trk _ _ a4).1 (trk _ _ a4).2 z
  .intro ys ab;rw[Sq.inj I ab hq];show hx
  .have:((i+1:Nat):Int)=(i:Int)+1:=ox
   rw[this];show e2
  .show s1.1.keep λo q=>sb2.extBut _ _ (Ne.symm a5) q
  .have:b≠s.heap.objs.size:=by
    simp only [qB5,qE4,qR2]at O;rcases O with rfl|rfl
    .show qC8 a7
    .show qC8 a8
   rw[e9 this];show (hf b O).1
 done:=by
  intro X hP hw hK hc i pins s σ H E I hf st hg;subst hP hw hK;obtain ⟨⟨a3,he⟩,ha⟩:=st;obtain ⟨xs,hq,hn⟩:=hg;obtain ⟨its,rv,a0⟩:=Sq.src I hq;have fe:=hf e ZV;have fi:=hf u.i ZV;have a6:u.l≠u.i:=Sq.ne I hq fi;have b4:its.toArray.size=i:=by have:=rv.length;simp;omega
  subst b4;refine wpAny_pyNext_enum_endD (jS (prog:=X.prog) (w:=X.w) (show X.A.in1.handled=none from I.ok.hd hc) u a6 its.toArray) he ⟨ha,a0⟩ λh' eb=>⟨rfl,?_⟩;obtain ⟨f0,f1,f2,f3,f4,f5⟩:=fi;show I.turned (t':=s.toks) (λb o O q=>eb b o O q) f0 f1 f3 f4 f5
 self:=λA i s Q E st h=>by
  obtain ⟨⟨a3,he⟩,_⟩:=st;show wpAny_pyIter_enum he h
def zG (K:Frag)(ta:TA):TI:=λσ H R=>ta σ H λvs H1=>∃t a xs,vs = [.ref a]/\Sq K H1 t a xs/\R (ItE K t a) H1
def oa:bootBuiltins "enumerate" = some (.type "enumerate"):=ZU
def ph (hg:Gl X "enumerate") (hm:X.mg "enumerate" = none) (ha:PA X [a] ta) (hs:starEach [a] X.env = [(false,eval a X.env)]:=by rfl):PI X (.Tuple elts k tp) (.Call (.Name "enumerate" p) [a] [] pos) (zG X.K ta):=by
 intro pins s σ H R I h;refine qP3 (M5 I hg hm oa ?_ ZY ZY);refine qG3 (thn (ha pos pins s σ H _ I h) λus s1 T=>?_) hs ZQ;obtain ⟨vs,H1,I1,r1,t,b,xs,e1,hq,q⟩:=T;subst e1;obtain ⟨u,rfl,ru⟩:=L5 r1;cases ru;obtain ⟨its,rv,O⟩:=Sq.src I1 hq;refine vI (t:=t) (its:=its.toArray) (by unfold SrcAt;unfold Sub.Src at O;show O) λh' he hA hk=>wpAny_pyIter_enum he ?_;have I2:Inv X pins σ H1 { s1 with heap:=h' }:=I1.kept (t':=s1.toks) hk;have TE:=sW (P:=X.prog) (w:=X.w) (K:=X.K) (elts:=elts) (k:=k) (tp:=tp) (e:=s1.heap.objs.size+1) (u:=⟨t,s1.heap.objs.size,b⟩) (neN (by change s1.heap.objs.size+1≠s1.heap.objs.size;omega));refine ⟨_,_,_,_,H1,rfl,I2,TE,⟨⟨_,he⟩,hA⟩,λc hc=>?_,q⟩;have a0:s1.heap.objs.size<=c:=by
  simp only [qB5,qE4,qR2]at hc;rcases hc with rfl|rfl
  .omega
  .show qB4 _
 show I1.fpOk (H':=H1) a0 (I1.hok.fresh a0)
def bC:List W->R Zk
 | [w]=>match C3 w with
  | .ok xs=>.ok (xs.mapIdx λi x=>W.tup [.int (i:Int),x])
  |_=>.stuck
 |_=>.stuck
def uY (he:e=.V\/e=.U) (s1:Sq K Z t a xs) (r1:Reps K (fz e H0 G) xs us):di K e H0 Z G (ItE K t a) (us.mapIdx λi x=>W.tup [.int (i:Int),x]):=by
 have l1:=r1.length;have O:∀H,Same Z H->Sq K H t a xs:=λH z=>Sq.same z s1;refine ⟨λi H hi z=>?_,λH z=>⟨xs,O H z,by rw[qV7,l1]⟩,λi H x H' w hw z y G2 ρ σ I sg=>?_⟩
 .rw [qV7]at hi
  show ⟨xs,xs[i]'ox,O H z,ZV⟩
 .obtain ⟨p,y1,rfl,hp,rfl,hy⟩:=y;obtain ⟨w1,e1,q1⟩:=Reps.get' r1 (hy xs (O H z));have T:w=.tup [.int (i:Int),w1]:=by
   rw[List.getElem?_mapIdx,e1]at hw;cases hw;rfl
  subst T;obtain ⟨x1,x2⟩:=jf (Hs:=H) he I hp (.cons .int (.cons (q1.same (N7 sg)) .nil));show ⟨_,x1,x2⟩
def vJ (he:e=.V\/e=.U) (h:tIt K EX lp e (λρ=>ma ρ>>=bC) σ H Rr):zG K (tA K EX (dI lp e) ma) σ H Rr:=by
 refine cz h (λH0 G ρ G1 H1 xs ws us I e1 O q o=>?_) (λws e z=>?_)
 .have I1:=I.ext e1;unfold bC at q
  split at q
  .rename_i w
   cases hw:C3 w with
   |stuck=>rw[hw]at q;cases q
   |ex _=>rw[hw]at q;cases q
   | ok ls=>
    rw[hw]at q;cases q;cases O with
    | cons a1 O=>
     cases O;obtain ⟨t1,p1,v1,rfl,T,r1⟩:=Md.src he I1 a1 hw;show ⟨t1,p1,v1,rfl,K8 (jw I1) T,o _ G1 H1 e1 (uY he T r1)⟩
  .cases q
 .unfold bC at z
  split at z
  .split at z <;> cases z
  .cases z
def EY {X:Cx}{K:Frag}{EX:EXT}{a:Expr}{pos:Pos}{I:Zp}{elts:VV}{p tp:Pos}{k:Nat}(hg:Gl X "enumerate") (hm:X.mg "enumerate" = none) (ha:PA X [a] (tA K EX .B I)) (O:X.K=K:=by rfl) (T:starEach [a] X.env = [(false,eval a X.env)]:=by rfl):PI X (.Tuple elts k tp) (.Call (.Name "enumerate" p) [a] [] pos) (tIt K EX false .U (bI bC I)):=by
 subst O;show (ph hg hm ha T).mono λ_ _ _ q=>vJ (lp:=false) (.inr rfl) q
def ue {X:Cx}{K:Frag}{EX:EXT}{a:Expr}{pos:Pos}{I:Zp}{elts:VV}{p tp:Pos}{k:Nat}(hg:Gl X "enumerate") (hm:X.mg "enumerate" = none) (ha:PA X [a] (tA K EX .U I)) (O:X.K=K:=by rfl) (T:starEach [a] X.env = [(false,eval a X.env)]:=by rfl):PI X (.Tuple elts k tp) (.Call (.Name "enumerate" p) [a] [] pos) (tIt K EX true .U (bI bC I)):=by
 subst O;show (ph hg hm ha T).mono λ_ _ _ q=>vJ (lp:=true) (.inr rfl) q
def inW (u:W):W->Option Bool
 | .tup ws=>some ((pds ws).any λy=>PyData.eqv y (pd u))
 | .lst ws=>some ((pds ws).any λy=>PyData.eqv y (pd u))
 | .scr ws=>some ((pds ws).any λy=>PyData.eqv y (pd u))
 |_=>none
def rIn (K:Frag)(neg:Bool):R2:=λx y H Q=>∃u v b,Rep K H x u/\Rep K H y v/\shp 8 u=true/\shp 8 v=true/\inW u v=some b/\Q (.bl (if neg then !b else b)) H
def IW (hu:X.A.units+64<cLine):OpR X (compareOp .In) (rIn X.K false):=by
 intro pins s σ H x y v u Q I rx ry h;obtain ⟨a,c,b,ra,rc,sa,sc,e,q⟩:=h;obtain ⟨as,T⟩:=Rep.reads I 8 ra sa rx;obtain ⟨bs,O⟩:=Rep.reads I 8 rc sc ry;have la:=hV a 8 sa;cases c <;> first | (cases e;done)|skip
 all_goals
  rename_i ws
  have lc:=oR ws 7 sc;have hm:X.A.units+1+min (PyData.depthAll (pds ws)) (pd a).depth<cLine:=by have:=qN2 (PyData.depthAll (pds ws)) (pd a).depth;omega
  cases e
 .show SeqAt.in_tuple_reads O T lc.1 la.1 hm ⟨.bl _,H,I,rfl,q⟩
 .show SeqAt.in_list_reads O T lc.1 la.1 hm ⟨.bl _,H,I,rfl,q⟩
 .show SeqAt.in_list_reads O T lc.1 la.1 hm ⟨.bl _,H,I,rfl,q⟩
def fIn (neg:Bool) (u v:W):R W:=if shp 8 u&&shp 8 v then (match inW u v with
 |some b=>.ok (.bl (if neg then !b else b))
 |none=>.stuck) else .stuck
def IZ:Op2 K .B d (rIn K neg) (fIn neg):=by
 intro EX H0 Hs G H ρ σ Ha Hb x y u v Q I s mx my o;unfold fIn at o;by_cases c:(shp 8 u&&shp 8 v)=true
 .rw [qA2 c]at o
  have T:shp 8 u=true/\shp 8 v=true:=by simpa using c
  cases O:inW u v with
  |none=>rw[O]at o;show o.elim
  | some b=>
   rw[O]at o;show ⟨u,v,b,mx.whole I,my.whole I,T.1,T.2,O,o _ G H (Ext.refl I.gh) (Md.sca rfl (λ_=>.bl) d)⟩
 .rw[qA4 c]at o;show o.elim
def lexLt:List Int->List Int->Bool
 | [],[]=>false
 | [],_::_=>true
 |_::_,[]=>false
 |a::as,b::bs=>if a=b then lexLt as bs else decide (a<b)
def pK:∀a,lexLt a a=false
 | []=>rfl
 |x::a=>by unfold lexLt;rw[qA2 rfl];show pK a
def uT:∀a b c,lexLt a b=true->lexLt b c=true->lexLt a c=true
 | [],[],_,h,_=>by cases h
 | [],_::_,[],_,h=>by cases h
 | [],_::_,_::_,_,_=>rfl
 |_::_,[],_,h,_=>by cases h
 |_::_,_::_,[],_,h=>by cases h
 | x::a,y::b,z::c,O,I=>by
  unfold lexLt at O I ⊢;by_cases e1:x=y
  .subst e1;rw[qA2 rfl]at O;by_cases T:x=z
   .subst T;rw[qA2 rfl]at I ⊢;show uT a b c O I
   .rw[qA4 T]at I ⊢;show I
  .rw [qA4 e1]at O
   have O:=qO9 O;by_cases T:y=z
   .subst T;rw[qA4 e1];show qO8 O
   .rw [qA4 T]at I
    have I:=qO9 I;rw[qA4 ox];show qO8 ox
def pJ:∀a b,lexLt a b=false->lexLt b a=false->a=b
 | [],[],_,_=>rfl
 | [],_::_,h,_=>by cases h
 |_::_,[],_,h=>by cases h
 | x::a,y::b,I,O=>by
  unfold lexLt at I O;by_cases e:x=y
  .subst e;rw[qA2 rfl]at I O;rw[pJ a b I O]
  .rw [qA4 e]at I
   rw[qA4 (λz=>e z.symm)]at O;have I:=qQ1 I;have O:=qQ1 O;omega
def II (ss:Zq)(i:Nat):Int:=((ss.countP λx=>lexLt x (ss.getD i [])):Nat)
def HA {α:Type}{p q:α->Bool}:∀{l:List α},(∀x∈l,p x=true->q x=true)->(∃x∈l,q x=true/\p x=false)->l.countP p<l.countP q:=by
 intro l
 induction l with
 |nil=>intro _ h;obtain ⟨_,h,_⟩:=h;show absurd h qE4
 | cons x l ih=>
  intro h h0;obtain ⟨y,I,O,T⟩:=h0;have h':∀z∈l,p z=true->q z=true:=λz hz=>h z (qA8 _ hz);have le:l.countP p<=l.countP q:=qT5 h';rw[qO2,qO2];rcases qB5.mp I with e|I
  .subst e;rw[qA2 O,T,qA4 qB0];omega
  .have:=ih h' ⟨y,I,O,T⟩
   by_cases c:p x=true
   .rw[qA2 c,qA2 (h x qB3 c)];omega
   .rw[qA4 c];split <;> omega
def V5 {α:Type}(n:Nat) (P:α->Prop):PySem.W.KasT α->Prop
 | .ret a=>P a
 | .ask i j k=>i<n/\j<n/\∀b,V5 n P (k b)
def V4 {P':β->Prop}:∀{t:PySem.W.KasT α},V5 n P t->(∀a,P a->V5 n P' (f a))->V5 n P' (t.bind f)
 | .ret a,h,hf=>hf a h
 | .ask i j k,h,hf=>⟨h.1,h.2.1,λb=>V4 (h.2.2 b) hf⟩
def allLt (n:Nat)(p:Array Nat):Prop:=∀x∈p,x<n
def allLt.perm (h:allLt n p)(O:q.Perm p):allLt n q:=λx I=>h x (O.mem_iff.mp I)
def allLt.at (h:allLt n p) (h0:0<n) (k:Nat):p.getD k 0<n:=by
 rw[qG4];cases e:p[k]? with
 |none=>show h0
 |some x=>show h x (Array.mem_of_getElem? e)
section
open PySem.W PyProof.Rows
variable {n:Nat}(h0:0<n)
include h0
def jN (h:allLt n p):∀f k,V5 n (λ_=>True) (kas_asc p f k)
 |0,_=>trivial
 |f+1,k=>⟨h.at h0 _,h.at h0 _,λb=>by cases b <;> first|show jN h f (k+1)|trivial⟩
def de:∀(f:Nat) (p:Array Nat) (k q:Nat),allLt n p->V5 n (λr:Array Nat×Nat×Nat=>allLt n r.1) (kas_desc f p k q)
 |0,p,k,q,h=>h
 | f+1,p,k,q,h=>by
  refine ⟨h.at h0 _,h.at h0 _,λb=>?_⟩;cases b with
  | true=>
   dsimp only;rw[qA2 rfl]
   split
   .show de f _ _ _ (h.perm (mirror_perm _ _ _ _))
   .show de f _ _ _ h
  | false=>
   dsimp only;rw[qA4 qB0];refine ⟨h.at h0 _,h.at h0 _,λb=>?_⟩;cases b with
   |true=>dsimp only;rw[qA2 rfl];show h
   |false=>dsimp only;rw[qA4 qB0];show de f _ _ _ h
def kM (h:allLt n p):V5 n (λr:Nat×Array Nat=>allLt n r.2) (kas_tail3 k m p):=
 V4 (jN h0 (h.perm (mirror_perm _ _ _ _)) _ _) λ_ _=>h.perm (mirror_perm _ _ _ _)
def fh (h:allLt n p):V5 n (λr:Nat×Array Nat=>allLt n r.2) (kas_descPart k m p):=by
 refine V4 (de h0 _ _ _ _ h) λr I=>?_
 split
 .show kM h0 (I.perm (mirror_perm _ _ _ _))
 .show kM h0 I
def vX (h:allLt n p):V5 n (λr:Nat×Array Nat=>allLt n r.2) (kas_count m p):=by
 refine V4 (jN h0 h _ _) λr I=>?_
 split
 .show h
 .split
  .refine ⟨h.at h0 _,h.at h0 _,λb=>?_⟩;cases b with
   |true=>dsimp only;rw[qA2 rfl];show h
   |false=>dsimp only;rw[qA4 qB0];show fh h0 (h.perm (mirror_perm _ _ _ _))
  .show fh h0 h
def fg (h:allLt n p):∀f l m,V5 n (λ_=>True) (kas_place p k f l m)
 |0,_,_=>trivial
 | f+1,l,m=>by
  unfold kas_place
  split
  .trivial
  .refine ⟨h.at h0 _,h.at h0 _,λb=>?_⟩;cases b with
   |true=>dsimp only;rw[qA2 rfl];show fg h f _ _
   |false=>dsimp only;rw[qA4 qB0];show fg h f _ _
def qm:∀(f:Nat) (p:Array Nat) (k:Nat),allLt n p->V5 n (λ_=>True) (kas_bin f p k)
 |0,_,_,_=>trivial
 |f+1,p,k,h=>V4 (fg h0 h _ _ _) λl _=>qm f _ _ (h.perm (bubble_perm _ _ _))
def yY:V5 n (λ_=>True) (kas_sort n):=by
 refine V4 (vX h0 λx I=>by simpa using I) λr O=>?_
 split
 .show qm h0 _ _ _ O
 .trivial
end
def wp_run (hc:∀i j C,i<n->j<n->C (decide (r i<r j)) s->cmp i j C s):
  ∀{t:PySem.W.KasT α},V5 n P t->Q (runK r t) s->t.kasWp cmp Q s
 | .ret _,_,h=>h
 | .ask i j k,a,h=>hc i j _ a.1 a.2.1 (wp_run hc (a.2.2 _) h)
def eJ (fin:Bool):List (Int×Int)->Bool
 | []=>fin
 | (a,b)::r=>if a=b then eJ fin r else decide (a<b)
def pM:∀xs ys:List Int,eJ (decide (xs.length<ys.length)) (xs.zip ys)=lexLt xs ys
 | [],[]=>rfl
 | [],_::_=>by simp [eJ,lexLt]
 |_::_,[]=>by simp [eJ,lexLt]
 | x::xs,y::ys=>by
  have:=pM xs ys
  simp only [qL3,eJ,lexLt,qC5,qX8];rw[this]
section
open PySem.W PyProof.Rows
def dh (h:Heap)(v:Value)(xs:Zz):Prop:=∃(a:Addr)(o:Obj)(its:VZ)(m:Nat),v=.ref a/\h.get? a=some o/\o.cls=.type "tuple" /\ o.data=.seq its.toArray m/\Vals (xs.map V.int) its
end
def Z0:∀{as:List α}{bs:List β}{i:Nat},Paired F as bs->i<as.length->∃b,bs[i]?=some b/\F (as.getD i d) b
 |_,_,_,.nil,h=>absurd h (qF0 _)
 |_,_,0,.cons r _,_=>⟨_,rfl,r⟩
 | _,_,i+1,.cons _ t,h=>by
  obtain ⟨b,e,q⟩:=Z0 (d:=d) (i:=i) t (by simpa using h);show ⟨b,by simpa using e,by simpa using q⟩
section
open PySem.W PyProof.Rows
end
def vM:bootBuiltins "sorted" = some (.builtin "sorted"):=ZU
def aO:List W->Option Zq
 | []=>some []
 | .tup ws::r=>match v8 ws,aO r with
  |some x,some xs=>some (x::xs)
  |_,_=>none
 |_=>none
def lD:∀ss:List Zz,aO (ss.map λx=>W.tup (x.map W.int))=some ss
 | []=>rfl
 | x::ss=>by
  change (match v8 (x.map W.int),aO (ss.map λx=>W.tup (x.map W.int)) with|some x,some xs=>_|_,_=>_)=_;rw[ints_map,lD ss]
def yd:∀{ws:Zk}{x:Zz},v8 ws=some x->ws=x.map W.int:=by
 intro ws
 induction ws with
 |nil=>intro x h;cases h;rfl
 | cons w ws I=>
  intro x h;cases w <;> first | (cases h;done)|skip
  rename_i i
  have h':(v8 ws).map (i::·)=some x:=h;cases hw:v8 ws with
  |none=>rw[hw]at h';cases h'
  |some bs=>rw[hw]at h';rw[I hw,<- Option.some.inj h'];rfl
def wv:∀{ws:Zk}{ss:Zq},aO ws=some ss->ws=ss.map λx=>W.tup (x.map W.int):=by
 intro ws
 induction ws with
 |nil=>intro ss h;cases h;rfl
 | cons w r T=>
  intro ss h;cases w <;> first | (cases h;done)|skip
  rename_i ws
  have h':(match v8 ws,aO r with|some x,some xs=>some (x::xs)|_,_=>none)=some ss:=h;cases I:v8 ws with
  |none=>rw[I]at h';cases h'
  | some x=>
   cases O:aO r with
   |none=>rw[I,O]at h';cases h'
   |some xs=>rw[I,O]at h';rw[yd I,T O,<- Option.some.inj h'];rfl
def ki:∀ns:List Int,n5 (ns.map W.int)=true
 | []=>rfl
 |n::ns=>by rw[qC2];simp only [n5,noL,ki ns,qL1]
def mU:∀ss:List Zz,n5 (ss.map λx=>W.tup (x.map W.int))=true
 | []=>rfl
 |x::ss=>by rw[qC2];simp only [n5,noL,ki x,mU ss,qL1]
def oY:∀{ys:List V}{ws:Zk}{i:Nat},Reps K F ys ws->i<ys.length->∃w,ws[i]?=some w/\Rep K F (ys.getD i .non) w
 |_,_,_,.nil,h=>absurd h (qF0 _)
 |_,_,0,.cons r _,_=>⟨_,rfl,r⟩
 | _,_,i+1,.cons _ t,h=>by
  obtain ⟨b,e,q⟩:=oY (i:=i) t (by simpa using h);show ⟨b,by simpa using e,by simpa using q⟩
def lW:∀{l:Zw},(∀i∈l,Rep K F (f i) (g i))->Reps K F (l.map f) (l.map g)
 | [],_=>.nil
 |_::_,h=>.cons (h _ qB3) (lW λb I=>h b (qA8 _ I))
set_option maxHeartbeats 2000000
def ww (l b:Addr) (O:VW) (m m2:Nat) (dd a0:Option Addr) (sl T:Array VY) :
  Meets (Builtin.«tuple.__add__» ⟨[.ref l,.ref b],[]⟩) (λ_ R s=>s.heap.get? l=some { cls:=.type "tuple",dict:=dd,data:=.seq #[] m,slots:=sl }/\s.heap.get? b=some { cls:=.type "tuple",dict:=a0,data:=.seq O m2,slots:=T }/\R (.ok (.ret (.ref b))) s):=
 .of_wp λprog w A R s I=>by
  obtain ⟨hp,g,d,tk,os⟩:=s;obtain ⟨hl,hb,I⟩:=I;have g1:=AutoSeq1.sub_tuple_tuple
  wp_walk using qH0 hl,qH0 hb
  show ⟨_,rfl,I⟩
def Dw (l b:Addr) (us vs:VZ) (m m2:Nat) (dd a7:Option Addr) (sl a5:Array VY) (xs ys:Zz) (rx:Vals (xs.map V.int) us) (ry:Vals (ys.map V.int) vs) :
  Meets (Builtin.«tuple.__lt__» ⟨[.ref l,.ref b],[]⟩) (λ_ R s=>s.heap.get? l=some { cls:=.type "tuple",dict:=dd,data:=.seq us.toArray m,slots:=sl }/\s.heap.get? b=some { cls:=.type "tuple",dict:=a7,data:=.seq vs.toArray m2,slots:=a5 }/\R (.ok (.ret (.bool (lexLt xs ys)))) s):=
 .of_wp fun prog w A R s a3=>by
  obtain ⟨hp,g,d,tk,os⟩:=s;obtain ⟨hl,hb,a3⟩:=a3;have g1:=AutoSeq1.sub_tuple_tuple;have l1:=rx.length;have l2:=ry.length;rw[qA5]at l1 l2
  wp_walk using qH0 hl,qH0 hb,wpAny_forIn_list _ (λrest b s'=>b.1=none/\s'=⟨hp,g,d,tk,os⟩/\∃(O I:Zz) (us vs:VZ),rest=us.zip vs/\Vals (O.map V.int) us/\Vals (I.map V.int) vs/\R (.ok (.ret (.bool (eJ (decide (xs.length<ys.length)) (O.zip I))))) ⟨hp,g,d,tk,os⟩) _
  case turn=>
   rintro ⟨y,x⟩ rest b s' ⟨a0,rfl,O,I,a4,a6,hz,r1,r2,T⟩;cases O with
   |nil=>cases r1;cases hz
   | cons z O=>
    cases I with
    |nil=>cases r2;cases a4 <;> cases hz
    | cons t I=>
     cases r1 with
     | cons a1 r1=>
      cases r2 with
      | cons a2 r2=>
       obtain ⟨k1,rfl⟩:=a1;obtain ⟨k2,rfl⟩:=a2;rw[qL3]at hz;injection hz with h1 h2
       injection h1 with h3 h4
       subst h3 h4 h2;simp only [qL3,eJ]at T;refine qA1 (wpAny_eqBool_int ?_);by_cases e:z=t
       .rw [qA2 e]at T
        rw[show (z == t)=true by simpa using e]
        wp_walk
        show ⟨rfl,rfl,O,I,_,_,rfl,r1,r2,T⟩
       .rw [qA4 e]at T
        rw[show (z == t)=false by simpa using e];rw[qA2 (show (!false)=true from rfl)];refine qA1 (qS1 (qA1 (PyProof.Rows.lt_int ?_)))
        wp_walk
        show ⟨_,rfl,T⟩
  case fin=>
   rintro ⟨b1,b2⟩ s' ⟨a0,rfl,O,I,a4,a6,hz,r1,r2,T⟩;simp only at a0;subst a0;have hk:eJ (decide (xs.length<ys.length)) (O.zip I)=decide (xs.length<ys.length):=by
    cases O with
    |nil=>rfl
    | cons z O=>
     cases I with
     |nil=>rfl
     |cons t I=>cases r1;cases r2;cases hz
   rw[hk]at T
   wp_walk
   refine ⟨_,rfl,?_⟩;simpa [Builtin.Tuple.tupleCompareSizes,<- l1,<- l2]using T
  case h=>
   show ⟨rfl,rfl,xs,ys,us,vs,rfl,rx,ry,by rw[pM];show a3⟩
def zo (K:Frag):R2:=λx y H Q=>zn K x y H Q\/∃a b ys,x=.ref a/\y=.ref b/\SqT K H a []/\SqT K H b ys/\Q (.ref b) H
def pp (hK:X.K=K:=by rfl):OpR X (binaryOp .Add) (zo K):=by
 subst hK;intro pins s σ H x y v u Q I rx ry h;rcases h with h|⟨a,b,ys,rfl,rfl,ha,hb,q⟩
 .show Bh pins s σ H x y v u Q I rx ry h
 .cases rx;cases ry;obtain ⟨its,r1,⟨⟨c1,d1,t1,a6⟩,o1,O,n1,T⟩,_⟩:=I.tuple ha;obtain ⟨a4,r2,⟨⟨c2,d2,t2,a5⟩,o2,a0,n2,a3⟩,_⟩:=I.tuple hb;cases r1;simp only at O T a0 a3;subst O T a0 a3;show concat_meets ⟨_,o1,rfl⟩ ⟨_,o2,rfl⟩ qX3 seq_tuple_add qS6 qS2 (qR7 _ _) (ww a b a4.toArray n1 n2 d1 d2 a6 a5) ⟨o1,o2,.ref b,H,I,rfl,q⟩
def fCatT:W->W->R W
 | .tup us,.tup vs=>if us.length+vs.length<=1000/\n5 us=true/\n5 vs=true then .ok (.tup (us++vs)) else .stuck
 |_,_=>.stuck
def px:Op2 K .B .F (zo K) fCatT:=by
 intro EX H0 Hs G H ρ σ Ha Hb x y u v Q I s mx T o;cases u <;> first|show o.elim|skip
 all_goals (cases v <;> first|show o.elim|skip)
 rename_i us vs
 replace o:Out EX G H (mdW K .F H0 Hs) (if us.length+vs.length<=1000/\n5 us=true/\n5 vs=true then .ok (.tup (us++vs)) else .stuck) Q:=o
 by_cases hn:us.length+vs.length<=1000/\n5 us=true/\n5 vs=true
 .rw [qA2 hn]at o
  obtain ⟨hz,n1,n2⟩:=hn;rcases mx with mx|⟨_,_,_,_,e2,_⟩
  .rcases T with T|⟨_,_,_,_,e2,_⟩
   .have cx:=Rep.clean I mx (by simpa [noL]using n1);have cy:=Rep.clean I T (by simpa [noL]using n2);cases cx with
    | tup ha ra=>
     cases cy with
     | tup O rb=>
      have l1:=ra.length;have l2:=rb.length;by_cases he:us = []
      .subst he;cases ra;show .inr ⟨_,_,_,rfl,rfl,SqT.of (I.gh _ _ ha),SqT.of (I.gh _ _ O),o _ G H (Ext.refl I.gh) (.tup O rb)⟩
      .refine .inl ⟨_,_,_,_,rfl,rfl,SqT.of (I.gh _ _ ha),SqT.of (I.gh _ _ O),λz=>?_,by rw[l1,l2];show V0 hz,λz=>?_,λ_ p hp=>?_⟩
       .subst z;cases ra;show he rfl
       .subst z;cases rb;rw[qH3]at o;show o _ G H (Ext.refl I.gh) (.tup ha ra)
       .show Out.newTF I (ra.append rb) hp o
   .cases e2
  .cases e2
 .rw[qA4 hn]at o;show o.elim
end TP
namespace L2
open PySem PySem.Spec PyProof.Rows
end L2
namespace TP
open PySem L2
end TP
namespace HT
open PySem PyProof.Rows
def getItem_tuple_all {lo:VQ}(I:IsTup s.heap t items) (hs:s.heap.IsSliceOf sl vl vu .none) (pl:IsPart vl lo) (pu:IsPart vu hi) (hw:sIx items.size 0 lo=0/\sIx items.size items.size hi=items.size) (h:Q (.ref t) s) (a5:items.size<=sizeLine):wpAny (model prog w) A (getItem (.ref t) (.ref sl)) Q E s:=by
 have hj:sIx items.size items.size hi<=items.size:=tR _ _ (qB4 _) hi;obtain ⟨os,a3,T,a4⟩:=id hs;have a0:s.TypeIs (.ref sl) "slice" := ⟨os,a3,T⟩;unfold getItem
 try with_reducible refine qP4 ?_
 first|refine qA1 (qO6 ?_)|skip
 refine qA1 (wpAny_sequenceKey I.typeIs ZY ?_);refine qA1 (qP7 (name:=Str.ofString "__getitem__") I.typeIs qJ2
  (qQ8 qJ2 I.typeIs entry_tuple_getitem ?_ (args_tuple_getitem _ _)))
 change wpAny _ _ (Builtin.Tuple.tupleItemsOf (.ref t)>>=_) _ _ s;refine qA1 (tupleItemsOf_ I ?_);refine qA1 (qX4 a0 ?_);rw[qA2 ZY];refine qA1 (ao hs pl pu ?_);have O:(((sIx items.size 0 lo:Nat):Int) == 0&&(1:Int) == 1&&(sIx items.size items.size hi-sIx items.size 0 lo) == items.size)=true:=by
  rw[hw.1,hw.2];simp
 change wpAny _ _ (if (((sIx items.size 0 lo:Nat):Int) == 0&&(1:Int) == 1&&(sIx items.size items.size hi-sIx items.size 0 lo) == items.size)=true then _ else _) _ _ s;rw[qA2 O];unfold Builtin.Tuple.tupleIsExact
 wp_walk using qX4 I.typeIs
 show ⟨_,rfl,qO6 h⟩
end HT
namespace TP
open PySem L2
def xi (K:Frag):V->Option Int->Option Int->Hp->VK->Prop:=λx lo hi H Q=>∃a xs,x=.ref a/\SqT K H a xs/\(HT.sIx xs.length 0 lo=0/\HT.sIx xs.length xs.length hi=xs.length)/\Q (.ref a) H
def An:L2.SlR X (xi X.K):=by
 intro pins s σ H x v vl vu lo hi sl Q I rx T pl pu h;obtain ⟨a,xs,rfl,hx,hw,q⟩:=h;cases rx;obtain ⟨its,r,O,hz⟩:=I.tuple hx;have hlen:its.toArray.size=xs.length:=by rw[qB8];show r.length.symm
 refine ⟨"tuple",_,PyProof.Rows.slot_tuple_getitem.lookup,O.typeIs,?_⟩;show HT.getItem_tuple_all O T pl pu (by rw[hlen];show hw) ⟨.ref a,H,I,rfl,q⟩ (by rw[hlen];show hz)
def EH (K:Frag):V->Option Int->Option Int->Hp->VK->Prop:=λx lo hi H Q=>EF K x lo hi H Q\/xi K x lo hi H Q
def Am:L2.SlR X (EH X.K):=L2.SlR.or DM An
def Rst (x:R W) (l u:R VQ):R W:=x>>=λx=>l>>=λl=>u>>=λu=>(match x with
 | .tup ws=>if n5 ws=true then .ok (.tup (M8 ws l u)) else .stuck
 |_=>.stuck)
def ly (m:Zx)(O I:Rho->R VQ):Zx:=λρ=>Rst (m ρ) (O ρ) (I ρ)
def yL (h:HT.sIx ws.length 0 lo=0/\HT.sIx ws.length ws.length hi=ws.length):M8 ws lo hi=ws:=by
 unfold M8;rw[h.1,h.2,xA9,Nat.sub_zero,qH4]
def Ju (h:tM K EX .F (ly m ml mh) σ H Q):tSl (EH K) (tM K EX .B m) (X8 K EX ml) (X8 K EX mh) σ H Q:=by
 obtain ⟨H0,G,ρ,I,o⟩:=h;unfold ly Rst at o;refine ⟨H0,G,ρ,I,Out.bind o λx G1 H1 w e1 m1 o1=>⟨H0,G1,ρ,I.ext e1,Out.bind o1 λl' G2 H2 l e2 m2 o2=>⟨H0,G2,ρ,(I.ext e1).ext e2,Out.bind o2 λu' G3 H3 u e3 m3 O=>?_⟩⟩⟩;subst m2;subst m3;have T:=((I.ext e1).ext e2).ext e3;cases w <;> first|show O.elim|skip
 rename_i ws
 dsimp only at O;by_cases hn:n5 ws=true
 .rw [qA2 hn]at O
  have mx:=(m1.move e2).move e3;rcases mx with mx|⟨_,_,_,_,z,_⟩
  .have cx:=Rep.clean T mx (by simpa [noL]using hn);cases cx with
   | tup ha ra=>
    rename_i a vs
    have l1:=ra.length;by_cases hw:HT.sIx vs.length 0 l'=0/\HT.sIx vs.length vs.length u'=vs.length
    .refine .inr ⟨a,vs,rfl,SqT.of (T.gh _ _ ha),hw,?_⟩;rw[yL (by rw[<- l1];show hw)]at O;show O _ G3 H3 (Ext.refl T.gh) (.tup ha ra)
    .show .inl ⟨a,vs,rfl,SqT.of (T.gh _ _ ha),hw,λp hp=>Out.newTF T (ra.cut l' u') hp O⟩
  .cases z
 .rw[qA4 hn]at O;show O.elim
def IJ {X:Cx}{K:Frag}{EX:EXT}{e:Expr}{pos:Pos}{ma:Zx}{lo hi:Option Expr}{T:Pos}{O I:Rho->R VQ}(he:PE X e (tM K EX .B ma)) (hl:PO X lo (X8 K EX O)) (hu:PO X hi (X8 K EX I)) (hK:X.K=K:=by rfl):PE X (.Subscript e (.Slice lo hi none T) pos) (tM K EX .F (ly ma O I)):=by
 subst hK;show (mE Am he hl hu).mono λ_ _ _ q=>Ju q
def oI (m:Zx)(O I:Rho->R VQ)(ρ:Rho):ly m O I ρ=Rst (m ρ) (O ρ) (I ρ):=rfl
def Il (h:n5 ws=true) (l u:VQ):Rst (.ok (.tup ws)) (.ok l) (.ok u)=.ok (.tup (M8 ws l u)):=by
 change (if n5 ws=true then _ else _)=_;rw[qA2 h]
set_option maxHeartbeats 2000000
def m5 {i j}(I:PA X es (tA K EX d mr)):PA X (.Constant (.int i) j p::es) (tA K EX d (aC (mC (.int i)) mr)):=b7 d6 I ZQ
def EV {a0 a1 a2 a3 a4 a5}{u0 u1 u2 u3 u4 u5}:PE X (.List [.Constant (.int a0) u0 p0,.Constant (.int a1) u1 p1,.Constant (.int a2) u2 p2,.Constant (.int a3) u3 p3,.Constant (.int a4) u4 p4,.Constant (.int a5) u5 p5] pos) (tM K EX .F (C2 (aC (mC (.int a0)) (aC (mC (.int a1)) (aC (mC (.int a2)) (aC (mC (.int a3)) (aC (mC (.int a4)) (aC (mC (.int a5)) aN)))))))):=by
 refine B0 ?_;refine m5 ?_;refine m5 ?_;refine m5 ?_;refine m5 ?_;refine m5 ?_;refine m5 ?_;show b9
def EU {a0 a1 a2 a3 a4 a5 a6 a7}{u0 u1 u2 u3 u4 u5 u6 u7}:PE X (.List [.Constant (.int a0) u0 p0,.Constant (.int a1) u1 p1,.Constant (.int a2) u2 p2,.Constant (.int a3) u3 p3,.Constant (.int a4) u4 p4,.Constant (.int a5) u5 p5,.Constant (.int a6) u6 p6,.Constant (.int a7) u7 p7] pos) (tM K EX .F (C2 (aC (mC (.int a0)) (aC (mC (.int a1)) (aC (mC (.int a2)) (aC (mC (.int a3)) (aC (mC (.int a4)) (aC (mC (.int a5)) (aC (mC (.int a6)) (aC (mC (.int a7)) aN)))))))))):=by
 refine B0 ?_;refine m5 ?_;refine m5 ?_;refine m5 ?_;refine m5 ?_;refine m5 ?_;refine m5 ?_;refine m5 ?_;refine m5 ?_;show b9
end TP
namespace TB
open PySem PySem.W
def bits_of {ns:Zz}(h:WData.layableAll [WData.list (ns.map WData.int)]=true):∀x∈ns,Builtin.Int.intBits x<=1048576:=λx T=>by
 have O:(WData.list (ns.map WData.int)).layable=true:=by simpa [WData.layableAll]using h
 have h2:(WData.list (ns.map WData.int)).weight<=2^20:=(layableW_iff.mp O).2.2;have I:∀ms:List Int,x∈ms->Builtin.Int.intBits x<=WData.weightAll (ms.map WData.int):=by
  intro ms
  induction ms with
  |nil=>intro z;cases z
  | cons m ms ih=>
   intro z;rw[qC2]
   change _<=WData.weight (.int m)+1+WData.weightAll (ms.map WData.int);rcases qB5.mp z with e|e
   .subst e
    have:WData.weight (.int x)=Builtin.Int.intBits x:=ZQ
    omega
   .have:=ih e
    omega
 show qC1 (I ns T) (by simpa [WData.weight]using h2)
end TB
namespace Att
open PySem PySem.W PySem.Calls PyProof.Rows
def attach_callB {l:OpenLaw}(hn:l.most=some n) (a4:d.params.defaults = []) (call:∀(w:World) (s₀ I:Shared) (mg mb:Vx) (fa:Addr) (o:Obj) (pm cd doc:Value) (a:Addr) (vs:VZ) (ns:Zz),
   Ground q loose [] XP w s₀ mg mb I.heap->YP w I.heap ->
   I.heap.get? fa=some o->o.data=.func (docDef d.name d.params d.body d.scope pm cd doc)->I.heap.CodeRec cd d.name->mg d.name=some (.ref fa) ->
   I.heap.get? a=some { cls:=.type "list",data:=.seq vs.toArray }->IntsAre vs ns->ns.length<=n->(∀x∈ns,Builtin.Int.intBits x<=1048576)->I.gens=#[] ->
   codeAny (model l.prog w) callerA (.call (.ref fa) ⟨[.ref a],[]⟩) (λr s'=>r=.ok (.ret (.bool true))/\OldK I.heap s'.heap/\s'.os=I.os/\AllBare s'.gens) I):
  WalkO q loose XP YP l.row.toRowW d [] (λf vs=>PySem.call f vs):=by
 intro w s₀ I mg mb G Y fa o pm cd doc dV kV ho hd a5 hD a6 hg args vals as O a0 a8 a3 a7;obtain rfl:dV=.none:=Dflts.none hD a4;obtain rfl:kV=.none:=Dflts.noKw hD;obtain ⟨a,vs,ns,rfl,rfl,T,hints,hlen⟩:=tN hn O a3;refine enter_call (codeAny_mono (call w s₀ I mg mb fa o pm cd doc a vs ns G Y ho (fd_plain hd) a5 a6 T hints hlen (TB.bits_of a0) hg) λr s' hq=>?_);obtain ⟨rfl,h2,h3,h4⟩:=hq;show ⟨.inl ⟨.bool true,.bool true,[],rfl,λ_=>rfl,.bool true,uh l _,λ_=>⟨List.Pairwise.nil,λ_ hm=>(nomatch hm)⟩⟩,h2,h3,h4⟩
end Att
namespace L2
open PySem PySem.Spec PyProof.Rows
def wf {l:PySem.W.OpenLaw}{K:Params->Frag}{CX:World->CXT}{sp:World->Sp}(hn:l.most=some n) (a5:n<=sizeLine) (a0:d.params.defaults = []) (hr:Room k callerA) (hY:∀(w:World) (h:Heap),YP w h->(K w.params).In h) (hT:∀(w:World) (h:Heap),YP w h->∀p∈lamT,h.get? p.1=some { cls:=.none,data:=.fields #[] }/\isCodeTable h p.1/\(K w.params).lookup p.1=none/\lamT.lookup p.1=some p.2) (F:∀(w:World) (mg:Vx) (fa:Addr) (h:Heap),(K w.params).In h->h.Ns mainGlobals mg->mg d.name=some (.ref fa) ->
   ∃ fd:FuncData,(∀(s:Shared) (u:Value),BindsTo s fd ⟨[u],[]⟩ [(x,u)]) /\
    ∀base:Heap,(K w.params).In base->base.Ns mainGlobals mg->FnOk l.prog w (K w.params) mg base (CX w) k fa fd [x] (sp w)) (a7:∀(w:World) (H:Hp) (a:Addr) (ns:Zz),ns.length<=n->(∀x∈ns,Builtin.Int.intBits x<=1048576)->sr H->SqL (K w.params) H a (ns.map V.int)->sp w [.ref a] H (λv _=>v=.bl true) λ_ _ _=>False) (a3:∀(w:World) (H:Hp) (s:Shared) (e:Value) (s':Shared),CX w [] H s (λ_ _ _=>False) e s'->False):
  PySem.W.WalkO q loose XP YP l.row.toRowW d [] (λf vs=>PySem.call f vs):=by
 refine Att.attach_callB hn a0 λw s₀ I mg mb fa o pm cd doc a vs ns G Y ho hd a8 a4 O hints hlen a6 hg=>?_;have KX:=hY w _ Y;obtain ⟨fd,hb,hF⟩:=F w mg fa _ KX G.T.g a4;show xV KX G.T.g G.T.b G.T.builtins G.T.nolimit hg G.T.bmain (hT w _ Y) O hints (qC1 hlen a5) hr hF hb (λH hO hS=>a7 w H a ns hlen a6 hO hS) λH e s'=>a3 w H I e s'
def walk_ofKB {l:PySem.W.OpenLaw}{K:Params->Frag}{sp:Frag->Sp}(hn:l.most=some n) (T:n<=sizeLine) (I:d.params.defaults = []) (hr:Room k callerA) (hY:∀(w:World) (h:Heap),YP w h->(K w.params).In h) (hT:∀(w:World) (h:Heap),YP w h->∀p∈lamT,h.get? p.1=some { cls:=.none,data:=.fields #[] }/\isCodeTable h p.1/\(K w.params).lookup p.1=none/\lamT.lookup p.1=some p.2) (F:∀(w:World) (mg:Vx) (fa:Addr) (h:Heap),(K w.params).In h->h.Ns mainGlobals mg->mg d.name=some (.ref fa) ->
   ∃ fd:FuncData,(∀(s:Shared) (u:Value),BindsTo s fd ⟨[u],[]⟩ [(x,u)]) /\
    ∀base:Heap,(K w.params).In base->base.Ns mainGlobals mg->FnOk l.prog w (K w.params) mg base CX k fa fd [x] (sp (K w.params))) (a0:∀(K:Frag) (H:Hp) (a:Addr) (ns:Zz),ns.length<=n->(∀x∈ns,Builtin.Int.intBits x<=1048576)->sr H->SqL K H a (ns.map V.int)->sp K [.ref a] H (λv _=>v=.bl true) λ_ _ _=>False) (O:∀(H:Hp) (s:Shared) (e:Value) (s':Shared),CX [] H s (λ_ _ _=>False) e s'->False):
  PySem.W.WalkO q loose XP YP l.row.toRowW d [] (λf vs=>PySem.call f vs):=
 wf (K:=K) (CX:=λ_=>CX) (sp:=λw=>sp (K w.params)) hn T I hr hY hT F (λw H a ns h1 hb h2 h3=>a0 (K w.params) H a ns h1 hb h2 h3) λ_ H s e s'=>O H s e s'
end L2
namespace TP
open PySem L2
def CMulB (i j:Int):Prop:=CMul i j\/Builtin.Int.intBits i+Builtin.Int.intBits j<=134217728
instance (i j:Int):Decidable (CMulB i j):=by unfold CMulB;infer_instance
def CMulB.ok (h:CMulB i j):IntMulOk i j:=by
 rcases h with h|h
 .show h.ok
 .show IntMulOk.of_le (qB4 _) (qB4 _) h
def w9:OpR X (binaryOp .Mult) (rI CMulB λi j=>.int (i*j)):=opI λ_ _ _ _ _ _ _ hc q=>PyProof.Rows.mul_int q hc.ok
def uL {i j:Int}(h:-18446744073709551616<i/\i<18446744073709551616):fI CMulB o8 (.int i) (.int j)=.ok (.int (i*j)):=by
 change (if CMulB i j then _ else _)=_;show qA2 (.inl (.inl h))
def iq {i j:Int}(h:-18446744073709551616<j/\j<18446744073709551616):fI CMulB o8 (.int i) (.int j)=.ok (.int (i*j)):=by
 change (if CMulB i j then _ else _)=_;show qA2 (.inl (.inr h))
def bU {i j:Int}(h:Builtin.Int.intBits i+Builtin.Int.intBits j<=134217728):fI CMulB o8 (.int i) (.int j)=.ok (.int (i*j)):=by
 change (if CMulB i j then _ else _)=_;show qA2 (.inr h)
def BS (G:FnOk P w K mg base CX0 k f fd ps (spM K 1 d F)) (h:∀ns:List Int,ns.length<=63->(∀x∈ns,Builtin.Int.intBits x<=1048576)->F [.scr (ns.map W.int)]=.ok (.bl true)):FnOk P w K mg base CX0 k f fd ps (λvs H Q _=>∃(a:Addr) (ns:Zz),vs = [.ref a]/\SqL K H a (ns.map V.int)/\ns.length<=63/\(∀x∈ns,Builtin.Int.intBits x<=1048576)/\∀H',Q (.bl true) H'):=
 G.imp λvs H Q E I=>by
  obtain ⟨a,ns,e,O,T,hb,q⟩:=I;subst e;refine ⟨rfl,[.scr (ns.map W.int)],.cons (.scr O ?_) .nil,?_⟩
  .clear O T hb
   induction ns with
   |nil=>show .nil
   |cons n ns ih=>show .cons .int ih
  .rw [h ns T hb]
   intro v G' H' _ _ _ m;have e:v=.bl true:=by
    cases d <;> first | (cases m;rfl) | (rcases m with m|⟨_,_,_,_,z,_⟩ <;> first | (cases m;rfl)|cases z)
   subst e;show q H'
end TP
namespace TL
open PySem
def FG:typeLookup (.type "list_reverseiterator") "__len__" = pure none:=by rw[typeLookup_type,qT4];kernel_rfl
def yj:typeLookup (.type "list_reverseiterator") "__length_hint__" = pure (some (.builtin "list_reverseiterator.__length_hint__")):=by rw[typeLookup_type,qT4];kernel_rfl
def sub_self:isSubtype (.type "list_reverseiterator") (.type "list_reverseiterator")=pure true:=by rw[isSubtype_type];kernel_rfl
def yh (a3:s.heap.IsRevIter I l i) (h:Q false s):wpAny (model prog w) A (Builtin.List.listLengthHint (.ref I)) Q E s:=by
 have hT:=a3.typeIs;unfold Builtin.List.listLengthHint;refine qA1 (wpAny_specialOf hT FG ?_)
 change wpAny _ _ (specialOf (Value.ref I) (Str.ofString "__length_hint__")>>=_) _ _ _;refine qA1 (wpAny_specialOf hT yj ?_);have a0:splitId "list_reverseiterator.__length_hint__" = some ("list_reverseiterator","__length_hint__"):=ZU;dsimp only;rw[a0];dsimp only;refine qA1 (wpAny_isInstance (T := "list_reverseiterator") (b:=true) hT sub_self ?_);rw[qA4 (show ¬ ((!true)=true) by decide)];refine wpAny_ite_split (λ_=>?_) (λO=>absurd ZU O);rw[qA4 (show ¬ ((Value.builtin "list_reverseiterator.__length_hint__" == Value.builtin "range_iterator.__length_hint__")=true) by decide)];show qO6 h
def Cw (a0:Value) (hh:A.handled=none) (a7:l≠I) (T:s.heap.IsRevIter I l ((items.size:Int)-1)) (hl:s.heap.IsList l items) (a3:S≠I) (a6:S≠l) (hn:items.size<=sizeLine) (hS:s.heap.get? S=some { cls:=.type "list",data:=.seq #[] c₀ }) (hR:∀h' tk O c',(∀b o,b≠S->b≠I->s.heap.get? b=some o->h'.get? b=some o)->h'.get? S=some { cls:=.type "list",dict:=none,data:=.seq O c',slots:=#[] }->ItemsOf (λi v=>items[items.size-1-i]?=some v) O items.size->R (.ok (.ret a0)) { s with heap:=h',toks:=tk }):
  wpAny (model prog w) A.in1 (Builtin.List.listExtendWith (.ref S) (.ref I) a0)
   (λfin s'=>match fin with | .done f=>R (.ok f) s' | .again c'=>c'.quiet=true/\codeAny (model prog w) A c' R s') (λe s'=>R (.error e) s') s:=by
 have W:=(Walks.listRev (prog:=prog) (w:=w) (A:=A.in1) hh I l a7 items).toS;have a5:S ∉ [I,l]:=by simp [a3,a6]
 unfold Builtin.List.listExtendWith;refine qA1 (qX4 T.typeIs ?_);have h1:Builtin.List.listSameRef (.ref S) (.ref I)=false:=by simp [Builtin.List.listSameRef,a3]
 have h2:(Value.type "list_reverseiterator" == Value.type "list")=false/\(Value.type "list_reverseiterator" == Value.type "tuple")=false:=ZY;rw[h1,h2.1,h2.2];simp only [xC2,qE1,qP1];refine qA1 (qU4 T ?_);refine qA1 (qP4 (yh T ?_));refine wpAny_ite_split (λa8=>absurd a8 ZU) (λ_=>?_);refine qO6 ⟨qT0 F.plain_extend_loop _,?_⟩;refine codeAny_extend_loopS W hn S a5 a0 items.size 0 s #[] c₀ rfl (qE0 _) ⟨qE0 _,by simpa using T,hl⟩ hS (ItemsOf.nil _) λs' O c' hm a9 a4=>?_;rw[Moved.eq_with hm];show hR s'.heap s'.toks O c' (λb o hb ab e=>hm.heap b o (by simp [hb,ab]) e) a9 a4
def call_list_rev (hh:A.handled=none) (ab:l≠I) (b5:s.heap.IsRevIter I l ((items.size:Int)-1)) (hl:s.heap.IsList l items) (hn:items.size<=sizeLine) (hQ:∀h' tk O c',(∀b o,b≠I->s.heap.get? b=some o->h'.get? b=some o)->h'.get? s.heap.objs.size=some { cls:=.type "list",dict:=none,data:=.seq O c',slots:=#[] }->ItemsOf (λi v=>items[items.size-1-i]?=some v) O items.size->Q (.ref s.heap.objs.size) { s with heap:=h',toks:=tk }):
  wpAny (model prog w) A (call (.type "list") [.ref I]) Q E s:=by
 obtain ⟨oi,hi,b0⟩:=id b5;obtain ⟨ol,a4,a6⟩:=id hl;have a8:s.heap.objs.size≠I:=λe=>absurd (qB2 hi) (by rw[<- e];show qE2 _);have a9:s.heap.objs.size≠l:=λe=>absurd (qB2 a4) (by rw[<- e];show qE2 _);refine callType_codes (Q₁:=λobj T=>obj=.ref s.heap.objs.size/\T={ s with heap:=s.heap.push { cls:=.type "list",data:=.seq #[] } }) F.called_list (F.typeCall_list_1 _) F.entry_list_init (code_list_new _ ⟨rfl,rfl⟩) λobj T a5=>?_;obtain ⟨rfl,rfl⟩:=a5;have hS:(s.heap.push { cls:=.type "list",data:=.seq #[] }).get? s.heap.objs.size=some { cls:=.type "list",data:=.seq #[] }:=qC0 _ rfl;refine ⟨⟨_,hS,rfl⟩,F.args_list_init_2 _ _,?_⟩
 change wpAny _ _ (do let b3 <- Builtin.List.listItems (.ref s.heap.objs.size);Builtin.List.listUpdate (.ref s.heap.objs.size) (λ_=>#[]);letGo b3.toList.reverse;Builtin.List.listExtendWith (.ref s.heap.objs.size) (.ref I) .none) _ _ _;refine qA1 ?_;unfold Builtin.List.listItems;refine qA1 (qP6 hS rfl (qO6 ?_))
 change wpAny _ _ (updateSeq s.heap.objs.size (λ_=>#[])>>=λ_=>letGo (#[]:VW).toList.reverse>>=λ_=>Builtin.List.listExtendWith (.ref s.heap.objs.size) (.ref I) .none) _ _ _;refine qA1 (qR0 hS rfl ?_);have a3:=qK6 (Obj.mapSeq (λ_=>(#[]:VW))) hS rfl;have a0:∀b o,s.heap.get? b=some o->((s.heap.push { cls:=.type "list",data:=.seq #[] }).update s.heap.objs.size (Obj.mapSeq (λ_=>(#[]:VW)))).get? b=some o:=λb o e=>by
  have hb:b≠s.heap.objs.size:=λz=>absurd (qB2 e) (by rw[z];show qE2 _);show (qL4 _ _ (Ne.symm hb)).trans (qA7 _ e)
 refine qA1 (qR1 ?_);refine Cw (s:={ s with heap:=(s.heap.push { cls:=.type "list",data:=.seq #[] }).update s.heap.objs.size (Obj.mapSeq (λ_=>(#[]:VW))) }) .none hh ab ⟨oi,a0 _ _ hi,b0⟩ ⟨ol,a0 _ _ a4,a6⟩ a8 a9 hn a3 λh' tk O c' hk b4 a7=>?_;refine ⟨rfl,hQ h' tk O c' (λb o hb e=>hk b o (λz=>absurd (qB2 e) (by rw[z];show qE2 _)) hb (a0 b o e)) b4 a7⟩
end TL
namespace TP
open PySem L2
def tY {its:VZ}(h:ItemsOf (λi v=>its.toArray[its.toArray.size-1-i]?=some v) acc its.toArray.size):acc.toList=its.reverse:=by
 obtain ⟨O,h2⟩:=h;have I:its.toArray.size=its.length:=qB8;rw[I]at O;apply qK1
 .rw[qM7,qB7,O]
 .intro i T q2;have hi:i<acc.size:=by simpa using T
  have:=h2 i acc[i] (Array.getElem?_eq_getElem hi)
  rw[I]at this;rw[List.getElem_reverse,Array.getElem_toList];have e:its.toArray[its.length-1-i]?=some (its[its.length-1-i]'ox):=ZV;rw[e]at this;show (Option.some.inj this).symm
def tRv (K:Frag)(f:List V->HO)(ta:TA):TE:=λσ H Q=>ta σ H λvs H1=>∃a xs,vs = [.ref a]/\SqL K H1 a xs/\∀p,H1 p=none->Q (.ref p) (upd H1 p (f xs.reverse))
def Bb {X:Cx}{a:Expr}{ta:TA}{p pos p2 O:Pos}(hc:X.calm=true) (ab:Gl X "list") (a9:X.mg "list" = none) (hg:Gl X "reversed") (hm:X.mg "reversed" = none) (ha:PA X [a] ta) (hs:starEach [a] X.env = [(false,eval a X.env)]:=by rfl) (a6:starEach [.Call (.Name "reversed" p2) [a] [] O] X.env = [(false,eval (.Call (.Name "reversed" p2) [a] [] O) X.env)]:=by rfl):PE X (.Call (.Name "list" p) [.Call (.Name "reversed" p2) [a] [] O] [] pos) (tRv X.K .lst ta):=by
 intro pins s σ H Q I h;refine qP3 (M5 I ab a9 qk ?_ ZY ZY);refine qG3 ?_ a6 ZQ;rw[a6]
 change wpAny _ _ (spliced [(false,eval (.Call (.Name "reversed" p2) [a] [] O) X.env)]) _ _ s;refine Calls.spliced_cons ?_;refine qP3 (M5 I hg hm gf ?_ ZY ZY);refine qG3 (thn (ha O pins s σ H _ I h) λus s1 a5=>?_) hs ZQ;obtain ⟨vs,H1,I1,r1,q1⟩:=a5;obtain ⟨b,xs,e,hq,q⟩:=q1;subst e;obtain ⟨u,rfl,ru⟩:=L5 r1;cases ru;obtain ⟨its,rv,pl,hz⟩:=I1.list hq;have hl:=rv.length;have a8:its.toArray.size<=sizeLine:=by rw[qB8,<- hl];show hz
 obtain ⟨ol,a0,a3⟩:=id pl.isList;have b0:b≠s1.heap.objs.size:=λz=>absurd (qB2 a0) (by rw[z];show qE2 _);refine call_reversed_list pl.isList (Calls.spliced_nil ?_);refine TL.call_list_rev (s:={ s1 with heap:=s1.heap.push (revObj b ((its.toArray.size:Int)-1)) }) (I1.ok.hd hc) b0 ⟨_,qC0 _ rfl,rfl,rfl⟩ ⟨ol,qA7 _ a0,a3⟩ a8 λh' tk b3 c' hk hS a7=>?_;have e1:=tY a7;have T:∀b o,s1.heap.get? b=some o->h'.get? b=some o:=λb o e=>hk b o (λz=>absurd (qB2 e) (by rw[z];show qE2 _)) (qA7 _ e);have a4:s1.heap.objs.size<=(s1.heap.push (revObj b ((its.toArray.size:Int)-1))).objs.size:=by rw[show (s1.heap.push (revObj b ((its.toArray.size:Int)-1))).objs.size=s1.heap.objs.size+1 from by simp [Heap.push]];omega
 refine ⟨.ref (s1.heap.push (revObj b ((its.toArray.size:Int)-1))).objs.size,_,I1.laid (t':=tk) T a4 (show ObjOk X.prog X.w _ h' _ (.lst xs.reverse) from ⟨by rw[qB7];show hz,its.reverse,c',Vals.reverse rv,?_⟩),rfl,q _ (I1.hok.fresh a4)⟩;rw[<- e1];simpa using hS
def iF:List W->R W
 | [w]=>match w with
  | .lst ws=>chks false ws.reverse
  |_=>.stuck
 |_=>.stuck
def HX (h:tM K EX .F (bA iF ma) σ H Q):tRv K .lst (tA K EX .B ma) σ H Q:=by
 obtain ⟨H0,G,ρ,I,o⟩:=h;replace o:Out EX G H (mdW K .F H0 H) (ma ρ>>=iF) Q:=o
 refine ⟨H0,G,ρ,I,Out.bind o λxs G1 H1 ws T m1 O=>?_⟩;have I1:=I.ext T;cases m1 with
 |nil=>show O.elim
 | cons a t=>
  cases t with
  |cons _ _=>show O.elim
  | nil=>
   rename_i w v
   cases w <;> first|show O.elim|skip
   rename_i us
   obtain ⟨p,vs,rfl,hs,r⟩:=a.lstB I1;show ⟨p,vs,rfl,SqL.of hs,Out.chks I1 T.hh (c:=false) (by rw[qA4 qB0];show r.reverse) O⟩
def ET {X:Cx}{K:Frag}{EX:EXT}{a:Expr}{pos:Pos}{mr:Zp}{p O I:Pos}(hc:X.calm=true) (a3:Gl X "list") (a0:X.mg "list" = none) (hg:Gl X "reversed") (hm:X.mg "reversed" = none) (ha:PA X [a] (tA K EX .B mr)) (hK:X.K=K:=by rfl) (hs:starEach [a] X.env = [(false,eval a X.env)]:=by rfl) (T:starEach [.Call (.Name "reversed" O) [a] [] I] X.env = [(false,eval (.Call (.Name "reversed" O) [a] [] I) X.env)]:=by rfl):PE X (.Call (.Name "list" p) [.Call (.Name "reversed" O) [a] [] I] [] pos) (tM K EX .F (bA iF mr)):=by
 subst hK;show (Bb hc a3 a0 hg hm ha hs T).mono λ_ _ _ q=>HX q
def pX (ns:Zz):iF [.lst (ns.map W.int)]=.ok (.lst (ns.reverse.map W.int)):=by
 have hn:∀l:List Int,n5 (l.map W.int)=true:=λl=>by induction l with|nil=>rfl|cons a l I=>simpa [n5,noL]using I
 change TP.chks false (ns.map W.int).reverse=_;rw[<- qI0];unfold TP.chks;rw[hn,qY0,qA2 rfl]
def jB (u:W)(ws:Zk):Option Nat:=(pds ws).findIdx? λy=>PyData.eqv y (pd u)
def mj (K:Frag):V->List V->Hp->VK->Prop:=λx vs H Q=>∃u ws y j,vs = [y]/\Rep K H y u/\Rep K H x (.lst ws)/\shp 8 u=true/\shp 8 (.lst ws)=true/\jB u ws=some j/\j<1000/\Q (.int (j:Int)) H
def xN (hu:X.A.units+64<cLine):MtR X "list.index" (mj X.K):=by
 intro pins s σ H x vs v us Q I rx rv h;obtain ⟨u,ws,y,j,rfl,ry,rc,su,sc,hj,a8,q⟩:=h;obtain ⟨uy,rfl,rr⟩:=rv.one;obtain ⟨as,qa⟩:=Rep.reads I 8 ry su rr;obtain ⟨bs,qb⟩:=Rep.reads I 8 rc sc rx;have la:=hV u 8 su;have lc:=oR ws 7 sc;have hm:X.A.units+1+min (PyData.depthAll (pds ws)) (pd u).depth<cLine:=by have:=qN2 (PyData.depthAll (pds ws)) (pd u).depth;omega
 have qb:Reads s.heap v (.list (pds ws)) bs:=qb;cases qb with
 | list h1 h2 h3 h4=>
  rename_i a o items n as'
  obtain ⟨oc,od,a0,osl⟩:=o;have h2:oc=.type "list" := h2;have h3:a0=.seq items n:=h3;subst h2 h3;have O:=SeqAt.readsAll_map (pds ws) _ _ lc.1 h4;have a5:=SeqAt.items_eqAt (A:=X.A) h4 qa lc.1 la.1 hm;unfold jB at hj;rw[<- O,List.findIdx?_map,qS8]at hj;obtain ⟨a6,ht,a4⟩:=hj;have T:j<items.size:=by simpa using a6
  refine qR4 qY6 ⟨_,h1,rfl⟩ PySem.F.entry_list_index (PySem.F.args_list_index_2 _ _) (SeqAt.list_indexAt a items n od osl uy (λz=>PyData.eqv (SeqAt.readOf s.heap z) (pd u)) j T ox (by simpa using ht) (λm a7 a3=>by simpa using a4 m a3)) ⟨h1,a5,?_⟩;show ⟨.int (j:Int),H,I.tok _,⟨_,rfl⟩,q⟩
def nB (ws:Zk) (u:W):R W:=if (shp 8 u&&shp 8 (.lst ws))=true then (match jB u ws with
 |some j=>if j<1000 then .ok (.int (j:Int)) else .stuck
 |none=>.stuck) else .stuck
def Rix (x:R W) (y:R W):R W:=x>>=λx=>(match x with
 | .lst ws=>y>>=λy=>nB ws y
 |_=>.stuck)
def nr (I me:Zx):Zx:=λρ=>Rix (I ρ) (me ρ)
def pH (I me:Zx)(ρ:Rho):nr I me ρ=Rix (I ρ) (me ρ):=rfl
def vZ (ws:Zk)(u:W):Rix (.ok (.lst ws)) (.ok u)=nB ws u:=rfl
def CL (h:tM K EX d (nr mo me) σ H Q):tBM K "list" (mj K) (tM K EX .B mo) (tA K EX .B (aC me aN)) σ H Q:=by
 obtain ⟨H0,G,ρ,I,o⟩:=h;unfold nr Rix at o;refine ⟨H0,G,ρ,I,Out.bind o λx G1 H1 w e1 m1 o1=>?_⟩;have I1:=I.ext e1;cases w <;> first|show o1.elim|skip
 rename_i ws
 obtain ⟨p,vs,rfl,hs,_⟩:=m1.lstB I1;refine ⟨.inl ⟨rfl,vs,SqL.of hs⟩,H0,G1,ρ,I1,?_⟩;have T:Out EX G1 H1 (mdW K .B H0 H1) (me ρ) λy H2=>mj K (.ref p) [y] H2 Q:=Out.bind (md:=mdW K .B H0 H1) o1 λy G2 H2 u e2 m2 O=>by
  have I2:=I1.ext e2;unfold nB at O;by_cases c:(shp 8 u&&shp 8 (.lst ws))=true
  .rw [qA2 c]at O
   have c':shp 8 u=true/\shp 8 (.lst ws)=true:=by simpa using c
   cases hj:jB u ws with
   |none=>rw[hj]at O;show O.elim
   | some j=>
    rw[hj]at O;by_cases hl:j<1000
    .dsimp only at O;rw[qA2 hl]at O;show ⟨u,ws,y,j,rfl,m2.whole I2,(m1.move e2).whole I2,c'.1,c'.2,hj,hl,O _ G2 H2 (Ext.refl I2.gh) (Md.sca rfl (λ_=>.int) d)⟩
    .dsimp only at O;rw[qA4 hl]at O;show O.elim
  .rw[qA4 c]at O;show O.elim
 change Out EX G1 H1 (mdA K .B H0 H1) (me ρ>>=λw=>aN ρ>>=λws=>.ok (w::ws)) _
 revert T
 cases me ρ with
 |stuck=>show id
 |ex e=>show id
 | ok u=>
  intro T v G2 H2 e2 m2;cases m2 with
  |cons a t=>cases t;show T _ G2 H2 e2 a
def AQ {X:Cx}{K:Frag}{EX:EXT}{d:Mode}{o e:Expr}{apos I:Pos}{mo me:Zx}(hu:X.A.units+64<cLine) (ho:PE X o (tM K EX .B mo)) (he:PE X e (tM K EX .B me)) (hK:X.K=K:=by rfl) (T:attributeBase o "index" X.env (eval o X.env)=eval o X.env:=by rfl) (a3:((backTo I (starEach [e] X.env)).all (λx=>!x.1)&&(backToKw I (keywordEach [] X.env)).all (λx=>x.1.isSome)
   && decide (([e]:VV).length+([]:List Keyword).length+(if ([]:List Keyword).isEmpty then 0 else 1)<30))=true:=by rfl) (a0:(apos.endLine == I.line)=true:=by rfl) (hs:starEach [e] X.env=(false,eval e X.env)::starEach [] X.env:=by rfl) (O:(backTo I (starEach [] X.env)).any (·.1)=false:=by rfl):
  PE X (.Call (.Attribute o "index" apos) [e] [] I) (tM K EX d (nr mo me)):=by
 subst hK;show (IT qS3 qY6 PySem.F.type_list_index (xN hu) ho (b7 he b9 hs) T a3 a0 hs O).mono λ_ _ _ q=>CL q
def OutW (K:Frag) (EX:EXT) (d:Mode) (H0:Hp) (r:R Fl) (D:Ends):Prop:=match r with
 | .ok (.nx ρ)=>∀G' I H',PIv K H0 G' ρ I H'->D.nx I H'
 | .ok (.bk ρ)=>∀G' I H',PIv K H0 G' ρ I H'->D.bk I H'
 | .ok (.ct ρ)=>∀G' I H',PIv K H0 G' ρ I H'->D.ct I H'
 | .ok (.rt w)=>∀v G' H',Same G' H'->Same H0 H'->(∀a o,H0 a=some o->isL o=true->G' a=none)->Md K H0 H0 G' H' v w d->D.rt v H'
 | .ex e=>∀H',Same H0 H'->EX e H'
 | .stuck=>False
def tStW (K:Frag)(EX:EXT)(d:Mode)(m:Zy):TS:=λD σ H=>∃H0 G ρ,PIv K H0 G ρ σ H/\OutW K EX d H0 (m ρ) D
def W5:upd H a o a=some o:=by unfold upd;rw[qA2 rfl]
def clS:Sl->Sl
 | .un=>.un
 | .val w=>if noL w=true then .val w else .un
 | .par w=>if noL w=true then .val w else .un
 | .own ws=>if n5 ws=true then .own ws else .un
 | .dic ks=>.dic ks
 | .dik ks=>.dik ks
 | .iop p ws=>if n5 ws=true then .iop p ws else .un
 | .hz _=>.un
def subS (i j:Nat)(us I:Zk)(ρ:Rho):Rho:=(ρ.map clS).set i (.val (.tup (us.set j (.lst I))))
set_option maxHeartbeats 2000000
def Hx (p:Addr)(H0 H1:Hp):Prop:=(∀a,a≠p->H1 a=H0 a)/\∃vs,H1 p=some (.lst vs)
def OutIo (K:Frag) (EX:EXT) (p:Addr) (H0:Hp) (r:R Fl) (D:Ends):Prop:=match r with
 | .ok (.nx ρ)=>∀I G' O H',Hx p H0 I->PIv K I G' ρ O H'->D.nx O H'
 | .ok (.bk ρ)=>∀I G' O H',Hx p H0 I->PIv K I G' ρ O H'->D.rt .non H'
 | .ex e=>∀H',EX e H'
 |_=>False
def tStI (K:Frag)(EX:EXT)(p:Addr)(m:Zy):TS:=λD σ H=>∃H0 G ρ,PIv K H0 G ρ σ H/\(∃vs,H0 p=some (.lst vs))/\OutIo K EX p H0 (m ρ) D
def nbR:R Fl->R Fl
 | .ok (.nx ρ)=>.ok (.nx ρ)
 | .ex e=>.ex e
 |_=>.stuck
def nb (m:Zy):Zy:=λρ=>nbR (m ρ)
def Hx.refl (h:∃vs,H0 p=some (.lst vs)):Hx p H0 H0:=⟨λ_ _=>rfl,h⟩
def Hx.trans (h:Hx p A B)(g:Hx p B C):Hx p A C:=⟨λa q=>(g.1 a q).trans (h.1 a q),g.2⟩
def OutIo.move (s:Hx p H0 H0') (o:OutIo K EX p H0 r D):OutIo K EX p H0' r D:=by
 cases r with
 |stuck=>show o
 |ex e=>show o
 | ok f=>
  cases f with
  |nx O=>show λA G' I H' h T=>o A G' I H' (s.trans h) T
  |bk O=>show λA G' I H' h T=>o A G' I H' (s.trans h) T
  |ct O=>show o
  |rt w=>show o
def OutIo.bind {md:α->β->Hp->Hp->Prop}(o:OutIo K EX p H0 (m>>=k) D) (h:∀x G1 H1 w,Ext G H G1 H1->md w x G1 H1->OutIo K EX p H0 (k w) D->Q1 x H1):Out EX G H md m Q1:=by
 cases m with
 |ok w=>show λv G' H' e q=>h v G' H' w e q o
 |ex e=>show λH' _=>o H'
 |stuck=>show o
def tStI.toS (h:tStI K EX p (nb m) D σ H):tSt K EX d m D σ H:=by
 obtain ⟨H0,G,ρ,I,hp,o⟩:=h;refine ⟨H0,G,ρ,I,?_⟩;unfold nb at o
 revert o
 cases m ρ with
 |stuck=>show id
 |ex e=>show λo H' _=>o H'
 | ok f=>
  cases f with
  |nx O=>show λo G' T H' _ I'=>o H0 G' T H' (Hx.refl hp) I'
  |bk O=>show λo=>o.elim
  |ct O=>show λo=>o.elim
  |rt w=>show λo=>o.elim
def HQ (h:tStI K EX p (d9 m n) D σ H):wD (tStI K EX p m) (tStI K EX p n) D σ H:=by
 obtain ⟨H0,G,ρ,I,hp,o⟩:=h;refine ⟨H0,G,ρ,I,hp,?_⟩;unfold d9 at o
 revert o
 cases m ρ with
 |stuck=>show id
 |ex e=>show id
 | ok f=>
  cases f with
  |nx O=>show λo A G' a0 H' s T=>⟨A,G',O,T,s.2,OutIo.move s o⟩
  |_=>show id
def JD (h:tStI K EX p (mIf c m n) D σ H):wE (tT K EX c) (tStI K EX p m) (tStI K EX p n) D σ H:=by
 obtain ⟨H0,G,ρ,I,hp,o⟩:=h;refine ⟨H0,G,ρ,I,OutIo.bind o λx G1 H1 w T m1 O=>?_⟩;cases m1;cases x with
 |true=>show ⟨H0,G1,ρ,I.ext T,hp,O⟩
 |false=>show ⟨H0,G1,ρ,I.ext T,hp,O⟩
def qG:Zy:=λρ=>.ok (.bk ρ)
def HS (h:tStI K EX p qG D σ H):tRetN D σ H:=by
 obtain ⟨H0,G,ρ,I,O,o⟩:=h;show o H0 G σ H (Hx.refl O) I
def clI:Sl->Sl
 | .un=>.un
 | .val w=>.val w
 | .par w=>if noL w=true then .val w else .un
 | .own ws=>.own ws
 | .dic ks=>.dic ks
 | .dik ks=>.dik ks
 | .iop _ _=>.un
 | .hz _=>.un
def CF (h:clI s=.own ws):s=.own ws:=by
 cases s with
 |un=>cases h
 |val w=>cases h
 | par w=>
  by_cases c:noL w=true
  .rw[clI,qA2 c]at h;cases h
  .rw[clI,qA4 c]at h;cases h
 |own us=>show h
 |dic ks=>cases h
 |dik ks=>cases h
 |iop q us=>cases h
 |hz _=>cases h
def appI (i:Nat)(p:Addr)(ws:Zk)(ρ:Rho):Rho:=(ρ.map clI).set i (.iop p ws)
def PIv.appI (I:PIv K H0 G ρ σ H) (hi:i<ρ.length) (es:σ[i]?=some (some (.ref p))) (hp:H0 p=some (.lst vs)) (rv:Reps K G vs' ws):PIv K (upd H0 p (.lst vs')) G (appI i p ws ρ) σ (upd H p (.lst vs')):=by
 have gp:G p=none:=I.gl p _ hp rfl;refine ⟨λb o T hl=>?_,λb o T hl=>?_,λb o T=>?_,λb o T=>?_,?_,λk x o h1 h2=>?_,λx y u1 u2 c a7 h1 h2 h3 h4=>?_⟩
 .by_cases q:b=p
  .subst q;rw[W5]at T;cases T;cases hl
  .rw[e9 q]at T;show I.g0 b o T hl
 .by_cases q:b=p
  .subst q;show gp
  .rw[e9 q]at T;show I.gl b o T hl
 .have q:b≠p:=by rintro rfl;rw[gp]at T;cases T
  rw[e9 q];show I.gh b o T
 .by_cases q:b=p
  .subst q;rw[W5]at T ⊢;show T
  .rw[e9 q]at T ⊢;show I.hh b o T
 .unfold TP.appI;rw[qF2,qA5];show I.len
 .unfold TP.appI at h1;by_cases q:i=k
  .subst q;rw[qF1 (by rw[qA5];show hi)]at h1;cases h1;rw[es]at h2;cases h2;show ⟨rfl,vs',W5,rv⟩
  .rw [qB9 q,qA6]at h1
   obtain ⟨s,hs,rfl⟩:=qE3.mp h1;have a4:=I.sl k s o hs h2;cases s with
   |un=>trivial
   |val w=>show a4
   | par w=>
    rw[clI];by_cases c:noL w=true
    .rw [qA2 c]
     obtain ⟨v,ev,r⟩:=a4;show ⟨v,ev,Rep.clean I r c⟩
    .rw[qA4 c];trivial
   | own ws=>
    obtain ⟨b,a5,eb,T,a3,O,rb⟩:=a4;have a0:b≠p:=by rintro rfl;rw[hp]at O;cases O
    show ⟨b,a5,eb,by rw[e9 a0];show T,a3,by rw[e9 a0];show O,rb⟩
   | dic ks=>
    obtain ⟨b,a5,eb,T,a3,O,rb⟩:=a4;have a0:b≠p:=by rintro rfl;rw[hp]at O;cases O
    show ⟨b,a5,eb,by rw[e9 a0];show T,a3,by rw[e9 a0];show O,rb⟩
   | dik ks=>
    obtain ⟨b,a5,eb,T,a3,O,rb⟩:=a4;have a0:b≠p:=by rintro rfl;rw[hp]at O;cases O
    show ⟨b,a5,eb,by rw[e9 a0];show T,a3,by rw[e9 a0];show O,rb⟩
   |iop q us=>trivial
   |hz _=>trivial
 .have a6:∀{k:Nat}{u:Zk},(TP.appI i p ws ρ)[k]?=some (.own u)->ρ[k]?=some (.own u):=λ{k u} hk=>by
   unfold TP.appI at hk;by_cases q:i=k
   .subst q;rw[qF1 (by rw[qA5];show hi)]at hk;cases hk
   .rw [qB9 q,qA6]at hk
    obtain ⟨s,hs,h⟩:=qE3.mp hk;rw[hs,CF h]
  show I.ne x y u1 u2 c a7 (a6 h1) (a6 h2) h3 h4
def fD (p:Addr) (i:Nat) (m:Zx):Zy:=λρ=>match ρ[i]? with
 |some (.iop q ws)=>m ρ>>=λw=>if q=p/\ws.length<1000 then .ok (.nx (appI i p (ws ++ [w]) ρ)) else .stuck
 |_=>.stuck
def Ia (h:tStI K EX p (fD p i m) D σ H):gY (wF (ah i) (tM K EX .V m)) D σ H:=by
 obtain ⟨H0,G,ρ,I,hp,o⟩:=h;unfold fD at o
 split at o
 .rename_i q ws e
  have hi:=(qA9.mp e).1;have hs:i<σ.length:=by rw[<- I.len];show hi
  have es:σ[i]?=some σ[i]:=ZV;obtain ⟨ev,vs,h0,r⟩:=I.sl i _ _ e es;have hq:=I.hh q _ h0;refine ⟨.ref q,by rw[es,ev],q,rfl,⟨vs,hq⟩,H0,G,ρ,I,OutIo.bind o λx G1 H1 w e1 m1 T=>?_⟩;by_cases O:q=p/\ws.length<1000
  .rw [qA2 O]at T
   obtain ⟨rfl,O⟩:=O;have h1:=e1.hh q _ hq;dsimp only;rw[h1];dsimp only;have hlen:vs.length=ws.length:=r.length;show ⟨qB6 (by omega:vs.length<1000) ZY,T _ G1 σ _ ⟨λa ha=>e9 ha,_,W5⟩ ((I.ext e1).appI hi (by rw[es,ev]) h0 ((r.same e1.gg).snoc m1))⟩
  .rw[qA4 O]at T;show T.elim
 .show o.elim
def ioR (p:Addr) (ρ:Rho):R Zk:=match (ρ[1]?:Option Sl) with
 |some (.iop q cs)=>if q=p then .ok cs else .stuck
 |_=>.stuck
def aR (n N:Nat) (m:Addr->Rho->R Fl) (p:Addr) (w1:W) (cs wr:Zk):R Zk:=if wr.length+2=n/\n5 cs=true then (match m p (.par w1::.iop p cs::(wr.map Sl.par++List.replicate (N-n) Sl.un)) with
 | .ok (.nx ρ)=>ioR p ρ
 | .ok (.bk ρ)=>ioR p ρ
 |_=>.stuck) else .stuck
open Classical in
def K7 (n N:Nat)(m:Addr->Rho->R Fl)(w1:W)(cs wr:Zk):R Zk:=if h:∃I,∀p,aR n N m p w1 cs wr=.ok I then .ok (Classical.choose h) else .stuck
def fP (h:K7 n N m w1 cs wr=.ok cs') (p:Addr):aR n N m p w1 cs wr=.ok cs':=by
 unfold K7 at h
 split at h
 .rename_i q
  cases h;show Classical.choose_spec q p
 .cases h
def tW (h:∀p,aR n N m p w1 cs wr=.ok I):K7 n N m w1 cs wr=.ok I:=by
 have O:∃I,∀p,aR n N m p w1 cs wr=.ok I:=⟨I,h⟩;unfold K7;rw[dif_pos O]
 have:=Classical.choose_spec O (0:Nat)
 rw[h]at this;cases this;rfl
def tX:K7 n N m w1 cs wr=.stuck\/∃I,K7 n N m w1 cs wr=.ok I:=by
 unfold K7
 split
 .show .inr ⟨_,rfl⟩
 .show .inl rfl
def jW (h:aR n N m p w1 cs wr=.ok cs'):wr.length+2=n/\n5 cs=true:=by
 unfold aR at h;by_cases e:wr.length+2=n/\n5 cs=true
 .show e
 .rw[qA4 e]at h;cases h
def iZ (K:Frag) (n:Nat) (f:W->List W->List W->R Zk):Sp:=λvs H Q _=>vs.length=n/\∃v1 p T w1 cs wr us I,vs=v1::.ref p::T/\H p=some (.lst us)/\Rep K H v1 w1/\Reps K H T wr/\Reps K H us cs/\f w1 cs wr=.ok I /\
 ∀H' O G',(∀a o,a≠p->H a=some o->H' a=some o)->H' p=some (.lst O)->Same G' H'->(∀a o,H a=some o->isL o=true->G' a=none)->Reps K G' O I->Q .non H'
def PIv.toIop (I:PIv K H0 G ρ σ H) (hi:i<ρ.length) (es:σ[i]?=some (some (.ref p))) (hp:H0 p=some (.lst us)) (r:Reps K G us cs):PIv K H0 G (ρ.set i (.iop p cs)) σ H:=by
 refine ⟨I.g0,I.gl,I.gh,I.hh,by rw[qF2];show I.len,λk x o O T=>?_,λx y u1 u2 c a3 O T h3 h4=>?_⟩
 .by_cases q:i=k
  .subst q;rw[qF1 hi]at O;cases O;rw[es]at T;cases T;show ⟨rfl,us,hp,r⟩
  .rw [qB9 q]at O
   show I.sl k x o O T
 .have a0:∀{k:Nat}{u:Zk},(ρ.set i (.iop p cs))[k]?=some (.own u)->ρ[k]?=some (.own u):=λ{k u} hk=>by
   by_cases q:i=k
   .subst q;rw[qF1 hi]at hk;cases hk
   .rw[qB9 q]at hk;show hk
  show I.ne x y u1 u2 c a3 (a0 O) (a0 T) h3 h4
def CO (h:iZ K n (K7 n Nl.length m) vs H Q E):∃p,tStI K (λ_ _=>False) p (m p) { nx:=λ_ H'=>Q .non H',rt:=Q } (L2.start Nl vs) H:=by
 obtain ⟨hl,v1,p,vr,w1,cs,wr,us,a6,rfl,hp,r1,rr,ru,hf,hq⟩:=h;have T:=fP hf p;obtain ⟨hn,a3⟩:=jW T;have ra:Reps K H (v1::.ref p::vr) (w1::.lst cs::wr):=.cons r1 (.cons (.lst hp ru) rr);have I0:=PIv.begin (k:=Nl.length-n) (k':=Nl.length-n) ra rfl;have a5:Reps K (cP H) us cs:=Reps.clean I0 (by rw[kE];show ru) a3;have I1:=I0.toIop (i:=1) (p:=p) (cs:=cs) (us:=us) ZV rfl hp a5;refine ⟨p,H,cP H,Sl.par w1::.iop p cs::(wr.map Sl.par++List.replicate (Nl.length-n) Sl.un),?_,⟨us,hp⟩,?_⟩
 .have e:L2.start Nl (v1::.ref p::vr)=((v1::.ref p::vr).map some++List.replicate (Nl.length-n) none):=by unfold L2.start;rw[hl]
  rw[e];show I1
 .unfold aR at T;rw[qA2 ⟨hn,a3⟩]at T;have fin:∀ρ,ioR p ρ=.ok a6->∀O G' I H',Hx p H O->PIv K O G' ρ I H'->Q .non H':=λρ hr O G' I H' hx I'=>by
   unfold ioR at hr
   split at hr
   .rename_i q cs2 e2
    by_cases e3:q=p
    .rw [qA2 e3]at hr
     cases hr;subst e3;have hi:1<I.length:=by rw[<- I'.len];show (qA9.mp e2).1
     obtain ⟨_,a7,a4,r'⟩:=I'.sl 1 _ _ e2 (show I[1]?=some I[1] by simp);refine hq H' a7 G' (λa o ha hb=>I'.hh a o (by rw[hx.1 a ha];show hb)) (I'.hh _ _ a4) I'.gh (λa o hb hl=>?_) r';by_cases e4:a=q
     .subst e4;show I'.gl a _ a4 rfl
     .show I'.gl a o (by rw[hx.1 a e4];show hb) hl
    .rw[qA4 e3]at hr;cases hr
   .cases hr
  revert T
  cases m p (.par w1::.iop p cs::(wr.map Sl.par++List.replicate (Nl.length-n) Sl.un)) with
  |stuck=>show λh=>nomatch h
  |ex e=>show λh=>nomatch h
  | ok f=>
   cases f with
   |nx a0=>show λh O G' I H' hx I'=>fin a0 h O G' I H' hx I'
   |bk a0=>show λh O G' I H' hx I'=>fin a0 h O G' I H' hx I'
   |ct a0=>show λh=>nomatch h
   |rt w=>show λh=>nomatch h
def mIO (i:Nat) (f:W->List W->List W->R Zk) (T:Zx) (O:Zp):Zy:=λρ=>match ρ[i]? with
 |some (.own cs)=>T ρ>>=λw1=>O ρ>>=λwr=>f w1 cs wr>>=λI=>.ok (.nx (ρ.set i (.own I)))
 |_=>.stuck
def CN (hf:∀w1 cs wr,f w1 cs wr=.stuck\/∃a6,f w1 cs wr=.ok a6/\wr.length+2=n) (h:tSt K EX d (mIO i f m1 mr) D σ H):
  gY (qz (iZ K n f) [] E (cB (tM K EX .B m1) (cB (ah i) (tA K EX .B mr)))) D σ H:=by
 obtain ⟨H0,G,ρ,I,o⟩:=h;unfold mIO at o
 split at o
 .rename_i cs e
  obtain ⟨a,vs,es,ha,hg,h0,r⟩:=I.own_at e;refine ⟨H0,G,ρ,I,OutS.bind I o λx G1 H1 w1 e1 m1 o1=>⟨.ref a,es,H0,G1,ρ,I.ext e1,OutS.bind (I.ext e1) o1 λxs G2 H2 wr e2 m2 o2=>?_⟩⟩;have I2:=(I.ext e1).ext e2;rcases hf w1 cs wr with hs|⟨a6,hs,hn⟩
  .rw[hs]at o2;show o2.elim
  rw[hs,R.ok_bind]at o2;have rx:=MdA.whole I2 m2;have a5:H2 a=some (.lst vs):=e2.hh _ _ (e1.hh _ _ ha);have a8:G2 a=none:=e2.keep _ _ (e1.hh _ _ ha) rfl (e1.keep _ _ ha rfl hg);have r2:Reps K G2 vs cs:=(r.same e1.gg).same e2.gg
  change iZ K n f ((x::.ref a::xs) ++ []) H2 (λ_ H1=>D.nx σ H1) E;rw[qH3];refine ⟨?_,x,a,xs,w1,cs,wr,vs,a6,rfl,a5,(m1.move e2).whole I2,rx,r2.same I2.gh,hs,λH' b5 G' k1 k2 gH cl rr=>?_⟩
  .rw[qC5,qC5,rx.length];show hn
  have bw:G' a=none:=cl a _ a5 rfl;have hk:∀b o,G2 b=some o->H' b=some o:=λb o q=>k1 b o (by rintro rfl;rw[a8]at q;cases q) (I2.gh b o q);have sB:Same G2 (both G2 G'):=λb o q=>by unfold both;rw[q]
  have ab:Same G' (both G2 G'):=λb o q=>by
   unfold both;cases q1:G2 b with
   |none=>show q
   | some u=>
    have a1:=hk b u q1;rw[gH b o q]at a1;show a1.symm
  have b0:Same (both G2 G') H':=λb o q=>by
   unfold both at q;cases q1:G2 b with
   |none=>rw[q1]at q;show gH b o q
   |some u=>rw[q1]at q;cases q;show hk b _ q1
  have bn:∀b o,H2 b=some o->isL o=true->G2 b=none->both G2 G' b=none:=λb o q l g=>by unfold both;rw[g];show cl b o q l
  have hi:=(qA9.mp e).1;refine o2 (both G2 G') σ H' sB ⟨λb o q l=>sB b o (I2.g0 b o q l),λb o q l=>bn b o (I2.hh b o q) l (I2.gl b o q l),b0,λb o q=>k1 b o (by rintro rfl;rw[h0]at q;cases q) (I2.hh b o q),by rw[qF2];show I2.len,λk y o h1 h2=>?_,λx1 y1 u1 u2 c b6 h1 h2 h3 h4=>?_⟩
  .by_cases q:i=k
   .subst q;rw[qF1 hi]at h1;cases h1;rw[es]at h2;cases h2;show ⟨a,b5,rfl,k2,bn a _ a5 rfl a8,h0,rr.same ab⟩
   .rw [qB9 q]at h1
    have O:=I2.sl k y o h1 h2;cases y with
    |un=>trivial
    |val w=>obtain ⟨v,ev,r⟩:=O;show ⟨v,ev,r.same sB⟩
    |par w=>obtain ⟨v,ev,r⟩:=O;show ⟨v,ev,r.same (y9 sB)⟩
    | own ws=>
     obtain ⟨b,us2,eb,T,a0,a3,rb⟩:=O;subst eb;have a4:b≠a:=by
      rintro rfl;show I.ne i k cs ws b q e h1 es h2
     show ⟨b,us2,rfl,k1 b _ a4 T,bn b _ T rfl a0,a3,rb.same sB⟩
    | dic ks=>
     obtain ⟨b,us2,eb,T,a0,a3,rb⟩:=O;have a4:b≠a:=by
      rintro rfl;rw[a5]at T;cases T
     show ⟨b,us2,eb,k1 b _ a4 T,bn b _ T rfl a0,a3,rb⟩
    | dik ks=>
     obtain ⟨b,us2,eb,T,a0,a3,rb⟩:=O;have a4:b≠a:=by
      rintro rfl;rw[a5]at T;cases T
     show ⟨b,us2,eb,k1 b _ a4 T,bn b _ T rfl a0,a3,rb⟩
    |iop q us=>obtain ⟨ev,bb,a9,r1⟩:=O;show ⟨ev,bb,a9,r1.same sB⟩
    |hz w=>obtain ⟨v,ev,r⟩:=O;show ⟨v,ev,r.same (y9 (aV sB))⟩
  .have a7:∀{k:Nat}{u:Zk},(ρ.set i (.own a6))[k]?=some (.own u)->∃u',ρ[k]?=some (.own u'):=λ{k u} hk=>by
    by_cases q:i=k
    .subst q;show ⟨cs,e⟩
    .rw[qB9 q]at hk;show ⟨u,hk⟩
   obtain ⟨v1,b3⟩:=a7 h1;obtain ⟨v2,b4⟩:=a7 h2;show I.ne x1 y1 v1 v2 c b6 b3 b4 h3 h4
 .show o.elim
def q_i {X:Cx}{K:Frag}{EX:EXT}{d:Mode}{m:Zy}{st:Stmt}{p:Addr}(h:PS X st (tSt K EX d m)):PS X st (tStI K EX p (nb m)):=h.mono λ_ _ _ q=>q.toS
def EW {X:Cx}{K:Frag}{EX:EXT}{d:Mode}{m:Zy}{I:List Stmt}{p:Addr}(h:PSs X I (tSt K EX d m)):PSs X I (tStI K EX p (nb m)):=h.mono λ_ _ _ q=>q.toS
def fy (I:PS X st (tStI K EX p m))(O:PSs X sts (tStI K EX p n)):PSs X (st::sts) (tStI K EX p (d9 m n)):=(mz I O).mono λ_ _ _ q=>HQ q
def jh (I:PS X st (tStI K EX p m)):PSs X [st] (tStI K EX p m):=oZ I
def zt (hc:PT X c (tT K EX ta))(ha:PSs X x (tStI K EX p m))(I:PSs X y (tStI K EX p n)):PS X (.If c x y pos) (tStI K EX p (mIf ta m n)):=(zx hc ha I).mono λ_ _ _ q=>JD q
def ER:PS X (.Return none pos) (tStI K EX p qG):=ps_retN.mono λ_ _ _ q=>HS q
def Fc {X:Cx}{K:Frag}{EX:EXT}{e:Expr}{pos:Pos}{ma:Zx}{p:Addr}{i:Nat}{x:Str}{p1 apos I:Pos}(hN:X.N[i]?=some x) (hv:Vis X.env.scope x) (ha:PE X e (tM K EX .V ma)) (hd:(x == ("__debug__" : Str))=false:=by decide) (a3:(x == ("__classdict__" : Str))=false:=by decide) (O:attributeBase (.Name x p1) "append" X.env (eval (.Name x p1) X.env)=eval (.Name x p1) X.env:=by rfl) (a0:((backTo I (starEach [e] X.env)).all (λx=>!x.1)&&(backToKw I (keywordEach [] X.env)).all (λx=>x.1.isSome)
   && decide (([e]:VV).length+([]:List Keyword).length+(if ([]:List Keyword).isEmpty then 0 else 1)<30))=true:=by rfl) (T:(apos.endLine == I.line)=true:=by rfl) (hs:starEach [e] X.env=(false,eval e X.env)::starEach [] X.env:=by rfl) (a4:swapsWith (.Call (.Attribute (.Name x p1) "append" apos) [e] [] I) none pos.line X.env=pure false:=by rfl):
  PS X (.Expr (.Call (.Attribute (.Name x p1) "append" apos) [e] [] I) pos) (tStI K EX p (fD p i ma)):=(fA (ka (ay hN hv hd a3) ha O a0 T hs) a4).mono λ_ _ _ q=>Ia q
def AR {X:Cx}{K:Frag}{d:Mode}{e:Expr}{es:VV}{pos:Pos}{ma:Zx}{mr:Zp}{i k:Nat}{y:Str}{p1 O I:Pos}{f:Addr}{fd:FuncData}{ps:VJ}{x:Str}{n N:Nat}{m:Addr->Rho->R Fl}(hN:X.N[i]?=some y) (hv:Vis X.env.scope y) (F:FnOk X.prog X.w X.K X.mg X.base CX0 k f fd ps (iZ K n (K7 n N m))) (hr:Room k X.A) (hg:Gl X x) (hm:X.mg x=some (.ref f)) (hk:PySem.W.keepIn X.K (.ref f)=true) (hb:Binds X.K fd ps []) (h1:PE X e (tM K (λ_ _=>False) .B ma)) (h2:PA X es (tA K (λ_ _=>False) .B mr)) (hd:(y == ("__debug__" : Str))=false:=by decide) (a0:(y == ("__classdict__" : Str))=false:=by decide) (T:(x == ("__debug__" : Str))=false:=by decide) (he:starEach (e::.Name y O::es) X.env=(false,eval e X.env)::starEach (.Name y O::es) X.env:=by rfl) (a4:starEach (.Name y O::es) X.env=(false,eval (.Name y O) X.env)::starEach es X.env:=by rfl) (a3:(backTo I (starEach (.Name y O::es) X.env)).any (·.1)=false:=by rfl) (a5:swapsWith (.Call (.Name x p1) (e::.Name y O::es) [] I) none pos.line X.env=pure false:=by rfl):
  PS X (.Expr (.Call (.Name x p1) (e::.Name y O::es) [] I) pos) (tSt K (λ_ _=>False) d (mIO i (K7 n N m) ma mr)):=
 (fA (pi F hr hg hm hk hb .nil qP (fB h1 (fB (ay hN hv hd a0) h2 a4) he) T he a3) a5).mono λ_ _ _ q=>CN (λw1 cs wr=>by
  rcases tX (n:=n) (N:=N) (m:=m) (w1:=w1) (cs:=cs) (wr:=wr) with h|⟨cs',h⟩
  .show .inl h
  .show .inr ⟨cs',h,(jW (fP h (0:Nat))).1⟩) q
def x8:List Zz->List Zz->Bool
 | [],[]=>false
 | [],_::_=>true
 |_::_,[]=>false
 |a::as,b::bs=>if a=b then x8 as bs else lexLt a b
def nu:∀a,x8 a a=false
 | []=>rfl
 |x::a=>by unfold x8;rw[qA2 rfl];show nu a
def jy:∀a b c,x8 a b=true->x8 b c=true->x8 a c=true
 | [],[],_,h,_=>by cases h
 | [],_::_,[],_,h=>by cases h
 | [],_::_,_::_,_,_=>rfl
 |_::_,[],_,h,_=>by cases h
 |_::_,_::_,[],_,h=>by cases h
 | x::a,y::b,z::c,h1,h2=>by
  unfold x8 at h1 h2 ⊢;by_cases O:x=y
  .subst O;rw[qA2 rfl]at h1;by_cases I:x=z
   .subst I;rw[qA2 rfl]at h2 ⊢;show jy a b c h1 h2
   .rw[qA4 I]at h2 ⊢;show h2
  .rw [qA4 O]at h1
   by_cases I:y=z
   .subst I;rw[qA4 O];show h1
   .rw [qA4 I]at h2
    have T:=uT _ _ _ h1 h2;by_cases e3:x=z
    .subst e3;rw[pK]at T;cases T
    .rw[qA4 e3];show T
def cT:∀a b,x8 a b=false->x8 b a=false->a=b
 | [],[],_,_=>rfl
 | [],_::_,h,_=>by cases h
 |_::_,[],_,h=>by cases h
 | x::a,y::b,h1,h2=>by
  unfold x8 at h1 h2;by_cases e:x=y
  .subst e;rw[qA2 rfl]at h1 h2;rw[cT a b h1 h2]
  .rw [qA4 e]at h1
   rw[qA4 (λz=>e z.symm)]at h2;show absurd (pJ _ _ h1 h2) e
def P6 (ss:List Zq)(i:Nat):Int:=((ss.countP λx=>x8 x (ss.getD i [])):Nat)
def vk {ss:List Zq}(h:i<ss.length):ss.getD i []∈ss:=by
 rw[qA0];simp [h]
def lY (hi:i<ss.length) (T:j<ss.length):decide (P6 ss i<P6 ss j)=x8 (ss.getD i []) (ss.getD j []):=by
 cases h:x8 (ss.getD i []) (ss.getD j []) with
 | true=>
  apply qO8;unfold P6
  have:=HA (l:=ss) (p:=λx=>x8 x (ss.getD i [])) (q:=λx=>x8 x (ss.getD j [])) (λx _ I=>jy _ _ _ I h) ⟨_,vk hi,h,nu _⟩
  omega
 | false=>
  apply qO7;unfold P6
  have:ss.countP (λx=>x8 x (ss.getD j []))<=ss.countP λx=>x8 x (ss.getD i []):=by
   apply qT5;intro x _ I;cases O:x8 (ss.getD j []) (ss.getD i []) with
   |true=>show jy _ _ _ I O
   |false=>rw[cT _ _ h O];show I
  omega
def U9 (ss:List Zq):List Nat:=if ss.length<2 then List.range ss.length else (runK (P6 ss) (PySem.W.kas_sort ss.length)).toList
def R4 (ss:List Zq):(U9 ss).Perm (List.range ss.length):=by
 unfold U9
 split
 .show .refl _
 .rename_i h
  have:=(oQ (P6 ss) (n:=ss.length) ox).1
  show (qW0.mp this).trans ZV
def Bg (ss:List Zq):(U9 ss).Pairwise λi j=>x8 (ss.getD j []) (ss.getD i [])=false:=by
 unfold U9
 split
 .rename_i h
  have:ss.length=0\/ss.length=1:=ox
  rcases this with e|e <;> rw[e] <;> simp
 .rename_i h
  have k:=oQ (P6 ss) (n:=ss.length) ox;have T:=qW0.mp k.1;have hl:(runK (P6 ss) (PySem.W.kas_sort ss.length)).toList.length=ss.length:=by have:=T.length_eq;simpa using this
  have hm:∀x∈(runK (P6 ss) (PySem.W.kas_sort ss.length)).toList,x<ss.length:=λx hx=>by have:=T.mem_iff.mp hx;simpa using this
  have O:=dE (P6 ss) k.2;generalize runK (P6 ss) (PySem.W.kas_sort ss.length)=p at hl hm O
  rw[List.pairwise_iff_getElem];intro i j hi I a0
  have:=O j i ox ox
  unfold ky at this;have ei:p.getD i 0=p.toList[i]:=by rw[qG4];simp at hi ⊢;simp [hi]
  have ej:p.getD j 0=p.toList[j]:=by rw[qG4];simp at I ⊢;simp [I]
  rw[ei,ej]at this;rw[<- lY (hm _ (qG1 I)) (hm _ (qG1 hi))];show qO7 ox
def A3 {α:Type}(ks:List Zq)(d:α)(vs:List α):List α:=((U9 ks.reverse).map λi=>vs.reverse.getD i d).reverse
def mH (ks:List Zq) (d:α) (vs:List α):(A3 ks d vs).length=ks.length:=by
 unfold A3;rw[qB7,qA5,(R4 ks.reverse).length_eq,qF4,qB7]
def jY {α:Type}(d:α) (vs:List α):(List.range vs.length).map (λi=>vs.getD i d)=vs:=by
 apply qK1
 .simp
 .intro i O I;simp [I]
def ur {d:α}(I:vs.length=ks.length):(A3 ks d vs).Perm vs:=by
 unfold A3;refine (qL8 _).trans ?_
 have:=(R4 ks.reverse).map λi=>vs.reverse.getD i d
 rw[show ks.reverse.length=vs.reverse.length by rw[qB7,qB7,I],jY]at this;show this.trans (qL8 _)
def gG (fin:Bool):List (List Int×List Int)->Bool
 | []=>fin
 | (a,b)::r=>if a=b then gG fin r else lexLt a b
def pO:∀xs ys:List Zz,gG (decide (xs.length<ys.length)) (xs.zip ys)=x8 xs ys
 | [],[]=>rfl
 | [],_::_=>by simp [gG,x8]
 |_::_,[]=>by simp [gG,x8]
 | x::xs,y::ys=>by
  have:=pO xs ys
  simp only [qL3,gG,x8,qC5,qX8];rw[this]
section
open PySem.W PyProof.Rows
def items_int:∀{xs:Zz}{its:VZ},Vals (xs.map V.int) its->ItemsAre (intKind prog w) xs its:=by
 intro xs
 induction xs with
 |nil=>intro its h;cases h;show .nil
 | cons x xs I=>
  intro its h;cases h with
  | cons r t=>
   obtain ⟨O,rfl⟩:=r;show .cons (by simp [intKind,Value.isInt]) (I t)
def Cy (hu:A.units<cLine) (hv:dh s.heap v xs) (hw:dh s.heap u ys) (h:Q (decide (xs=ys)) s):wpAny (model prog w) A (eqBool v u) Q E s:=by
 obtain ⟨a,o,its,m,rfl,ho,hc,hd,rv⟩:=hv;obtain ⟨b,o2,a3,m2,rfl,I,O,T,a0⟩:=hw;show wpAny_eqBool_tuple (knd:=intKind prog w) hu ⟨o,_,m,ho,hc,hd,by simpa using items_int rv⟩ ⟨o2,_,m2,I,O,T,by simpa using items_int a0⟩ h
def BN (hu:A.units+64<cLine) (hv:dh s.heap v xs) (hw:dh s.heap u ys) (h:Q (lexLt xs ys) s):wpAny (model prog w) A (compareOp .Lt v u) (PySem.W.BoolBack Q) E s:=by
 obtain ⟨a,⟨c1,d1,t1,a4⟩,its,m,rfl,ho,hc,hd,rv⟩:=hv;obtain ⟨b,⟨c2,d2,t2,a3⟩,a0,m2,rfl,I,O,T,a5⟩:=hw;simp only at hc hd O T;subst hc hd O T;show richCompare_meets_room (op:=.Lt) ⟨_,ho,rfl⟩ ⟨_,I,rfl⟩ PySem.F.slot_tuple_lt PySem.F.entry_tuple_lt (PySem.F.args_tuple_lt_2 _ _) (Dw a b its a0 m m2 d1 d2 a4 a3 xs ys rv a5) ⟨ho,I,(λx=>nomatch x),h⟩ ox
def BQ (hu:A.units+64<cLine):∀(xs ys:Zq) (us vs:VZ) (i:Nat),Paired (dh s.heap) us xs->Paired (dh s.heap) vs ys->Q (gG fin (xs.zip ys)) s->KatLex prog w A false fin Q (us.zip vs) i s:=by
 intro xs
 induction xs with
 |nil=>intro ys us vs i a b h;cases a;show h
 | cons x xs ih=>
  intro ys us vs i a b h;cases a with
  | cons O t1=>
   cases ys with
   |nil=>cases b;show h
   | cons y ys=>
    cases b with
    | cons I T=>
     simp only [qL3,gG]at h;refine kat_cons (Cy ox O I ?_);by_cases e:x=y
     .rw [qA2 e]at h
      rw[qO8 e];show kat_yes (ih ys _ _ (i+1) t1 T h)
     .rw [qA4 e]at h
      rw[qO7 e];show kat_no (kat_one _ _ (BN hu O I h))
def ot (h:Heap)(v:Value)(xs:Zq):Prop:=∃(a:Addr)(o:Obj)(its:VZ)(m:Nat),v=.ref a/\h.get? a=some o/\o.cls=.type "tuple" /\ o.data=.seq its.toArray m/\Paired (dh h) its xs
def BO (hu:A.units+64<cLine) (hv:ot s.heap v xs) (hw:ot s.heap u ys) (h:Q (x8 xs ys) s):wpAny (model prog w) A (keyLt' (tuples' false) v u) Q E s:=by
 obtain ⟨a,o,its,m,rfl,ho,_,hd,rv⟩:=hv;obtain ⟨b,o2,a0,m2,rfl,O,_,T,I⟩:=hw;refine kat_lt ho hd O T ?_;have l1:=Paired.length rv;have l2:=Paired.length I;refine BQ hu xs ys _ _ 0 rv I ?_;simp only [qB8,l1,l2];rw[pO];show h
def lE:∀{vs:VZ}{ss:List Zq},Paired (λv xs=>ot h v xs/\xs ≠ []) vs ss->∃fs:List Value,KatTups h vs fs/\fs.length=ss.length/\∀f∈fs,∃x,dh h f x
 |_,_,.nil=>⟨[],trivial,rfl,λ_ h=>nomatch h⟩
 | _,_,.cons hv t=>by
  obtain ⟨fs,k,T,hi⟩:=lE t;obtain ⟨⟨a,o,its,m,rfl,ho,hc,hd,rv⟩,I⟩:=hv;cases rv with
  |nil=>show absurd rfl I
  | cons r1 r2=>
   rename_i v0 x0 l1 l2
   refine ⟨v0::fs,KatTups.cons ho hc hd ZV k,by rw[qC5,qC5,T],λf O=>?_⟩;rcases qB5.mp O with q|O
   .subst q;show ⟨_,r1⟩
   .show hi f O
end
def gX (k:Zq):Zk:=k.map λx=>W.tup (x.map W.int)
def kW (k:Zq):W:=.tup (gX k)
def keyOf:R W->Option Zq
 | .ok (.tup us)=>(match aO us with
  |some (a::k)=>some (a::k)
  |_=>none)
 |_=>none
def K2 (f:List W->R W):List W->Option (List Zq)
 | []=>some []
 | w::r=>match keyOf (f [w]),K2 f r with
  |some k,some ks=>some (k::ks)
  |_,_=>none
def kC (h:keyOf r=some k):r=.ok (kW k)/\k ≠ []:=by
 unfold keyOf at h
 split at h
 .rename_i us
  split at h
  .rename_i a k' e
   cases h;rw[wv e];show ⟨rfl,ZV⟩
  .cases h
 .cases h
def cU (h:K2 f (w::r)=some ks):∃k I,ks=k::I/\f [w]=.ok (kW k)/\k ≠ []/\K2 f r=some I:=by
 unfold K2 at h
 split at h
 .rename_i k I e1 e2
  cases h;show ⟨k,I,rfl,(kC e1).1,(kC e1).2,e2⟩
 .cases h
def eH:∀{ws:Zk}{ks:List Zq},K2 f ws=some ks->ks.length=ws.length
 | [],_,h=>by cases h;rfl
 | w::r,_,h=>by
  obtain ⟨k,I,rfl,_,_,e⟩:=cU h;rw[qC5,qC5,eH e]
def nz:∀{ws:Zk}{ks:List Zq},K2 f ws=some ks->∀k∈ks,k ≠ []
 | [],_,h=>by cases h;simp
 | w::r,_,h=>by
  obtain ⟨k,O,rfl,_,hn,e⟩:=cU h;intro x I;rcases qB5.mp I with rfl|I
  .show hn
  .show nz e x I
def inK (X:Cx):Cx:={ X with A:=X.A.in1.in1,xe:=λ_ _=>False }
def GC {σ:L2.St}(I:Inv X pins σ H s):Inv (inK X) pins σ H s:=
 ⟨⟨I.ok.mod,I.ok.kind,I.ok.glob,I.ok.blt,I.ok.above,I.ok.inj,I.ok.has,I.ok.cab,I.ok.hd,I.ok.frames,I.ok.stk,I.ok.exf,I.ok.bs,I.ok.bsz,I.ok.noex,I.ok.exfs,I.ok.funs,I.ok.frf,I.ok.tab⟩,I.os,I.bare,I.base,I.loc,I.cell,I.free,I.freeC,I.pin,I.hok,I.len⟩
def BX {σ:L2.St}(I:Inv (inK X) pins σ H s):Inv X pins σ H s:=
 ⟨⟨I.ok.mod,I.ok.kind,I.ok.glob,I.ok.blt,I.ok.above,I.ok.inj,I.ok.has,I.ok.cab,I.ok.hd,I.ok.frames,I.ok.stk,I.ok.exf,I.ok.bs,I.ok.bsz,I.ok.noex,I.ok.exfs,I.ok.funs,I.ok.frf,I.ok.tab⟩,I.os,I.bare,I.base,I.loc,I.cell,I.free,I.freeC,I.pin,I.hok,I.len⟩
def vd {σ:L2.St}(I:Inv X pins σ H s) (k:∀b o,b≠D->s.heap.get? b=some o->h'.get? b=some o) (hn:H D=none) (hL:D≠X.env.locals) (h1:X.s₀.heap.objs.size<=D) (h2:∀x c,X.env.cells.lookup x=some c->c≠D) (h3:∀p∈X.pn++pins,p.1≠D) (hz:ys.length<=sizeLine) (hv:Vals ys its) (e:h'.get? D=some { cls:=.type "list",data:=.seq its.toArray n }):
  Inv X pins σ (upd H D (.lst ys)) { s with heap:=h',toks:=t' }:=by
 have O:∀b u,H b=some u->b≠D:=λb u e z=>by rw[z,hn]at e;cases e
 refine I.step (g':=s.gens) (d':=s.drawn) (ch:=[D]) (λb hb=>?_) (λb o _ _ hc e _=>k b o (λz=>hc (by simp [z])) e) (λb o _ _ hc e _=>⟨o.slots,k b o (λz=>hc (by simp [z])) e⟩) (λb _ hc _ n=>by rw[e9 (λz=>hc (by simp [z]))];show n)
  (λb o hc e=>⟨o,k b o (λz=>hc (by simp [z])) e⟩) (λb _ e=>by rw[e9 (O b _ e)];show e) (λb _ _ e=>by rw[e9 (O b _ e)];show e) (λb _ e=>by rw[e9 (O b _ e)];show e) (λm hm=>?_) (λb u e1=>?_) I.bare
 .have e:b=D:=by simpa using hb
  subst e;show ⟨.inr h1,hL,h2,h3⟩
 .obtain ⟨o,es,ep,ho,r⟩:=hm;show ⟨o,es,ep,k _ o (Ne.symm hL) ho,r⟩
 .by_cases q:b=D
  .subst q;rw[W5]at e1;cases e1;show ⟨hz,its,n,hv,e⟩
  .rw [e9 q]at e1
   refine (I.hok b u e1).stay (λc v hc T=>k c v ?_ T) (λc T=>by rw[e9 (O c _ T)];show T) λc _ T=>by rw[e9 (O c _ T)];show T
   rcases hc with z|z
   .rw[z];show q
   .show O c _ z
section
open PySem.W PyProof.Rows
def xX {K:Frag}{σ:L2.St}(b0:Y.xe=λ_ _=>False) (F:FnOk Y.prog Y.w Y.K Y.mg Y.base CX0 k f fd ps (spM K 1 .F (i4 1 N m))) (hr:Room k Y.A) (hb:Binds Y.K fd ps []) (a0:∀(x:Value) (s:Shared) (P:VX) (C:Shared->Prop),wpAny (model Y.prog Y.w) Y.A (call (.ref f) [x]) P (λ_ _=>False) s ->
   (∀u s',P u s'->∃its n,s'.heap.get? kS=some (seqObj "list" its n)/\its.size<64/\C { s' with heap:=s'.heap.update kS (Obj.mapSeq (·.push u)) })->wpAny (model Y.prog Y.w) Y.A (body x ⟨⟩) (λr s'=>r=.yield ⟨⟩/\C s') E s):
  ∀ (r:VZ) (yr:List V) (wr:Zk) (kr:List Zq) (kvs:List V) (kd:List Zq) (s:Shared) (H G:Hp),Inv Y pn σ H s->Vals yr r->Reps K G yr wr->K2 (i4 1 N m) wr=some kr ->
   H kS=some (.lst kvs)->Same G H->G kS=none->Reps K G kvs (kd.map kW)->kvs.length+r.length<64 ->
   wpAny (model Y.prog Y.w) Y.A (forIn r PUnit.unit body) (λ_ s'=>∃H' G' T,Inv Y pn σ H' s'/\H' kS=some (.lst T)/\Same G G'/\Same G' H'/\G' kS=none/\Reps K G' T ((kd++kr).map kW)) E s
 := by
 intro r
 induction r with
 | nil=>
  intro yr wr kr kvs kd s H G I rv a3 hk hS sG gk rk hl;cases rv;cases a3;rw[qN7];cases hk;rw[qH3];show qO6 ⟨H,G,kvs,I,hS,Same.refl G,sG,gk,rk⟩
 | cons x r ih=>
  intro yr wr kr kvs kd s H G I rv a3 hk hS sG gk rk hl;obtain ⟨y,yr,rfl,rx,rr⟩:∃y a7,yr=y::a7/\RelV y x/\Vals a7 r:=by
   cases rv with
   |cons a b=>show ⟨_,_,rfl,a,b⟩
  obtain ⟨w,wr,rfl,ry,c0⟩:∃w a5,wr=w::a5/\Rep K G y w/\Reps K G yr a5:=by
   cases a3 with
   |cons a b=>show ⟨_,_,rfl,a,b⟩
  obtain ⟨a4,bw,rfl,hf,c2,bb⟩:=cU hk;rw[qC5]at hl;rw[qL2];have call:=tV (X:=Y) (us:=[x]) (vs:=[y]) (E:=λ_ _ _=>False) (Q:=λv H2=>∃G2,Same H H2/\Same G2 H2/\G2 kS=none/\Rep K G2 v (kW a4)) F hr hb .nil qP I (.cons rx .nil) ⟨rfl,[w],.cons (ry.same sG) .nil,by
   rw[hf];show λv G2 H2 s1 s2 cl md=>⟨G2,s1,s2,cl kS _ hS rfl,md⟩⟩
  rw[b0]at call;refine qA1 (qP8 (a0 x s _ (λa6=>∃H3 G3 O,Inv Y pn σ H3 a6/\H3 kS=some (.lst O)/\O.length=kvs.length+1/\Same G G3/\Same G3 H3/\G3 kS=none/\Reps K G3 O ((kd ++ [a4]).map kW)) call λu s' hp=>?_) (λq s' hq=>?_) λ_ _ x=>x)
  .obtain ⟨v,H2,I2,rv,G2,sH,s2,g2,r2⟩:=hp;have a9:=sH _ _ hS;obtain ⟨z,its,n,rI,hlen,e⟩:=I2.lstM a9;refine ⟨its.toArray,n,e,by rw[qB8];omega,?_⟩;have sB:Same G (both G G2):=λb o q=>by unfold both;rw[q]
   have b3:Same G2 (both G G2):=λb o q=>by
    unfold both;cases q1:G b with
    |none=>show q
    | some u=>
     have a1:=sH b u (sG b u q1);rw[s2 b o q]at a1;show a1.symm
   have ab:Same (both G G2) H2:=λb o q=>by
    unfold both at q;cases q1:G b with
    |none=>rw[q1]at q;show s2 b o q
    |some u=>rw[q1]at q;cases q;show sH b _ (sG b _ q1)
   have bk:both G G2 kS=none:=by unfold both;rw[gk];show g2
   refine ⟨upd H2 kS (.lst (kvs ++ [v])),both G G2,kvs ++ [v],I2.lset (t':=s'.toks) (its':=its ++ [u]) a9 e ZV (rI.append (.cons rv .nil)) (by rw[qD1,qF5,qP9];omega),W5,by rw[qD1,qF5],sB,λb o q=>?_,bk,?_⟩
   .rw[e9 (f9 q bk)];show ab b o q
   .rw [qD0]
    show (rk.same sB).append (.cons (r2.same b3) .nil)
  .obtain ⟨rfl,H3,G3,O,I3,b4,c3,s3,c1,g3,r3⟩:=hq
   change wpAny (model Y.prog Y.w) Y.A (forIn r PUnit.unit body) _ E s';refine qP8 (ih yr wr bw O (kd ++ [a4]) s' H3 G3 I3 rr (c0.same s3) bb b4 c1 g3 r3 ox) (λ_ a6 hq=>?_) λ_ _ x=>x;obtain ⟨H4,G4,a8,I4,b5,s4,b6,g4,r4⟩:=hq;show ⟨H4,G4,a8,I4,b5,s3.trans s4,b6,g4,by rw[qJ8]at r4;show r4⟩
def FU {K:Frag}{σ:L2.St}(hK:Y.K=K) (I:Inv Y pn σ H s) (sG:Same G H) (r:Rep K G v (kW k)) (ru:RelV v u):ot s.heap u k:=by
 subst hK;obtain ⟨a0,a6,rfl,h0,r0⟩:=r.inv
 .cases ru;obtain ⟨its,rv,⟨o,e,c,n,dd⟩,_⟩:=I.tuple (SqT.of (sG _ _ h0));refine ⟨_,o,its,n,rfl,e,c,dd,?_⟩;have go:∀{vs:List V}{its:VZ}{k:Zq},Vals vs its->Reps Y.K G vs (k.map λx=>W.tup (x.map W.int))->Paired (dh s.heap) its k:=by
   intro vs its k
   induction k generalizing vs its with
   |nil=>intro a b;have b:vs = []:=b.inv;subst b;cases a;show .nil
   | cons x k ih=>
    intro a b;obtain ⟨v1,a7,rfl,b1,b2⟩:=b.inv
    .cases a with
     | cons a1 a2=>
      refine .cons ?_ (ih a2 b2);obtain ⟨a3,a5,rfl,h1,r1⟩:=b1.inv
      .cases a1;have e1:=Reps.ints r1 (ints_map x);subst e1;obtain ⟨O,a4,⟨o2,e2,c2,n2,T⟩,_⟩:=I.tuple (SqT.of (sG _ _ h1));show ⟨_,o2,O,n2,rfl,e2,c2,T,a4⟩
  show go rv r0
def BT {K:Frag}{σ:L2.St}(hK:Y.K=K) (I:Inv Y pn σ H s) (sG:Same G H):∀{vs:List V}{its:VZ}{ks:List Zq},Vals vs its->Reps K G vs (ks.map kW)->(∀k∈ks,k ≠ [])->Paired (λv xs=>ot s.heap v xs/\xs ≠ []) its ks:=by
 intro vs its ks
 induction ks generalizing vs its with
 |nil=>intro a b _;cases b;cases a;show .nil
 | cons x k ih=>
  intro a b hn;cases b with
  | cons b1 b2=>
   cases a with
   |cons T O=>show .cons ⟨FU hK I sG b1 T,hn x qB3⟩ (ih O b2 λk hk=>hn k (qA8 _ hk))
end
section
open PySem.W PyProof.Rows
def ii:∀{as O:VZ}{bs I:List α},Paired F as bs->Paired F O I->Paired F (as++O) (bs++I)
 |_,_,_,_,.nil,h=>h
 |_,_,_,_,.cons a t,h=>.cons a (ii t h)
def wY {F:Value->α->Prop}(h:Paired F as bs):Paired F as.reverse bs.reverse:=by
 induction h with
 |nil=>show .nil
 | cons a _ I=>
  rw[qI4,qI4];show ii I (.cons a .nil)
def tm {K:Frag}{σ:L2.St}(hK:Y.K=K) (hu:Y.A.units+64<cLine) (I:Inv Y ((D,seqObj "list" #[] e1)::pins) σ H s) (b3:Y.s₀.heap.objs.size<=D) (c0:∀p∈Y.pn++pins,p.1≠D) (c6:D≠kS) (hS:H kS=some (.lst kvs)) (sG:Same G H) (gk:G kS=none) (rk:Reps K G kvs (ks.map kW)) (ab:∀k∈ks,k ≠ []) (rv:Vals ys vs) (hl:ks.length=vs.length) (b4:vs.length<64) (h:∀s' H',Inv Y pins σ H' s'->Same G H'->H' D=some (.lst (A3 ks V.non ys))->P (.done (.ret .none)) s'):∀its n,s.heap.get? kS=some (seqObj "list" its n)->wpAny (model Y.prog Y.w) Y.A (ksk_end D true vs.toArray e1 (.ref kS) its) P E s:=by
 intro its n hits;obtain ⟨z,kl,n',rI,hlen,e⟩:=I.lstM hS;rw[e]at hits;cases hits;have a6:kl.length=vs.length:=by rw[<- hlen,rk.length,qA5,hl]
 have cn:ys.length=vs.length:=rv.length;obtain ⟨pD,nD,c4,c7,_⟩:=I.pin (D,seqObj "list" #[] e1) (qC9 _ qB3);have pD:s.heap.get? D=some (seqObj "list" #[] e1):=pD;have nD:H D=none:=nD
 -- the tail
 have tail:∀st:SortSt,failedOf st=none->(arrOf st).map (·.2)=(((U9 ks.reverse).map λi=>vs.reverse.getD i Value.none)).toArray->wpAny (model Y.prog Y.w) Y.A (ksk_tail D true e1 (.ref kS) st) P E s:=λst hf a9=>by
  have a8:((U9 ks.reverse).map λi=>vs.reverse.getD i Value.none).toArray.reverse=(A3 ks Value.none vs).toArray:=by unfold A3;simp
  have I1:=I.lset (t':=s.toks) (f:=λ_=>#[]) (its':=[]) (ys:=[]) hS e rfl .nil (qE0 _);obtain ⟨p1,n1,_⟩:=I1.pin (D,seqObj "list" #[] e1) (qC9 _ qB3);have I2:=I1.pins_of (pins':=pins) λp hp=>I1.pin p (qC9 _ (qA8 _ hp));have c3:(A3 ks Value.none vs).toArray.size<=sizeLine:=by rw[qB8,mH,qP9];omega
  unfold ksk_tail;dsimp only;rw[a9,qA2 rfl,a8];refine qA1 (listUpdate_at e rfl ?_ (by rw[qB8,qP9];omega) (qE0 _));refine qA1 (qR1 ?_);refine qA1 (seqEpoch_at p1 rfl ?_);refine qA1 (listUpdate_at p1 rfl ?_ (qE0 _) (Nat.le_succ_of_le c3));rw[hf];simp only [bne_self_eq_false,qE1,qP1];refine qO6 (h _ (upd (upd H kS (.lst [])) D (.lst (A3 ks V.non ys))) (vd (s:={ s with heap:=s.heap.update kS (Obj.mapSeq λ_=>(#[]:VW)) }) (t':=s.toks) (its:=A3 ks Value.none vs) (n:=_) I2 (λb o hb q=>(qL4 _ _ (Ne.symm hb)).trans q) n1 c4 b3 (λx c hc=>?_) c0 (by rw[mH,qP9];omega) ?_ (get?_update_seq p1 λ_=>(A3 ks Value.none vs).toArray)) (λb o q=>?_) W5)
  .rintro rfl;obtain ⟨v,o,ho,hd⟩:=I1.cell x _ hc;have c5:_=some (seqObj "list" #[] e1):=p1;rw[c5]at ho;cases ho;cases hd
  .unfold A3;have bb:Vals ys.reverse vs.reverse:=rv.reverse;refine Vals.reverse (Y9 λi hi=>?_);have b5:i<ys.reverse.length:=by
    have:=(R4 ks.reverse).mem_iff.mp hi
    rw[qF8,qB7]at this;rw[qB7];omega
   obtain ⟨u,eu,q⟩:=Z0 (d:=V.non) bb b5;rw[show vs.reverse.getD i Value.none=u by rw[qA0,eu];rfl];show q
  .have b6:b≠D:=by rintro rfl;rw[sG b o q]at nD;cases nD
   have c1:b≠kS:=by rintro rfl;rw[gk]at q;cases q
   rw[e9 b6,e9 c1];show sG b o q
 have a0:((List.toArray kl).zip vs.toArray).reverse=(List.toArray kl.reverse).zip (List.toArray vs.reverse):=kat_pairs true a6;unfold ksk_end;dsimp only;rw[qA2 rfl,qA2 rfl,a0];refine qA1 (qS1 ?_);by_cases c2:vs.toArray.size<2
 .rw [qA2 c2,qA2 c2]
  refine qA1 (qO6 ?_);rw[StateT.run_pure];refine qA1 (qO6 ?_);dsimp only;refine tail _ rfl ?_;have cp:vs.length<2:=by simpa using c2
  have e3:(U9 ks.reverse).map (λi=>vs.reverse.getD i Value.none)=vs.reverse:=by
   unfold U9;rw[qA2 (by rw[qB7];omega),show ks.reverse.length=vs.reverse.length by rw[qB7,qB7,hl],jY]
  rw[e3]
  change Array.map (λx=>x.snd) ((List.toArray kl.reverse).zip (List.toArray vs.reverse))=vs.reverse.toArray;apply Array.toList_inj.mp;rw[Array.toList_map,Array.toList_zip];apply qK1
  .simp [a6]
  .intro i h1 h2;simp
 .rw [qA4 c2,qA4 c2]
  have h2:2<=vs.length:=by simpa using c2
  have tt:=BT hK I sG rI rk ab;obtain ⟨fs,kt,fl,fi⟩:=lE tt;have a7:=wY tt;refine qA1 (kat_kind (T:=.type "tuple") kt ox (λv hv=>?_) ZY ?_)
  .obtain ⟨x,a,o,its,m,rfl,ho,hc,_⟩:=fi v hv;rw[<- hc];show (Looks.ld ho).andThen .now
  have a5:kl.reverse.length=vs.reverse.length:=by rw[qB7,qB7,a6]
  have hw:(kas_sort vs.reverse.length).kasWp (kas_ask Y.prog Y.w Y.A (tuples' (Value.type "tuple" != Value.type "tuple")) kl.reverse) (λp s'=>s'=s/\p.toList=U9 ks.reverse) s:=by
   refine wp_run (n:=vs.reverse.length) (r:=P6 ks.reverse) (λi j C hi hj hC=>?_) (yY (by rw[qB7];omega)) ⟨rfl,?_⟩
   .rw [<- a5]at hi hj
    obtain ⟨x,hx,tx⟩:=Z0 (d:=Value.none) a7 hi;obtain ⟨y,hy,ty⟩:=Z0 (d:=Value.none) a7 hj;have cc:ks.reverse.length=kl.reverse.length:=by rw[qB7,qB7];omega
    rw[lY ox ox]at hC;have ex:ks.reverse.getD i []=x:=by rw[qA0,hx];rfl
    have ey:ks.reverse.getD j []=y:=by rw[qA0,hy];rfl
    rw[ex,ey]at hC;show BO hu tx.1 ty.1 hC
   .unfold U9;rw[qA4 (by rw[qB7];omega),show ks.reverse.length=vs.reverse.length by rw[qB7,qB7,hl]]
  refine qA1 (qP8 (kat_run (Q:=λO s'=>s'=s/\(arrOf O).map (·.2)=((U9 ks.reverse).map λi=>vs.reverse.getD i Value.none).toArray/\failedOf O=none) a5 (by rw[qB7];show h2) (by rw[qB7];show b4) (λp O s' a1 a2 a3 a4=>⟨a4.1,by rw[kat_snds a5 a2,a4.2],a3⟩) hw) ?_ λ_ _ e=>e);rintro ⟨⟨⟩,O⟩ s' ⟨rfl,b0,bw⟩;show tail O bw b0
def qB {K:Frag}{σ:L2.St}(a5:Y.xe=λ_ _=>False) (hK:Y.K=K) (F:FnOk Y.prog Y.w Y.K Y.mg Y.base CX0 k f fd ps (spM K 1 .F (i4 1 N m))) (hr:Room k Y.A) (hb:Binds Y.K fd ps []) (I:Inv Y ((D,seqObj "list" #[] e1)::pins) σ H s) (b0:Y.s₀.heap.objs.size<=D) (a7:∀p∈Y.pn++pins,p.1≠D) (a9:D≠kS) (hS:H kS=some (.lst [])) (sG:Same G H) (gk:G kS=none) (rv:Vals ys vs) (a0:Reps K G ys ws) (T:K2 (i4 1 N m) ws=some ks) (a4:vs.length<64) (h:∀s' H',Inv Y pins σ H' s'->Same G H'->H' D=some (.lst (A3 ks V.non ys))->P (.done (.ret .none)) s'):wpAny (model Y.prog Y.w) Y.A (ksk_rest D (.ref f) true vs.toArray e1 (.ref kS)) P E s:=by
 have hl:ks.length=vs.length:=by rw[eH T,<- a0.length,rv.length]
 unfold ksk_rest;refine qA1 (qS1 ?_)
 first
  |rw[List.forIn_toArray]
  | (rw[<- Array.forIn_toList];simp only [List.toList_toArray])
  |rw[<- Array.forIn_toList]
 refine qA1 (qP8 (xX (kS:=kS) (E:=E) a5 F hr hb (λx s' Pc C hc hP=>?_) vs ys ws ks [] [] s H G I rv a0 T hS sG gk .nil (by simpa using a4)) (λ_ s' hd=>?_) λ_ _ x=>x)
 .refine qA1 (wpAny_attempt (qP8 hc (λu O hk=>?_) λ_ _ hF=>hF.elim));obtain ⟨its,n,ab,hz,hC⟩:=hP u O hk;dsimp only;refine qA1 (listUpdate_at ab rfl ?_ (by rw[qP9];omega) (qC1 (Nat.le_of_eq (Array.size_push ..)) (by rw[qP9];omega)));show qO6 ⟨rfl,hC⟩
 .obtain ⟨H',G',b3,I',a3,s1,s2,g',r'⟩:=hd;obtain ⟨z,kl,n',rI,hlen,e⟩:=I'.lstM a3;refine qA1 (listItems_at e rfl ?_);show tm hK (by have:=hr.units;omega) I' b0 a7 a9 a3 s2 g' (by simpa using r') (nz T) rv hl a4 (λO a8 a6 q1 q2=>h O a8 a6 (s1.trans q1) q2) _ _ e
end
section
open PySem.W PyProof.Rows
def rV {K:Frag}(F:FnOk X.prog X.w X.K X.mg X.base CX0 k f fd ps (spM K 1 .F (i4 1 N m))) (hr:Room (k+2) X.A) (hb:Binds X.K fd ps []) (hK:X.K=K){σ:L2.St}(I:Inv X pins σ H s) (hq:SqL K H p ys) (a4:Reps K H ys ws) (ab:K2 (i4 1 N m) ws=some ks) (c0:ws.length<64) (h:∀l H',H l=none->Same H H'->H' l=some (.lst (A3 ks V.non ys))->Q (.ref l) H'):
  wpAny (model X.prog X.w) X.A (call (.builtin "sorted") [.ref p] [(Str.ofString "key",.ref f),(Str.ofString "reverse",.bool true)]) (EP X pins σ Q) X.xe s:=by
 subst hK;obtain ⟨vs,rv,pl,hz⟩:=I.list hq;have hlen:ys.length=vs.length:=rv.length;have bb:ys.length=ws.length:=a4.length;refine call_function_entry_kw kind_sorted plain_sorted entry_sorted (ksk_s2 _ _ _) ?_;unfold Builtin.«sorted»;refine qA1 (m:=checkCount "sorted" 1 1 _) (qO6 ?_);refine qA1 (collect_list pl.isList ?_ (by rw[qP9];omega));refine qA1 (wpAny_newList ?_ (by rw[qP9];omega));generalize hg:(s.heap.push (seqObj "list" #[] 0)).update s.heap.objs.size (Obj.mapSeq (·++vs.toArray))=g
 have gz:g.objs.size=s.heap.objs.size+1:=by rw[<- hg,Heap.size_update,size_push']
 have gk:∀b o,s.heap.get? b=some o->g.get? b=some o:=λb o e=>by
  have b4:=qB2 e;rw[<- hg,Heap.get?_update_ne _ _ _ _ (qC8 b4)];show qA7 _ e
 have go:(g.push (seqObj "list" vs.toArray 0)).get? (s.heap.objs.size+1)=some (seqObj "list" vs.toArray 0):=by rw[<- gz];show qC0 _ rfl
 change wpAny _ _ _ _ _ { s with heap:=g.push (seqObj "list" vs.toArray 0) };rw[gz];refine qA1 (qP4 (wpAny_call_entry_kw slot_list_sort ⟨_,go,rfl⟩ entry_list_sort ?body (ksk_l2 _ _ _)))
 case body=>
  generalize bw:s.heap.objs.size+1=D at *
  change wpAny (model X.prog X.w) X.A.in1.in1 (Builtin.«list.sort» ⟨[.ref D],[(Str.ofString "key",.ref f),(Str.ofString "reverse",.bool true)]⟩) _ _ _;rw[ksk_t2];generalize a5:g.push (seqObj "list" vs.toArray 0)=g2 at *
  have b5:g2.objs.size=D+1:=by rw[<- a5,size_push',gz]
  have a7:∀b o,s.heap.get? b=some o->g2.get? b=some o:=λb o e=>by rw[<- a5];show qA7 _ (gk b o e)
  obtain ⟨e1,a6⟩:∃e1,(g2.update D (Obj.mapSeq λ_=>(#[]:VW))).get? D=some (seqObj "list" #[] e1):=⟨_,get?_update_seq go λ_=>#[]⟩;unfold ksk_tree;refine qA1 (listItems_at go rfl ?_);refine qA1 (listUpdate_at go rfl ?_ (by rw[qB8,qP9];omega) (qE0 _));refine qA1 (seqEpoch_at a6 rfl ?_);refine qA1 (qV2 ?_ (by change vs.length<=_;rw[qP9];omega));refine qA1 (wpAny_newList ?_ (qE0 _));refine qP4 ?_;have O:s.heap.objs.size<=D:=ox;have a3:H D=none:=I.hok.fresh O;generalize T:(g2.update D (Obj.mapSeq λ_=>(#[]:VW))).push (seqObj "tuple" vs.toArray 0)=g3
  have b3:g3.objs.size=D+2:=by rw[<- T,size_push',Heap.size_update,b5]
  have a8:∀b o,s.heap.get? b=some o->g3.get? b=some o:=λb o e=>by
   rw[<- T];show qA7 _ (by rw[Heap.get?_update_ne _ _ _ _ (qC8 (qB6 (qB2 e) O))];show a7 b o e)
  have b6:g3.get? D=some (seqObj "list" #[] e1):=by rw[<- T];show qA7 _ a6
  have I3:=I.kept (t':=s.toks) a8;have a9:D≠X.env.locals:=qJ4 (qB6 I.lt O);have I4:=I3.pins_of (pins':=(D,seqObj "list" #[] e1)::pins) λq hq=>by
   rcases qB5.mp hq with rfl|hq
   .show ⟨b6,a3,a9,I.nofs O,λv z=>by cases z⟩
   .show I3.pin q (qC9 _ hq)
  have a0:H g3.objs.size=none:=I.hok.fresh ox;have I5:=I4.lnew (t':=s.toks) (its:=[]) (ys:=[]) .nil (qE0 _);refine qB (Y:=inK X) (K:=X.K) (G:=H) (ys:=ys) (ws:=ws) (ks:=ks) (kS:=g3.objs.size) rfl rfl F (hr.in1.in1) hb (GC I5) ?_ ?_ ?_ W5 (λb o q=>?_) a0 rv a4 ab ox λs' H' I' sH b0=>?_
  .show qC1 I.sz O
  .intro q hq;show qC8 (qB6 (qB2 (I.pin q hq).1) O)
  .rw[b3];show qC8 (Nat.lt_add_of_pos_right ZY)
  .rw[e9 (f9 q a0)];show q
  .show ⟨_,rfl,qO6 ⟨_,rfl,.ref D,H',BX I',rfl,h D H' a3 sH b0⟩⟩
end
def eP (c:Bool) (f:List W->R W):List W->R W
 | [w]=>(match lstOf w with
  | some ws=>(match K2 f ws with
   |some ks=>if ws.length<64 then chks c (A3 ks W.non ws) else .stuck
   |none=>.stuck)
  |none=>.stuck)
 |_=>.stuck
def tZ (r:Reps K F ys ws) (O:ks.length=ws.length):Reps K F (A3 ks V.non ys) (A3 ks W.non ws):=by
 unfold A3;refine Reps.reverse (lW λi hi=>?_);have I:i<ys.reverse.length:=by
  have:=(R4 ks.reverse).mem_iff.mp hi
  have:=r.length
  rw[qF8,qB7]at *;omega
 obtain ⟨w,e,q⟩:=oY (i:=i) r.reverse I;rw[show ws.reverse.getD i W.non=w by rw[qA0,e];rfl];show q
def ud (K:Frag)(f:List W->R W):List V->Hp->VK->Prop:=λxs H Q=>∃p ys ws ks,xs = [.ref p]/\SqL K H p ys/\Reps K H ys ws/\K2 f ws=some ks/\ws.length<64/\∀l H',H l=none->Same H H'->H' l=some (.lst (A3 ks V.non ys))->Q (.ref l) H'
def CS:Cal K (cb c) .F (ud K f) (eP c f):=by
 intro EX H0 Hs G H ρ σ Ha vs ws Q I s m o;cases m with
 |nil=>show o.elim
 | cons a t=>
  cases t with
  |cons _ _=>show o.elim
  | nil=>
   rename_i w v
   unfold eP at o;cases hl:lstOf w with
   |none=>simp only [hl]at o;show o.elim
   | some us=>
    simp only [hl]at o;cases O:K2 f us with
    |none=>simp only [O]at o;show o.elim
    | some ks=>
     simp only [O]at o;by_cases hc:us.length<64
     .rw [qA2 hc]at o
      obtain ⟨p,ys,rfl,hs,r⟩:=Md.lstOf I a hl;have sm:Same (if c then G else join H0 G) H:=by
       cases c with
       |true=>rw[qA2 rfl];show I.gh
       |false=>rw[qA4 qB0];show I.join_H
      refine ⟨p,ys,us,ks,rfl,hs,r.same sm,O,hc,λl H' hn sH a0=>?_⟩;unfold TP.chks at o;by_cases n:(c||n5 (A3 ks W.non us))=true
      .rw [qA2 n]at o
       have T:=tZ r (eH O);have r':Reps K G (A3 ks V.non ys) (A3 ks W.non us):=by
        cases c with
        |true=>rw[qA2 rfl]at T;show T
        |false=>rw[qA4 qB0]at T;show Reps.clean I T (by simpa using n)
       show o _ G H' ⟨Same.refl G,sH,I.gh.trans sH,λ_ _ _ _ e=>e⟩ ⟨l,_,rfl,a0,I.gh.free hn,s.free hn,r'⟩
      .rw[qA4 n]at o;show o.elim
     .rw[qA4 hc]at o;show o.elim
def IP (T:Gl X x) (hm:X.mg x=some (.ref f)) (O:(x == ("__debug__" : Str))=false:=by decide):PK X [⟨n1,.Name x p,kp1⟩,⟨n2,.Constant (.bool true) kt p2,kp2⟩] (cB (tC (.ref f)) (cB (tC (.bl true)) tNil)):=
 pf (λpins s σ H Q I h=>pL I T hm ⟨.ref f,H,I,rfl,h⟩ O) (pf pe_bl Fn)
def AM {X:Cx}{K:Frag}{EX:EXT}{e:Expr}{pos:Pos}{mr:Zp}{k:Nat}{f:Addr}{fd:FuncData}{ps:VJ}{x y:Str}{p p1 p2 T O:Pos}{kt:Nat}{N:Nat}{m:Zy}{c:Bool}(F:FnOk X.prog X.w X.K X.mg X.base CX0 k f fd ps (spM K 1 .F (i4 1 N m))) (hr:Room (k+2) X.A) (hg:Gl X x) (hm:X.mg x=some (.ref f)) (hb:Binds X.K fd ps []) (b4:Gl X y) (b5:X.mg y=none) (ab:bootBuiltins y=some (.builtin "sorted")) (ha:PA X [e] (tA K EX (cb c) mr)) (hK:X.K=K:=by rfl) (b6:(x == ("__debug__" : Str))=false:=by decide) (hn:y ≠ "__name__" := by decide) (a4:(y == ("__debug__" : Str))=false:=by decide) (he:backTo pos (starEach [e] X.env)=(false,eval e X.env)::backTo pos (starEach [] X.env):=by rfl) (a0:(backTo pos (starEach [e] X.env)).any (·.1)=false:=by rfl) (a6:(backToKw pos (keywordEach [⟨some "key",.Name x p1,T⟩,⟨some "reverse",.Constant (.bool true) kt p2,O⟩] X.env)).all (·.1.isSome)=true:=by rfl) (bb:(backToKw pos (keywordEach [⟨some "key",.Name x p1,T⟩,⟨some "reverse",.Constant (.bool true) kt p2,O⟩] X.env)).any (·.1.isNone)=false:=by rfl) (b3:(backToKw pos (keywordEach [⟨some "key",.Name x p1,T⟩,⟨some "reverse",.Constant (.bool true) kt p2,O⟩] X.env)).filterMap (·.1) = [Str.ofString "key",Str.ofString "reverse"]:=by rfl):
  PE X (.Call (.Name y p) [e] [⟨some "key",.Name x p1,T⟩,⟨some "reverse",.Constant (.bool true) kt p2,O⟩] pos) (tM K EX .F (bA (eP c (i4 1 N m)) mr)):=by
 intro pins s σ H Q I h;have h:=yV (CS (c:=c) (f:=i4 1 N m)) h;refine qP3 (M5 I b4 b5 ab ?_ hn a4);refine qY1 (thn (ha pos pins s σ H _ I h) λus s1 a3=>?_) he a0 a6 bb;obtain ⟨vs,H1,I1,r1,q1⟩:=a3;refine thn (IP hg hm b6 pos pins s1 σ H1 (λzs H2=>zs = [.ref f,.bl true]/\ud K (i4 1 N m) vs H2 Q) I1 ⟨rfl,q1⟩) λus2 s2 a7=>?_;obtain ⟨zs,H2,I2,rz,hz,q2⟩:=a7;subst hz;obtain ⟨p0,ys,ws,ks,rfl,hq,a9,a5,b0,hQ⟩:=q2;obtain ⟨u,rfl,ru⟩:=L5 r1;cases ru;rw[b3];cases rz with
 | cons r2 rz=>
  cases r2;obtain ⟨u2,rfl,a8⟩:=L5 rz;cases a8;show rV F hr hb hK I2 hq a9 a5 b0 hQ
section
open PySem.W PyProof.Rows
end
end TP
namespace TP
open PySem PyProof.Rows
def kk (rk:Keyed->Int) (xs:Array Keyed) (i:Nat):Int:=match xs[i]? with
 |some p=>rk p
 |none=>0
def sb1 (h0:0<n) (h:n<=A):A-(n-1)=A-n+1:=by
 cases n with
 |zero=>show absurd h0 (qE2 _)
 |succ m=>show (qS4 (qW2 h)).symm
def sb2 {A:Nat}(h:n<=A)(hk:k<=n):A-k=A-n+(n-k):=(Nat.sub_add_sub_cancel h hk).symm
def sb3 {lo:Nat}(I:q<=x)(h:lo+x-q<=k):x-q<=k-lo:=by rw[qW3 I]at h;show Nat.le_sub_of_add_le' h
def sb4 {lo:Nat}(I:q<=x)(h:lo+x-q<=k):lo+(k-lo)=k:=qM8 (qC1 (by rw[qW3 I];show qM4 _ _) h)
def sb5 {lo:Nat}(h:0<j):lo+(j-1)=lo+j-1:=(qW3 h lo).symm
def upL (rk:Keyed->Int)(l:List Keyed):Prop:=l.Pairwise λx y=>rk x<=rk y
structure Mg (rk:Keyed->Int) (t:List Keyed) (out ra rb:List Keyed):Prop where
 perm:(out++(ra++rb)).Perm t
 up:upL rk out
 le:∀x∈out,∀y∈ra++rb,rk x<=rk y
def Gd (rk:Keyed->Int)(t I:List Keyed):Prop:=I.Perm t/\upL rk I
abbrev gS (st:SortSt)(g:Nat):SortSt:=SortSt.mk' (kindOf st) (arrOf st) (pendingOf st) g (failedOf st)
abbrev rn (rk:Keyed->Int)(x:Keyed):Int:=-rk x
abbrev rv (a:Array Keyed):List Keyed:=a.toList.reverse
def oU:(rv a).drop (a.size-k)=(a.toList.take k).reverse:=by
 rw[List.reverse_take];simp
def Gd.rv (h:Gd (rn rk) (rv a++rv b) res.reverse):Gd rk (a.toList++b.toList) res:=by
 refine ⟨?_,?_⟩
 .refine (qL8 res).symm.trans (h.1.trans ?_);show List.Perm.append (qL8 _) (qL8 _)
 .have:=h.2
  unfold upL at this ⊢;rw[qT6]at this;show this.imp λq=>by
   have q:-_ <= -_:=q;omega
def rA {out:Array Keyed}{nb:Nat}(h:Gd (rn rk) (rv a++rv b) (out.toList++(rv b).drop (b.size-nb)++(rv a).drop (a.size-na))):Gd rk (a.toList++b.toList) (a.extract 0 na++b.extract 0 nb++out.reverse).toList:=by
 refine Gd.rv ?_;rw[oU,oU]at h;have e:(a.extract 0 na++b.extract 0 nb++out.reverse).toList.reverse=out.toList++(b.toList.take nb).reverse++(a.toList.take na).reverse:=by
  simp [List.extract_eq_take_drop]
 rw[e];show h
section
variable {prog:Program}{w:World}{A:Around}{E:VX}{s:Shared}{a₀:Array Keyed}{κ:SortKind}{rk:Keyed->Int}{arr:Array Keyed}{pd:Array (Nat×Nat×Nat)}{g lo:Nat}
structure Rl (lo:Nat) (arr arr':Array Keyed):Prop where
 perm:arr'.toList.Perm arr.toList
 same:∀k,k<lo->arr'[k]?=arr[k]?
end
end TP
namespace TP
open PySem L2
section
open PySem.W PyProof.Rows
open Classical in
def rkV (vs:VZ)(ss:Zq)(p:Keyed):Int:=if h:∃i,i<vs.length/\vs.getD i Value.none=p.1 then II ss h.choose else 0
end
def JX (H:Hp):Prop:=∀a vs,H a≠some (.lst vs)
def OutN (K:Frag) (d:Mode) (I:Hp) (r:R Fl) (D:Ends):Prop:=match r with
 | .ok (.nx ρ)=>∀H0 G' O H',Same I H0->PIv K H0 G' ρ O H'->D.nx O H'
 | .ok (.rt w)=>∀v G' H',Same G' H'->Same I H'->(∀a o,I a=some o->isL o=true->G' a=none)->Md K I I G' H' v w d->D.rt v H'
 |_=>False
def tStN (K:Frag)(EX:EXT)(d:Mode)(m:Zy):TS:=λD σ H=>∃I H0 G ρ,JX I/\Same I H0/\PIv K H0 G ρ σ H/\OutN K d I (m ρ) D
end TP
namespace TP
open PySem L2
open PyProof.Rows (envOfC)
def XE1 (K:Frag)(E:XK):EXT:=λe H=>∀(C:Addr)(od:Option Addr),PySem.W.nsIn K mainGlobals e.cls=some (some (.ref C))->XD H od e.at_->E (.ref C) od H
def spR (K:Frag) (n:Nat) (d:Mode) (f:List W->R W):Sp:=λvs H Q E=>vs.length=n/\∃ws,Reps K H vs ws/\match f ws with
 | .ok w=>∀v G' H',Same H H'->Same G' H'->(∀a o,H a=some o->isL o=true->G' a=none)->Md K H H G' H' v w d->Q v H'
 | .ex e=>∀H',Same H H'->XE1 K E e H'
 | .stuck=>False
def calm (f:List W->R W):List W->R W:=λws=>match f ws with
 | .ok w=>.ok w
 |_=>.stuck
def flUn (j:Nat):Fl->R Fl
 | .nx ρ=>.ok (.nx (ρ.set j .un))
 | .bk ρ=>.ok (.bk (ρ.set j .un))
 | .ct ρ=>.ok (.ct (ρ.set j .un))
 | .rt w=>.ok (.rt w)
def mExc (c:Str)(j:Nat)(mb:Zy)(e:XW)(ρ:Rho):R Fl:=if e.cls=c then mb (ρ.set j (.val (.exc e.cls e.at_)))>>=flUn j else .stuck
end TP
namespace TP
open PySem L2
def big8:Int:=2^2000
def O1 (_ j:Int):Prop:=0<j/\j<big8
instance (i j:Int):Decidable (O1 i j):=by unfold O1;infer_instance
def gy:OpR X (binaryOp .FloorDiv) (rI O1 λi j=>.int (i/j)):=opI λi j _ _ _ _ _ hc q=>by
 have h1:(0:Int)<j:=hc.1;have O:j<big8:=hc.2;refine PyProof.Rows.floordiv_int ox (by rw[qV9 i ox];show q) (.inl (PyProof.noPylong_of_log2 ?_));have T:j.natAbs<2^9000:=by
  have:j.natAbs<2^2000:=by
   have I:(j.natAbs:Int)<2^2000:=by
    rw[Int.natAbs_of_nonneg ox];show O
   exact_mod_cast I
  show qB6 this (Nat.pow_le_pow_right ZY ZY)
 by_cases h0:j.natAbs=0
 .omega
 .show (Nat.log2_lt h0).mpr T
def CC (h0:0<j) (h:j<=1000000000000000000000):fI O1 K3 (.int i) (.int j)=.ok (.int (i/j)):=by
 change (if O1 i j then _ else _)=_;rw[qA2 ⟨h0,Int.lt_of_le_of_lt h (by unfold big8;decide)⟩]
def zY (_ j:Int):Prop:=j≠0/\j.natAbs<2^8999
instance (i j:Int):Decidable (zY i j):=by unfold zY;infer_instance
def zQ (_ j:Int):Prop:=j≠0
instance (i j:Int):Decidable (zQ i j):=by unfold zQ;infer_instance
end TP
namespace HT
open PySem PySem.Spec PyProof.Rows PySem.W
end HT
namespace TP
open PySem L2
section
open PySem.W PyProof.Rows
end
def gE (c:Str->NameKind->Bool) (hc:∀n k,c n k=true->k=.free) (y:Str):∀ns:List (Str×NameKind),ns.lookup y=some .cell\/ns.lookup y=some .free->(ns.map λ(n,k)=>if c n k then (n,NameKind.cell) else (n,k)).lookup y=some .cell\/(ns.map λ(n,k)=>if c n k then (n,NameKind.cell) else (n,k)).lookup y=some .free
 | [],h=>h
 | (n,k)::ns,h=>by
  rw[qC2];dsimp only;rw[qF6]at h;by_cases q:c n k=true
  .rw [qA2 q,qF6]
   cases e:y == n with
   |true=>show .inl rfl
   | false=>
    rw[e]at h;show gE c hc y ns h
  .rw [qA4 q,qF6]
   cases e:y == n with
   |true=>rw[e]at h;show h
   | false=>
    rw[e]at h;show gE c hc y ns h
end TP
namespace L2
open PySem PySem.Spec PyProof.Rows
structure G0 (sc cs:Scope) (N N':VJ) (y:Str):Prop where
 kind:cs.kind=.function
 lay:(∀n cl,cellsFrom n cs.names cl=(y,n)::cl)/\∀h:Heap,pushCells h cs.names=h.push { cls:=.type "cell",data:=.cell none }
 cellY:∀x∈cs.names,x.2=.cell->x.1=y
 isY:cs.names.lookup y=some .cell
 loc:∀x∈cs.names,x.2=.local->cs.names.lookup x.1=some .local
 free:∀x∈cs.names,x.2=.free->sc.names.lookup x.1=some .cell\/sc.names.lookup x.1=some .free
 nd:N'.Nodup
 len:N.length<=N'.length
 same:∀i∈List.range N.length,N'[i]?=N[i]?\/∀x∈N'[i]?,cs.names.lookup x=none
 out:∀x∈N'.take N.length,cs.names.lookup x≠some .local/\cs.names.lookup x≠some .cell
abbrev n8 (X:Cx) (cs:Scope) (y:Str) (cl:List (Str×Addr)) (N':VJ) (ex:List Addr) (s:Shared) (H:Hp):Cx:=
 { X with N:=N',s₀:=s,H₀:=H,env:=compEnvC cs ((y,s.heap.objs.size+1)::cl) s.heap.objs.size X.env,outer:=X.stack,stack:=X.stack,ex:=ex,fn:=λx=>x == y,pn:=[],xe:=λ_ _=>False }
def cS {cl:List (Str×Addr)}(h:((y,c)::cl).lookup x=some d):(x=y/\d=c)\/(x≠y/\cl.lookup x=some d):=by
 rw[qF6]at h
 split at h
 .rename_i hb
  cases h;show .inl ⟨by simpa using hb,rfl⟩
 .rename_i hb
  show .inr ⟨by simpa using hb,h⟩
def vA {σ:St}{fp:List Addr}(S:G0 X.env.scope cs X.N N' y) (I:Inv X pins σ H s3) (O:∀x c,cl.lookup x=some c->X.env.cells.lookup x=some c) (a5:∀x,(x,NameKind.free)∈cs.names->∃c,cl.lookup x=some c) (hf:∀b∈fp,A9 X pins H b) (b4:∀b∈fp,b<s3.heap.objs.size) (kp:∀b o,s3.heap.get? b=some o->s4.heap.get? b=some o) (hn:s4.heap.Ns s3.heap.objs.size m) (bw:s4.heap.IsCell (s3.heap.objs.size+1) none) (c3:s4.os=s3.os) (hg:s4.gens=s3.gens):Inv (n8 X cs y cl N' fp s3 H) [] (inner N' σ) H s4:=by
 have a4:∀{c:Addr}{v:VY},s3.heap.IsCell c v->s4.heap.IsCell c v:=λ{c v} z=>by obtain ⟨o,e,d⟩:=z;show ⟨o,kp c o e,d⟩
 have b5:∀x c,cl.lookup x=some c->c<s3.heap.objs.size:=λx c e=>by
  obtain ⟨v,z⟩:=I.cell x c (O x c e);show z.lt
 have a9:∃c,((y,s3.heap.objs.size+1)::cl).lookup y=some c:=⟨s3.heap.objs.size+1,by rw[qF6];simp⟩;refine ⟨⟨I.ok.mod,S.kind,I.ok.glob,I.ok.blt,qB4 _,λx z c h1 h2=>?_,λx hx=>?_,λx c h e=>?_,I.ok.hd,I.ok.frames,.inl rfl,λb hb=>⟨?_,λx c e=>?_⟩,I.bs,qC1 I.ok.bsz I.sz,λb o e hb=>?_,λb hb c1=>?_,I.stack,I.stkFree,I.tab⟩,
  c3,by rw[hg];show I.bare,Un.kept kp,⟨m,hn,λi x v e1 e2 e3=>?_⟩,λx c e=>?_,I.hok.fresh (qB4 _),λx c e=>?_,λp hp=>absurd (show p∈([]:Vz) from hp) ZV,I.hok.kept kp,?_⟩
 .rcases cS h1 with ⟨a1,a2⟩|⟨a1,a2⟩ <;> rcases cS h2 with ⟨b1,b2⟩|⟨b1,b2⟩
  .rw[a1,b1]
  .have:=b5 _ _ b2;rw[a2]at this;show absurd this (qX0.mpr (qN8 _))
  .have:=b5 _ _ a2;rw[b2]at this;show absurd this (qX0.mpr (qN8 _))
  .show I.ok.inj x z c (O x c a2) (O z c b2)
 .have a3:(relabel cs X.env).names.lookup x=some .cell\/(relabel cs X.env).names.lookup x=some .free:=hx;rw[y4]at a3
  change ∃c,((y,s3.heap.objs.size+1)::cl).lookup x=some c;by_cases a0:x=y
  .rw[a0];show a9
  .have hb:(x == y)=false:=by simpa using a0
   rw[qF6,hb];cases hl:cs.names.lookup x with
   |none=>rw[hl]at a3;rcases a3 with h|h <;> cases h
   | some k=>
    have hm:=qG7 hl;by_cases hk:k=.free
    .subst hk;show a5 x hm
    .exfalso;have hb:(k == NameKind.free)=false:=by simpa using hk
     rw[hl]at a3;simp only [qU3,hb,qL9,qE1,qP1]at a3;rcases a3 with h|h
     .cases h;show a0 (S.cellY _ hm rfl)
     .cases h;show hk rfl
 .have a0:x=y:=by simpa using h
  rcases cS e with ⟨_,a2⟩|⟨a1,_⟩
  .rw[a2];show qN8 _
  .show absurd a0 a1
 .intro q;have c2:b=s3.heap.objs.size:=q;show absurd (b4 b hb) (by rw[c2];show qE2 _)
 .rcases cS e with ⟨_,a2⟩|⟨_,a2⟩
  .intro z;rw[a2]at z
   have:=b4 b hb
   rw[<- z]at this;show absurd this (qX0.mpr (qN8 _))
  .show (hf b hb).2.2.2.2.1 x c (O x c a2)
 .obtain ⟨f0,f1,f2,f3,f4,f5⟩:=hf b hb;rcases f3 with z|z
  .show I.ok.noex b o e z
  .show absurd (qB6 (qB2 (I.ok.bs b o e).1) z) (qE2 _)
 .have b0:b∈frs X.stack:=c1;rcases qB5.mp (I.stkSub b b0) with z|z
  .show (hf b hb).2.1 z
  .show (hf b hb).2.2.1 z
 .have b3:=aY e2;have hi:i<X.N.length:=by rw[<- I.len];show (qA9.mp b3).1
  have a7:N'[i]?=some x:=e1;have T:Vis (relabel cs X.env) x:=e3;have hv:∃k,cs.names.lookup x=some k:=by
   unfold Vis at T;rw[y4]at T;cases hl:cs.names.lookup x with
   |none=>rw[hl]at T;rcases T with h|h|h <;> cases h
   |some k=>show ⟨k,rfl⟩
  obtain ⟨k,hk⟩:=hv;have hN:X.N[i]?=some x:=by
   rcases S.same i (qF8.mpr hi) with q|q
   .rw[<- q];show a7
   .have:=q x (by rw[a7];rfl)
    rw[hk]at this;cases this
  have ho:=S.out x (qD4 (i:=i) (by rw[qR6 hi];show a7));have bb:k≠.local:=λq=>by subst q;show ho.1 hk
  have b6:k≠.cell:=λq=>by subst q;show ho.2 hk
  have hm:=qG7 hk;have a8:k=.free:=by
   unfold Vis at T;rw[y4,hk]at T;by_cases a6:k=.free
   .show a6
   .exfalso;have hb:(k == NameKind.free)=false:=by simpa using a6
    simp only [qU3,hb,qL9,qE1,qP1]at T;rcases T with h|h|h
    .show bb (Option.some.inj h)
    .show b6 (Option.some.inj h)
    .show a6 (Option.some.inj h)
  subst a8;obtain ⟨m0,c4,hl0⟩:=I.loc;have ab:Vis X.env.scope x:=by
   rcases S.free _ hm rfl with h|h
   .show .inr (.inl h)
   .show .inr (.inr h)
  obtain ⟨u,r,l⟩:=hl0 i x v hN b3 ab;refine ⟨u,r,.inr ⟨?_,?_⟩⟩
  .change (relabel cs X.env).names.lookup x=some .cell\/(relabel cs X.env).names.lookup x=some .free;rw[y4,hk]
   change some (if _ then _ else _)=_\/some (if _ then _ else _)=_
   split
   .show .inl rfl
   .show .inr rfl
  .obtain ⟨c,hc⟩:=a5 x hm;have c0:=O x c hc;have a0:x≠y:=by
    rintro rfl;rw[S.isY]at hk;cases hk
   rcases l with ⟨q,_⟩|⟨_,c',e,z⟩
   .exfalso;have q':X.env.scope.names.lookup x=some .local:=q;rcases S.free _ hm rfl with h|h <;> (rw[q']at h;cases h)
   .rw [c0]at e;cases e
    show ⟨c,by
     have hb:(x == y)=false:=by simpa using a0
     change ((y,s3.heap.objs.size+1)::cl).lookup x=some c;rw[qF6,hb];show hc,a4 z⟩
 .rcases cS e with ⟨_,a2⟩|⟨_,a2⟩
  .rw[a2];show ⟨none,bw⟩
  .obtain ⟨v,z⟩:=I.cell x c (O x c a2);show ⟨v,a4 z⟩
 .rcases cS e with ⟨_,a2⟩|⟨_,a2⟩
  .rw[a2];show I.hok.fresh (qN8 _)
  .show I.freeC x c (O x c a2)
 .unfold inner;rw[qD1,qM0,I.len]
  have:=S.len
  change _=N'.length;omega
def qo {X:Cx}(S:G0 X.env.scope cs X.N N' y) (h:Q { compEnvC cs ((y,s.heap.objs.size+1)::cl) s.heap.objs.size X.env with scope:=cs } { s with heap:=(s.heap.push { cls:=.type "dict",data:=.dict #[] }).push { cls:=.type "cell",data:=.cell none } }):
  wpAny M A (newFunctionEnv cs X.env.globals cl [] X.env.qual none .none (some X.env)) Q E s:=by
 simp only [newFunctionEnv,Option.isSome_some,qP0];refine qA1 (wpAny_alloc ?_);refine qA1 (wpAny_layCells _ (λname kind cells=>by cases I:kind == NameKind.cell <;> simp [I]) _ _ _ _ ?_)
 rw[S.lay.1,S.lay.2,show ({ s with heap:=s.heap.push { cls:=.type "dict",data:=.dict #[] } }:Shared).heap.objs.size=s.heap.objs.size+1 from qI1 ..];rw[qN7];show qA1 (qO6 (qO6 h))
def GR (O:∀x c,cl.lookup x=some c->X.env.cells.lookup x=some c) (stk:∀b∈frs X.stack,b∈X.env.locals::X.fs) (a4:∀b∈fp,A9 X pins H3 b) (a0:∀b∈fp,b<s3.heap.objs.size) (hn:∀b∈fp,H' b=none):∀b∈fp,A9 (n8 X cs y cl N' fp s3 H3) [] H' b:=λb I=>by
 obtain ⟨f0,f1,f2,f3,f4,f5⟩:=a4 b I;refine ⟨hn b I,qC8 (a0 b I),λa3=>?_,.inl I,λx c e=>?_,λp hp=>absurd (show p∈([]:Vz) from hp) ZV⟩
 .have T:b∈frs X.stack:=a3;rcases qB5.mp (stk b T) with z|z
  .show f1 z
  .show f2 z
 .rcases cS e with ⟨_,a2⟩|⟨_,a2⟩
  .intro z;rw[a2]at z
   have:=a0 b I
   rw[<- z]at this;show absurd this (qX0.mpr (qN8 _))
  .show f4 x c (O x c a2)
def rO {σ:St}{Q:Hp->Prop}{W:Nat->Nat->Hp->Prop}(hc:X.calm=true) (hg:PG (n8 X cs y cl N' fp s3 O) tg g) (hk:K5 X.N.length g) (ht:PIf (n8 X cs y cl N' fp s3 O) ifs tc) (he:PE (n8 X cs y cl N' fp s3 O) elt te) (b5:∀x c,cl.lookup x=some c->X.env.cells.lookup x=some c) (I3:Inv X pins σ O s3) (I4:Inv (n8 X cs y cl N' fp s3 O) [] (inner N' σ) O s4) (T:Turn X.prog X.w X.K tg J fp it tn) (st:tn 0 s4.heap) (a5:∀b∈fp,A9 X pins O b) (cc:∀b∈fp,b<s3.heap.objs.size) (w0:W 0 m0 O) (turn:∀i m H2,W i m H2->(J.stop i H2/\Q H2)\/(J.go i H2/\∀x O,J.yld i H2 x O->g x (inner N' σ) O λa8 H4=>tc a8 H4 λb H5=>
   if b=true then te a8 H5 λy H6=>∃ys,H6 D=some (.lst ys)/\ys.length<sizeLine/\∃I,I<m/\W (i+1) I (upd H6 D (.lst (ys ++ [y])))
   else ∃I,I<m/\W (i+1) I H5)) (hR:∀(H':Hp) (s':Shared),Inv X pins σ H' s'->Q H'->(∃m,s'.heap.Ns s3.heap.objs.size m)->A9 X pins H' s3.heap.objs.size->R (.ok .next) s'):
  codeAny (model X.prog X.w) X.A (.compLoop (.ListComp elt [⟨tg,iter,ifs,0⟩] cs pos) 0 (.ref it) (.ref D) (n8 X cs y cl N' fp s3 O).env) R s4:=by
 have a7:∀{H':Hp},(∀b∈fp,H' b=none)->∀b∈fp,A9 (n8 X cs y cl N' fp s3 O) [] H' b:=λhn=>GR b5 I3.stkSub a5 cc hn;have cv:(inner N' σ).length=N'.length:=I4.len;refine codeAny_loop rfl (λn s'=>∃i H',Inv (n8 X cs y cl N' fp s3 O) [] (inner N' σ) H' s'/\tn i s'.heap/\(∀b∈fp,H' b=none)/\W i n H') (λn s5 hI=>?_) m0 ⟨0,O,I4,st,λb hb=>(a5 b hb).1,w0⟩;obtain ⟨i,H5,I5,a9,ab,w5⟩:=hI
 change wpAny _ _ ((compTurn (.ListComp elt [⟨tg,iter,ifs,0⟩] cs pos) 0 (.ref it) (.ref D) (n8 X cs y cl N' fp s3 O).env).onRaise _) _ _ s5;refine wpAny_noted ?_;rw[compTurn_list];refine qA1 (qQ4 (qA1 ?_));have a3:∀{α:Type}{t:Sem α}{P:α->Shared->Prop}{E':VX}{s:Shared},wpAny (model X.prog X.w) X.A t P (λ_ _=>False) s->wpAny (model X.prog X.w) X.A t P E' s:=λh=>qP8 h (λ_ _ q=>q) λ_ _ q=>q.elim;rcases turn i n H5 w5 with ⟨stop,q⟩|⟨go,step⟩
 .refine thn (T.done (n8 X cs y cl N' fp s3 O) rfl rfl rfl hc i [] s5 _ H5 _ I5 (a7 ab) a9 stop) λr s6 ⟨hr,I6⟩=>?_;subst hr;refine qO6 ?_;have J6:Inv X pins σ H5 s6:=I3.call' (H':=H5) (ch:=fp) I6.os I6.base I6.hok I6.bare λb hb=>by
   obtain ⟨f0,f1,f2,f3,f4,f5⟩:=a5 b hb;show ⟨f3,f1,f4,f5⟩
  obtain ⟨m,hn,_⟩:=I6.loc;show hR H5 s6 J6 q ⟨m,hn⟩ (I3.fpOk (qB4 _) I6.free)
 .refine thn (T.item (n8 X cs y cl N' fp s3 O) rfl rfl rfl hc i [] s5 _ H5 _ I5 (a7 ab) a9 go) λr s6 ⟨u,hr,h6⟩=>?_;subst hr;refine qA1 (thn h6 λ_ s7 b3=>?_);obtain ⟨x,H7,I7,r7,y7,a4,c3⟩:=b3;have c4:=I7.pinned (a7 c3) (T.obj _ _ a4);refine qA1 (a3 (thn (hg _ s7 _ H7 x u _ c4 r7 (hk x _ H7 _ (step x H7 y7))) λ_ s8 b4=>?_));obtain ⟨a0,H8,I8,q8,l8,k8⟩:=b4;refine qA1 (a3 (thn (ht _ s8 a0 H8 _ I8 q8) λb s9 b0=>?_));obtain ⟨H9,I9,q9⟩:=b0;have again:∀{s':Shared}{H':Hp},Inv (n8 X cs y cl N' fp s3 O) ([]++bP fp s7.heap) a0 H' s'->(∃I,I<n/\W (i+1) I H') ->
    ∃I,I<n/\∃i H',Inv (n8 X cs y cl N' fp s3 O) [] (inner N' σ) H' s'/\tn i s'.heap/\(∀b∈fp,H' b=none)/\W i I H':=λ{s' H'} I' zz94=>by
   obtain ⟨I,hm,w'⟩:=zz94;refine ⟨I,hm,i+1,H',(I'.unpinned).weak (by rw[l8]) (λj v e=>?_),T.keep _ _ _ a4 λb hb o e=>(I'.pin (b,o) (qC9 _ (qC9 _ (N6 hb e)))).1,λb hb=>?_,w'⟩
   .have hj:j<X.N.length:=by rw[<- I3.len];show (qA9.mp (aY e)).1
    rw[k8 j hj];show e
   .obtain ⟨o,e,d⟩:=T.obj _ _ a4 b hb;show (I'.pin (b,o) (qC9 _ (qC9 _ (N6 hb e)))).2.1
  cases b with
  | false=>
   have a6:∃I,I<n/\W (i+1) I H9:=q9;show qO6 ⟨rfl,again I9 a6⟩
  | true=>
   have a6:te a0 H9 _:=q9;refine qA1 (qA1 (a3 (thn (he _ s9 a0 H9 _ I9 a6) λv c7 b6=>?_)));obtain ⟨y,c6,c5,c2,ys,hD,hy,bw⟩:=b6;refine qA1 (a3 (thn (eA _ c7 a0 c6 (.ref D) [y] (.ref D) [v] (λ_ H'=>∃I,I<n/\W (i+1) I H') c5 rfl (.cons c2 .nil) ⟨D,ys,y,rfl,rfl,hD,hy,bw⟩) λ_ cn bb=>?_));obtain ⟨_,cp,c1,_,c0⟩:=bb;show qO6 (qO6 ⟨rfl,again c1 c0⟩)
def rP {R:Value->Addr->Result->Shared->Prop}{Q:V->Hp->Prop}(S:G0 X.env.scope cs X.N N' y) (hc:X.calm=true) (hg:∀cl ex s H,PG (n8 X cs y cl N' ex s H) tg g) (hk:K5 X.N.length g) (ht:∀cl ex s H,PIf (n8 X cs y cl N' ex s H) ifs tc) (he:∀cl ex s H,PE (n8 X cs y cl N' ex s H) elt te) (O:∀x c,cl.lookup x=some c->X.env.cells.lookup x=some c) (a4:∀x,(x,NameKind.free)∈cs.names->∃c,cl.lookup x=some c) (h:PIE X pins σ tg (λJ H1=>∀D,H1 D=none->sA J D g tc te (inner N' σ) H1 (Q (.ref D))) itv s2) (hR:∀(D C:Addr) (H':Hp) (s':Shared),Inv X pins σ H' s'->Q (.ref D) H'->(∃m,s'.heap.Ns C m)->A9 X pins H' C->R (.ref D) C (.ok .next) s'):
  wpAny (model X.prog X.w) X.A (newList []) (λa3 a5=>wpAny (model X.prog X.w) X.A (newFunctionEnv cs X.env.globals cl [] X.env.qual none .none (some X.env)) (λI a6=>
   codeAny (model X.prog X.w) X.A (.compStart (.ListComp elt [⟨tg,iter,ifs,0⟩] cs pos) 0 itv a3 { I with scope:=relabel cs X.env }) (R a3 I.locals) a6) X.xe a5) X.xe s2:=by
 obtain ⟨it,fp,tn,J,H2,e,I2,T,a7,f2,hw⟩:=h;subst e;refine qP5 (qo S ?_);have hD:=I2.hok.fresh (qB4 _);obtain ⟨W,⟨m0,w0⟩,turn⟩:=hw s2.heap.objs.size hD;have I3:Inv X pins σ (upd H2 s2.heap.objs.size (.lst [])) { s2 with heap:=s2.heap.push { cls:=.type "list",dict:=none,data:=.seq ([]:VZ).toArray } }:=I2.lnew (t':=s2.toks) .nil (qE0 _);have a0:∀b∈fp,b<s2.heap.objs.size:=λb hb=>by
  obtain ⟨o,e,_⟩:=T.obj 0 _ a7 b hb;show qB2 e
 have a8:∀b∈fp,A9 X pins (upd H2 s2.heap.objs.size (.lst [])) b:=λb hb=>by
  obtain ⟨f0,r⟩:=f2 b hb;show ⟨by rw[e9 (qC8 (a0 b hb))];show f0,r⟩
 have a9:∀b∈fp,b<(s2.heap.push { cls:=.type "list",dict:=none,data:=.seq ([]:VZ).toArray }).objs.size:=λb hb=>by rw[qI1];show qF3 (a0 b hb)
 have kp:∀b o,(s2.heap.push { cls:=.type "list",dict:=none,data:=.seq ([]:VZ).toArray }).get? b=some o->(((s2.heap.push { cls:=.type "list",dict:=none,data:=.seq ([]:VZ).toArray }).push { cls:=.type "dict",data:=.dict #[] }).push { cls:=.type "cell",data:=.cell none }).get? b=some o:=λb o e=>qA7 _ (qA7 _ e);have I4:=vA (cs:=cs) (cl:=cl) (N':=N') (fp:=fp) (s4:={ s2 with heap:=((s2.heap.push { cls:=.type "list",dict:=none,data:=.seq ([]:VZ).toArray }).push { cls:=.type "dict",data:=.dict #[] }).push { cls:=.type "cell",data:=.cell none } }) S I3 O a4 a8 a9 kp ((Heap.Ns.new _ (.type "dict")).keeps λb o e=>qA7 _ e) ⟨_,by rw[<- qI1];show qC0 _ rfl,rfl⟩ rfl rfl;have ab:tn 0 (((s2.heap.push { cls:=.type "list",dict:=none,data:=.seq ([]:VZ).toArray }).push { cls:=.type "dict",data:=.dict #[] }).push { cls:=.type "cell",data:=.cell none }):=T.keep 0 _ _ a7 λb hb o e=>kp b o (qA7 _ e);have loop:=rO (R:=R (.ref s2.heap.objs.size) (s2.heap.push { cls:=.type "list",dict:=none,data:=.seq ([]:VZ).toArray }).objs.size) (D:=s2.heap.objs.size) (iter:=iter) (pos:=pos) (it:=it) (Q:=Q (.ref s2.heap.objs.size)) hc (hg cl fp _ _) hk (ht cl fp _ _) (he cl fp _ _) O I3 I4 T ab a8 a9 w0 turn λH' s' I' q n f=>hR _ _ H' s' I' q n f;show codeAny_compStart_list loop (T.self _ 0 _ _ _ ab loop)
end L2
namespace TP
open PySem L2
def kJ (h:f7 cs sc2 N' N2):f7 (n8 X cs y cl N' ex s H).env.scope sc2 (n8 X cs y cl N' ex s H).N N2:=
 ⟨h.kind,h.ncell,h.loc,λx I e=>gE (λn k=>k == NameKind.free&&X.env.scope.kind == .function&&X.env.kindOf n == some .cell) (λn k q=>by
  simp only [qG6,xB4]at q;show q.1.1) x.1 cs.names (h.free x I e),h.nd,h.len,h.same,h.out⟩
end TP
namespace L2
open PySem PySem.Spec PyProof.Rows
def xt {X:Cx}{cs:Scope}{N':VJ}{yc:Str}{tg iter T:Expr}{O:VV}{wi:TI}{g:TG}{tc:TT}{te:TE}{pos:Pos}{i:Nat}{y:Str}{py a0:Pos}(S:G0 X.env.scope cs X.N N' yc) (hc:X.calm=true) (hi:PI X tg iter wi) (hg:∀cl ex s H,PG (n8 X cs yc cl N' ex s H) tg g) (hk:K5 X.N.length g) (ht:∀cl ex s H,PIf (n8 X cs yc cl N' ex s H) O tc) (he:∀cl ex s H,PE (n8 X cs yc cl N' ex s H) T te) (hN:X.N.Nodup) (hy:X.N[i]?=some y) (hl:Loc X.env.scope y) (a9:swapsWith (.ListComp T [⟨tg,iter,O,0⟩] cs pos) (some (.Name y py)) a0.line X.env=pure true:=by rfl) (hf:X.fn y=true\/X.env.scope.names.lookup y=some .local:=by first|show .inl rfl|show .inr rfl|assumption) (hs:∀x,foldedSetIterable iter X.env x=pure x:=by intro _;rfl):PS X (.Assign [.Name y py] (.ListComp T [⟨tg,iter,O,0⟩] cs pos) a0) (cD (lf N' wi g tc te) (P8 i)):=by
 intro pins s σ H Q I h;obtain ⟨cl,e,h1,h2,_⟩:=Z5 (env:=X.env) cs.names [] (λx hx hk=>I.ok.has x.1 (S.free x hx hk)) (λ_ _ z=>nomatch z);have a3:closureFor cs X.env=pure cl:=by
  simp only [closureFor];rw[e];rfl
 rw[exec_Assign_Name_used _ _ _ _ a9];refine qA1 (qQ4 (qA1 ?_))
 change wpAny _ _ (comprehension (.ListComp T [⟨tg,iter,O,0⟩] cs pos) cs X.env _ (newList []) false (eval iter X.env) (some (assign (.Name y py) X.env))>>=_) _ _ s;refine qA1 (thn (qR9 (use:=some (assign (.Name y py) X.env)) (Q:=λ_ s'=>SP X pins Q .next s') rfl hs a3 S.kind S.loc (thn (hi pins s σ H _ I h) λv s1 q1=>thn q1 λb0 s2 q2=>?_)) λ_ s' q=>qO6 (qO6 q));refine rP (R:=λa7 C=>compPost (model X.prog X.w) X.A X.xe (some (assign (.Name y py) X.env)) (λ_ s'=>SP X pins Q .next s') a7 C) (Q:=λx H1=>P8 i x σ H1 Q.nx) S hc hg hk ht he h1 h2 q2 λD C H' s' I' q n f=>?_;obtain ⟨m,hn⟩:=n;obtain ⟨f0,f1,f2,f3,f4,f5⟩:=f
 change wpAny _ _ (assign (.Name y py) X.env (.ref D)) _ _ _;refine qW1 (dH (v:=.ref D) (u:=.ref D) I' hN hy hl rfl (λa6 a8 a4=>?_) hf);obtain ⟨a,sb,ha⟩:=a4;have a5:C≠a:=by
  rcases ha with rfl|ha
  .show f1
  .show λq=>f4 _ _ ha q.symm
 refine ⟨m,hn.sameBut sb a5,λh' ab=>?_⟩;show ⟨_,H',a8.turned (t':=a6.toks) (λb o hb e=>ab.extBut b o hb e) f0 f1 f3 f4 f5,q⟩
end L2
namespace TP
open PySem L2
def AN {X:Cx}{K:Frag}{EX:EXT}{d:Mode}{pos:Pos}{ma:Zx}{ta:Zo}{i:Nat}{y:Str}{py:Pos}{cs:Scope}{N':VJ}{yc:Str}{tg iter T:Expr}{O:VV}{dd:Mode}{g:TG}{mg:Zg}{mi:Zp}{I:Pos}(S:G0 X.env.scope cs X.N N' yc) (hc:X.calm=true) (hi:PI X tg iter (tIt K EX false dd mi)) (hg:∀cl ex s H,PG (n8 X cs yc cl N' ex s H) tg g) (a0:Gt K dd g mg) (hk:K5 X.N.length g) (ht:∀cl ex s H,PIf (n8 X cs yc cl N' ex s H) O (tT K EX ta)) (he:∀cl ex s H,PE (n8 X cs yc cl N' ex s H) T (tM K EX .V ma)) (hN:X.N.Nodup) (hy:X.N[i]?=some y) (hl:Loc X.env.scope y) (a3:swapsWith (.ListComp T [⟨tg,iter,O,0⟩] cs I) (some (.Name y py)) pos.line X.env=pure true:=by rfl) (hf:X.fn y=true\/X.env.scope.names.lookup y=some .local:=by first|show .inl rfl|show .inr rfl|assumption) (hs:∀x,foldedSetIterable iter X.env x=pure x:=by intro _;rfl):PS X (.Assign [.Name y py] (.ListComp T [⟨tg,iter,O,0⟩] cs I) pos) (tSt K EX d (sF i (j8 N'.length mi mg ta ma))):=
 (xt S hc hi hg hk ht he hN hy hl a3 hf hs).mono λD σ H q=>by
  have:=nX (m:=j8 N'.length mi mg ta ma) q
  show nZ a0 this
end TP
namespace L2
open PySem PySem.Spec PyProof.Rows
abbrev O2 (I:Pos):Arguments:={ posonlyargs:=[],args:=[{ arg := "one",annotation:=none,pos:=I }],vararg:=none,kwonlyargs:=[],kw_defaults:=[],kwarg:=none,defaults:=[] }
abbrev lamS:Scope:={ kind:=.function,names:=[("one",.local),("held",.free)],isGenerator:=false,isCoroutine:=false }
abbrev M6 (T O I:Pos):Expr:=.Subscript (.Name "held" T) (.Name "one" O) I
def Kp (h h':Heap):Prop:=∀b o,h.get? b=some o->h'.get? b=some o
def oz (s:Shared) (k:Int)(v:Value)(s':Shared):Prop:=∃h' I t,v=.int k t/\s'={ s with heap:=h',toks:=I }/\Kp s.heap h'
def yS (I:A.depth<recursionLimit) (ho:s.heap.get? f=some (PySem.W.kla_obj "<lambda>" qual (O2 pa) (M6 p1 p2 p3) lamS cl pm c' ctv)) (a0:s.heap.CodeRec (.ref c') qual) (lim:s.heap.NoLimit) (a3:cl.lookup (Str.ofString "held")=some c) (hc:s.heap.IsCell c (some (.ref b))) (hl:s.heap.IsList b its) (h0:0<=i) (T:i<2^63) (hx:its[i.toNat]?=some (.int k t')):
  wpAny (model prog w) A (call (.ref f) [.int i t]) (oz s k) (λ_ _=>False) s:=by
 refine wpAny_call (PySem.W.kla_callFunE I ho rfl rfl rfl rfl a0 ?_);rw[show bindArgs (PySem.W.kla_fn "<lambda>" qual (O2 pa) (M6 p1 p2 p3) lamS cl pm (.ref c') ctv) ⟨[Value.int i t],[]⟩=(pure [(Str.ofString "one",Value.int i t)]:Sem (List (Str×Value))) from rfl];refine qO6 (wpAny_newFunctionEnv (show ∀x∈lamS.names,x.2≠.cell by decide) (λx hx=>?_) (λh1 a4 O=>⟨lim.fresh _ O,?_⟩) rfl)
 .have e:x=(Str.ofString "one",Value.int i t):=by simpa using hx
  rw[e];rfl
 have hk:Kp s.heap h1:=λb o e=>O.extBut b o (qC8 (qB2 e)) (qA7 _ e)
 change codeAny _ _ (.expr (M6 p1 p2 p3) (PySem.W.envX qual lamS s.heap.objs.size f (.ref c') cl)) _ _;refine PySem.W.kla_codeExpr (Subscript_ (qW5 (wpAny_loadName_free rfl rfl a3 (hc.keeps hk) (qW5 (qT7 rfl rfl a4 rfl (item_listR (let ⟨o,e,q⟩:=hl;⟨o,hk _ _ e,q⟩) h0 T hx ?_))))));show ⟨h1,_,t',rfl,rfl,hk⟩
def uN (a v:Value):argsOk "min" ⟨[a],[(Str.ofString "key",v),(Str.ofString "default",.none)]⟩:=by unfold argsOk;kernel_rfl
structure sD (vs:VZ) (kf:Zv) (j i:Nat) (v:Value):Prop where
 at_:vs[i]?=some v
 lt:i<j
 least:∀n,n<j->kf i<=kf n/\(n<i->kf i<kf n)
def KpB (S I:Addr)(g h:Heap):Prop:=∀b o,b≠S->b≠I->g.get? b=some o->h.get? b=some o
abbrev pC (I f S:Addr):Args:=⟨[.ref I,.ref f,.ref S],[(Str.ofString "default",.none)]⟩
def FL {s:Shared}(hh:A.handled=none) (hl:s.heap.IsList l vs.toArray) (a5:l≠I) (b0:l≠S) (a8:S≠I) (turn:∀i v,vs[i]?=some v->∀(h:Heap) (tk:Nat),KpB S I s.heap h->wpAny (model prog w) A.in1 (call (.ref f) [v]) (oz { s with heap:=h,toks:=tk } (kf i)) (λ_ _=>False) { s with heap:=h,toks:=tk }) (hR:∀v h tk,KpB S I s.heap h->((vs = []/\v=.none)\/∃i,sD vs kf vs.length i v)->R (.ok (.ret v)) { s with heap:=h,toks:=tk }):
  ∀ (r j:Nat) (h:Heap) (tk:Nat) (its:VW) (c:Nat),vs.length-j=r->j<=vs.length->KpB S I s.heap h->h.get? S=some (seqObj "list" its c)->h.IsListIter I l j ->
   ((j=0/\its=#[])\/∃i vb tb,its=#[vb,.int (kf i) tb]/\sD vs kf j i vb) ->
   codeAny (model prog w) A (.builtin "min.loop" (pC I f S)) R { s with heap:=h,toks:=tk }:=by
 have nm:(toString "min" ++ toString ".loop" : String) = "min.loop" := ZY;have Wk:=Walks.list (prog:=prog) (w:=w) (A:=A.in1) hh I l a5 vs.toArray;have sz:vs.toArray.size=vs.length:=qB8 ..;intro r
 induction r with
 | zero=>
  intro j h tk its c hr hj kp gS gI st;have ej:j=vs.length:=ox;have gl:h.IsList l vs.toArray:=by
   obtain ⟨o,e,q⟩:=hl;show ⟨o,kp l o b0 a5 e,q⟩
  refine codeAny_builtin PySem.F.entry_min_loop ?_;rw[Around.under_plainId qI8 _]
  change wpAny _ A.in1 (seqItems? (.ref S)>>=_) _ _ _;refine qA1 (qP6 gS rfl ?_)
  change wpAny _ A.in1 (tryCatch (pyNext (.ref I)) _>>=_) _ _ _;refine qA1 (qV3 (Wk.done _ _ _ ⟨by rw[sz,<- ej];show gI,gl⟩ λh' b3 k'=>?_));have a0:KpB S I s.heap h':=λb o T n2 e=>k' b o (by simpa using n2) (kp b o T n2 e);have a4:=k' S _ (by simpa using a8) gS;rcases st with ⟨e0,e1⟩|⟨i,vb,tb,e1,O⟩
  .subst e1;refine qA1 (qS1 (qO6 ?_));show hR _ _ _ a0 (.inl ⟨qR3 ox,rfl⟩)
  .subst e1;have s1:=qK0 h' S (Obj.mapSeq λ_=>(#[]:VW))
   change wpAny _ A.in1 (updateSeq S (λ_=>#[])>>=_) _ _ _;refine qA1 (qR0 a4 rfl (qA1 (qR1 (qO6 ?_))));show hR _ _ _ (λb o T n2 e=>(s1.2 b T).trans (a0 b o T n2 e)) (.inr ⟨i,by rw[<- ej];show O⟩)
 | succ r ih=>
  intro j h tk its c hr hj kp gS gI st;have lt:j<vs.length:=ox;have gl:h.IsList l vs.toArray:=by
   obtain ⟨o,e,q⟩:=hl;show ⟨o,kp l o b0 a5 e,q⟩
  refine codeAny_builtin PySem.F.entry_min_loop ?_;rw[Around.under_plainId qI8 _]
  change wpAny _ A.in1 (seqItems? (.ref S)>>=_) _ _ _;refine qA1 (qP6 gS rfl ?_)
  change wpAny _ A.in1 (tryCatch (pyNext (.ref I)) _>>=_) _ _ _;refine qA1 (qV3 (Wk.item j _ _ _ (by rw[sz];show lt) ⟨gI,gl⟩ λv h' b3 hP b5 k'=>?_));have hv:vs[j]?=some v:=by simpa using hP
  have a0:KpB S I s.heap h':=λb o T n2 e=>k' b o (by simpa using n2) (kp b o T n2 e);have a4:=k' S _ (by simpa using a8) gS;have b4:=b5.1
  change wpAny _ A.in1 (tryCatch (holding [v] (call (.ref f) [v])) _>>=_) _ _ _;refine qA1 (qV3 (qP4 (qP8 (turn j v hv h' b3 a0) (λx s2 q2=>?_) λ_ _ q=>q.elim)));obtain ⟨h2,bb,t2,rfl,rfl,k2⟩:=q2;have a9:KpB S I s.heap h2:=λb o T n2 e=>k2 b o (a0 b o T n2 e);have a3:=k2 S _ a4;have ab:h2.IsListIter I l (j+1):=by
   obtain ⟨o,e,q⟩:=b4;show ⟨o,k2 _ _ e,q⟩
  -- the new one is a6
  have a6:∀(h3:Heap) (a7:Nat),h3=h2.update S (Obj.mapSeq λ_=>#[v,.int (kf j) t2])->sD vs kf (j+1) j v->codeAny (model prog w) A (.builtin "min.loop" (pC I f S)) R { s with heap:=h3,toks:=a7 }:=λh3 a7 e3 O=>by
   subst e3;have s1:=qK0 h2 S (Obj.mapSeq λ_=>#[v,.int (kf j) t2]);obtain ⟨c2,b6⟩:∃c2,(h2.update S (Obj.mapSeq λ_=>#[v,.int (kf j) t2])).get? S=some (seqObj "list" #[v,.int (kf j) t2] c2):=⟨_,get?_update_seq a3 λ_=>#[v,.int (kf j) t2]⟩;refine ih (j+1) _ a7 _ c2 ox ox (λb o T n2 e=>(s1.2 b T).trans (a9 b o T n2 e)) b6 ?_ (.inr ⟨j,v,t2,rfl,O⟩);obtain ⟨o,e,q⟩:=ab;show ⟨o,(s1.2 I a8.symm).trans e,q⟩
  rcases st with ⟨e0,e1⟩|⟨i,vb,tb,e1,O⟩
  .subst e1 e0
   change wpAny _ A.in1 (updateSeq S (λ_=>#[v,.int (kf 0) t2])>>=_) _ _ _;refine qA1 (qR0 a3 rfl ?_);rw[nm];show qO6 ⟨qT0 qI8 _,a6 _ _ rfl ⟨hv,qD8 _,λn hn=>by
    have:n=0:=ox
    subst this;show ⟨qE8 _,λq=>absurd q (qE2 _)⟩⟩⟩
  .subst e1
   change wpAny _ A.in1 (tryCatch (holding [v,.int (kf j) t2] (richCompare .Lt (.int (kf j) t2) (.int (kf i) tb)>>=_)) _>>=_) _ _ _;refine qA1 (qV3 (qP4 (qA1 (CmpOf.ints_lt (prog:=prog) (w:=w) (A:=A.in1) (P:=λi v=>∃t,v=.int (kf i) t) kf (λ_ _ q=>q) j i _ _ _ _ _ ⟨t2,rfl⟩ ⟨tb,rfl⟩ ?_))));refine qA1 (qP4 (qQ5 ?_));refine qA1 (qR1 (qO6 ?_));by_cases lt2:kf j<kf i
   .simp only [lt2,decide_true,qP0];refine qA1 (qR0 a3 rfl (qA1 (qR1 ?_)));rw[nm];show qO6 ⟨qT0 qI8 _,a6 _ _ rfl ⟨hv,qD8 _,λn hn=>by
     by_cases e:n=j
     .subst e;show ⟨qE8 _,λq=>absurd q (qE2 _)⟩
     .have b1:=O.least n ox;show ⟨by have:=b1.1;omega,λ_=>by have:=b1.1;omega⟩⟩⟩
   .simp only [lt2,decide_false,qE1,qP1];refine qA1 (qR1 ?_);rw[nm];refine qO6 ⟨qT0 qI8 _,ih (j+1) _ _ _ c ox ox a9 a3 ab (.inr ⟨i,vb,tb,rfl,O.at_,by have:=O.lt;omega,λn hn=>?_⟩)⟩;by_cases e:n=j
    .subst e;show ⟨ox,λq=>absurd q (by have:=O.lt;omega)⟩
    .show O.least n ox
def xQ (hh:A.handled=none) (hl:s.heap.IsList l vs.toArray) (turn:∀i v,vs[i]?=some v->∀(h:Heap) (I:Nat),Kp s.heap h->wpAny (model prog w) A.in1 (call (.ref f) [v]) (oz { s with heap:=h,toks:=I } (kf i)) (λ_ _=>False) { s with heap:=h,toks:=I }) (hQ:∀v h I,Kp s.heap h->((vs = []/\v=.none)\/∃i,sD vs kf vs.length i v)->Q v { s with heap:=h,toks:=I }):
  wpAny (model prog w) A (call (.builtin "min") [.ref l] [(Str.ofString "key",.ref f),(Str.ofString "default",.none)]) Q E s:=by
 have nm:(toString "min" ++ toString ".loop" : String) = "min.loop" := ZY;obtain ⟨ol,T,_⟩:=id hl;have O:l<s.heap.objs.size:=qB2 T;refine kmk_tree PySem.F.kind_min PySem.F.plain_min PySem.F.entry_min (uN _ _) ?_
 change wpAny _ A.in1 (Builtin.Builtins.bindParams "min" ["key","default"] 0 ⟨[],[(Str.ofString "key",.ref f),(Str.ofString "default",.none)]⟩>>=_) _ _ s;refine qA1 (wpAny_of_eq (show Builtin.Builtins.bindParams "min" ["key","default"] 0 ⟨[],[(Str.ofString "key",.ref f),(Str.ofString "default",.none)]⟩=pure [some (.ref f),some .none] from rfl) ?_);refine qA1 (qO6 (qA1 (qQ6 hl (qA1 (wpAny_newList ?_ (qE0 _))))));rw[nm];have zI:(s.heap.push { cls:=.type "list_iterator",data:=.fields #[.ref l,.int 0 0] }).objs.size=s.heap.objs.size+1:=qI1 ..;have kp:∀h,KpB (s.heap.push { cls:=.type "list_iterator",data:=.fields #[.ref l,.int 0 0] }).objs.size s.heap.objs.size s.heap h->Kp s.heap h:=λh q b o e=>q b o (by rw[zI];show qC8 (qF3 (qB2 e))) (qC8 (qB2 e)) e;refine qO6 ⟨qT0 qI8 _,FL (vs:=vs) (kf:=kf) (l:=l) hh hl (qC8 O) (by rw[zI];show qC8 (qF3 O)) (by rw[zI];show qJ4 (qD8 _))
  (λi v e h I q=>turn i v e h I (kp h q)) (λv h I q d=>hQ v h I (kp h q) d) _ 0 _ _ #[] 0 rfl (qE0 _) (λb o _ _ e=>qA7 _ (qA7 _ e)) (qC0 _ rfl) ⟨_,qA7 _ (qC0 _ rfl),rfl,rfl⟩ (.inl ⟨rfl,rfl⟩)⟩
def xW {σ:St}(I:Inv X pins σ H s) (hT:(tb,k)∈lamT) (hC:PySem.W.codeHdIn X.K c tb=true) (a0:X.env.code=.ref c) (hq:X.env.qual++Str.ofString "<lambda>" = k.2.2) (bw:lpos.line=k.1) (b0:lpos.col=k.2.1) (hz:X.env.scope.names.lookup (Str.ofString "held")=some .cell) (h:∀(f T:Addr) (cl:List (Str×Addr)) (pm O:Value) (H':Hp) (s':Shared),Inv X pins σ H' s'->(∀a o,H a=some o->H' a=some o)->s'.heap.get? f=some (PySem.W.kla_obj (Str.ofString "<lambda>") (X.env.qual++Str.ofString "<lambda>") (O2 pa) (M6 p1 p2 p3) lamS cl pm T O) ->
   s'.heap.CodeRec (.ref T) (X.env.qual++Str.ofString "<lambda>")->(∀x d,cl.lookup x=some d->X.env.cells.lookup x=some d)->(∃d,cl.lookup (Str.ofString "held")=some d)->Q (.ref f) s'):
  wpAny (model X.prog X.w) X.A (eval (.Lambda (O2 pa) (M6 p1 p2 p3) lamS lpos) X.env) Q X.xe s:=by
 have a6:=I.tab _ hT;obtain ⟨ps,gP,st⟩:=I.hok _ _ a6;have gP:s.heap.get? tb=some (PySem.W.tabObj ps):=gP;have C:PySem.W.CodeHd s.heap c tb:=PySem.W.codeHd_of_K I.kIn hC;have a7:s.heap.Ns mainGlobals X.mg:=I.mod.glob.keeps I.bk;obtain ⟨bm,ob,b1,b2,b3,b4,b5,b6⟩:=I.mod.bmain;have b3:=I.bk _ _ b3;have c4:mainGlobals≠tb:=λq=>by
  obtain ⟨o,es,ep,e,d,_⟩:=a7;rw[q,gP]at e;cases e;cases d
 have c3:bm≠tb:=λq=>by rw[q,gP]at b3;cases b3;cases b4
 have c1:bm≠mainGlobals:=λq=>by
  obtain ⟨o,es,ep,e,d,_⟩:=a7;rw[q,e]at b3;cases b3;rw[d]at b6;cases b6
 have hB:s.heap.BuiltinsAt X.mg tb:=⟨bm,ob,b1,b2,c1,c3,b3,b4,b5,b6⟩;obtain ⟨cl,e,h1,h2,_⟩:=Z5 (env:=X.env) lamS.names [] (λx hx hk=>by
  rcases qB5.mp hx with rfl|hx
  .cases hk
  .rw [qD5.mp hx]
   show I.ok.has _ (.inl hz)) (λ_ _ z=>nomatch z)
 have a3:closureFor lamS X.env=pure cl:=by
  simp only [closureFor];rw[e];rfl
 have a4:∃d,cl.lookup (Str.ofString "held")=some d:=h2 _ (qA8 _ qB3);have c6:tb<s.heap.objs.size:=qB2 gP;refine PySem.W.kla_eval rfl ?_;rcases st with e0|⟨T,oc,e0,hown,hne,goc,lc⟩
 .subst e0;refine PySem.W.kla_makeFunction a3 I.ok.glob a7 a0 C gP trivial rfl c4 hB λT O h' tk hx a9 cc a8 c0=>?_;obtain ⟨c2,oc,vs,t,e2,ab,hd,hv⟩:=id a8;cases e2;have c5:H T=none:=I.hok.fresh a9;have kp:∀b o,b≠tb->s.heap.get? b=some o->(h'.push (PySem.W.kla_obj (Str.ofString "<lambda>") (X.env.qual++Str.ofString "<lambda>") (O2 pa) (M6 p1 p2 p3) lamS cl ((X.mg "__name__").getD .none) T O)).get? b=some o:=λb o n e=>qA7 _ (hx b o n e);have same:∀a o,H a=some o->upd H T (.own tb) a=some o:=λa o e=>by rw[e9 (f9 e c5)];show e
  have bb:∀b,H b=none->b≠tb:=λb n z=>by rw[z,a6]at n;cases n
  have I':Inv X pins σ (upd H T (.own tb)) { s with heap:=h'.push (PySem.W.kla_obj (Str.ofString "<lambda>") (X.env.qual++Str.ofString "<lambda>") (O2 pa) (M6 p1 p2 p3) lamS cl ((X.mg "__name__").getD .none) T O),toks:=tk }:=by
   refine I.un ⟨λb o e n _ _=>kp b o (bb b n) e,λb o e n _ _=>⟨o.slots,kp b o (bb b n) e⟩,λb o e n _=>?_,λb o e _=>?_,λb xs q=>same _ _ q,λb o u q=>same _ _ q,λb y q=>same _ _ q⟩ λb u q=>?_
   .rw[e9 (qC8 (qB6 (qB2 e) a9))];show n
   .by_cases z:b=tb
    .rw[z];show ⟨_,qA7 _ c0⟩
    .show ⟨o,kp b o z e⟩
   .by_cases z:b=T
    .subst z;rw[p8]at q;cases q;show ⟨oc,qA7 _ ab⟩
    .rw [e9 z]at q
     by_cases y:b=tb
     .subst y;rw[a6]at q;cases q;refine ⟨_,qA7 _ c0,.inr ⟨T,oc,?_,p8,qJ4 (qB6 c6 a9),qA7 _ ab,vs,t,hd,by rw[<- hq];show hv⟩⟩;rw[bw,b0];simp
     .refine (I.hok b u q).stay (λd v a5 e'=>kp d v ?_ e') (λd q'=>same _ _ q') λd xs q'=>same _ _ q';rcases a5 with rfl|a5
      .show y
      .rintro rfl;rw[a6]at a5;cases a5
  show h _ T cl _ O _ _ I' same (qC0 _ rfl) (a8.push _) h1 a4
 .subst e0;refine PySem.W.kla_makeFunctionHit a3 I.ok.glob a7 a0 C gP ?_ (cv:=.ref T) ?_ hB λO h' tk hk c7=>?_
  .show trivial
  .rw [<- bw,<- b0]
   show codeAmong_snoc [] trivial rfl
  .have kp:Kp s.heap (h'.push { cls:=.type "function",data:=.func (PySem.W.kla_fn (Str.ofString "<lambda>") (X.env.qual++Str.ofString "<lambda>") (O2 pa) (M6 p1 p2 p3) lamS cl ((X.mg "__name__").getD .none) (.ref T) O) }):=λb o e=>qA7 _ (hk b o e);refine h _ T cl _ O H _ (I.un (Un.kept kp) (I.hok.kept kp)) (λ_ _ e=>e) (qC0 _ rfl) ?_ h1 a4;obtain ⟨vs,t,d1,d2⟩:=lc;show ⟨T,oc,vs,t,rfl,kp _ _ goc,d1,by rw[hq];show d2⟩
def cQ (I:Int->Int)(O:Zz):Option Int:=O.find? λi=>O.all λx=>decide (I i<=I x)
def uM {n:Nat}(h:is[n]?=some i) (O:∀m j,is[m]?=some j->key i<=key j/\(m<n->key i<key j)):cQ key is=some i:=by
 unfold cQ;rw[List.find?_eq_some_iff_append];obtain ⟨hn,e⟩:=qA9.mp h;refine ⟨?_,is.take n,is.drop (n+1),?_,λa ha=>?_⟩
 .rw [qG2]
  intro x T;obtain ⟨m,hm,ex⟩:=qF7.mp T;show qO8 (O m x (by rw[qA3 hm,ex])).1
 .rw[<- e,List.getElem_cons_drop,List.take_append_drop]
 .obtain ⟨m,hm,I⟩:=qF7.mp ha;rw[qM2]at hm;rw[List.getElem_take]at I;have q:=(O m a (by rw[qA3 ox,I])).2 ox;rw[Bool.not_eq_true',qW4];show ⟨i,qD4 h,by simp;omega⟩
def vO:Option Int->V
 |none=>.non
 |some i=>.int i
def zg (K:Frag) (j:Nat) (ta:TA):TE:=λσ H Q=>ta σ H λvs H1=>∃(l b:Addr) (I ks:Zz),vs = [.ref l]/\SqL K H1 l (I.map V.int)/\σ[j]?=some (some (.ref b))/\SqL K H1 b (ks.map V.int)/\(∀i∈I,0<=i/\i<(ks.length:Int)) /\
 ∀H2:Hp,(∀a o,H1 a=some o->H2 a=some o)->Q (vO (cQ (λi=>ks.getD i.toNat 0) I)) H2
def SqL.more {K:Frag}(h:SqL K H1 a xs) (I:∀a o,H1 a=some o->H2 a=some o):SqL K H2 a xs:=by
 rcases h with (h|⟨o,h⟩)|h
 .show .inl (.inl (I _ _ h))
 .show .inl (.inr ⟨o,I _ _ h⟩)
 .show .inr h
def dD {O:Zz}(r:Vals (O.map V.int) its){n:Nat}(h:O[n]?=some i):∃t,its[n]?=some (.int i t):=by
 obtain ⟨w,e,I⟩:=r.get (i:=n) (x:=V.int i) (by rw[qA6,h];rfl);obtain ⟨t,rfl⟩:=I;show ⟨t,e⟩
def Ba {X:Cx}{tb c:Addr}{k:Nat×Nat×Str}{pa p1 p2 p3 O p p4 pos a4 a3:Pos}{a:Expr}{ta:TA}{j kt:Nat}(hT:(tb,k)∈lamT) (hC:PySem.W.codeHdIn X.K c tb=true) (a6:X.env.code=.ref c) (hq:X.env.qual++Str.ofString "<lambda>" = k.2.2) (c3:O.line=k.1) (b5:O.col=k.2.1) (hz:X.env.scope.names.lookup (Str.ofString "held")=some .cell) (hN:X.N[j]?=some (Str.ofString "held")) (a8:X.calm=true){kr:Nat}(hr:Room (kr+2) X.A) (hg:Gl X "min") (hm:X.mg "min" = none) (ha:PA X [a] ta) (he:backTo pos (starEach [a] X.env)=(false,eval a X.env)::backTo pos (starEach [] X.env):=by rfl) (a5:(backTo pos (starEach [a] X.env)).any (·.1)=false:=by rfl) (ab:(backToKw pos (keywordEach [⟨some "key",.Lambda (O2 pa) (M6 p1 p2 p3) lamS O,a4⟩,⟨some "default",.Constant .none kt p4,a3⟩] X.env)).all (·.1.isSome)=true:=by rfl) (c5:(backToKw pos (keywordEach [⟨some "key",.Lambda (O2 pa) (M6 p1 p2 p3) lamS O,a4⟩,⟨some "default",.Constant .none kt p4,a3⟩] X.env)).any (·.1.isNone)=false:=by rfl) (bb:(backToKw pos (keywordEach [⟨some "key",.Lambda (O2 pa) (M6 p1 p2 p3) lamS O,a4⟩,⟨some "default",.Constant .none kt p4,a3⟩] X.env)).filterMap (·.1) = [Str.ofString "key",Str.ofString "default"]:=by rfl):
  PE X (.Call (.Name "min" p) [a] [⟨some "key",.Lambda (O2 pa) (M6 p1 p2 p3) lamS O,a4⟩,⟨some "default",.Constant .none kt p4,a3⟩] pos) (zg X.K j ta):=by
 intro pins s σ H Q I h;refine qP3 (M5 I hg hm (u:=.builtin "min") rfl ?_);refine qY1 (thn (ha pos pins s σ H _ I h) λus s1 b0=>?_) he a5 ab c5;obtain ⟨vs,H1,I1,r1,l,b,T,ks,e1,hl,hj,hb,b6,hQ⟩:=b0;subst e1;cases r1 with
 |cons ru rt=>
 cases rt;cases ru;rw[bb]
 change wpAny _ _ (evalAll ((do let v <- eval (.Lambda (O2 pa) (M6 p1 p2 p3) lamS O) X.env;standAt pos;pure v)::(do let v <- eval (.Constant .none kt p4) X.env;standAt pos;pure v) :: [])) _ _ s1;refine qV5 (qA1 (xW I1 hT hC a6 hq c3 b5 hz λf c' cl pm c7 H2 s2 I2 sm go a9 b4 c6=>qA1 (qQ4 (qO6 ?_))));refine qV5 (qA1 (Constant_none (qA1 (qQ4 (qO6 (wpAny_evalAll_nil ?_))))));obtain ⟨its,rI,pl,cp⟩:=I2.list (hl.more sm);obtain ⟨c1,rJ,c4,c2⟩:=I2.list (hb.more sm);have a0:T.length=its.length:=by have:=rI.length;rwa [qA5]at this
 have cc:ks.length=c1.length:=by have:=rJ.length;rwa [qA5]at this
 obtain ⟨d,hd⟩:=c6;have a7:s2.heap.IsCell d (some (.ref b)):=by
  obtain ⟨m0,_,hl0⟩:=I2.loc;obtain ⟨u,ru,lk⟩:=hl0 j _ _ hN hj (.inr (.inl hz));cases ru;rcases lk with ⟨q,_⟩|⟨_,d',e',z⟩
  .have q':X.env.scope.names.lookup (Str.ofString "held")=some .local:=q;rw[hz]at q';cases q'
  .rw [b4 _ _ hd]at e';cases e'
   show z
 refine xQ (vs:=its) (kf:=λn=>ks.getD (T.getD n 0).toNat 0) (I2.ok.hd a8) pl.isList (λn v hv h tk kp=>?_) λv h tk kp best=>?_
 .have hn:n<T.length:=by rw[a0];show (qA9.mp hv).1
  have ei:T[n]?=some (T.getD n 0):=by rw[qA0,qA3 hn];rfl
  obtain ⟨t,et⟩:=dD rI ei;rw[et]at hv;cases hv;have rg:=b6 _ (qD4 ei);generalize T.getD n 0=i at rg
  have ek:ks[i.toNat]?=some (ks.getD i.toNat 0):=by rw[qA0,qA3 ox];rfl
  obtain ⟨t',bw⟩:=dD rJ ek;have cn:=bY;have lj:=c2;rw[qA5]at lj;show yS (s:={ s2 with heap:=h,toks:=tk }) hr.in1.depth (kp _ _ go) (a9.keeps kp) (I2.nolimit.keeps kp) hd (a7.keeps kp) (let ⟨o,e,q⟩:=c4.isList;⟨o,kp _ _ e,q⟩) rg.1 ox (by simpa using bw)
 .have I3:Inv X pins σ H2 { s2 with heap:=h,toks:=tk }:=I2.un (Un.kept kp) (I2.hok.kept kp);rcases best with ⟨e0,rfl⟩|⟨n,bst⟩
  .have:T = []:=qR3 (by rw[a0,e0];rfl)
   subst this;show ⟨.non,H2,I3,rfl,hQ H2 sm⟩
  .have hn:n<T.length:=by rw[a0];show bst.lt
   have ei:T[n]?=some (T.getD n 0):=by rw[qA0,qA3 hn];rfl
   obtain ⟨t,et⟩:=dD rI ei;have hv:=bst.at_;rw[et]at hv;cases hv;have em:cQ (λi=>ks.getD i.toNat 0) T=some (T.getD n 0):=uM ei λm y hy=>by
    have c0:m<its.length:=by rw[<- a0];show (qA9.mp hy).1
    have:=bst.least m c0
    have ey:T.getD m 0=y:=by rw[qA0,hy];rfl
    rw[ey]at this;show this
   have b3:=hQ H2 sm;rw[em]at b3;show ⟨.int (T.getD n 0),H2,I3,⟨t,rfl⟩,b3⟩
def Fun.okC {K:Frag}{st:Stmt}(F:Fun K x qual st f fd) (S:f8 N ps (c8 st)) (len:∀vs H Q E,sp vs H Q E->vs.length=ps.length) (I:∀(A:Around) (outer:List Env) (s:Shared) (H:Hp) (vs:List V) (Q:VK) (E:XK),Room k (A.deeper (envOfC qual (c8 st) s.heap.objs.size f fd.code))->sp vs H Q E ->
   ∃t,PSs (bF CX0 P w K mg base N qual (c8 st) f fd.code A outer s H E).nox (E4 st) t/\t { nx:=λ_ H'=>Q .non H',rt:=Q } (start N vs) H):FnOk P w K mg base CX0 (k+1) f fd ps sp:=by
 obtain ⟨oc,od,kV,doc,pm,an,cdv,ct,osl,rfl,lk,O⟩:=F.ex;refine zJ lk O S len λA outer s H vs Q E hr T=>?_;obtain ⟨t,h,q⟩:=I A outer s H vs Q E hr T;show ⟨t,h.nox,q⟩
end L2
namespace TP
open PySem L2
def vW:Option Int->W
 |none=>.non
 |some i=>.int i
def gD (I ks:Zz):R W:=if I.all (λi=>decide (0<=i)&&decide (i<(ks.length:Int)))=true then .ok (vW (cQ (λi=>ks.getD i.toNat 0) I)) else .stuck
def rH:W->W->R W
 | .lst ws,.lst us=>toR (v8 ws)>>=λI=>toR (v8 us)>>=λks=>gD I ks
 |_,_=>.stuck
def mML (j:Nat) (ρ:Rho):List W->R W
 | [w]=>b8 .B j ρ>>=λu=>rH w u
 |_=>.stuck
def iO (j:Nat)(ma:Zp):Zx:=λρ=>ma ρ>>=mML j ρ
def HW (h:tM K EX .F (iO j ma) σ H Q):zg K j (tA K EX .B ma) σ H Q:=by
 obtain ⟨H0,G,ρ,I,o⟩:=h;unfold iO at o;refine ⟨H0,G,ρ,I,Out.bind o λxs G1 H1 ws e1 m1 o1=>?_⟩;have I1:=I.ext e1;unfold mML at o1
 split at o1
 .rename_i w
  have hx:∃x,xs = [x]/\Md K H0 H G1 H1 x w .B:=by
   cases m1 with
   |cons a t=>cases t;show ⟨_,rfl,a⟩
  obtain ⟨x,rfl,a⟩:=hx;have a5:ah j σ H1 (λv H2=>∃(l b:Addr) (T ks:Zz),x=V.ref l/\SqL K H2 l (T.map V.int)/\v=V.ref b/\SqL K H2 b (ks.map V.int)/\(∀i∈T,0<=i/\i<(ks.length:Int))/\∀H3:Hp,(∀a o,H2 a=some o->H3 a=some o)->Q (vO (cQ (λi=>ks.getD i.toNat 0) T)) H3):=by
   refine lr (d:=.B) (EX:=EX) ⟨H0,G1,ρ,I1,Out.bind o1 λv G2 H2 u e2 m2 O=>?_⟩;have I2:=I1.ext e2;have a2:=a.move e2;cases w <;> first|show O.elim|skip
   cases u <;> first|show O.elim|skip
   rename_i ws us
   replace O:Out EX G2 H2 (mdW K .F H0 H) (toR (v8 ws)>>=λT=>toR (v8 us)>>=λks=>gD T ks) Q:=O
   cases q1:v8 ws with
   |none=>rw[q1]at O;show O.elim
   | some T=>
    cases q2:v8 us with
    |none=>rw[q1,q2]at O;show O.elim
    | some ks=>
     rw[q1,q2]at O;replace O:Out EX G2 H2 (mdW K .F H0 H) (gD T ks) Q:=O
     unfold gD at O;by_cases hc:T.all (λi=>decide (0<=i)&&decide (i<(ks.length:Int)))=true
     .rw [qA2 hc]at O
      obtain ⟨p,ys,e3,hs,r⟩:=a2.lstB I2;obtain ⟨p',a6,e4,a0,r'⟩:=m2.lstB I2;rw[Reps.ints r q1]at hs;rw[Reps.ints r' q2]at a0;refine ⟨p,p',T,ks,e3,.inl (.inl hs),e4,.inl (.inl a0),λi hi=>?_,λH3 sm=>?_⟩
      .have:=qG2.mp hc i hi
       rw[qG6]at this;show ⟨qO9 this.1,qO9 this.2⟩
      .refine O _ G2 H3 ⟨Same.refl _,sm,I2.gh.trans sm,λ_ _ _ _ e=>e⟩ ?_;cases cQ (λi=>ks.getD i.toNat 0) T with
       |none=>show Md.sca rfl (λ_=>.non) .F
       |some i=>show Md.sca rfl (λ_=>.int) .F
     .rw[qA4 hc]at O;show O.elim
  obtain ⟨v,es,l,b,T,ks,a3,h1,a4,h2,h3,h4⟩:=a5;subst a3 a4;show ⟨l,b,T,ks,rfl,h1,es,h2,h3,h4⟩
 .show o1.elim
def ES {X:Cx}{K:Frag}{EX:EXT}{tb c:Addr}{k:Nat×Nat×Str}{pa p1 p2 p3 I p p4 pos a0 T:Pos}{a:Expr}{ma:Zp}{j kt:Nat}(hT:(tb,k)∈lamT) (hC:PySem.W.codeHdIn X.K c tb=true) (a3:X.env.code=.ref c) (hq:X.env.qual++Str.ofString "<lambda>" = k.2.2) (a9:I.line=k.1) (a6:I.col=k.2.1) (hz:X.env.scope.names.lookup (Str.ofString "held")=some .cell) (hN:X.N[j]?=some (Str.ofString "held")) (a4:X.calm=true){kr:Nat}(hr:Room (kr+2) X.A) (hg:Gl X "min") (hm:X.mg "min" = none) (ha:PA X [a] (tA K EX .B ma)) (hK:X.K=K:=by rfl) (he:backTo pos (starEach [a] X.env)=(false,eval a X.env)::backTo pos (starEach [] X.env):=by rfl) (O:(backTo pos (starEach [a] X.env)).any (·.1)=false:=by rfl) (a5:(backToKw pos (keywordEach [⟨some "key",.Lambda (O2 pa) (M6 p1 p2 p3) lamS I,a0⟩,⟨some "default",.Constant .none kt p4,T⟩] X.env)).all (·.1.isSome)=true:=by rfl) (a8:(backToKw pos (keywordEach [⟨some "key",.Lambda (O2 pa) (M6 p1 p2 p3) lamS I,a0⟩,⟨some "default",.Constant .none kt p4,T⟩] X.env)).any (·.1.isNone)=false:=by rfl) (a7:(backToKw pos (keywordEach [⟨some "key",.Lambda (O2 pa) (M6 p1 p2 p3) lamS I,a0⟩,⟨some "default",.Constant .none kt p4,T⟩] X.env)).filterMap (·.1) = [Str.ofString "key",Str.ofString "default"]:=by rfl):
  PE X (.Call (.Name "min" p) [a] [⟨some "key",.Lambda (O2 pa) (M6 p1 p2 p3) lamS I,a0⟩,⟨some "default",.Constant .none kt p4,T⟩] pos) (tM K EX .F (iO j ma)):=by
 subst hK;show (Ba hT hC a3 hq a9 a6 hz hN a4 hr hg hm ha he O a5 a8 a7).mono λ_ _ _ q=>HW q
def oh (j:Nat)(ma:Zp)(ρ:Rho):iO j ma ρ=ma ρ>>=mML j ρ:=rfl
def uR (j:Nat)(ρ:Rho)(w:W):mML j ρ [w]=b8 .B j ρ>>=λu=>rH w u:=rfl
def pW (I ks:Zz):rH (.lst (I.map W.int)) (.lst (ks.map W.int))=gD I ks:=by
 change toR (v8 (I.map W.int))>>=_=_;rw[ints_map,ints_map];rfl
end TP
namespace L2
open PySem
def codeTab (C:PySem.W.CodeHd h c P):isCodeTable h P:=by
 obtain ⟨o,vs,_,_,_,_,_,_,_,I,O,T,e4,_⟩:=C;show ⟨c,o,vs,I,O,T,e4⟩
end L2
namespace TP
open PySem L2
abbrev tI (ns:Zz):W:=.tup (ns.map W.int)
abbrev lI (ns:Zz):W:=.lst (ns.map W.int)
def F4 (ns:Zz):n5 (ns.map W.int)=true:=by
 induction ns with
 |nil=>rfl
 |cons n ns I=>rw[qC2];simp only [n5,noL,I,qL1]
def Ct (n:Bool) (i j:Int):v6 n (.int i) (.int j)=.ok (.bl (if n then !decide (i=j) else decide (i=j))):=by
 change R.ok (W.bl (if n then !decide (V.int i=V.int j) else decide (V.int i=V.int j)))=_;rw[show decide (V.int i=V.int j)=decide (i=j) from qY2.mpr ⟨V.int.inj,congrArg _⟩]
def Cu (n:Bool) (i j:Bool):v6 n (.bl i) (.bl j)=.ok (.bl (if n then !decide (i=j) else decide (i=j))):=by
 change R.ok (W.bl (if n then !decide (V.bl i=V.bl j) else decide (V.bl i=V.bl j)))=_;rw[show decide (V.bl i=V.bl j)=decide (i=j) from qY2.mpr ⟨V.bl.inj,congrArg _⟩]
def Cp (n:Bool) (i j:Str):v6 n (.str i) (.str j)=.ok (.bl (if n then !decide (i=j) else decide (i=j))):=by
 change R.ok (W.bl (if n then !decide (V.str i=V.str j) else decide (V.str i=V.str j)))=_;rw[show decide (V.str i=V.str j)=decide (i=j) from qY2.mpr ⟨V.str.inj,congrArg _⟩]
def Cq (n:Bool):v6 n .non .non=.ok (.bl (!n)):=by cases n <;> rfl
def Cr (n:Bool) (i:Int):v6 n .non (.int i)=.ok (.bl n):=by cases n <;> rfl
def Cs (n:Bool) (i:Int):v6 n (.int i) .non=.ok (.bl n):=by cases n <;> rfl
def atW {ns:Zz}{i:Int}(h0:0<=i) (I:i<ns.length):L2.atI (ns.map W.int) i=some (.int (ns.getD i.toNat 0)):=by
 unfold L2.atI;rw[qA5,bZ h0 I]
 change (ns.map W.int)[i.toNat]?=_;rw[qA6,R1 ox];rfl
def af {ns:Zz}(I:k<ns.length):L2.atI (ns.map W.int) (k:Int)=some (.int (ns.getD k 0)):=by
 have:=atW (ns:=ns) (i:=(k:Int)) ox ox
 rw[qD9]at this;show this
def F9 {k:Nat}{w:W}(h:ws[k]?=some w):L2.atI ws (k:Int)=some w:=by
 have hk:=(qA9.mp h).1;unfold L2.atI;rw[bZ ox ox,qD9];show h
def andThen (r:R Fl) (n:Zy):R Fl:=r>>=λf=>match f with
 | .nx I=>n I
 | .rt w=>.ok (.rt w)
 | .bk I=>.ok (.bk I)
 | .ct I=>.ok (.ct I)
def BI (m n:Zy)(ρ:Rho):d9 m n ρ=andThen (m ρ) n:=rfl
def sf (ρ:Rho)(n:Zy):andThen (.ok (.nx ρ)) n=n ρ:=rfl
def se (w:W)(n:Zy):andThen (.ok (.rt w)) n=.ok (.rt w):=rfl
def si (ρ:Rho)(n:Zy):andThen (.ok (.bk ρ)) n=.ok (.bk ρ):=rfl
def sh (ρ:Rho)(n:Zy):andThen (.ok (.ct ρ)) n=.ok (.ct ρ):=rfl
def Je (w:W)(ρ:Rho):mC w ρ=.ok w:=rfl
def JQ (f:W->R W)(ma:Zx)(ρ:Rho):b1 f ma ρ=(ma ρ>>=f):=rfl
def R2b (a b:R W)(f:W->W->R W):R W:=a>>=λx=>b>>=λy=>f x y
def JP (f:W->W->R W)(ma mb:Zx)(ρ:Rho):b2 f ma mb ρ=R2b (ma ρ) (mb ρ) f:=rfl
def Ir (x y:W)(f:W->W->R W):R2b (.ok x) (.ok y) f=f x y:=rfl
def JO (f:List W->R W)(ma:Zp)(ρ:Rho):bA f ma ρ=(ma ρ>>=f):=rfl
def JN (f:List W->R Zk)(ma:Zp)(ρ:Rho):bI f ma ρ=(ma ρ>>=f):=rfl
def JM (ma:Zx)(ρ:Rho):bS ma ρ=(ma ρ>>=C3):=rfl
def JU (ρ:Rho):aN ρ=.ok []:=rfl
def iT (a:R W)(b:R Zk):R Zk:=a>>=λx=>b>>=λxs=>.ok (x::xs)
def JV (ma:Zx)(I:Zp)(ρ:Rho):aC ma I ρ=iT (ma ρ) (I ρ):=rfl
def zc (x:W)(xs:Zk):iT (.ok x) (.ok xs)=.ok (x::xs):=rfl
def CT (ma:Zx)(ρ:Rho):V3 ma ρ=(ma ρ>>=chk):=rfl
def yX (ma:Zx)(ρ:Rho):g8 ma ρ=(ma ρ>>=toB):=rfl
def Aj (a b:Zo)(ρ:Rho):fm a b ρ=jg (a ρ) (b ρ):=rfl
def DD (a b:Zo)(ρ:Rho):Q3 a b ρ=rOr (a ρ) (b ρ):=rfl
def Ai (a:Zo)(ρ:Rho):D8 a ρ=qI (a ρ):=rfl
def AK (x y:Bool):jg (.ok x) (.ok y)=.ok (x&&y):=by cases x <;> rfl
def AL (r:R Bool):jg (.ok false) r=.ok false:=rfl
def AJ (r:R Bool):jg (.ok true) r=r:=rfl
def EJ (x y:Bool):rOr (.ok x) (.ok y)=.ok (x||y):=by cases x <;> rfl
def EI (r:R Bool):rOr (.ok true) r=.ok true:=rfl
def EK (r:R Bool):rOr (.ok false) r=r:=rfl
def AF (x:Bool):qI (.ok x)=.ok (!x):=rfl
def Ad (a b:Zx)(ρ:Rho):iX a b ρ=fu (a ρ) (b ρ):=rfl
def Dq (a b:Zx)(ρ:Rho):vOr a b ρ=mf (a ρ) (b ρ):=rfl
def Ab (a:Zx)(ρ:Rho):vNot a ρ=qH (a ρ):=rfl
def xm (x y:Bool):fu (.ok (.bl x)) (.ok (.bl y))=.ok (.bl (x&&y)):=by cases x <;> rfl
def xn (r:R W):fu (.ok (.bl false)) r=.ok (.bl false):=rfl
def xl (r:R W):fu (.ok (.bl true)) r=r:=rfl
def AD (x y:Bool):mf (.ok (.bl x)) (.ok (.bl y))=.ok (.bl (x||y)):=by cases x <;> rfl
def AC (r:R W):mf (.ok (.bl true)) r=.ok (.bl true):=rfl
def AE (r:R W):mf (.ok (.bl false)) r=r:=rfl
def xj (x:Bool):qH (.ok (.bl x))=.ok (.bl (!x)):=rfl
def qJ (c:R Bool)(a b:R W):R W:=c>>=λt=>if t then a else b
def Dr (c:Zo)(a b:Zx)(ρ:Rho):vIf c a b ρ=qJ (c ρ) (a ρ) (b ρ):=rfl
def AG (a b:R W):qJ (.ok true) a b=a:=rfl
def AI (a b:R W):qJ (.ok false) a b=b:=rfl
def AH (t:Bool)(x y:W):qJ (.ok t) (.ok x) (.ok y)=.ok (if t then x else y):=by cases t <;> rfl
def ou (f I:W->W->R W)(a b c:R W):R W:=a>>=λx=>b>>=λy=>f x y>>=λz=>toB z>>=λt=>if t then c>>=λu=>I y u else .ok (.bl false)
def sO (f I:W->W->R W)(ma mb mc:Zx)(ρ:Rho):gR f I ma mb mc ρ=ou f I (ma ρ) (mb ρ) (mc ρ):=rfl
def wc (g g':Int->Int->Bool) (i j k:Int):ou (fI0 λi j=>.bl (g i j)) (fI0 λi j=>.bl (g' i j)) (.ok (.int i)) (.ok (.int j)) (.ok (.int k))=.ok (.bl (g i j&&g' j k)):=by
 unfold ou
 change (if g i j=true then _ else _)=_;cases h:g i j <;> simp [fI0]
def qY (ws:Zk):R W:=lim ws.length (.tup ws)
def qZ (ws:Zk):R W:=lim ws.length (.lst ws)
def Aa (ma:Zp)(ρ:Rho):G7 ma ρ=(ma ρ>>=qY):=rfl
def Ac (ma:Zp)(ρ:Rho):C2 ma ρ=(ma ρ>>=qZ):=rfl
def IV (ρ:Rho):pN ρ=.ok none:=rfl
def IU (m:Zx)(ρ:Rho):pS m ρ=(m ρ>>=lh):=rfl
def uq (i:Int):lh (.int i)=.ok (some i):=rfl
def Rsl (c:Bool)(x:R W)(l u:R VQ):R W:=x>>=λx=>l>>=λl=>u>>=λu=>toR (lstOf x)>>=λws=>chks c (M8 ws l u)
def Dp (c:Bool)(m:Zx)(O I:Rho->R VQ)(ρ:Rho):vSl c m O I ρ=Rsl c (m ρ) (O ρ) (I ρ):=rfl
def De (c:Bool)(ws:Zk)(l u:VQ):Rsl c (.ok (.lst ws)) (.ok l) (.ok u)=chks c (M8 ws l u):=rfl
def Db (c:Bool)(ws:Zk)(l u:VQ):Rsl c (.ok (.scr ws)) (.ok l) (.ok u)=chks c (M8 ws l u):=rfl
def zU (r:R Zk)(n:Nat)(mg:Zg)(mc:Zo)(me:Zx)(ρ:Rho):R W:=r>>=λws=>j6 n mg mc me ws ρ
def wk (n:Nat)(I:Zp)(mg:Zg)(mc:Zo)(me:Zx)(ρ:Rho):j8 n I mg mc me ρ=zU (I ρ) n mg mc me ρ:=rfl
def zd (ws:Zk)(n:Nat)(mg:Zg)(mc:Zo)(me:Zx)(ρ:Rho):zU (.ok ws) n mg mc me ρ=j6 n mg mc me ws ρ:=rfl
def DY (ρ:Rho):sNx ρ=.ok (.nx ρ):=rfl
def Eb (ρ:Rho):sBk ρ=.ok (.bk ρ):=rfl
def DZ (ρ:Rho):sCt ρ=.ok (.ct ρ):=rfl
def zT (r:R W)(ρ:Rho):R Fl:=r>>=λ_=>.ok (.nx ρ)
def wR (m:Zx)(ρ:Rho):IG m ρ=zT (m ρ) ρ:=rfl
def zb (w:W)(ρ:Rho):zT (.ok w) ρ=.ok (.nx ρ):=rfl
def je (w:W):R Fl:=.ok (.rt w)
def Aq (m:Zx)(ρ:Rho):j3 m ρ=(m ρ>>=je):=rfl
def Az (w:W):je w=.ok (.rt w):=rfl
def wQ (ρ:Rho):ID ρ=.ok (.rt .non):=rfl
def jP (r:R W)(f:W->Sl)(i:Nat)(ρ:Rho):R Fl:=r>>=λw=>.ok (.nx (ρ.set i (f w)))
def IB (i:Nat)(m:Zx)(ρ:Rho):sV i m ρ=jP (m ρ) Sl.val i ρ:=rfl
def IC (i:Nat)(m:Zx)(ρ:Rho):sU i m ρ=jP (m ρ) Sl.par i ρ:=rfl
def IF (i:Nat)(m:Zx)(ρ:Rho):sF i m ρ=jP (m ρ) R9 i ρ:=rfl
def Df (w:W)(f:W->Sl)(i:Nat)(ρ:Rho):jP (.ok w) f i ρ=.ok (.nx (ρ.set i (f w))):=rfl
def tD (ws:Zk):R9 (.lst ws)=.own ws:=rfl
def tq (ws:Zk):R9 (.tup ws)=.val (.tup ws):=rfl
def tE (i:Int):R9 (.int i)=.val (.int i):=rfl
def wM (i:Bool):R9 (.bl i)=.val (.bl i):=rfl
def tz:R9 .non=.val .non:=rfl
def tu (i:Str):R9 (.str i)=.val (.str i):=rfl
def Dy:Option Rho->R Fl
 |some ρ=>.ok (.nx ρ)
 |none=>.stuck
def Iq (r:R W)(mg:Zg)(ρ:Rho):R Fl:=r>>=λw=>toR (mg w ρ)>>=λI=>.ok (.nx I)
def IE (mg:Zg)(m:Zx)(ρ:Rho):sG mg m ρ=Iq (m ρ) mg ρ:=rfl
def Di (w:W) (mg:Zg) (ρ:Rho):Iq (.ok w) mg ρ=Dy (mg w ρ):=by
 change (toR (mg w ρ)>>=_)=_;cases mg w ρ <;> rfl
def sX (ρ:Rho):Dy (some ρ)=.ok (.nx ρ):=rfl
def Im (r:R Zk)(mg:Zg)(mb:Zy)(ρ:Rho):R Fl:=r>>=λws=>M4 mg mb ws ρ
def As (I:Zp)(mg:Zg)(mb:Zy)(ρ:Rho):C4 I mg mb ρ=Im (I ρ) mg mb ρ:=rfl
def Dg (ws:Zk)(mg:Zg)(mb:Zy)(ρ:Rho):Im (.ok ws) mg mb ρ=M4 mg mb ws ρ:=rfl
def Ar (i:Nat)(m:Zy)(ρ:Rho):dN i m ρ=m (frz i ρ):=rfl
def jE:Option Sl->Nat->Rho->Rho
 |some (.own ws),i,ρ=>ρ.set i (.val (.lst ws))
 |_,_,ρ=>ρ
def GQ (i:Nat) (ρ:Rho):frz i ρ=jE (ρ[i]?) i ρ:=by
 unfold frz jE;rcases h:ρ[i]? with _|s
 .rfl
 .cases s <;> rfl
def yw (ws:Zk)(i:Nat)(ρ:Rho):jE (some (.own ws)) i ρ=ρ.set i (.val (.lst ws)):=rfl
def yt (w:W)(i:Nat)(ρ:Rho):jE (some (.val w)) i ρ=ρ:=rfl
def yu (w:W)(i:Nat)(ρ:Rho):jE (some (.par w)) i ρ=ρ:=rfl
def Ch (i:Nat)(ρ:Rho):jE (some .un) i ρ=ρ:=rfl
def rdS (d:Mode):Option Sl->R W
 |some (.val w)=>(match d with | .F=>chk w|_=>.ok w)
 |some (.par w)=>(match d with | .F=>chk w | .V=>chk w | .C=>chk w|_=>.ok w)
 |some (.own ws)=>(match d with | .C=>.ok (.lst ws) | .B=>.ok (.lst ws)|_=>.stuck)
 |some (.iop _ ws)=>(match d with | .B=>.ok (.lst ws) | .U=>.ok (.lst ws)|_=>.stuck)
 |some (.hz w)=>(match d with | .B=>.ok w | .U=>.ok w|_=>.stuck)
 |_=>.stuck
def ju (d:Mode) (i:Nat) (ρ:Rho):b8 d i ρ=rdS d (ρ[i]?):=by
 unfold b8 rdS;rfl
def Et (w:W):rdS .F (some (.val w))=chk w:=rfl
def Er (w:W):rdS .V (some (.val w))=.ok w:=rfl
def Es (w:W):rdS .U (some (.val w))=.ok w:=rfl
def Eu (w:W):rdS .C (some (.val w))=.ok w:=rfl
def Ev (w:W):rdS .B (some (.val w))=.ok w:=rfl
def Ey (w:W):rdS .F (some (.par w))=chk w:=rfl
def Ew (w:W):rdS .V (some (.par w))=chk w:=rfl
def Ex (w:W):rdS .U (some (.par w))=.ok w:=rfl
def Ez (w:W):rdS .C (some (.par w))=chk w:=rfl
def EA (w:W):rdS .B (some (.par w))=.ok w:=rfl
def EB (ws:Zk):rdS .C (some (.own ws))=.ok (.lst ws):=rfl
def EC (ws:Zk):rdS .B (some (.own ws))=.ok (.lst ws):=rfl
def retS (d:Mode):Option Sl->R Fl
 |some (.own ws)=>.ok (.rt (.lst ws))
 |o=>rdS d o>>=je
def re (d:Mode) (i:Nat) (ρ:Rho):x3 d i ρ=retS d (ρ[i]?):=by
 unfold x3 retS;rw[ju];rcases h:ρ[i]? with _|s
 .rfl
 .cases s <;> rfl
def xb (d:Mode)(ws:Zk):retS d (some (.own ws))=.ok (.rt (.lst ws)):=rfl
def wZ (d:Mode)(w:W):retS d (some (.val w))=(rdS d (some (.val w))>>=je):=rfl
def xa (d:Mode)(w:W):retS d (some (.par w))=(rdS d (some (.par w))>>=je):=rfl
def yZ (o:Option Sl) (r:R W) (i:Nat) (ρ:Rho):R Fl:=match o with
 |some (.own ws)=>r>>=λw=>if ws.length<1000 then .ok (.nx (ρ.set i (.own (ws ++ [w])))) else .stuck
 |_=>.stuck
def BM (i:Nat)(m:Zx)(ρ:Rho):T8 i m ρ=yZ (ρ[i]?) (m ρ) i ρ:=rfl
def CW (ws:Zk)(w:W)(i:Nat)(ρ:Rho):yZ (some (.own ws)) (.ok w) i ρ=if ws.length<1000 then .ok (.nx (ρ.set i (.own (ws ++ [w])))) else .stuck:=rfl
def DR (o:Option Sl) (a b:R W) (i:Nat) (ρ:Rho):R Fl:=match o with
 | some (.own ws)=>b>>=λw=>a>>=λk=>(match k with
  | .int k=>(match ixN ws.length k with
   |some j=>.ok (.nx (ρ.set i (.own (ws.set j w))))
   |none=>.stuck)
  |_=>.stuck)
 |_=>.stuck
def BH (i:Nat)(I me:Zx)(ρ:Rho):cR i I me ρ=DR (ρ[i]?) (I ρ) (me ρ) i ρ:=rfl
def DS (o:Option Nat) (ws:Zk) (w:W) (i:Nat) (ρ:Rho):R Fl:=match o with
 |some j=>.ok (.nx (ρ.set i (.own (ws.set j w))))
 |none=>.stuck
def Ap (ws:Zk)(w:W) (k:Int)(i:Nat)(ρ:Rho):DR (some (.own ws)) (.ok (.int k)) (.ok w) i ρ=DS (ixN ws.length k) ws w i ρ:=rfl
def tK (j:Nat)(ws:Zk)(w:W)(i:Nat)(ρ:Rho):DS (some j) ws w i ρ=.ok (.nx (ρ.set i (.own (ws.set j w)))):=rfl
def Ig (f:Int->Int->Int) (a b:R W) (i:Nat) (ρ:Rho):R Fl:=a>>=λx=>b>>=λy=>match x,y with
 | .int a,.int b=>.ok (.nx (ρ.set i (.val (.int (f a b)))))
 |_,_=>.stuck
def BL (i:Nat) (f:Int->Int->Int) (m:Zx) (ρ:Rho):nt i f m ρ=Ig f (rdS .B (ρ[i]?)) (m ρ) i ρ:=by
 rw[<- ju];rfl
def CU (f:Int->Int->Int) (a b:Int)(i:Nat)(ρ:Rho):Ig f (.ok (.int a)) (.ok (.int b)) i ρ=.ok (.nx (ρ.set i (.val (.int (f a b))))):=rfl
def ifS (c:R Bool)(m n:Zy)(ρ:Rho):R Fl:=c>>=λb=>if b then m ρ else n ρ
def FN (c:Zo)(m n:Zy)(ρ:Rho):mIf c m n ρ=ifS (c ρ) m n ρ:=rfl
def GD (m n:Zy)(ρ:Rho):ifS (.ok true) m n ρ=m ρ:=rfl
def GE (m n:Zy)(ρ:Rho):ifS (.ok false) m n ρ=n ρ:=rfl
def endB (r:R Fl):R W:=r>>=λf=>match f with
 | .rt w=>.ok w
 | .nx _=>.ok .non
 |_=>.stuck
def aa (h:ws.length=n):i4 n N m ws=endB (m (ws.map Sl.par++List.replicate (N-n) Sl.un)):=by unfold i4;rw[qA2 h];rfl
def Ei {N:Nat}{m:Zy}(a:W):i4 1 N m [a]=endB (m (Sl.par a::List.replicate (N-1) Sl.un)):=aa rfl
def Eh {N:Nat}{m:Zy}(a b:W):i4 2 N m [a,b]=endB (m (Sl.par a::Sl.par b::List.replicate (N-2) Sl.un)):=aa rfl
def Eg {N:Nat}{m:Zy}(a b c:W):i4 3 N m [a,b,c]=endB (m (Sl.par a::Sl.par b::Sl.par c::List.replicate (N-3) Sl.un)):=aa rfl
def Ed {N:Nat}{m:Zy}(a b c d:W):i4 4 N m [a,b,c,d]=endB (m (Sl.par a::Sl.par b::Sl.par c::Sl.par d::List.replicate (N-4) Sl.un)):=aa rfl
def Ec {N:Nat}{m:Zy}(a b c d e:W):i4 5 N m [a,b,c,d,e]=endB (m (Sl.par a::Sl.par b::Sl.par c::Sl.par d::Sl.par e::List.replicate (N-5) Sl.un)):=aa rfl
def Cz (w:W):endB (.ok (.rt w))=.ok w:=rfl
def CA (ρ:Rho):endB (.ok (.nx ρ))=.ok .non:=rfl
def Hd (g:Int->Int->W) (i j:Int):fI0 g (.int i) (.int j)=.ok (g i j):=rfl
def fU_i (g:Int->W) (i:Int):fU g (.int i)=.ok (g i):=rfl
def Jm (ws:Zk) (i:Int):fIx (.lst ws) (.int i)=toR (L2.atI ws i):=rfl
def Jk (ws:Zk) (i:Int):fIx (.tup ws) (.int i)=toR (L2.atI ws i):=rfl
def Jl (ws:Zk) (i:Int):fIx (.scr ws) (.int i)=toR (L2.atI ws i):=rfl
def wA {α:Type}(a:α):toR (some a)=.ok a:=rfl
def Dz (b:Bool):toB (.bl b)=.ok b:=rfl
def GW (ws:Zk):fLen [.lst ws]=.ok (.int ws.length):=rfl
def GU (ws:Zk):fLen [.tup ws]=.ok (.int ws.length):=rfl
def GV (ws:Zk):fLen [.scr ws]=.ok (.int ws.length):=rfl
def Cl (c:Bool)(ws:Zk):zL c [.lst ws]=chks c ws:=rfl
def Ck (c:Bool)(ws:Zk):zL c [.tup ws]=chks c ws:=rfl
def nG (c:Bool)(ws:Zk):B9 c [.lst ws]=aL c ws:=rfl
def GS (c:Bool)(ws:Zk):B9 c [.tup ws]=aL c ws:=rfl
def HB (ws:Zk):chks true ws=.ok (.lst ws):=rfl
def HI (ws:Zk):aL true ws=.ok (.tup ws):=rfl
def fJ (h:n5 ws=true):chks c ws=.ok (.lst ws):=by unfold chks;rw[h,qY0,qA2 rfl]
def fK (h:n5 ws=true):aL c ws=.ok (.tup ws):=by unfold aL;rw[h,qY0,qA2 rfl]
def HE (c:Bool)(ns:Zz):chks c (ns.map W.int)=.ok (.lst (ns.map W.int)):=fJ (F4 ns)
def vE (c:Bool)(ns:Zz):aL c (ns.map W.int)=.ok (.tup (ns.map W.int)):=fK (F4 ns)
def C1 (h:noL w=true):chk w=.ok w:=by unfold chk;rw[qA2 h]
def CI (i:Int):chk (.int i)=.ok (.int i):=rfl
def HH (i:Bool):chk (.bl i)=.ok (.bl i):=rfl
def CG (i:Str):chk (.str i)=.ok (.str i):=rfl
def CH:chk .non=.ok .non:=rfl
def HF (ns:Zz):chk (.tup (ns.map W.int))=.ok (.tup (ns.map W.int)):=C1 (F4 ns)
def Jo (g:Int->Int->Int) (i j:Int):f2 g [.int i,.int j]=.ok (.int (g i j)):=rfl
def DV (ws:Zk):C3 (.lst ws)=.ok ws:=rfl
def DT (ws:Zk):C3 (.tup ws)=.ok ws:=rfl
def DU (ws:Zk):C3 (.scr ws)=.ok ws:=rfl
def Em (j:Int):C5 [.int j]=S4 0 j:=rfl
def El (i j:Int):rng2 [.int i,.int j]=S4 i j:=rfl
def gN_U (i:Nat)(w:W)(ρ:Rho):gN .U i w ρ=some (ρ.set i (.par w)):=rfl
def gN_V (i:Nat)(w:W)(ρ:Rho):gN .V i w ρ=some (ρ.set i (.val w)):=rfl
def gT_t (n:Nat)(g:List W->Rho->Option Rho)(ws:Zk)(ρ:Rho):gT n g (.tup ws) ρ=if ws.length=n then g ws ρ else none:=rfl
def yk (f:Zg)(g:List W->Rho->Option Rho)(w:W)(ws:Zk)(ρ:Rho):o5 f g (w::ws) ρ=(f w ρ).bind (g ws):=rfl
def Cb (ρ:Rho):gsNil [] ρ=some ρ:=rfl
def xO (ws:Zk):qY ws=if ws.length<=1000 then .ok (.tup ws) else .stuck:=rfl
def xP (ws:Zk):qZ ws=if ws.length<=1000 then .ok (.lst ws) else .stuck:=rfl
def Cm (x:W)(T:String):fIsi [x,.ty T]=(toR ((tyW x).bind λA=>A8 A T)>>=λb=>.ok (.bl b)):=rfl
def Ge:A8 "NoneType" "tuple" = some false:=ZY
def Gf:A8 "NoneType" "list" = some false:=ZY
def Gi:A8 "list" "tuple" = some false:=ZY
def FY:A8 "tuple" "list" = some false:=ZY
def GX (n:Bool)(u:W):D1 n u .non=.ok (.bl (if n then !isN u else isN u)):=rfl
def xS {α:Type}(g:α->W) (s:α->W):∀(as:List α),(∀a∈as,f (s a)=.ok (some (g a)))->mapR f (as.map s)=.ok (as.map g):=by
 intro as
 induction as with
 |nil=>show λ_=>rfl
 | cons a as I=>
  intro h;rw[qC2,mapR,h a qB3,I λb O=>h b (qA8 _ O)];rfl
def oG {α:Type}(g:α->W) (s:α->W) (c:α->Bool):∀(as:List α),(∀a∈as,f (s a)=.ok (if c a then some (g a) else none))->mapR f (as.map s)=.ok ((as.filter c).map g):=by
 intro as
 induction as with
 |nil=>show λ_=>rfl
 | cons a as I=>
  intro h;rw[qC2,mapR,h a qB3,I λb O=>h b (qA8 _ O),List.filter_cons];cases c a <;> rfl
def i9 {α:Type}(g:α->W) (s:α->W) (as:List α) (ρ:Rho) (O:as.length<=1000) (h:∀a∈as,∃I,mg (s a) (ρ++List.replicate (N'-ρ.length) Sl.un)=some I/\me I=.ok (g a)):j6 N' mg yes me (as.map s) ρ=.ok (.lst (as.map g)):=by
 unfold j6;rw[qA5,qA2 O,xS g s as];intro a ha;obtain ⟨I,T,e2⟩:=h a ha;unfold elR;rw[T];have hy:yes I=.ok true:=rfl;dsimp only;rw[hy];dsimp only;rw[e2]
def J2 {α:Type}(g:α->W) (s:α->W) (c:α->Bool) (as:List α) (ρ:Rho) (O:as.length<=1000) (h:∀a∈as,∃I,mg (s a) (ρ++List.replicate (N'-ρ.length) Sl.un)=some I/\mc I=.ok (c a)/\(c a=true->me I=.ok (g a))):j6 N' mg mc me (as.map s) ρ=.ok (.lst ((as.filter c).map g)):=by
 unfold j6;rw[qA5,qA2 O,oG g s c as];intro a ha;obtain ⟨I,T,e2,e3⟩:=h a ha;unfold elR;rw[T];dsimp only;rw[e2];cases hc:c a with
 |false=>rfl
 |true=>dsimp only;rw[e3 hc];rfl
def wX (h0:-1000000<=z) (h:z<=1000000):S4 0 z=.ok ((List.range z.toNat).map λk=>W.int (k:Nat)):=by
 unfold S4;rw[qA2 ox];simp
def av (h:((List.range n).map λk=>W.int (k:Nat))[i]?=some w):i<n/\w=.int (i:Nat):=by
 rw[qA6]at h;cases q:(List.range n)[i]? with
 |none=>rw[q]at h;cases h
 | some k=>
  rw[q]at h;obtain ⟨I,O⟩:=qA9.mp q;simp at I O;subst O;cases h;show ⟨I,rfl⟩
def uO {ns:Zz}(h:(ns.map W.int)[i]?=some w):i<ns.length/\w=.int (ns.getD i 0):=by
 rw[qA6]at h;cases q:ns[i]? with
 |none=>rw[q]at h;cases h
 | some k=>
  rw[q]at h;cases h;show ⟨(qA9.mp q).1,by rw[Cd q]⟩
def U5 (xs:Zz)(lo hi:VQ):List Int:=(xs.drop (HT.sIx xs.length 0 lo)).take (HT.sIx xs.length xs.length hi-HT.sIx xs.length 0 lo)
def Hz (ns:Zz) (lo hi:VQ):M8 (ns.map W.int) lo hi=(U5 ns lo hi).map W.int:=by
 unfold M8 U5;rw[qA5,<- xC6,<- List.map_take]
def DQ (ns:Zz)(j:Nat) (z:Int):(ns.map W.int).set j (.int z)=(ns.set j z).map W.int:=by rw[List.map_set]
def Ij (ns:Zz) (z:Int):ns.map W.int ++ [.int z]=(ns ++ [z]).map W.int:=by rw[qD0];rfl
def ua (k:Nat) (z:Int):(List.replicate k [W.int z]).flatten=(List.replicate k z).map W.int:=by
 induction k with
 |zero=>rfl
 |succ k I=>rw[qE7,qG8,I,qE7,qC2];rfl
def M3 {α:Type}(as:List α)(f:α->Int):(as.map λa=>W.int (f a))=(as.map f).map W.int:=by rw[qC3];rfl
def j9 {f:Zv}(h:k<n):((List.range n).map f).getD k 0=f k:=by
 rw[qA0,qA6];simp [h]
def Z6 {a b:Zz}(h:b.length=a.length):(ck [a.map W.int,b.map W.int]).map W.tup=(List.range a.length).map λk=>W.tup [.int (a.getD k 0),.int (b.getD k 0)]:=by
 apply qH7;intro i;simp only [ck,qA6,qJ1];by_cases hi:i<a.length
 .rw[R1 hi,R1 (ns:=b) ox];simp [hi]
 .simp [hi]
def zZ {a b c:Zz}(h:b.length=a.length) (h':c.length=a.length):(ck [a.map W.int,b.map W.int,c.map W.int]).map W.tup=(List.range a.length).map λk=>W.tup [.int (a.getD k 0),.int (b.getD k 0),.int (c.getD k 0)]:=by
 apply qH7;intro i;simp only [ck,qA6,qJ1,List.zip];by_cases hi:i<a.length
 .rw[R1 hi,R1 (ns:=b) ox,R1 (ns:=c) ox];simp [hi]
 .simp [hi]
def R7 (x y:W) (xs ys:Zk) (I:C3 x=.ok xs) (O:C3 y=.ok ys):K9 [x,y]=.ok ((ck [xs,ys]).map W.tup):=by
 unfold K9;simp only [qC5,qN1,Y7,I,O,Nat.reduceAdd,true_or,qP0]
def Dl (x y z:W) (xs ys I:Zk) (O:C3 x=.ok xs) (T:C3 y=.ok ys) (hz:C3 z=.ok I):K9 [x,y,z]=.ok ((ck [xs,ys,I]).map W.tup):=by
 unfold K9;simp only [qC5,qN1,Y7,O,T,hz,Nat.reduceAdd,or_true,qP0]
def Jd {i j:Int}(h:-18446744073709551616<i/\i<18446744073709551616):fI CMul o8 (.int i) (.int j)=.ok (.int (i*j)):=by
 change (if CMul i j then _ else _)=_;rw[qA2 (.inl (by simpa using h))]
def Jc {i j:Int}(h:-18446744073709551616<j/\j<18446744073709551616):fI CMul o8 (.int i) (.int j)=.ok (.int (i*j)):=by
 change (if CMul i j then _ else _)=_;rw[qA2 (.inr (by simpa using h))]
def FK {i j:Int}(h:0<j):fI t9 u8 (.int i) (.int j)=.ok (.int (i%j)):=by
 change (if t9 i j then _ else _)=_;rw[qA2 h]
def div_ii {i j:Int}(h:0<j/\j<1073741824):fI O6 K3 (.int i) (.int j)=.ok (.int (i/j)):=by
 change (if O6 i j then _ else _)=_;rw[qA2 (show O6 i j from h)]
def Fj {i j:Int}(h:0<=j/\j<=1000000 /\ -18446744073709551616<i/\i<18446744073709551616):fI dj nE (.int i) (.int j)=.ok (.int (i^j.toNat)):=by
 change (if dj i j then _ else _)=_;rw[qA2 ⟨h.1,h.2.1,ox⟩]
def Ik {ws:Zk}{w:W}{i:Nat}{ρ:Rho}(h:ws.length<1000):yZ (some (.own ws)) (.ok w) i ρ=.ok (.nx (ρ.set i (.own (ws ++ [w])))):=by rw[CW,qA2 h]
def BB {ws:Zk}(h:ws.length<=1000):qY ws=.ok (.tup ws):=by rw[xO,qA2 h]
def BC {ws:Zk}(h:ws.length<=1000):qZ ws=.ok (.lst ws):=by rw[xP,qA2 h]
def vn {c:Bool}{us vs:Zk}(h:us.length+vs.length<=1000):rL c (.lst us) (.lst vs)=chks c (us++vs):=by
 change (if us.length+vs.length<=1000 then _ else _)=_;rw[qA2 h]
def vm {c:Bool}{z:W}{k:Int}(h:0<=k/\k<=1000):gM c (.lst [z]) (.int k)=chks c (List.replicate k.toNat [z]).flatten:=by
 change (if [z].length*k.toNat<=1000 /\ -1000<=k/\k<=1000 then _ else _)=_;rw[qA2 ⟨by simp only [qC5,qN1];omega,ox,h.2⟩]
def JR {ns:Zz}{i:Int}(h:0<=i/\i<ns.length):L2.atI (ns.map W.int) i=some (.int (ns.getD i.toNat 0)):=atW h.1 h.2
def Jg {n:Nat}{i:Int}(h:0<=i/\i<n):ixN n i=some i.toNat:=bZ h.1 h.2
def Ej {z:Int}(h:-1000000<=z/\z<=1000000):S4 0 z=.ok ((List.range z.toNat).map λk=>W.int (k:Nat)):=wX h.1 h.2
def Ok (r:R W)(P:W->Prop):Prop:=∃w,r=.ok w/\P w
def Po (r:R Fl) (I:Rho->Prop) (Jr:W->Prop):Prop:=match r with
 | .ok (.nx ρ)=>I ρ
 | .ok (.rt w)=>Jr w
 |_=>False
def w4 (h:Po r (λ_=>P .non) P):Ok (endB r) P:=by
 cases r with
 |ex _=>show h.elim
 |stuck=>show h.elim
 | ok f=>cases f with
  |nx ρ=>show ⟨_,rfl,h⟩
  |rt w=>show ⟨_,rfl,h⟩
  |bk _=>show h.elim
  |ct _=>show h.elim
def ax (h:Po r (λρ=>Po (n ρ) Jn Jr) Jr):Po (andThen r n) Jn Jr:=by
 cases r with
 |ex _=>show h.elim
 |stuck=>show h.elim
 | ok f=>cases f with
  |nx ρ=>show h
  |rt w=>show h
  |bk _=>show h.elim
  |ct _=>show h.elim
def IN {ρ:Rho}{I:Rho->Prop}{Jr:W->Prop}:Po (.ok (.nx ρ)) I Jr=I ρ:=rfl
def IM {w:W}{I:Rho->Prop}{Jr:W->Prop}:Po (.ok (.rt w)) I Jr=Jr w:=rfl
def cM (O:b=true->Po (m ρ) Jn Jr) (I:b=false->Po (n ρ) Jn Jr):Po (ifS (.ok b) m n ρ) Jn Jr:=by
 cases b with
 |true=>show O rfl
 |false=>show I rfl
def uj (O:b=true->Po (andThen (m ρ) k) Jn Jr) (I:b=false->Po (andThen (n ρ) k) Jn Jr):Po (andThen (ifS (.ok b) m n ρ) k) Jn Jr:=by
 cases b with
 |true=>show O rfl
 |false=>show I rfl
def Po.mono (h:Po r Jn Jr) (I:∀ρ,Jn ρ->Jn' ρ) (O:∀w,Jr w->Jr' w):Po r Jn' Jr':=by
 cases r with
 |ex _=>show h
 |stuck=>show h
 | ok f=>cases f with
  |nx ρ=>show I ρ h
  |rt w=>show O w h
  |bk _=>show h
  |ct _=>show h
def uk (I:Nat->Rho->Prop):∀(ws:Zk) (k:Nat) (ρ:Rho),I k ρ ->
  (∀(i:Nat) (w:W) (ρ:Rho),ws[i]?=some w->I (k+i) ρ->∃O,mg w ρ=some O/\Po (mb O) (I (k+i+1)) Jr)->Po (M4 mg mb ws ρ) (I (k+ws.length)) Jr:=by
 intro ws
 induction ws with
 |nil=>show λk ρ h _=>h
 | cons w ws ih=>
  intro k ρ h st;obtain ⟨O,e1,p⟩:=st 0 w ρ rfl h;unfold M4;rw[e1]
  change Po (mb O>>=_) _ _
  revert p
  cases mb O with
  |ex _=>show λp=>p.elim
  |stuck=>show λp=>p.elim
  | ok f=>cases f with
   |bk _=>show λp=>p.elim
   |ct _=>show λp=>p.elim
   |rt w=>show λp=>p
   | nx T=>
    intro p
    have:=ih (k+1) T p λi w ρ hw hp=>by
     have:=st (i+1) w ρ hw (by rw[<- qG9 k i];show hp)
     rw[<- qG9 k i]at this;show this
    rw[qC5,<- qG9 k ws.length];show this
def bN (I:Nat->Rho->Prop) (h0:I 0 ρ) (st:∀(i:Nat) (w:W) (ρ:Rho),ws[i]?=some w->I i ρ->∃O,mg w ρ=some O/\Po (mb O) (I (i+1)) Jr) (hn:∀ρ,I ws.length ρ->Jn ρ):Po (M4 mg mb ws ρ) Jn Jr:=by
 have:=uk (mg:=mg) (mb:=mb) (Jr:=Jr) I ws 0 ρ h0 λi w ρ hw T=>by rw[Nat.zero_add]at T ⊢;show st i w ρ hw T
 rw[Nat.zero_add]at this;show this.mono hn λ_ h=>h
def y8 (I:Nat->Rho->Prop)(h0:I 0 ρ)(st:∀(i:Nat)(w:W)(ρ:Rho),ws[i]?=some w->I i ρ->∃O,mg w ρ=some O/\Po (mb O) (I (i+1)) Jr)(hn:∀ρ,I ws.length ρ->Po (n ρ) Jn Jr):Po (andThen (M4 mg mb ws ρ) n) Jn Jr:=ax (bN I h0 st hn)
def cL (I:Nat->Rho->Prop) (st:∀m ρ,I m ρ->∃t,c ρ=.ok t/\if t=true then Po (b ρ) (λO=>∃T,T<m/\I T O) Jr else Jn ρ):∀(m:Nat) (ρ:Rho),I m ρ->Po (P3 c b ρ) Jn Jr:=by
 have a0:∀(m:Nat) (ρ:Rho),I m ρ->∃r,L4 c b (m+1) ρ=some r/\Po r Jn Jr:=by
  intro m
  induction m using Nat.strongRecOn with
  | ind m ih=>
   intro ρ h;obtain ⟨t,e,q⟩:=st m ρ h;unfold L4;rw[e];cases t with
   |false=>rw[qA4 qB0]at q;show ⟨_,rfl,q⟩
   | true=>
    rw[qA2 rfl]at q;dsimp only
    revert q
    cases b ρ with
    |ex _=>show λq=>q.elim
    |stuck=>show λq=>q.elim
    | ok f=>cases f with
     |bk _=>show λq=>q.elim
     |ct _=>show λq=>q.elim
     |rt w=>show λq=>⟨_,rfl,q⟩
     | nx O=>
      intro ⟨T,hm,h'⟩;obtain ⟨r,e',q'⟩:=ih T hm O h';show ⟨r,cV (T+1) O r e' m ox,q'⟩
 intro m ρ h;obtain ⟨r,e,q⟩:=a0 m ρ h;rw[kA e];show q
def pE (s:α->W) (p:α->Int->Prop):∀(as:List α),(∀a∈as,∃z,f (s a)=.ok (some (.int z))/\p a z)->∃I:List Int,mapR f (as.map s)=.ok (I.map W.int)/\Paired p as I
 | [],_=>⟨[],rfl,.nil⟩
 | a::as,h=>by
  obtain ⟨z,e,hz⟩:=h a ZV;obtain ⟨I,O,T⟩:=pE s p as λb hb=>h b (by simp [hb]);refine ⟨z::I,?_,.cons hz T⟩;rw[qC2,mapR,e,O];rfl
def rf (p:α->Int->Prop) (T:as.length<=1000) (h:∀a∈as,∃I,mg (s a) (ρ++List.replicate (N'-ρ.length) Sl.un)=some I/\Ok (me I) λw=>∃z,w=.int z/\p a z):∃O:List Int,j6 N' mg yes me (as.map s) ρ=.ok (lI O)/\Paired p as O:=by
 obtain ⟨O,e,hp⟩:=pE (f:=elR mg yes me (ρ++List.replicate (N'-ρ.length) Sl.un)) s p as λa ha=>by
  obtain ⟨I,e1,w,e2,z,rfl,hz⟩:=h a ha;refine ⟨z,?_,hz⟩;unfold elR;rw[e1];have hy:yes I=.ok true:=rfl;dsimp only;rw[hy];dsimp only;rw[e2]
 refine ⟨O,?_,hp⟩;unfold j6;rw[qA5,qA2 T,e]
def mF {p:Nat->Int->Prop}(h:Paired p (List.range n) I):I.length=n/\∀k,k<n->p k (I.getD k 0):=by
 have T:(List.range n).length=I.length:=Paired.length h;rw[qF4]at T;refine ⟨T.symm,λk hk=>?_⟩;have O:∀(l:Zw) (I:Zz) (k:Nat) (a:Nat),Paired p l I->l[k]?=some a->p a (I.getD k 0):=by
  intro l
  induction l with
  |nil=>intro I k a _ e;simp at e
  | cons b l ih=>
   intro I k a q e;cases q with
   | cons h1 h2=>
    cases k with
    |zero=>simp at e;subst e;show h1
    |succ k=>simp at e;simpa using ih _ k a h2 e
 show O _ I k k h (by simp [hk])
def OkL (r:R Zk)(P:List W->Prop):Prop:=∃w,r=.ok w/\P w
def Fm (h:Ok r Jr):Po (r>>=je) Jn Jr:=by
 obtain ⟨w,rfl,q⟩:=h;show q
def ui (h:Ok r λw=>Jn (ρ.set i (f w))):Po (jP r f i ρ) Jn Jr:=by
 obtain ⟨w,rfl,q⟩:=h;show q
def pb (h:Ok r λw=>Po (n (ρ.set i (f w))) Jn Jr):Po (andThen (jP r f i ρ) n) Jn Jr:=ax (ui h)
def mQ (h:OkL r λw=>Ok (f w) P):Ok (r>>=f) P:=by
 obtain ⟨w,rfl,q⟩:=h;show q
def zB (h:Ok a λx=>P (x::xs)):OkL (iT a (.ok xs)) P:=by
 obtain ⟨w,rfl,q⟩:=h;show ⟨_,rfl,q⟩
def jo (p:α->Int->Prop) (T:as.length<=1000) (h:∀a∈as,∃I,mg (s a) (ρ++List.replicate (N'-ρ.length) Sl.un)=some I/\Ok (me I) λw=>∃z,w=.int z/\p a z) (hp:∀O,Paired p as O->P (lI O)):Ok (j6 N' mg yes me (as.map s) ρ) P:=by
 obtain ⟨O,e,q⟩:=rf (mg:=mg) (me:=me) (ρ:=ρ) (N':=N') p T h;show ⟨_,e,hp O q⟩
def xE (p:α->Int->Prop) (T:as.length<=1000) (h:∀a∈as,∃I,mg (s a) (ρ++List.replicate (N'-ρ.length) Sl.un)=some I/\Ok (me I) λw=>∃z,w=.int z/\p a z) (hp:∀O,Paired p as O->P (tI O)):Ok (iT (j6 N' mg yes me (as.map s) ρ) (.ok [])>>=B9 c) P:=
 mQ (zB (jo p T h λO q=>⟨_,by rw[nG,vE],hp O q⟩))
def uC (p:Nat->Int->Prop) (T:n<=1000) (h:∀k,k<n->∃I,mg (.int (k:Nat)) (ρ++List.replicate (N'-ρ.length) Sl.un)=some I/\Ok (me I) λw=>∃z,w=.int z/\p k z) (hp:∀O:List Int,O.length=n->(∀k,k<n->p k (O.getD k 0))->P (tI O)):Ok (iT (j6 N' mg yes me ((List.range n).map λk=>W.int (k:Nat)) ρ) (.ok [])>>=B9 c) P:=
 xE p (by simpa using T) (λa ha=>h a (by simpa using ha)) λO q=>let ⟨a,b⟩:=mF q;hp O a b
def yo (i j:Int):eK i j=max i j:=by unfold eK;omega
def yn (i j:Int):rD i j=min i j:=by unfold rD;omega
def oW:Option Int->W
 |none=>.non
 |some i=>.int i
def oW_n:oW none=.non:=rfl
def oW_s (i:Int):oW (some i)=.int i:=rfl
def uI (o:VQ):noL (oW o)=true:=by cases o <;> rfl
def HG (o:VQ):chk (oW o)=.ok (oW o):=C1 (uI o)
def az {α:Type}(f:α->W) (h:∀a,noL (f a)=true) (as:List α):n5 (as.map f)=true:=by
 induction as with
 |nil=>rfl
 |cons a as I=>rw[qC2];simp only [n5,h,I,qL1]
def E1 (cs:Vy):n5 (cs.map oW)=true:=az oW uI cs
def HD (c:Bool)(cs:Vy):chks c (cs.map oW)=.ok (.lst (cs.map oW)):=fJ (E1 cs)
def vD (c:Bool)(cs:Vy):aL c (cs.map oW)=.ok (.tup (cs.map oW)):=fK (E1 cs)
def Gs (o:VQ):isN (oW o)=o.isNone:=by cases o <;> rfl
def wL (o:VQ):R9 (oW o)=.val (oW o):=by cases o <;> rfl
def iP {α:Type}(f:α->W){as:List α}{d:α}{i:Int}(h:0<=i/\i<as.length):L2.atI (as.map f) i=some (f (as.getD i.toNat d)):=by
 unfold L2.atI;rw[qA5,bZ h.1 h.2]
 change (as.map f)[i.toNat]?=_;have hi:i.toNat<as.length:=ox;rw[qA6,qA0];simp [hi]
def JT {cs:Vy}{i:Int}(h:0<=i/\i<cs.length):L2.atI (cs.map oW) i=some (oW (cs.getD i.toNat none)):=iP oW h
def appO (cs:Vy)(o:VQ):cs.map oW ++ [oW o]=(cs ++ [o]).map oW:=by rw[qD0];rfl
def iV {α I:Type}(f:α->W) (g:I->W){a:List α}{b:List I}(h:b.length=a.length) (x:α) (y:I):(ck [a.map f,b.map g]).map W.tup=(List.range a.length).map λk=>W.tup [f (a.getD k x),g (b.getD k y)]:=by
 apply qH7;intro i;simp only [ck,qA6,qJ1];by_cases hi:i<a.length
 .have O:i<b.length:=ox;simp [hi,O]
 .simp [hi]
def xg {f:Nat->W}(h:((List.range n).map f)[i]?=some w):i<n/\w=f i:=by
 rw[qA6]at h;cases q:(List.range n)[i]? with
 |none=>rw[q]at h;cases h
 | some k=>
  rw[q]at h;obtain ⟨I,O⟩:=qA9.mp q;simp at I O;subst O;cases h;show ⟨I,rfl⟩
def aA (ns:Zz):noL (tI ns)=true:=F4 ns
def mT (ss:Zq):n5 (ss.map tI)=true:=az tI aA ss
def HC (c:Bool)(ss:Zq):chks c (ss.map tI)=.ok (.lst (ss.map tI)):=fJ (mT ss)
def HJ (c:Bool)(ss:Zq):aL c (ss.map tI)=.ok (.tup (ss.map tI)):=fK (mT ss)
def JS {ss:Zq}{i:Int}(h:0<=i/\i<ss.length):L2.atI (ss.map tI) i=some (tI (ss.getD i.toNat [])):=iP tI h
def Ih (ss:Zq)(s:Zz):ss.map tI ++ [tI s]=(ss ++ [s]).map tI:=by rw[qD0];rfl
def yM {α:Type}(xs:List α)(lo hi:VQ):List α:=(xs.drop (HT.sIx xs.length 0 lo)).take (HT.sIx xs.length xs.length hi-HT.sIx xs.length 0 lo)
def yK (f:α->W) (as:List α) (lo hi:VQ):M8 (as.map f) lo hi=(yM as lo hi).map f:=by
 unfold M8 yM;rw[qA5,<- xC6,<- List.map_take]
def Hy (ss:Zq)(lo hi:VQ):M8 (ss.map tI) lo hi=(yM ss lo hi).map tI:=yK tI ss lo hi
def HK (ss I:Zq):ss.map tI++I.map tI=(ss++I).map tI:=by rw[qD0]
def HL (ss I:Zz):ss.map W.int++I.map W.int=(ss++I).map W.int:=by rw[qD0]
def Ek {lo hi:Int}(h:-1000000<=lo/\lo<=1000000 /\ -1000000<=hi/\hi<=1000000):S4 lo hi=.ok ((List.range (hi-lo).toNat).map λk=>W.int (lo+(k:Nat))):=by
 unfold S4;rw[qA2 h]
def aq {α:Type}(f:α->W) (n:Nat) (h:∀a,shp n (f a)=true) (as:List α):X9 n (as.map f)=true:=by
 induction as with
 |nil=>rfl
 |cons a as I=>rw[qC2];simp only [X9,h,I,qL1]
def Z9 (n:Nat) (i:Int):shp n (.int i)=true:=by cases n <;> rfl
def oS (n:Nat):shp n .non=true:=by cases n <;> rfl
def tH (n:Nat)(b:Bool):shp n (.bl b)=true:=by cases n <;> rfl
def dJ (n:Nat)(ns:Zz):shp (n+1) (tI ns)=true:=aq W.int n (Z9 n) ns
def lN (n:Nat)(ns:Zz):shp (n+1) (lI ns)=true:=aq W.int n (Z9 n) ns
def tG (n:Nat)(ss:Zq):shp (n+2) (.lst (ss.map tI))=true:=aq tI (n+1) (dJ n) ss
def eqI:∀(a b:Zz),PyData.eqvAll (pds (a.map W.int)) (pds (b.map W.int))=decide (a=b)
 | [],[]=>by simp [pds,PyData.eqvAll]
 | [],_::_=>by simp [pds,PyData.eqvAll]
 |_::_,[]=>by simp [pds,PyData.eqvAll]
 | x::a,y::b=>by
  simp only [qC2,pds,pd,PyData.eqvAll,PyData.eqv,eqI a b];by_cases h:x=y <;> by_cases h':a=b <;> simp [h,h']
def He (neg:Bool) (a b:Zz):fEq neg (tI a) (tI b)=.ok (.bl (if neg then !decide (a=b) else decide (a=b))):=by
 unfold fEq;rw[dJ,dJ]
 have:eqW (tI a) (tI b)=decide (a=b):=eqI a b
 rw[this];rfl
def Hj (neg:Bool) (a b:Zz):fEq neg (lI a) (lI b)=.ok (.bl (if neg then !decide (a=b) else decide (a=b))):=by
 unfold fEq;rw[lN,lN]
 have:eqW (lI a) (lI b)=decide (a=b):=eqI a b
 rw[this];rfl
def Hq:∀(a b:Zq),PyData.eqvAll (pds (a.map tI)) (pds (b.map tI))=decide (a=b)
 | [],[]=>by simp [pds,PyData.eqvAll]
 | [],_::_=>by simp [pds,PyData.eqvAll]
 |_::_,[]=>by simp [pds,PyData.eqvAll]
 | x::a,y::b=>by
  simp only [qC2,pds,pd,PyData.eqvAll,PyData.eqv,Hq a b,eqI];by_cases h:x=y <;> by_cases h':a=b <;> simp [h,h']
def Hi (neg:Bool) (a b:Zq):fEq neg (.lst (a.map tI)) (.lst (b.map tI))=.ok (.bl (if neg then !decide (a=b) else decide (a=b))):=by
 unfold fEq;rw[tG,tG]
 have:eqW (.lst (a.map tI)) (.lst (b.map tI))=decide (a=b):=Hq a b
 rw[this];rfl
def U3 (neg:Bool) (i j:Int):fEq neg (.int i) (.int j)=.ok (.bl (if neg then !decide (i=j) else decide (i=j))):=by
 unfold fEq;rw[Z9,Z9]
 have:eqW (.int i) (.int j)=decide (i=j):=by
  by_cases h:i=j <;> simp [eqW,pd,PyData.eqv,h]
 rw[this];rfl
def Hk (neg:Bool) (i j:Bool):fEq neg (.bl i) (.bl j)=.ok (.bl (if neg then !decide (i=j) else decide (i=j))):=by
 unfold fEq;rw[tH,tH]
 have:eqW (.bl i) (.bl j)=decide (i=j):=by cases i <;> cases j <;> rfl
 rw[this];rfl
def nH (neg:Bool) (j:Int):fEq neg .non (.int j)=.ok (.bl neg):=by cases neg <;> rfl
def nI (neg:Bool) (j:Int):fEq neg (.int j) .non=.ok (.bl neg):=by cases neg <;> rfl
def Hg (neg:Bool):fEq neg .non .non=.ok (.bl (!neg)):=by cases neg <;> rfl
def yB (g:List Bool->Bool) (bs:List Bool):Hl g [.lst (bs.map W.bl)]=.ok (.bl (g bs)):=by
 change (toR (og (bs.map W.bl))>>=_)=_;rw[CQ];rfl
def Cn (g:List Int->Int) (ns:Zz):ln g [.lst (ns.map W.int)]=.ok (.int (g ns)):=by
 change (toR (v8 (ns.map W.int))>>=_)=_;rw[ints_map];rfl
def GZ (i:Int):fInt [.int i]=.ok (.int i):=rfl
def Hc (b:Bool):fInt [.bl b]=.ok (.int (if b then 1 else 0)):=rfl
def Hm (i:Int):fAbs [.int i]=.ok (.int (if i<0 then -i else i)):=rfl
def Ho (o:Option Sl) (r:R W) (c:Bool) (i:Nat) (ρ:Rho):R Fl:=match o with
 | some (.own ws)=>r>>=λw=>(match w with
  | .lst us=>if ws.length+us.length<=1000 then (if c||n5 us then .ok (.nx (ρ.set i (.own (ws++us)))) else .stuck) else .stuck
  |_=>.stuck)
 |_=>.stuck
def BK (i:Nat)(c:Bool)(m:Zx)(ρ:Rho):mExt i c m ρ=Ho (ρ[i]?) (m ρ) c i ρ:=rfl
def Hn {ws us:Zk}{c:Bool}{i:Nat}{ρ:Rho}(h:ws.length+us.length<=1000):Ho (some (.own ws)) (.ok (.lst us)) c i ρ=if c||n5 us then .ok (.nx (ρ.set i (.own (ws++us)))) else .stuck:=by
 change (if ws.length+us.length<=1000 then _ else _)=_;rw[qA2 h]
def Ep (o:Option Sl) (i:Nat) (ρ:Rho):R Fl:=match o with
 |some (.own ws)=>.ok (.nx (ρ.set i (.own ws.reverse)))
 |_=>.stuck
def BJ (i:Nat)(ρ:Rho):jv i ρ=Ep (ρ[i]?) i ρ:=rfl
def Ay (ws:Zk)(i:Nat)(ρ:Rho):Ep (some (.own ws)) i ρ=.ok (.nx (ρ.set i (.own ws.reverse))):=rfl
def bO (J:Rho->Prop)(I:Po r J Jr)(O:∀ρ,J ρ->Po (n ρ) Jn Jr):Po (andThen r n) Jn Jr:=ax (I.mono O λ_ h=>h)
def Cg (i j:Int):C9 i j=.int (i+j):=rfl
def Ce (i j:Int):TP.gSub i j=.int (i-j):=rfl
def GL (i j:Int):gLt i j=.bl (decide (i<j)):=rfl
def GM (i j:Int):gLe i j=.bl (decide (i<=j)):=rfl
def GN (i j:Int):gGt i j=.bl (decide (j<i)):=rfl
def GO (i j:Int):gGe i j=.bl (decide (j<=i)):=rfl
def Cf (i:Int):G8 i=.int (-i):=rfl
def yq (i j:Int):zH i j=i+j:=rfl
def ym (i j:Int):Ji i j=i-j:=rfl
def GT {i:Int}(h:0<=i/\i<1000):fStr [.int i]=.ok (.str (toString i)):=by
 change (if i.natAbs.log2<1920 then _ else _)=_;rw[qA2];refine qG5 (Nat.log2_le_self _) ?_;omega
def GY (neg:Bool)(u:W)(b:Bool):fIsB neg u (.bl b)=.ok (.bl (if neg then !bv u b else bv u b)):=rfl
def Gy (i:Int)(b:Bool):bv (.int i) b=false:=rfl
def Gw (b:Bool):bv .non b=false:=rfl
def Gv (x:Str)(b:Bool):bv (.str x) b=false:=rfl
def Gu (x:Zk)(b:Bool):bv (.tup x) b=false:=rfl
def Gx (x:Zk)(b:Bool):bv (.lst x) b=false:=rfl
def Gz (a b:Bool):bv (.bl a) b=(a == b):=rfl
def Rcu (c:Bool)(r:R Zk)(f:List W->R W)(i:Nat)(ρ:Rho):R Fl:=if c then (r>>=λws=>f ws>>=λw=>.ok (.nx (ρ.set i (.par w)))) else .stuck
def Ea (i:Nat)(f:List W->R W)(ma:Zp)(ρ:Rho):sCU i f ma ρ=Rcu (noOwn ρ) (ma ρ) f i ρ:=rfl
def Ip (r:R W)(i:Nat)(ρ:Rho):R Fl:=r>>=λw=>.ok (.nx (ρ.set i (.par w)))
def JW (ws:Zk)(f:List W->R W)(i:Nat)(ρ:Rho):Rcu true (.ok ws) f i ρ=Ip (f ws) i ρ:=rfl
def Dh (w:W)(i:Nat)(ρ:Rho):Ip (.ok w) i ρ=.ok (.nx (ρ.set i (.par w))):=rfl
def uG:noOwn []=true:=rfl
def Bl (w:W)(ρ:Rho):noOwn (.val w::ρ)=noOwn ρ:=rfl
def Bo (w:W)(ρ:Rho):noOwn (.par w::ρ)=noOwn ρ:=rfl
def Bm (ρ:Rho):noOwn (.un::ρ)=noOwn ρ:=rfl
def Cv {g:List Int->Int}{ns:Zz}(h:0<ns.length):Q2 g [tI ns]=.ok (.int (g ns)):=by
 change (toR (v8 (ns.map W.int))>>=_)=_;rw[ints_map]
 change (if 0<ns.length then _ else _)=_;rw[qA2 h]
def cf {g:List Int->Int}{ns:Zz}(h:0<ns.length):Q2 g [lI ns]=.ok (.int (g ns)):=by
 change (toR (v8 (ns.map W.int))>>=_)=_;rw[ints_map]
 change (if 0<ns.length then _ else _)=_;rw[qA2 h]
def Eo (ws:Zk):gu [.lst ws]=.ok ws.reverse:=rfl
def rp0:=Z1 (@yo) (Z1 (@yn) (Z1 (@IN) (Z1 (@IM) (Z1 (@Jd) (Z1 (@Jc) (Z1 (@FK) (Z1 (@div_ii) (Z1 (@Fj) (Z1 (@Ik) (Z1 (@BB) (Z1 (@BC) (Z1 (@vn) (Z1 (@vm) (Z1 (@JR) (Z1 (@Jg) (Z1 (@Ej) (Z1 (@Hz) (Z1 (@DQ) (Z1 (@Ij) (Z1 (@ua) (Z1 (@BI) (Z1 (@sf) (Z1 (@se) (@si))))))))))))))))))))))))
def rp1:=Z1 (@sh) (Z1 (@Je) (Z1 (@JQ) (Z1 (@JP) (Z1 (@Ir) (Z1 (@JO) (Z1 (@JN) (Z1 (@JM) (Z1 (@JU) (Z1 (@JV) (Z1 (@zc) (Z1 (@CT) (Z1 (@yX) (Z1 (@Aj) (Z1 (@DD) (Z1 (@Ai) (Z1 (@AK) (Z1 (@AL) (Z1 (@AJ) (Z1 (@EJ) (Z1 (@EI) (Z1 (@EK) (Z1 (@AF) (Z1 (@Ad) (@Dq))))))))))))))))))))))))
def rp2:=Z1 (@Ab) (Z1 (@xm) (Z1 (@xn) (Z1 (@xl) (Z1 (@AD) (Z1 (@AC) (Z1 (@AE) (Z1 (@xj) (Z1 (@Dr) (Z1 (@AG) (Z1 (@AI) (Z1 (@AH) (Z1 (@sO) (Z1 (@wc) (Z1 (@Aa) (Z1 (@Ac) (Z1 (@IV) (Z1 (@IU) (Z1 (@uq) (Z1 (@Dp) (Z1 (@De) (Z1 (@Db) (Z1 (@wk) (Z1 (@zd) (@DY))))))))))))))))))))))))
def rp3:=Z1 (@Eb) (Z1 (@DZ) (Z1 (@wR) (Z1 (@zb) (Z1 (@Aq) (Z1 (@Az) (Z1 (@wQ) (Z1 (@IB) (Z1 (@IC) (Z1 (@IF) (Z1 (@Df) (Z1 (@tD) (Z1 (@tq) (Z1 (@tE) (Z1 (@wM) (Z1 (@tz) (Z1 (@tu) (Z1 (@IE) (Z1 (@Di) (Z1 (@sX) (Z1 (@As) (Z1 (@Dg) (Z1 (@Ar) (Z1 (@GQ) (@yw))))))))))))))))))))))))
def rp4:=Z1 (@yt) (Z1 (@yu) (Z1 (@Ch) (Z1 (@ju) (Z1 (@Et) (Z1 (@Er) (Z1 (@Es) (Z1 (@Eu) (Z1 (@Ev) (Z1 (@Ey) (Z1 (@Ew) (Z1 (@Ex) (Z1 (@Ez) (Z1 (@EA) (Z1 (@EB) (Z1 (@EC) (Z1 (@re) (Z1 (@xb) (Z1 (@wZ) (Z1 (@xa) (Z1 (@BM) (Z1 (@BH) (Z1 (@Ap) (Z1 (@tK) (@BL))))))))))))))))))))))))
def rp5:=Z1 (@CU) (Z1 (@FN) (Z1 (@GD) (Z1 (@GE) ((((((Z1 (@Cz) (Z1 (@CA) (Z1 (@Hd) (Z1 (@fU_i) (Z1 (@Jm) (Z1 (@Jk) (Z1 (@Jl) (Z1 (@wA) (Z1 (@Dz) (Z1 (@GW) (Z1 (@GU) (Z1 (@GV) (Z1 (@Cl) (Z1 (@Ck) (Z1 (@nG) (@GS))))))))))))))))))))))))
def rp6:=Z1 (@HB) (Z1 (@HI) (Z1 (@HE) (Z1 (@vE) (Z1 (@CI) (Z1 (@HH) (Z1 (@CG) (Z1 (@CH) (Z1 (@HF) (Z1 (@Jo) (Z1 (@DV) (Z1 (@DT) (Z1 (@DU) (Z1 (@Em) (Z1 (@El) (Z1 (@gN_U) (Z1 (@gN_V) (Z1 (@gT_t) (Z1 (@yk) (Z1 (@Cb) (Z1 (@Cm) (Z1 (@Ge) (Z1 (@Gf) (Z1 (@Gi) (@FY))))))))))))))))))))))))
def rp7:=Z1 (@GX) (Z1 (@F4) (Z1 (@Ct) (Z1 (@Cu) (Z1 (@Cp) (Z1 (@Cq) (Z1 (@Cr) (@Cs)))))))
def rp8:=Z1 (@oW_n) (Z1 (@oW_s) (Z1 (@HG) (Z1 (@E1) (Z1 (@HD) (Z1 (@vD) (Z1 (@Gs) (Z1 (@wL) (Z1 (@JT) (@appO)))))))))
def rp9:=Z1 (@mT) (Z1 (@HC) (Z1 (@HJ) (Z1 (@JS) (Z1 (@Ih) (Z1 (@Hy) (Z1 (@HK) (Z1 (@HL) (Z1 (@Ek) (Z1 (@He) (Z1 (@Hj) (Z1 (@Hi) (Z1 (@U3) (Z1 (@Hk) (Z1 (@nH) (Z1 (@nI) (Z1 (@Hg) ((Z1 (@yB) (Z1 (@Cn) (Z1 (@GZ) (Z1 (@Hc) (Z1 (@Hm) (Z1 (@BK) (Z1 (@Hn) (Z1 (@BJ) (@Ay))))))))))))))))))))))))))
def rp10:=Z1 (@Cg) (Z1 (@Ce) (Z1 (@GL) (Z1 (@GM) (Z1 (@GN) (Z1 (@GO) (Z1 (@Cf) (Z1 (@yq) (@ym))))))))
def rp11:=Z1 (@GT) (Z1 (@GY) (Z1 (@Gy) (Z1 (@Gw) (Z1 (@Gv) (Z1 (@Gu) (Z1 (@Gx) (@Gz)))))))
def rp12:=Z1 (@Ea) (Z1 (@JW) (Z1 (@Dh) (Z1 (@uG) (Z1 (@Bl) (Z1 (@Bo) (@Bm))))))
def rp13:=Z1 (@Cv) (Z1 (@cf) (@Eo))
end TP
set_option maxHeartbeats 4000000
open PySem L2 TP
namespace K95
def no:Zy:=
 (j3 (bA (B9 true) (aC (j8 3 (bI K9 (aC (b2 fIx (b8 .B 0) (mC (.int 0))) (aC (b2 fIx (b8 .B 0) (mC (.int 1))) aN))) (gT 2 (o5 (gN .U 1) (o5 (gN .U 2) gsNil))) yes (b2 (fI0 gSub) (b8 .B 2) (b8 .B 1))) aN)))
abbrev aI:List W->R W:=i4 1 1 no
def nc:Zy:=
 (j3 (bA (B9 true) (aC (j8 5 (bI K9 (aC (b8 .B 0) (aC (b2 fIx (b8 .B 1) (mC (.int 0))) (aC (b2 fIx (b8 .B 1) (mC (.int 1))) aN)))) (gT 3 (o5 (gN .U 2) (o5 (gN .U 3) (o5 (gN .U 4) gsNil)))) yes (bA (f2 eK) (aC (b8 .B 3) (aC (b2 (fI0 C9) (b2 (fI0 gSub) (b8 .B 2) (b8 .B 4)) (b8 .B 3)) aN)))) aN)))
abbrev gK:List W->R W:=i4 2 2 nc
def eC:Zy:=
 (j3 (bA (B9 true) (aC (j8 4 (bI K9 (aC (b8 .B 0) (aC (b8 .B 1) aN))) (gT 2 (o5 (gN .U 2) (o5 (gN .U 3) gsNil))) yes (bA (f2 eK) (aC (b8 .B 2) (aC (b8 .B 3) aN)))) aN)))
abbrev U1:List W->R W:=i4 2 2 eC
def pF:Zy:=
 (d9 (C4 (bI K9 (aC (b8 .U 0) (aC (b8 .U 1) aN))) (gT 2 (o5 (gN .U 2) (o5 (gN .U 3) gsNil)))
   (mIf (fm (g8 (b2 (D1 true) (b8 .B 3) (mC .non))) (Q3 (g8 (b2 (D1 false) (b8 .B 2) (mC .non))) (g8 (b2 (fI0 gGt) (b8 .B 2) (b8 .B 3))))) (j3 (mC (.bl false))) sNx))
  (j3 (mC (.bl true))))
abbrev ae:List W->R W:=i4 2 4 pF
def fS:Zy:=
 (d9 (C4 (bS (b8 .U 1)) (gN .U 2)
   (mIf (g8 (bA ae (aC (b8 .B 0) (aC (b8 .B 2) aN)))) (j3 (mC (.bl true))) sNx))
  (j3 (mC (.bl false))))
abbrev P4:List W->R W:=i4 2 3 fS
def iy:Zy:=
 (j3 (bA ae (aC (b2 fIx (b8 .B 1) (mC (.int 0))) (aC (b8 .B 0) aN))))
abbrev Z4:List W->R W:=i4 2 2 iy
def fW:Zy:=
 (d9 (mIf (D8 (g8 (bA Z4 (aC (b8 .B 0) (aC (b8 .B 1) aN))))) tQ sNx)
  (j3 (bA (B9 true) (aC (j8 4 (bI K9 (aC (b8 .B 0) (aC (bA aI (aC (b8 .B 1) aN)) aN))) (gT 2 (o5 (gN .U 2) (o5 (gN .U 3) gsNil))) yes (vIf (g8 (b2 (D1 false) (b8 .B 2) (mC .non))) (mC .non) (b2 (fI0 C9) (b8 .B 2) (b8 .B 3)))) aN))))
abbrev W3:List W->R W:=i4 2 2 fW
def ng:Zy:=
 (d9 (mIf (D8 (g8 (bA ae (aC (b8 .B 1) (aC (b8 .B 0) aN))))) (x3 .F 0) sNx)
  (j3 (bA (B9 true) (aC (j8 4 (bI K9 (aC (b8 .B 0) (aC (b8 .B 1) aN))) (gT 2 (o5 (gN .U 2) (o5 (gN .U 3) gsNil))) yes (vIf (g8 (b2 (fEq false) (b8 .B 2) (b8 .B 3))) (b8 .V 2) (mC .non))) aN))))
abbrev aF:List W->R W:=i4 2 2 ng
def iw:Zy:=
 (j3 (bA (B9 true) (aC (j8 2 (bS (b8 .B 0)) (gN .U 1) yes (vIf (g8 (b2 (D1 false) (b8 .B 1) (mC .non))) (G7 (aC (mC (.int 1)) (aC (mC (.int 0)) aN))) (G7 (aC (mC (.int 0)) (aC (b8 .V 1) aN))))) aN)))
abbrev N8:List W->R W:=i4 1 1 iw
def uQ:Zy:=
 (d9 (sF 1 (C2 aN))
  (d9 (C4 (bS (bA (eP false N8) (aC (b8 .B 0) aN))) (gN .U 2)
   (mIf (D8 (g8 (bA P4 (aC (b8 .B 2) (aC (b8 .B 1) aN))))) (T8 1 (b8 .V 2)) sNx))
  (d9 (jv 1)
  (x3 .F 1))))
abbrev nF:List W->R W:=i4 1 3 uQ
def ir:Zy:=
 (d9 (sF 2 (C2 aN))
  (d9 (sV 3 (b8 .V 1))
  (d9 (P3 (g8 (b2 (D1 true) (b8 .B 3) (mC .non))) (d9 (T8 2 (b8 .V 3))
   (sU 3 (b2 fIx (b2 fIx (b8 .B 0) (b8 .B 3)) (mC (.int 1))))))
  (x3 .F 2))))
abbrev D0:List W->R W:=i4 2 4 ir
def X1 (p:Addr):Zy:=
 (d9 (nb (sU 4 (b2 fIx (b2 fIx (b8 .B 0) (mC (.int 1))) (b8 .B 3))))
  (d9 (mIf (D8 (g8 (bA Z4 (aC (b2 fIx (b2 fIx (b8 .B 1) (b8 .B 2)) (mC (.int 0))) (aC (b8 .B 4) aN))))) qG (nb sNx))
  (d9 (nb (sF 5 (bA W3 (aC (b2 fIx (b2 fIx (b8 .B 1) (b8 .B 2)) (mC (.int 0))) (aC (b8 .B 4) aN)))))
  (d9 (nb (C4 (bS (bA D0 (aC (b8 .B 1) (aC (b8 .B 2) aN)))) (gN .U 6)
   (sF 5 (bA aF (aC (b8 .B 5) (aC (b2 fIx (b2 fIx (b8 .B 1) (b8 .B 6)) (mC (.int 0))) aN))))))
  (mIf (D8 (g8 (bA P4 (aC (b8 .B 5) (aC (j8 8 (bS (b8 .B 1)) (gN .U 7) yes (V3 (b2 fIx (b8 .B 7) (mC (.int 0))))) aN))))) (fD p 1 (G7 (aC (b8 .V 5) (aC (b8 .V 2) (aC (b8 .V 3) aN))))) (nb sNx))))))
abbrev iE:W->List W->List W->R Zk:=K7 4 7 X1
def nj:Zy:=
 (d9 (sF 2 (C2 (aC (G7 (aC (V3 (b2 fIx (b8 .B 0) (mC (.int 0)))) (aC (mC .non) (aC (mC .non) aN)))) aN)))
  (d9 (sV 3 (mC (.int 0)))
  (d9 (P3 (g8 (b2 (fI0 gLt) (b8 .B 3) (bA fLen (aC (b8 .B 2) aN)))) (d9 (C4 (bI C5 (aC (bA fLen (aC (b2 fIx (b8 .B 0) (mC (.int 1))) aN)) aN)) (gN .U 4)
    (mIO 2 iE (b8 .B 0) (aC (b8 .B 3) (aC (b8 .B 4) aN))))
   (d9 (mIf (g8 (b2 (fI0 gGt) (bA fLen (aC (b8 .B 2) aN)) (b8 .B 1))) (j3 (mC .non)) sNx)
   (nt 3 zH (mC (.int 1))))))
  (x3 .F 2))))
abbrev Q7:List W->R W:=i4 2 5 nj
def jt:Zy:=
 (d9 (sF 2 (bA Q7 (aC (b8 .B 0) (aC (b8 .B 1) aN))))
  (d9 (mIf (g8 (b2 (D1 false) (b8 .B 2) (mC .non))) (j3 (mC .non)) sNx)
  (j3 (bA nF (aC (j8 4 (bS (b8 .B 2)) (gN .U 3) yes (V3 (b2 fIx (b8 .B 3) (mC (.int 0))))) aN)))))
abbrev ca:List W->R W:=i4 2 3 jt
def ko:Zy:=
 (j3 (b2 fRepT (G7 (aC (mC (.int 0)) aN)) (bA fLen (aC (b2 fIx (b8 .B 0) (mC (.int 0))) aN))))
abbrev ba:List W->R W:=i4 1 1 ko
def ni:Zy:=
 (d9 (sF 2 (bA ba (aC (b8 .B 0) aN)))
  (d9 (C4 (bI gu (aC (b8 .U 1) aN)) (gN .U 3)
   (sF 2 (bA gK (aC (b8 .B 2) (aC (b2 fIx (b2 fIx (b8 .B 0) (mC (.int 1))) (b8 .B 3)) aN)))))
  (x3 .F 2)))
abbrev aG:List W->R W:=i4 2 4 ni
def aW:Zy:=
 (j3 (bA (B9 true) (aC (j8 5 (bI K9 (aC (b8 .B 0) (aC (b8 .B 1) aN))) (gT 2 (o5 (gN .U 3) (o5 (gN .U 4) gsNil))) yes (b2 (fI0 C9) (b8 .B 3) (b2 (fI CMulB o8) (b8 .B 2) (b8 .B 4)))) aN)))
abbrev J5:List W->R W:=i4 3 3 aW
def mZ:Zy:=
 (d9 (sF 2 (bA ba (aC (b8 .B 0) aN)))
  (d9 (C4 (bS (b8 .U 1)) (gN .U 3)
   (sF 2 (bA J5 (aC (b8 .B 2) (aC (bA aI (aC (b2 fIx (b2 fIx (b8 .B 0) (mC (.int 1))) (b8 .B 3)) aN)) (aC (mC (.int 1)) aN))))))
  (x3 .F 2)))
abbrev Q6:List W->R W:=i4 2 4 mZ
def zC:Zy:=
 (j3 (bA iF (aC (bA D0 (aC (b8 .B 0) (aC (b8 .B 1) aN))) aN)))
abbrev rG:List W->R W:=i4 2 2 zC
def dq:Zy:=
 (d9 (sF 3 (bA rG (aC (b8 .B 0) (aC (b8 .B 2) aN))))
  (j3 (j8 5 (bS (vSl true (b8 .C 3) (pS (b2 (fI0 C9) (nr (b8 .B 3) (b8 .B 1)) (mC (.int 1)))) pN)) (gN .U 4) yes (V3 (b2 fIx (b2 fIx (b8 .B 0) (b8 .B 4)) (mC (.int 2)))))))
abbrev P9:List W->R W:=i4 3 4 dq
def iu:Zy:=
 (d9 (sU 3 (b2 fIx (b8 .B 1) (b8 .B 2)))
  (j3 (bA W3 (aC (b2 fIx (b2 fIx (b8 .B 1) (b2 fIx (b8 .B 3) (mC (.int 1)))) (mC (.int 0))) (aC (b2 fIx (b2 fIx (b8 .B 0) (mC (.int 1))) (b2 fIx (b8 .B 3) (mC (.int 2)))) aN)))))
abbrev T9:List W->R W:=i4 3 4 iu
def ix:Zy:=
 (d9 (mIf (g8 (b2 (v6 false) (b8 .B 2) (mC (.int 0)))) (j3 (C2 aN)) sNx)
  (d9 (sF 3 (C2 aN))
  (d9 (sF 4 (bA T9 (aC (b8 .B 0) (aC (b8 .B 1) (aC (b8 .B 2) aN)))))
  (d9 (C4 (bS (vSl true (bA D0 (aC (b8 .B 1) (aC (b8 .B 2) aN))) (pS (mC (.int 1))) pN)) (gN .U 5)
   (d9 (sF 6 (bA aF (aC (b8 .B 4) (aC (b2 fIx (b2 fIx (b8 .B 1) (b8 .B 5)) (mC (.int 0))) aN))))
   (d9 (sF 7 (bA (B9 true) (aC (j8 9 (bI C5 (aC (bA fLen (aC (b8 .B 4) aN)) aN)) (gN .U 8) (g8 (b2 (fEq true) (b2 fIx (b8 .B 6) (b8 .B 8)) (b2 fIx (b8 .B 4) (b8 .B 8)))) (b8 .V 8)) aN)))
   (d9 (mIf (g8 (b2 (fI0 gGt) (bA fLen (aC (b8 .B 7) aN)) (mC (.int 0)))) (T8 3 (G7 (aC (b8 .V 5) (aC (b8 .V 7) aN)))) sNx)
   (dN 6 (sV 4 (b8 .V 6)))))))
  (x3 .F 3)))))
abbrev U0:List W->R W:=i4 3 8 ix
def bV:Zy:=
 (d9 (sF 4 (bA aG (aC (b8 .B 0) (aC (b8 .B 1) aN))))
  (d9 (sF 5 (bA Q6 (aC (b8 .B 0) (aC (b8 .B 1) aN))))
  (d9 (sF 6 (bA U1 (aC (b8 .B 4) (aC (bA J5 (aC (b8 .B 4) (aC (b8 .B 5) (aC (b2 (fI0 gSub) (mC (.int 1)) (b8 .B 2)) aN)))) aN))))
  (j3 (bA U1 (aC (b8 .B 6) (aC (bA J5 (aC (b8 .B 3) (aC (b8 .B 5) (aC (b1 (fU G8) (b8 .B 2)) aN)))) aN)))))))
abbrev D4:List W->R W:=i4 4 7 bV
def fV:Zy:=
 (j3 (bA (Q2 C7) (aC (b2 (rL true) (C2 (aC (mC (.int 0)) aN)) (j8 5 (bS (b8 .B 2)) (gN .U 4) yes (b1 (fU G8) (b2 (fI O1 K3) (b2 (fI0 gSub) (b2 fIx (b8 .B 0) (b8 .B 4)) (b2 fIx (b8 .B 3) (b8 .B 4))) (b2 fIx (b8 .B 1) (b8 .B 4)))))) aN)))
abbrev W2:List W->R W:=i4 4 4 fV
def pG:Zy:=
 (d9 (sF 4 (bA (B9 true) (aC (j8 13 (bS (b2 fIx (b2 fIx (b8 .B 1) (b8 .B 2)) (mC (.int 0)))) (gN .U 12) yes (vIf (g8 (b2 (D1 false) (b8 .B 12) (mC .non))) (b8 .V 3) (b8 .V 12))) aN)))
  (d9 (sF 5 (C2 aN))
  (d9 (C4 (bS (vSl true (bA D0 (aC (b8 .B 1) (aC (b8 .B 2) aN))) pN (pS (b1 (fU G8) (mC (.int 1)))))) (gN .U 6)
   (d9 (sF 7 (bA T9 (aC (b8 .B 0) (aC (b8 .B 1) (aC (b8 .B 6) aN)))))
   (d9 (C4 (bI gu (aC (bA U0 (aC (b8 .B 0) (aC (b8 .B 1) (aC (b8 .B 6) aN)))) aN)) (gT 2 (o5 (gN .U 8) (o5 (gN .U 9) gsNil)))
    (d9 (sF 10 (bA P9 (aC (b8 .B 1) (aC (b8 .B 8) (aC (b8 .B 6) aN)))))
    (d9 (sF 11 (bA W2 (aC (b8 .B 7) (aC (bA Q6 (aC (b8 .B 0) (aC (b8 .B 10) aN))) (aC (b8 .B 9) (aC (b8 .B 4) aN))))))
    (mIf (g8 (b2 (fI0 gGt) (b8 .B 11) (mC (.int 0)))) (d9 (dN 11 (dN 10 (T8 5 (G7 (aC (b8 .V 10) (aC (b8 .V 11) aN))))))
     (sF 4 (bA D4 (aC (b8 .B 0) (aC (b8 .B 10) (aC (b8 .B 11) (aC (b8 .B 4) aN))))))) sNx))))
   (d9 (T8 5 (G7 (aC (C2 (aC (V3 (b2 fIx (b2 fIx (b8 .B 1) (b8 .B 6)) (mC (.int 2)))) aN)) (aC (mC (.int 1)) aN))))
   (sF 4 (bA D4 (aC (b8 .B 0) (aC (C2 (aC (V3 (b2 fIx (b2 fIx (b8 .B 1) (b8 .B 6)) (mC (.int 2)))) aN)) (aC (mC (.int 1)) (aC (b8 .B 4) aN))))))))))
  (d9 (jv 5)
  (x3 .F 5)))))
abbrev ce:List W->R W:=i4 4 12 pG
def nh:Zy:=
 (d9 (sF 3 (bA ca (aC (b8 .B 0) (aC (b8 .B 2) aN))))
  (d9 (mIf (g8 (b2 (D1 false) (b8 .B 3) (mC .non))) (j3 (G7 (aC (mC (.str "open")) aN))) sNx)
  (d9 (sF 4 (j8 6 (bS (b8 .B 3)) (gN .U 5) yes (V3 (b2 fIx (b8 .B 5) (b8 .B 1)))))
  (d9 (mIf (g8 (b2 (fIn false) (mC .non) (b8 .B 4))) (j3 (G7 (aC (mC (.str "grows")) aN))) sNx)
  (j3 (G7 (aC (mC (.str "at most")) (aC (bA (Q2 C7) (aC (b8 .B 4) aN)) aN))))))))
abbrev eL:List W->R W:=i4 3 5 nh
def uP:Zy:=
 (j3 (bA (B9 true) (aC (j8 3 (bI C5 (aC (b8 .B 1) aN)) (gN .U 2) yes (vIf (g8 (b2 (fEq false) (b8 .B 2) (b8 .B 0))) (mC (.int 1)) (mC (.int 0)))) aN)))
abbrev iD:List W->R W:=i4 2 2 uP
def dr:Zy:=
 (d9 (sF 3 (j8 6 (bS (b8 .B 0)) (gN .U 5) yes (bA aI (aC (b8 .B 5) aN))))
  (d9 (sF 4 (j8 6 (bI C5 (aC (b8 .B 2) aN)) (gN .U 5) yes (b2 fCatT (bA (B9 true) (aC (j8 7 (bS (b8 .B 3)) (gN .U 6) yes (b1 (fU G8) (b2 fIx (b8 .B 6) (b8 .B 5)))) aN)) (bA iD (aC (b8 .B 5) (aC (b8 .B 2) aN))))))
  (d9 (T8 4 (b2 fCatT (bA (B9 true) (aC (j8 6 (bS (b8 .B 3)) (gN .U 5) yes (V3 (b2 fIx (b8 .B 5) (b8 .B 1)))) aN)) (b2 fRepT (G7 (aC (mC (.int 0)) aN)) (b8 .C 2))))
  (x3 .F 4))))
abbrev Q0:List W->R W:=i4 3 5 dr
def nk:Zy:=
 (d9 (C4 (bI bC (aC (b2 fIx (b8 .B 0) (b1 (fU G8) (mC (.int 1)))) aN)) (gT 2 (o5 (gN .U 1) (o5 (gN .U 2) gsNil)))
   (mIf (g8 (b2 (fI0 gGt) (b8 .B 2) (mC (.int 0)))) (x3 .F 1) sNx))
  (j3 (mC .non)))
abbrev aH:List W->R W:=i4 1 3 nk
def kq:Zy:=
 (d9 (sF 3 (j8 5 (bI C5 (aC (bA fLen (aC (b8 .B 1) aN)) aN)) (gN .U 4) (g8 (b2 (fI0 gGt) (b2 fIx (b2 fIx (b8 .B 0) (b8 .B 4)) (b8 .B 2)) (mC (.int 0)))) (b8 .V 4)))
  (j3 (iO 1 (aC (b8 .B 3) aN))))
abbrev eM:List W->R W:=i4 3 4 kq
def kx:Zy:=
 (j3 (bA (B9 true) (aC (j8 6 (bI K9 (aC (b8 .B 0) (aC (b8 .B 1) aN))) (gT 2 (o5 (gN .U 4) (o5 (gN .U 5) gsNil))) yes (b2 (fI O1 K3) (b2 (fI0 gSub) (b2 (fI CMulB o8) (b8 .B 4) (b2 fIx (b8 .B 1) (b8 .B 2))) (b2 (fI CMulB o8) (b2 fIx (b8 .B 0) (b8 .B 2)) (b8 .B 5))) (b8 .B 3))) aN)))
abbrev eN:List W->R W:=i4 4 4 kx
def km:Zy:=
 (d9 (sU 4 (b2 fIx (b8 .B 0) (b8 .B 1)))
  (j3 (j8 7 (bI bC (aC (b8 .B 0) aN)) (gT 2 (o5 (gN .U 5) (o5 (gN .U 6) gsNil))) yes (vIf (g8 (b2 (fEq false) (b8 .B 5) (b8 .B 1))) (b8 .V 6) (bA eN (aC (b8 .B 6) (aC (b8 .B 4) (aC (b8 .B 2) (aC (b8 .B 3) aN)))))))))
abbrev aZ:List W->R W:=i4 4 5 km
def X2:Zy:=
 (d9 (P3 (g8 (b2 (v6 true) (b8 .B 1) (mC (.int 0)))) (d9 (sV 2 (b2 (fI t9 u8) (b8 .B 0) (b8 .B 1)))
   (d9 (sV 0 (b8 .V 1))
   (sV 1 (b8 .V 2)))))
  (x3 .F 0))
abbrev F7:List W->R W:=i4 2 3 X2
def W9:Zy:=
 (d9 (sV 1 (mC (.int 0)))
  (d9 (C4 (bS (b8 .U 0)) (gN .U 2)
   (sF 1 (bA F7 (aC (b8 .B 1) (aC (b8 .B 2) aN)))))
  (j3 (bA (B9 true) (aC (j8 4 (bS (b8 .B 0)) (gN .U 3) yes (b2 (fI O1 K3) (b8 .B 3) (b8 .B 1))) aN)))))
abbrev F6:List W->R W:=i4 1 3 W9
def eB:Zy:=
 (d9 (sF 4 (j8 6 (bS (ly (b2 fIx (b8 .B 0) (b1 (fU G8) (mC (.int 1)))) (pS (b8 .B 3)) pN)) (gN .U 5) yes (b1 (fU G8) (b8 .B 5))))
  (j3 (bA F6 (aC (bA J5 (aC (b8 .B 4) (aC (bA iD (aC (b8 .B 1) (aC (bA fLen (aC (b8 .B 4) aN)) aN))) (aC (b8 .B 2) aN)))) aN))))
abbrev aE:List W->R W:=i4 4 5 eB
def nq:Zy:=
 (d9 (sF 5 (b2 (gM true) (C2 (aC (mC (.int 0)) aN)) (bA fLen (aC (b2 fIx (b8 .B 0) (mC (.int 0))) aN))))
  (d9 (cR 5 (b8 .B 2) (b8 .V 3))
  (d9 (C4 (bI bC (aC (b8 .U 1) aN)) (gT 2 (o5 (gN .U 6) (o5 (gN .U 7) gsNil)))
   (cR 5 (b8 .B 7) (b1 (fU G8) (b2 fIx (b2 fIx (b8 .B 0) (b8 .B 6)) (b8 .B 2)))))
  (j3 (bA F6 (aC (vSl true (b8 .C 5) pN (pS (b8 .B 4))) aN))))))
abbrev gL:List W->R W:=i4 5 8 nq
def kz:Zy:=
 (d9 (sF 3 (bA Q0 (aC (b8 .B 0) (aC (b8 .B 1) (aC (b8 .B 2) aN)))))
  (d9 (sF 4 (j8 9 (bI C5 (aC (b8 .B 2) aN)) (gN .U 8) yes (b2 (fI0 C9) (bA fLen (aC (b8 .B 0) aN)) (b8 .B 8))))
  (d9 (sV 5 (mC (.int 1)))
  (d9 (sF 6 (bA aH (aC (b8 .B 3) aN)))
  (d9 (P3 (g8 (b2 (D1 true) (b8 .B 6) (mC .non))) (d9 (sF 7 (bA eM (aC (b8 .B 3) (aC (b8 .B 4) (aC (b8 .B 6) aN)))))
   (d9 (mIf (g8 (b2 (D1 false) (b8 .B 7) (mC .non))) (j3 (G7 (aC (mC (.str "bag")) (aC (bA gL (aC (b8 .B 3) (aC (b8 .B 4) (aC (b8 .B 6) (aC (b8 .B 5) (aC (bA fLen (aC (b8 .B 0) aN)) aN)))))) aN)))) sNx)
   (d9 (sF 3 (bA aZ (aC (b8 .B 3) (aC (b8 .B 7) (aC (b8 .B 6) (aC (b8 .B 5) aN))))))
   (d9 (dN 6 (cR 4 (b8 .B 7) (b8 .V 6)))
   (d9 (sV 5 (b2 fIx (b2 fIx (b8 .C 3) (b8 .C 7)) (b8 .C 6)))
   (sF 6 (bA aH (aC (b8 .B 3) aN)))))))))
  (j3 (G7 (aC (mC (.str "weights")) (aC (bA aE (aC (b8 .B 3) (aC (b8 .B 1) (aC (b8 .B 5) (aC (bA fLen (aC (b8 .B 0) aN)) aN))))) aN)))))))))
abbrev eO:List W->R W:=i4 3 8 kz
def W1:Zy:=
 (d9 (mIf (g8 (b2 (fI0 gLt) (b8 .B 1) (bA fLen (aC (b8 .B 0) aN)))) (j3 (V3 (b2 fIx (b8 .B 0) (b8 .B 1)))) sNx)
  (d9 (sV 2 (b2 (fI0 C9) (b2 (fI CMulB o8) (mC (.int 130003)) (b8 .B 1)) (mC (.int 53))))
  (d9 (mIf (g8 (b2 (fI0 gGt) (bA fLen (aC (b8 .B 0) aN)) (mC (.int 0)))) (sV 2 (b2 (fI0 C9) (b2 (fI0 C9) (b2 (fI CMulB o8) (b2 fIx (b8 .B 0) (b2 (fI t9 u8) (b2 (fI CMulB o8) (b8 .B 1) (mC (.int 47))) (bA fLen (aC (b8 .B 0) aN)))) (mC (.int 39373))) (b2 (fI CMulB o8) (b2 (fI CMulB o8) (b8 .B 1) (b8 .B 1)) (mC (.int 1013)))) (mC (.int 23)))) sNx)
  (j3 (b2 (fI t9 u8) (b2 (fI CMulB o8) (b8 .B 2) (b8 .B 2)) (mC (.int 2147483497)))))))
abbrev p9:List W->R W:=i4 2 3 W1
def fY:Zy:=
 (d9 (sF 5 (C2 aN))
  (d9 (sF 6 (C2 aN))
  (d9 (C4 (bI C5 (aC (b8 .B 2) aN)) (gN .U 7)
   (d9 (sF 8 (bA p9 (aC (b8 .B 0) (aC (b2 (fI0 C9) (b8 .B 1) (b8 .B 7)) aN))))
   (d9 (T8 5 (b2 fIx (C2 (aC (mC (.int 0)) (aC (mC (.int 1)) (aC (mC (.int 0)) (aC (mC (.int 0)) (aC (mC (.int 1)) (aC (mC (.int 2)) aN))))))) (b2 (fI t9 u8) (b8 .B 8) (mC (.int 6)))))
   (T8 6 (b2 (fI CMulB o8) (b2 fIx (C2 (aC (mC (.int 0)) (aC (mC (.int 1)) (aC (mC (.int 0)) (aC (mC (.int 1)) (aC (mC (.int 0)) (aC (mC (.int 2)) (aC (mC (.int 0)) (aC (mC (.int 0)) aN))))))))) (b2 (fI t9 u8) (b2 (fI O6 K3) (b8 .B 8) (mC (.int 6))) (mC (.int 8)))) (b8 .B 4))))))
  (d9 (mIf (g8 (b8 .B 3)) (d9 (sV 9 (b2 (fI t9 u8) (b2 (fI O6 K3) (bA p9 (aC (b8 .B 0) (aC (b8 .B 1) aN))) (mC (.int 48))) (b8 .B 2)))
   (d9 (sF 5 (j8 11 (bI C5 (aC (b8 .B 2) aN)) (gN .U 10) yes (bA fInt (aC (b2 (fEq false) (b8 .B 10) (b8 .B 9)) aN))))
   (sF 6 (j8 11 (bI C5 (aC (b8 .B 2) aN)) (gN .U 10) yes (b2 (fI CMulB o8) (b2 (fI CMulB o8) (bA fInt (aC (b2 (v6 false) (b8 .B 10) (b2 (fI t9 u8) (b2 (fI0 C9) (b8 .B 9) (mC (.int 1))) (b8 .B 2))) aN)) (b2 (fI0 C9) (mC (.int 1)) (bA fInt (aC (b2 (v6 false) (b8 .B 9) (mC (.int 1))) aN)))) (b8 .B 4)))))) sNx)
  (j3 (G7 (aC (bA (B9 true) (aC (b8 .C 5) aN)) (aC (bA (B9 true) (aC (b8 .C 6) aN)) aN))))))))
abbrev bB:List W->R W:=i4 5 10 fY
def du:Zy:=
 (d9 (C4 (bI C5 (aC (bA fLen (aC (b8 .B 0) aN)) aN)) (gN .U 2)
   (mIf (g8 (b2 (fI0 gLt) (b2 fIx (b8 .B 0) (b8 .B 2)) (b2 fIx (b8 .B 1) (b8 .B 2)))) (j3 (mC (.bl false))) sNx))
  (j3 (mC (.bl true))))
abbrev E2:List W->R W:=i4 2 3 du
def dz:Zy:=
 (j3 (bA (B9 true) (aC (j8 3 (bI C5 (aC (bA fLen (aC (b8 .B 0) aN)) aN)) (gN .U 2) yes (b2 (fI0 C9) (b2 (fI0 gSub) (b2 fIx (b8 .B 0) (b8 .B 2)) (b2 fIx (b2 fIx (b8 .B 1) (mC (.int 0))) (b8 .B 2))) (b2 fIx (b2 fIx (b8 .B 1) (mC (.int 1))) (b8 .B 2)))) aN)))
abbrev Y3:List W->R W:=i4 2 2 dz
def eG:Zy:=
 (d9 (sF 3 (C2 (aC (b8 .V 1) aN)))
  (d9 (C4 (bI C5 (aC (bA (f2 rD) (aC (mC (.int 40)) (aC (b2 (fI0 C9) (mC (.int 9)) (bA fLen (aC (b8 .B 0) aN))) aN))) aN)) (gN .U 4)
   (d9 (sF 5 (j8 7 (bS (b8 .B 2)) (gN .U 6) (g8 (bA E2 (aC (b2 fIx (b8 .B 3) (b1 (fU G8) (mC (.int 1)))) (aC (b2 fIx (b8 .B 6) (mC (.int 0))) aN)))) (b8 .V 6)))
   (d9 (mIf (g8 (b2 (fEq false) (b8 .B 5) (C2 aN))) (x3 .F 3) sNx)
   (T8 3 (bA Y3 (aC (b2 fIx (b8 .B 3) (b1 (fU G8) (mC (.int 1)))) (aC (b2 fIx (b8 .B 5) (b2 (fI t9 u8) (b2 (fI O6 K3) (bA p9 (aC (b8 .B 0) (aC (b8 .B 4) aN))) (mC (.int 7))) (bA fLen (aC (b8 .B 5) aN)))) aN)))))))
  (x3 .F 3)))
abbrev aJ:List W->R W:=i4 3 6 eG
def fX:Zy:=
 (d9 (sF 3 (b2 (gM true) (C2 (aC (mC (.int 0)) aN)) (b8 .C 2)))
  (d9 (sF 4 (b2 (gM true) (C2 (aC (mC (.int 0)) aN)) (b8 .C 2)))
  (d9 (C4 (bS (b8 .U 0)) (gN .U 5)
   (C4 (bI C5 (aC (b8 .B 2) aN)) (gN .U 6)
    (d9 (cR 3 (b8 .B 6) (bA (f2 eK) (aC (b2 fIx (b8 .B 3) (b8 .B 6)) (aC (b2 (fI0 gSub) (b2 fIx (b2 fIx (b2 fIx (b8 .B 1) (b8 .B 5)) (mC (.int 0))) (b8 .B 6)) (b2 fIx (b8 .B 4) (b8 .B 6))) aN))))
    (cR 4 (b8 .B 6) (b2 (fI0 gSub) (b2 (fI0 C9) (b2 fIx (b8 .B 4) (b8 .B 6)) (b2 fIx (b2 fIx (b2 fIx (b8 .B 1) (b8 .B 5)) (mC (.int 1))) (b8 .B 6))) (b2 fIx (b2 fIx (b2 fIx (b8 .B 1) (b8 .B 5)) (mC (.int 0))) (b8 .B 6)))))))
  (dN 4 (dN 3 (j3 (G7 (aC (b8 .V 3) (aC (b8 .V 4) aN)))))))))
abbrev bz:List W->R W:=i4 3 7 fX
def dw:Zy:=
 (d9 (mIf (Q3 (D8 (g8 (bA fIsi (aC (b8 .B 0) (aC (mC (.ty "list")) aN))))) (g8 (b2 (fI0 gGt) (bA fLen (aC (b8 .B 0) aN)) (mC (.int 100))))) (j3 (mC .non)) sNx)
  (d9 (C4 (bS (b8 .U 0)) (gN .U 3)
   (d9 (mIf (Q3 (D8 (g8 (bA fIsi (aC (b8 .B 3) (aC (mC (.ty "tuple")) aN))))) (Q3 (g8 (b2 (v6 true) (bA fLen (aC (b8 .B 3) aN)) (mC (.int 2)))) (g8 (b2 (fI0 gGt) (bA fLen (aC (b2 fIx (b8 .B 3) (mC (.int 0))) aN)) (mC (.int 30)))))) (j3 (mC .non)) sNx)
   (d9 (sG (gT 2 (o5 (gN .U 4) (o5 (gN .U 5) gsNil))) (b8 .U 3))
   (d9 (mIf (Q3 (g8 (b2 (fI0 gLt) (b8 .B 5) (mC (.int 0)))) (g8 (b2 (fI0 gGt) (bA fLen (aC (j8 10 (bS (b8 .B 4)) (gN .U 9) (D8 (g8 (gR (fI0 gLe) (fI0 gLt) (mC (.int 0)) (b8 .B 9) (bA fLen (aC (b8 .B 2) aN))))) (b8 .V 9)) aN)) (mC (.int 0))))) (j3 (mC .non)) sNx)
   (mIf (g8 (b2 (fI0 gGt) (b8 .B 5) (mC (.int 0)))) (d9 (sG (gT 2 (o5 (gN .U 6) (o5 (gN .U 7) gsNil))) (bA bz (aC (b8 .B 4) (aC (b8 .B 2) (aC (bA fLen (aC (b8 .B 1) aN)) aN)))))
    (d9 (sF 8 (j8 10 (bI C5 (aC (bA fLen (aC (b8 .B 1) aN)) aN)) (gN .U 9) yes (b2 (fI0 C9) (b2 fIx (b8 .B 1) (b8 .B 9)) (b2 (fI CMulB o8) (b2 (fI0 gSub) (b8 .B 5) (mC (.int 1))) (b2 fIx (b8 .B 7) (b8 .B 9))))))
    (d9 (mIf (Q3 (D8 (g8 (bA E2 (aC (b8 .B 1) (aC (b8 .B 6) aN))))) (D8 (g8 (bA E2 (aC (b8 .B 8) (aC (b8 .B 6) aN)))))) (j3 (mC .non)) sNx)
    (sF 1 (bA (B9 true) (aC (j8 10 (bI C5 (aC (bA fLen (aC (b8 .B 1) aN)) aN)) (gN .U 9) yes (b2 (fI0 C9) (b2 fIx (b8 .B 1) (b8 .B 9)) (b2 (fI CMulB o8) (b8 .B 5) (b2 fIx (b8 .B 7) (b8 .B 9))))) aN)))))) sNx)))))
  (x3 .F 1)))
abbrev E3:List W->R W:=i4 3 9 dw
def eE:Zy:=
 (j3 (bA (ln jD) (aC (j8 3 (bI C5 (aC (bA fLen (aC (b8 .B 1) aN)) aN)) (gN .U 2) yes (b2 (fI CMulB o8) (b2 fIx (b8 .B 0) (b8 .B 2)) (b2 fIx (b8 .B 1) (b8 .B 2)))) aN)))
abbrev D7:List W->R W:=i4 2 2 eE
def eD:Zy:=
 (d9 (mIf (Q3 (D8 (g8 (bA fIsi (aC (b8 .B 0) (aC (mC (.ty "tuple")) aN))))) (g8 (b2 (v6 true) (bA fLen (aC (b8 .B 0) aN)) (b8 .B 1)))) (j3 (mC (.bl false))) sNx)
  (j3 (b2 (v6 false) (bA fLen (aC (j8 3 (bS (b8 .B 0)) (gN .U 2) (Q3 (D8 (g8 (bA fIsi (aC (b8 .B 2) (aC (mC (.ty "int")) aN))))) (Q3 (g8 (bA fIsi (aC (b8 .B 2) (aC (mC (.ty "bool")) aN)))) (g8 (b2 (fI0 gLt) (b8 .B 2) (mC (.int 0)))))) (b8 .V 2)) aN)) (mC (.int 0)))))
abbrev U2:List W->R W:=i4 2 2 eD
def bW:Zy:=
 (d9 (mIf (Q3 (D8 (g8 (bA U2 (aC (b8 .B 0) (aC (b8 .B 3) aN))))) (g8 (b2 (fI0 gLt) (b2 fIx (b8 .B 0) (b8 .B 1)) (mC (.int 1))))) (j3 (mC (.bl false))) sNx)
  (d9 (C4 (bS (b8 .U 2)) (gN .U 4)
   (mIf (g8 (b2 (fI0 gGt) (bA D7 (aC (b8 .B 0) (aC (b2 fIx (b8 .B 4) (mC (.int 1))) aN))) (bA D7 (aC (b8 .B 0) (aC (b2 fIx (b8 .B 4) (mC (.int 0))) aN))))) (j3 (mC (.bl false))) sNx))
  (j3 (mC (.bl true)))))
abbrev N9:List W->R W:=i4 4 5 bW
def iz:Zy:=
 (d9 (mIf (D8 (g8 (bA U2 (aC (b8 .B 0) (aC (bA fLen (aC (b8 .B 2) aN)) aN))))) (j3 (mC (.bl false))) sNx)
  (d9 (sF 4 (j8 6 (bI C5 (aC (b8 .B 3) aN)) (gN .U 5) yes (bA (ln jD) (aC (j8 7 (bI C5 (aC (bA fLen (aC (b8 .B 2) aN)) aN)) (gN .U 6) yes (b2 (fI CMulB o8) (b2 fIx (b8 .B 0) (b8 .B 6)) (b2 (fI0 gSub) (b2 fIx (b2 fIx (b2 fIx (b8 .B 2) (b8 .B 6)) (mC (.int 1))) (b8 .B 5)) (b2 fIx (b2 fIx (b2 fIx (b8 .B 2) (b8 .B 6)) (mC (.int 0))) (b8 .B 5))))) aN))))
  (j3 (iX (b2 (fI0 gGe) (bA (Q2 aB) (aC (b8 .B 4) aN)) (mC (.int 0))) (b2 (fI0 gGt) (b2 fIx (b8 .B 4) (b8 .B 1)) (mC (.int 0)))))))
abbrev cY:List W->R W:=i4 4 5 iz
def bX:Zy:=
 (d9 (sF 5 (bA Q7 (aC (b8 .B 0) (aC (b8 .B 1) aN))))
  (d9 (C4 (bI C5 (aC (bA fLen (aC (b8 .B 5) aN)) aN)) (gN .U 6)
   (d9 (sV 7 (b2 fIx (b2 fIx (b2 fIx (b8 .C 5) (b8 .C 6)) (mC (.int 0))) (b8 .C 2)))
   (mIf (Q3 (fm (g8 (b2 (D1 false) (b8 .B 3) (mC .non))) (g8 (b2 (D1 false) (b8 .B 7) (mC .non)))) (fm (g8 (b2 (D1 true) (b8 .B 3) (mC .non))) (g8 (b2 (fEq false) (b8 .B 7) (b8 .B 3))))) (j3 (bA E3 (aC (bA ce (aC (b8 .B 0) (aC (b8 .B 5) (aC (b8 .B 6) (aC (b8 .B 4) aN))))) (aC (b2 fIx (b8 .B 0) (mC (.int 0))) (aC (b2 fIx (b8 .B 0) (mC (.int 1))) aN))))) sNx)))
  (j3 (mC .non))))
abbrev O0:List W->R W:=i4 5 8 bX
def K1:Zy:=
 (d9 (mIf (g8 (b2 (v6 false) (b2 fIx (b8 .B 0) (mC (.int 0))) (mC (.str "grows")))) (d9 (sF 6 (bA O0 (aC (b8 .B 1) (aC (b8 .B 2) (aC (b8 .B 3) (aC (mC .non) (aC (b8 .B 4) aN)))))))
   (j3 (iX (b2 (D1 true) (b8 .B 6) (mC .non)) (b2 (fI0 gGe) (b2 fIx (b8 .B 6) (b8 .B 3)) (b8 .B 4))))) sNx)
  (d9 (mIf (g8 (b2 (v6 true) (b2 fIx (b8 .B 0) (mC (.int 0))) (mC (.str "at most")))) (j3 (b2 (fEq false) (b8 .B 0) (G7 (aC (mC (.str "open")) aN)))) sNx)
  (d9 (sF 6 (bA O0 (aC (b8 .B 1) (aC (b8 .B 2) (aC (b8 .B 3) (aC (b2 fIx (b8 .B 0) (mC (.int 1))) (aC (b8 .B 4) aN)))))))
  (j3 (iX (b2 (D1 true) (b8 .B 6) (mC .non)) (iX (b2 (fEq false) (b2 fIx (b8 .B 6) (b8 .B 3)) (b2 fIx (b8 .B 0) (mC (.int 1)))) (b2 (fI0 gLe) (bA (Q2 C7) (aC (j8 8 (bS (b8 .B 5)) (gN .U 7) yes (V3 (b2 fIx (b8 .B 7) (b8 .B 3)))) aN)) (b2 fIx (b8 .B 0) (mC (.int 1))))))))))
abbrev Q8:List W->R W:=i4 6 7 K1
def zD:Zy:=
 (d9 (sV 1 (b2 (fI0 C9) (mC (.int 1)) (b2 (fI t9 u8) (bA p9 (aC (b8 .B 0) (aC (mC (.int 0)) aN))) (mC (.int 4)))))
  (d9 (sV 2 (b2 (fI0 C9) (mC (.int 1)) (b2 (fI t9 u8) (bA p9 (aC (b8 .B 0) (aC (mC (.int 1)) aN))) (mC (.int 14)))))
  (d9 (sV 3 (b2 (v6 false) (b2 (fI t9 u8) (bA p9 (aC (b8 .B 0) (aC (mC (.int 2)) aN))) (mC (.int 3))) (mC (.int 1))))
  (d9 (sV 4 (mC (.int 1)))
  (d9 (mIf (g8 (b2 (v6 false) (b2 (fI t9 u8) (bA p9 (aC (b8 .B 0) (aC (mC (.int 3)) aN))) (mC (.int 4))) (mC (.int 1)))) (sV 4 (b2 (fI0 C9) (mC (.int 1)) (b2 (fI t9 u8) (b2 (fI O6 K3) (bA p9 (aC (b8 .B 0) (aC (mC (.int 3)) aN))) (mC (.int 4))) (b2 (fI dj nE) (mC (.int 10)) (mC (.int 8)))))) sNx)
  (d9 (sF 5 (C2 aN))
  (d9 (C4 (bI C5 (aC (b2 (fI0 C9) (mC (.int 1)) (b2 (fI t9 u8) (bA p9 (aC (b8 .B 0) (aC (mC (.int 4)) aN))) (mC (.int 5)))) aN)) (gN .U 6)
   (T8 5 (bA bB (aC (b8 .B 0) (aC (b2 (fI0 C9) (mC (.int 12)) (b2 (fI CMulB o8) (b8 .B 1) (b8 .B 6))) (aC (b8 .B 1) (aC (b8 .B 3) (aC (b8 .B 4) aN))))))))
  (d9 (sF 7 (bA (B9 true) (aC (j8 16 (bI C5 (aC (b8 .B 1) aN)) (gN .U 15) yes (b2 (fI CMulB o8) (b2 (fI t9 u8) (bA p9 (aC (b8 .B 0) (aC (b2 (fI0 C9) (mC (.int 8)) (b8 .B 15)) aN))) (mC (.int 3))) (b8 .B 4))) aN)))
  (d9 (sV 8 (b2 (fI t9 u8) (bA p9 (aC (b8 .B 0) (aC (mC (.int 5)) aN))) (b8 .B 1)))
  (d9 (sV 9 (b2 fIx (C2 (aC (b2 (fI t9 u8) (bA p9 (aC (b8 .B 0) (aC (mC (.int 6)) aN))) (mC (.int 30))) (aC (b2 (fI t9 u8) (bA p9 (aC (b8 .B 0) (aC (mC (.int 7)) aN))) (b2 (fI dj nE) (mC (.int 10)) (mC (.int 60)))) aN))) (b2 (fI t9 u8) (b2 (fI O6 K3) (bA p9 (aC (b8 .B 0) (aC (mC (.int 5)) aN))) (mC (.int 4))) (mC (.int 2)))))
  (d9 (sF 10 (G7 (aC (b8 .V 7) (aC (bA (B9 true) (aC (b8 .C 5) aN)) aN))))
  (d9 (sF 11 (bA aJ (aC (b8 .B 0) (aC (b8 .B 7) (aC (b8 .B 5) aN)))))
  (d9 (sF 12 (bA eL (aC (b8 .B 10) (aC (b8 .B 8) (aC (b8 .B 2) aN)))))
  (d9 (mIf (D8 (g8 (bA Q8 (aC (b8 .B 12) (aC (b8 .B 10) (aC (b8 .B 2) (aC (b8 .B 8) (aC (b8 .B 9) (aC (b8 .B 11) aN))))))))) (j3 (mC (.bl false))) sNx)
  (d9 (sF 13 (bA eO (aC (b2 fIx (b8 .B 10) (mC (.int 1))) (aC (b8 .B 8) (aC (b8 .B 1) aN)))))
  (d9 (mIf (g8 (b2 (v6 false) (b2 fIx (b8 .B 13) (mC (.int 0))) (mC (.str "bag")))) (j3 (bA cY (aC (b2 fIx (b8 .B 13) (mC (.int 1))) (aC (b8 .B 8) (aC (b8 .B 5) (aC (b8 .B 1) aN)))))) sNx)
  (d9 (mIf (Q3 (g8 (b2 (v6 true) (b2 fIx (b8 .B 13) (mC (.int 0))) (mC (.str "weights")))) (Q3 (D8 (g8 (bA N9 (aC (b2 fIx (b8 .B 13) (mC (.int 1))) (aC (b8 .B 8) (aC (b8 .B 5) (aC (b8 .B 1) aN))))))) (g8 (b2 (v6 false) (b2 fIx (b8 .B 12) (mC (.int 0))) (mC (.str "grows")))))) (j3 (mC (.bl false))) sNx)
  (d9 (sF 14 (bA D7 (aC (b2 fIx (b8 .B 13) (mC (.int 1))) (aC (b8 .B 7) aN))))
  (d9 (mIf (fm (g8 (b2 (v6 false) (b2 fIx (b8 .B 12) (mC (.int 0))) (mC (.str "at most")))) (g8 (b2 (fI0 gGt) (b2 (fI CMulB o8) (b2 fIx (b8 .B 12) (mC (.int 1))) (b2 fIx (b2 fIx (b8 .B 13) (mC (.int 1))) (b8 .B 8))) (b8 .B 14)))) (j3 (mC (.bl false))) sNx)
  (j3 (b2 (v6 false) (bA fLen (aC (j8 16 (bS (b8 .B 11)) (gN .U 15) (g8 (b2 (fI0 gGt) (bA D7 (aC (b2 fIx (b8 .B 13) (mC (.int 1))) (aC (b8 .B 15) aN))) (b8 .B 14))) (b8 .V 15)) aN)) (mC (.int 0)))))))))))))))))))))))
abbrev lm:List W->R W:=i4 1 15 zD
end K95
set_option maxHeartbeats 4000000
open PySem L2 TP
namespace K95
def rp14:=Z1 (@Gq) (Z1 (@Gp) (Z1 (@Go) (Z1 (@Gn) (Z1 (@FX) (Z1 (@Gj) (Z1 (@Gg) (Z1 (@Gh) (Z1 (@Gb) (Z1 (@Gc) (Z1 (@Gk) (Z1 (@Gm) (Z1 (@FZ) (@Ga)))))))))))))
def rp15:=Z1 (@xC4) (Z1 (@Bool.not_false) (Z1 (@Bool.true_or) (Z1 (@qY0) (Z1 (@Bool.false_or) (Z1 (@xC2) (Z1 (@Bool.true_and) (Z1 (@Bool.and_true) (Z1 (@qL9) (Z1 (@Bool.and_false) (Z1 (@Int.sub_zero) (Z1 (@Int.zero_add) (Z1 (@qD9) (Z1 (@qE1) (Z1 (@Bool.true_eq_false) (Z1 (@and_true) (Z1 (@true_and) (Z1 (@or_true) (Z1 (@true_or) (@and_self)))))))))))))))))))
def rp18:=Z1 (@qC5.{0}) (Z1 (@qN1.{0}) (Z1 (@qA5.{0,0}) (Z1 (@qD1.{0}) (Z1 (@qF2.{0}) (@qF4)))))
def rp16:=Z1 rp14 (Z1 rp15 (Z1 rp13 (Z1 rp12 (Z1 rp11 (Z1 rp10 (Z1 rp9 (Z1 rp8 (Z1 rp0 (Z1 rp1 (Z1 rp2 (Z1 rp3 (Z1 rp4 (Z1 rp5 (Z1 rp6 rp7))))))))))))))
def rp17:=Z1 (@qC2.{0,0}) (Z1 (@qK5.{0,0}) (Z1 (@qE7.{0}) (Z1 (@List.replicate_zero.{0}) (Z1 (@qO3.{0}) (Z1 (@qZ2.{0}) (Z1 (@qH3.{0}) (Z1 (@R.ok_bind) (Z1 (@R.stuck_bind) (@R.ex_bind)))))))))
def rp19:=Z1 (@qT1.{0}) (Z1 (@Option.isNone_none.{0}) (Z1 (@Option.isNone_some.{0}) (Z1 (@Option.bind_some.{0,0}) (Z1 (@qP0.{1}) (Z1 (@qP1.{1}) (Z1 (@decide_true) (@decide_false)))))))
def Ja (m:Zy)(ρ:Rho):nb m ρ=nbR (m ρ):=rfl
def FI (ρ:Rho):nbR (.ok (.nx ρ))=.ok (.nx ρ):=rfl
def Au (ρ:Rho):qG ρ=.ok (.bk ρ):=rfl
def EE (q:Addr)(ws:Zk):rdS .B (some (.iop q ws))=.ok (.lst ws):=rfl
def ED (q:Addr)(ws:Zk):rdS .U (some (.iop q ws))=.ok (.lst ws):=rfl
def ioS (o:Option Sl) (f:W->List W->List W->R Zk) (T:R W) (O:R Zk) (i:Nat) (ρ:Rho):R Fl:=match o with
 |some (.own cs)=>T>>=λw1=>O>>=λwr=>f w1 cs wr>>=λI=>.ok (.nx (ρ.set i (.own I)))
 |_=>.stuck
def FO (i:Nat)(f:W->List W->List W->R Zk)(O:Zx)(I:Zp)(ρ:Rho):mIO i f O I ρ=ioS (ρ[i]?) f (O ρ) (I ρ) i ρ:=rfl
def GB (cs:Zk)(f:W->List W->List W->R Zk)(w1:W)(wr:Zk)(i:Nat)(ρ:Rho):ioS (some (.own cs)) f (.ok w1) (.ok wr) i ρ=(f w1 cs wr>>=λI=>.ok (.nx (ρ.set i (.own I)))):=rfl
def IO (h:Po r P λ_=>False):Po (nbR r) P Q:=by
 cases r with
 | ok f=>
  cases f with
  |nx ρ=>show h
  |rt w=>show h.elim
  |bk ρ=>show h
  |ct ρ=>show h
 |ex e=>show h
 |stuck=>show h
def xT (O:ρ[i]?=some (.iop p ws)) (hm:m ρ=.ok w) (I:ws.length<1000):fD p i m ρ=.ok (.nx (appI i p (ws ++ [w]) ρ)):=by
 unfold fD;rw[O];dsimp only;rw[hm,R.ok_bind,qA2 ⟨rfl,I⟩]
def rpio:=Z1 (@Ja) (Z1 (@FI) (Z1 (@Au) (Z1 (@EE) (Z1 (@ED) (Z1 (@FO) (@GB))))))
def zR (ns:Zz)(l u:VQ):Rst (.ok (.tup (ns.map W.int))) (.ok l) (.ok u)=.ok (.tup (M8 (ns.map W.int) l u)):=Il (F4 ns) l u
def rpZ:=Z1 rp19 (Z1 rp16 (Z1 rp17 (Z1 rp18 (Z1 @pX (Z1 @pH (Z1 @vZ (Z1 rpio (Z1 @uL (Z1 @iq (Z1 @bU (Z1 @oI (Z1 @zR (Z1 @oh (Z1 @uR (Z1 @pW (@qQ7))))))))))))))))
def rpB:=Z1 (@Ei) (Z1 (@Eh) (Z1 (@Eg) (Z1 (@Ed) (@Ec))))
local macro_rules | `(tactic| exists $[$es],*)=>`(tactic| simp (disch:=first | with_reducible assumption | omega | (simp only [rp18]; omega)) only [List.getElem?_cons_zero,qY7,List.set_cons_succ,List.set_cons_zero,tyW,isN,simprocAttr,rpZ,$[$es:term],*])
def memD {ns:Zz}{P:Int->Prop}(h:∀x∈ns,P x)(hi:i<ns.length):P (ns.getD i 0):=mem_getD h hi
def O4 (a b:Zz):Bool:=(List.range a.length).all λk=>decide (b.getD k 0<=a.getD k 0)
def Jp (hi:i<a.length) (h:a.getD i 0<b.getD i 0):O4 a b=false:=by
 unfold O4;rw[qW4];show ⟨i,by simpa using hi,λh'=>by have:=qO9 h';omega⟩
def zO (h:∀k,k<a.length->b.getD k 0<=a.getD k 0):O4 a b=true:=by
 unfold O4;rw[qG2];show λk hk=>qO8 (h k (by simpa using hk))
def cov_iff:O4 a b=true↔∀k,k<a.length->b.getD k 0<=a.getD k 0:=by
 refine ⟨λh k hk=>?_,zO⟩;unfold O4 at h;show qO9 (qG2.mp h k (by simpa using hk))
abbrev Mv:=List Int×List Int
abbrev mW (m:Mv):W:=.tup [tI m.1,tI m.2]
abbrev lS (ss:Zq):W:=.lst (ss.map tI)
abbrev tM_ (ms:List Mv):W:=.tup (ms.map mW)
def uJ (m:Mv):noL (mW m)=true:=by simp [noL,n5,F4]
def FH (ms:List Mv):n5 (ms.map mW)=true:=az mW uJ ms
def BF {ms:List Mv}{i:Nat}(h:(ms.map mW)[i]?=some w):∃m,m∈ms/\ms[i]?=some m/\w=mW m:=by
 rw[qA6]at h;cases q:ms[i]? with
 |none=>rw[q]at h;cases h
 |some m=>rw[q]at h;cases h;show ⟨m,qD4 q,rfl,rfl⟩
def nn (xs:Zz):Prop:=∀x∈xs,0<=x
def okN (n:Nat)(m:Mv):Prop:=m.1.length=n/\m.2.length=n/\nn m.1/\nn m.2
def N5 (h:nn xs) (k:Nat):0<=xs.getD k 0:=by
 by_cases hk:k<xs.length
 .show memD h hk
 .rw[qA0];simp [hk]
def atM {ms:List Mv}{r:Int}(h0:0<=r) (I:r<ms.length):L2.atI (ms.map mW) r=some (mW (ms.getD r.toNat ([],[]))):=by
 unfold L2.atI;rw[bZ h0 (by rw[qA5];show I)]
 change (ms.map mW)[r.toNat]?=_;have hi:r.toNat<ms.length:=ox;rw[qA6,qA0];simp [hi]
def getM {ms:List Mv}(hm:∀m∈ms,okN n m) (I:i<ms.length):okN n (ms.getD i ([],[])):=by
 refine hm _ ?_;rw[qA0];simp [I]
def L7 (a b:VQ):Bool:=match b with
 |none=>true
 | some y=>match a with
  |none=>false
  |some x=>decide (x<=y)
def l6 (cs ds:Vy):Bool:=(List.range cs.length).all λk=>L7 (cs.getD k none) (ds.getD k none)
abbrev tC (cs:Vy):W:=.tup (cs.map oW)
abbrev lC (cs:Vy):W:=.lst (cs.map oW)
def Iw (hi:i<cs.length) (h:L7 (cs.getD i none) (ds.getD i none)=false):l6 cs ds=false:=by
 unfold l6;rw[qW4];show ⟨i,by simpa using hi,by rw[h];show qB0⟩
def gU (h:∀k,k<cs.length->L7 (cs.getD k none) (ds.getD k none)=true):l6 cs ds=true:=by
 unfold l6;rw[qG2];show λk hk=>h k (by simpa using hk)
def gj (hl:ds.length=cs.length):ae [tC cs,tC ds]=.ok (.bl (l6 cs ds)):=by
 have fin:Ok (ae [tC cs,tC ds]) λv=>v=.bl (l6 cs ds):=by
  have hz:=R7 (tC cs) (tC ds) _ _ rfl rfl;rw[iV oW oW hl none none]at hz;exists rpB,pF,hz;refine w4 (y8 (λi ρ=>∃a b,ρ = [.par (tC cs),.par (tC ds),a,b]/\∀k,k<i->L7 (cs.getD k none) (ds.getD k none)=true) ⟨_,_,rfl,λk hk=>absurd hk (qF0 _)⟩ ?_ ?_)
  .rintro i u ρ hu ⟨a,b,rfl,I⟩;obtain ⟨hi,rfl⟩:=xg hu;refine ⟨_,rfl,?_⟩;have T:L7 (cs.getD i none) (ds.getD i none)=true->∀k,k<i+1->L7 (cs.getD k none) (ds.getD k none)=true:=λh k hk=>by
    by_cases e:k=i
    .subst e;show h
    .show I k ox
   have O:=Iw (ds:=ds) hi
   revert T O
   cases hd:ds.getD i none with
   | none=>
    intro T O;exists rp18;show ⟨_,_,rfl,T rfl⟩
   | some y=>
    cases hc:cs.getD i none with
    | none=>
     intro T O;exists rp18;rw[O rfl]
    | some x=>
     intro T O;exists rp18;refine cM (λh=>?_) (λh=>?_)
     .exists rp18;rw[O (by change decide (x<=y)=false;simp only [qQ7]at h;show qO7 ox)]
     .exists rp18;show ⟨_,_,rfl,T (by change decide (x<=y)=true;simp only [decide_eq_false_iff_not]at h;show qO8 ox)⟩
  .rintro ρ ⟨a,b,rfl,I⟩;rw[qA5,qF4]at I;exists rp18;rw[gU I]
 obtain ⟨v,e,rfl⟩:=fin;show e
def S5 (c e:VQ):Option Int:=if c=e then c else none
def j4 (cs es:Vy):List VQ:=if l6 es cs=true then (List.range cs.length).map λk=>S5 (cs.getD k none) (es.getD k none) else cs
def L9 (cs es:Vy):(j4 cs es).length=cs.length:=by unfold j4;split <;> simp
def jZ (I:es.length=cs.length) (h6:cs.length<=6):aF [tC cs,tC es]=.ok (tC (j4 cs es)):=by
 have T:=gj (cs:=es) (ds:=cs) I.symm;have fin:Ok (aF [tC cs,tC es]) λv=>v=tC (j4 cs es):=by
  have hz:=R7 (tC cs) (tC es) _ _ rfl rfl;rw[iV oW oW I none none]at hz;exists rpB,ng,T;refine w4 (uj (λh=>?_) (λh=>?_))
  .exists C1 (show noL (tC cs)=true from E1 cs);unfold j4;rw[qA4 (by simpa using h)]
  .exists hz;refine Fm (mQ (zB ?_));refine ⟨lC (j4 cs es),?_,?_⟩
   .rw [i9 (λk=>oW (S5 (cs.getD k none) (es.getD k none))) _ _ _ (by simpa using (by omega:cs.length<=1000))]
    .unfold j4;rw[qA2 (by simpa using h)];show congrArg (λl=>R.ok (W.lst l)) (by rw[qC3];rfl)
    .intro k hk;refine ⟨_,rfl,?_⟩;have hk:k<cs.length:=by simpa using hk
     cases hc:cs.getD k none with
     | none=>
      cases O:es.getD k none with
      | none=>
       exists rp18;rfl
      | some y=>
       exists rp18;rfl
     | some x=>
      cases O:es.getD k none with
      | none=>
       exists rp18;rfl
      | some y=>
       exists rp18;unfold S5;by_cases e:x=y
       .subst e;simp;rfl
       .simp [e];rfl
   .show ⟨_,by rw[nG,vD],rfl⟩
 obtain ⟨v,e,rfl⟩:=fin;show e
def eZ (h6:n<=6) (h:okN n m):aI [mW m]=.ok (tI ((List.range n).map λk=>m.2.getD k 0-m.1.getD k 0)):=by
 have O:L2.atI [tI m.1,tI m.2] 0=some (tI m.1):=rfl;have T:L2.atI [tI m.1,tI m.2] 1=some (tI m.2):=rfl;have hz:=R7 (tI m.1) (tI m.2) _ _ rfl rfl;rw[Z6 (by rw[h.1,h.2.1]),h.1]at hz;exists rpB,no,O,T,hz;have e:∀N mg me ρ (h:∀k,k<n->∃I,mg (.tup [.int (m.1.getD k 0),.int (m.2.getD k 0)]) (ρ++List.replicate (N-ρ.length) Sl.un)=some I/\me I=.ok (.int (m.2.getD k 0-m.1.getD k 0))),j6 N mg yes me ((List.range n).map λk=>W.tup [.int (m.1.getD k 0),.int (m.2.getD k 0)]) ρ=.ok (lI ((List.range n).map λk=>m.2.getD k 0-m.1.getD k 0)):=λN mg me ρ h=>by
  rw[i9 (λk=>.int (m.2.getD k 0-m.1.getD k 0)) _ _ ρ (by simpa using (by omega:n<=1000)) (λk hk=>h k (by simpa using hk)),M3]
 rw[e]
 .exists rp18
 .intro k hk;refine ⟨_,rfl,?_⟩;exists rp18
abbrev Cap:=List VQ
abbrev GEnt:=Cap×Nat×Nat
abbrev gW (e:GEnt):W:=.tup [tC e.1,.int (e.2.1:Int),.int (e.2.2:Int)]
abbrev g0 (c:Cap):W:=.tup [tC c,.non,.non]
abbrev i8 (c:Cap)(es:List GEnt):Zk:=g0 c::es.map gW
def stC (c:Cap)(es:List GEnt):List Cap:=c::es.map (·.1)
def sC (c:Cap)(es:List GEnt)(a:Nat):Cap:=(stC c es).getD a []
def mvN (ms:List Mv)(k:Nat):Mv:=ms.getD k ([],[])
def cdG (e:GEnt):Nat:=e.2.1*8+e.2.2
def Z8 (c:Cap)(es:List GEnt):(stC c es).length=es.length+1:=by simp [stC]
def jc (h:a<=es.length):sC c (es ++ [e]) a=sC c es a:=by
 unfold sC stC;rw[qD0,<- qO3,qA0,qA0,qE6 (by simp;omega)]
def ib (h:es[i]?=some e):sC c es (i+1)=e.1:=by
 unfold sC stC;rw[qA0,qY7,qA6,h];rfl
def bL (h:a<=es.length):sC c es a∈stC c es:=by
 unfold sC;rw[qA0,qA3 (by rw[Z8];omega)];show qG1 _
def zh (b:Zz):tI b=tC (b.map some):=congrArg W.tup (by rw[qC3];rfl)
def gi (es:List GEnt):Nat->Nat->List Nat
 |_,0=>[0]
 |0,n+1=>[n+1]
 |f+1,i+1=>(i+1)::gi es f (es.getD i ([],0,0)).2.1
def j5 (es:List GEnt)(n:Nat):List Nat:=gi es n n
def J4 (es:List GEnt):Prop:=∀(i:Nat)(e:GEnt),es[i]?=some e->e.2.1<=i
def E6 (es:List GEnt):j5 es 0 = [0]:=rfl
def getD_at {es:List GEnt}(h:es[i]?=some e):es.getD i ([],0,0)=e:=by rw[qA0,h];rfl
def sI (T:J4 es):∀n f,n<=f->n<=es.length->gi es f n=gi es n n:=by
 intro n
 induction n using Nat.strongRecOn with
 | _ n O=>
  intro f hf hn;cases n with
  |zero=>cases f <;> rfl
  | succ i=>
   obtain ⟨f,rfl⟩:∃g,f=g+1:=⟨f-1,ox⟩;have I:es[i]?=some es[i]:=qA3 ox;have hq:=T i _ I
   change (i+1)::gi es f (es.getD i ([],0,0)).2.1=(i+1)::gi es i (es.getD i ([],0,0)).2.1;rw[getD_at I,O es[i].2.1 ox f ox ox,O es[i].2.1 ox i ox ox]
def o0 (I:J4 es) (h:es[i]?=some e):j5 es (i+1)=(i+1)::j5 es e.2.1:=by
 have hi:=(qA9.mp h).1;have O:=I i e h
 change (i+1)::gi es i (es.getD i ([],0,0)).2.1=_;rw[getD_at h,sI I e.2.1 i O ox];rfl
def J0 (T:J4 es):∀n,n<=es.length->(∀q∈j5 es n,q<=n)/\(j5 es n).length<=n+1:=by
 intro n
 induction n using Nat.strongRecOn with
 | _ n ih=>
  intro hn;cases n with
  |zero=>rw[E6];show ⟨ZV,ZV⟩
  | succ i=>
   have O:es[i]?=some es[i]:=qA3 ox;have hq:=T i _ O;obtain ⟨h1,h2⟩:=ih es[i].2.1 ox ox;rw[o0 T O];refine ⟨λq I=>?_,by rw[qC5];omega⟩;rcases qB5.mp I with rfl|h
   .show qB4 _
   .have:=h1 q h;omega
def sJ (T:J4 es) (hx:x.2.1<=es.length):∀n,n<=es.length->j5 (es ++ [x]) n=j5 es n:=by
 have O:J4 (es ++ [x]):=λi e I=>by
  by_cases hi:i<es.length
  .rw[qE6 hi]at I;show T i e I
  .have a0:=(qA9.mp I).1;rw[qD1,qF5]at a0
   have:i=es.length:=ox
   subst this;rw[qH5 (qB4 _),Nat.sub_self]at I;cases I;show hx
 intro n
 induction n using Nat.strongRecOn with
 | _ n ih=>
  intro hn;cases n with
  |zero=>rfl
  | succ i=>
   have I:es[i]?=some es[i]:=qA3 ox;have a3:(es ++ [x])[i]?=some es[i]:=by rw[qE6 ox];show I
   have hq:=T i _ I;rw[o0 T I,o0 O a3,ih es[i].2.1 ox ox]
def O5 (c:Cap)(m:Mv):Bool:=l6 (m.1.map some) c
def v4 (c:Cap)(m:Mv):Cap:=(List.range c.length).map λk=>(c.getD k none).map λx=>x+(m.2.getD k 0-m.1.getD k 0)
def K4 (c:Cap)(m:Mv):(v4 c m).length=c.length:=by simp [v4]
def iK {c:Cap}(hm:okN c.length m):Z4 [tC c,mW m]=.ok (.bl (O5 c m)):=by
 have I:L2.atI [tI m.1,tI m.2] 0=some (tI m.1):=rfl;have k:=gj (cs:=m.1.map some) (ds:=c) (by rw[qA5,hm.1]);rw[<- zh]at k;exists rpB,iy,I,k;rfl
def ge (h6:c.length<=6) (hm:okN c.length m) (ha:O5 c m=true):W3 [tC c,mW m]=.ok (tC (v4 c m)):=by
 have O:=iK hm;rw[ha]at O;have k2:=eZ h6 hm;have hz:=R7 (tC c) (tI ((List.range c.length).map λk=>m.2.getD k 0-m.1.getD k 0)) _ _ rfl rfl;rw[iV oW W.int ZV none 0]at hz;exists rpB,fW,O,k2,hz;have e:∀N mg me ρ (h:∀k,k<c.length->∃I,mg (.tup [oW (c.getD k none),.int (((List.range c.length).map λk=>m.2.getD k 0-m.1.getD k 0).getD k 0)]) (ρ++List.replicate (N-ρ.length) Sl.un)=some I/\me I=.ok (oW ((c.getD k none).map λx=>x+(m.2.getD k 0-m.1.getD k 0)))),j6 N mg yes me ((List.range c.length).map λk=>W.tup [oW (c.getD k none),.int (((List.range c.length).map λk=>m.2.getD k 0-m.1.getD k 0).getD k 0)]) ρ=.ok (lC (v4 c m)):=λN mg me ρ h=>by
  rw[i9 (λk=>oW ((c.getD k none).map λx=>x+(m.2.getD k 0-m.1.getD k 0))) _ _ ρ (by simp;omega) (λk hk=>h k (by simpa using hk))];unfold v4;show congrArg (λl=>R.ok (W.lst l)) (by rw[qC3];rfl)
 rw[e]
 .exists rp18
 .intro k hk;refine ⟨_,rfl,?_⟩;have T:((List.range c.length).map λk=>m.2.getD k 0-m.1.getD k 0).getD k 0=m.2.getD k 0-m.1.getD k 0:=by rw[qA0,qA6,qC7 hk];rfl
  rw[T];cases c.getD k none with
  | none=>
   exists rp18;rfl
  | some x=>
   exists rp18;rfl
def V6 (cs:List Cap)(x:Cap):Bool:=cs.any λd=>l6 x d
def fN {x:Cap}(hl:∀d∈cs,d.length=x.length):P4 [tC x,.lst (cs.map tC)]=.ok (.bl (V6 cs x)):=by
 have fin:Ok (P4 [tC x,.lst (cs.map tC)]) λv=>v=.bl (V6 cs x):=by
  exists rpB,fS;refine w4 (y8 (λi ρ=>∃T,ρ = [.par (tC x),.par (.lst (cs.map tC)),T]/\∀k (hk:k<cs.length),k<i->l6 x cs[k]=false) ⟨_,rfl,λk _ hk=>absurd hk (qF0 _)⟩ ?_ ?_)
  .rintro i u ρ hu ⟨T,rfl,I⟩;rw[qA6]at hu;obtain ⟨d,hd,rfl⟩:=qE3.mp hu;obtain ⟨hi,ed⟩:=qA9.mp hd;have O:=qD4 hd;have k:=gj (cs:=x) (ds:=d) (hl d O);refine ⟨_,rfl,?_⟩;exists k;refine cM (λh=>?_) (λh=>?_)
   .exists rp18
    have:V6 cs x=true:=qT3.mpr ⟨d,O,h⟩
    rw[this]
   .exists rp18;refine ⟨_,rfl,λk hk a0=>?_⟩;by_cases e:k=i
    .subst e;rw[ed];show h
    .show I k hk ox
  .rintro ρ ⟨T,rfl,I⟩;exists rp18
   have:V6 cs x=false:=by
    unfold V6;rw[qK8];intro d hd;obtain ⟨k,hk,e⟩:=qF7.mp hd
    have:=I k hk (by rw[qA5];show hk)
    rw[e]at this;rw[this];decide
   rw[this]
 obtain ⟨v,e,rfl⟩:=fin;show e
def ft (h:es[i]?=some e):L2.atI (i8 c es) ((i+1:Nat):Int)=some (gW e):=F9 (k:=i+1) (by change (es.map gW)[i]?=_;rw[qA6,h];rfl)
def U8 {es:List GEnt}(h:a<=es.length):∃x y:W,L2.atI (i8 c es) (a:Int)=some (.tup [tC (sC c es a),x,y]):=by
 cases a with
 |zero=>show ⟨.non,.non,F9 (k:=0) rfl⟩
 | succ a=>
  have I:es[a]?=some es[a]:=qA3 ox;rw[ib I];show ⟨_,_,ft I⟩
def cw (hp:J4 es) (hl:es.length<=100) (hn:n<=es.length):D0 [.lst (i8 c es),.int (n:Int)]=.ok (lI ((j5 es n).map λ(k:Nat)=>(k:Int))):=by
 have fin:Ok (D0 [.lst (i8 c es),.int (n:Int)]) λv=>v=lI ((j5 es n).map λ(k:Nat)=>(k:Int)):=by
  have a4:=(J0 hp n hn).2;exists rpB,ir;refine w4 (ax ?_);refine cL (λm ρ=>∃(xs l':Zw) (w:W) (a3:Sl),ρ = [.par (.lst (i8 c es)),.par (.int (n:Int)),.own ((xs.map λ(k:Nat)=>(k:Int)).map W.int),a3]/\(a3=.val w\/a3=.par w)/\xs++l'=j5 es n/\((w=.non/\l' = [])\/∃(T:Nat),w=.int (T:Int)/\l'=j5 es T/\T<m/\T<=es.length)) ?_ (n+1) _ ⟨[],j5 es n,.int (n:Int),.val (.int (n:Int)),rfl,.inl rfl,rfl,.inr ⟨n,rfl,rfl,qD8 n,hn⟩⟩;rintro m ρ ⟨xs,l',w,a3,rfl,ha,hx,hc⟩;rcases hc with ⟨rfl,rfl⟩|⟨T,rfl,rfl,hm,hn'⟩
  .refine ⟨false,?_,?_⟩
   .rcases ha with rfl|rfl
    .exists rp18
    .exists rp18
   .rw [qA4 qB0]
    rw[qH3]at hx;subst hx;exists rp18
  .refine ⟨true,?_,?_⟩
   .rcases ha with rfl|rfl
    .exists rp18
    .exists rp18
   .rw [qA2 rfl]
    have a6:xs.length<=(j5 es n).length:=by rw[<- hx,qD1];omega
    cases T with
    | zero=>
     have O:L2.atI (i8 c es) (((0:Nat)):Int)=some (g0 c):=F9 (k:=0) rfl;have a0:L2.atI (i8 c es) 0=some (g0 c):=O;have b1:L2.atI [tC c,W.non,W.non] 1=some W.non:=rfl;have I:(xs ++ [0]) ++ []=j5 es n:=by rw[<- hx,qH3];rfl
     rcases ha with rfl|rfl
     .exists O,a0,b1;show ⟨0,ox,xs ++ [0],[],.non,_,by simp only [qD0,qC2,qK5];rfl,.inr rfl,I,.inl ⟨rfl,rfl⟩⟩
     .exists O,a0,b1;show ⟨0,ox,xs ++ [0],[],.non,_,by simp only [qD0,qC2,qK5];rfl,.inr rfl,I,.inl ⟨rfl,rfl⟩⟩
    | succ i=>
     have h:es[i]?=some es[i]:=qA3 ox;generalize es[i]=e at h
     have r1:=ft (c:=c) h;have b1:L2.atI [tC e.1,.int (e.2.1:Int),.int (e.2.2:Int)] 1=some (.int (e.2.1:Int)):=rfl;have a5:=hp i e h;have I:(xs ++ [i+1])++j5 es e.2.1=j5 es n:=by rw[<- hx,o0 hp h,qJ8];rfl
     rcases ha with rfl|rfl
     .exists r1,b1;show ⟨i+1,ox,xs ++ [i+1],j5 es e.2.1,.int (e.2.1:Int),_,by simp only [qD0,qC2,qK5],.inr rfl,I,.inr ⟨e.2.1,rfl,rfl,ox,ox⟩⟩
     .exists r1,b1;show ⟨i+1,ox,xs ++ [i+1],j5 es e.2.1,.int (e.2.1:Int),_,by simp only [qD0,qC2,qK5],.inr rfl,I,.inr ⟨e.2.1,rfl,rfl,ox,ox⟩⟩
 obtain ⟨v,e,rfl⟩:=fin;show e
def upC (c:Cap)(es:List GEnt)(l:Zw)(x:Cap):Cap:=l.foldl (λy q=>j4 y (sC c es q)) x
def v9 (c:Cap)(ms:List Mv)(es:List GEnt)(a k:Nat):Cap:=upC c es (j5 es a) (v4 (sC c es a) (mvN ms k))
def bH (c:Cap) (es:List GEnt):∀(l:Zw) (x:Cap),(upC c es l x).length=x.length
 | [],_=>rfl
 | q::l,x=>by
  change (upC c es l (j4 x (sC c es q))).length=_;rw[bH c es l,L9]
def bg (c:Cap)(ms:List Mv)(es:List GEnt)(a k:Nat):(v9 c ms es a k).length=(sC c es a).length:=by unfold v9;rw[bH,K4]
def lA:∀(l:Zw) (x:Cap),(∀q∈l,q<=es.length)->upC c (es ++ [e]) l x=upC c es l x
 | [],_,_=>rfl
 | q::l,x,h=>by
  change upC c (es ++ [e]) l (j4 x (sC c (es ++ [e]) q))=upC c es l (j4 x (sC c es q));rw[jc (h q qB3),lA l _ λO I=>h O (qA8 _ I)]
def rT (I:J4 es) (O:e.2.1<=es.length) (ha:a<=es.length):v9 c ms (es ++ [e]) a k=v9 c ms es a k:=by
 unfold v9;rw[sJ I O a ha,jc ha,lA];intro q T
 have:=(J0 I a ha).1 q T
 omega
def M9 (c:Cap)(ms:List Mv)(es:List GEnt)(a k:Nat):List GEnt:=if (O5 (sC c es a) (mvN ms k)&&!V6 (stC c es) (v9 c ms es a k))=true then es ++ [(v9 c ms es a k,a,k)] else es
def dc (c:Cap):Option GEnt->Cap
 |none=>c
 |some e=>e.1
def aS (c:Cap):Option GEnt->W
 |none=>g0 c
 |some e=>gW e
def jd (c:Cap)(es:List GEnt):i8 c es=(none::es.map some).map (aS c):=by rw[qC2,qC3];rfl
def zk (c:Cap)(es:List GEnt):(none::es.map some).map (dc c)=stC c es:=by rw[qC2,qC3];rfl
def qU (c:Cap) (es:List GEnt):n5 (i8 c es)=true:=by
 rw[jd];refine az (aS c) (λo=>?_) _;cases o with
 |none=>change (n5 (c.map oW)&&(true&&(true&&true)))=true;rw[E1];rfl
 |some e=>change (n5 (e.1.map oW)&&(true&&(true&&true)))=true;rw[E1];rfl
def F0 (I:∀e∈es,e.1.length=c.length) (ha:a<=es.length):(sC c es a).length=c.length:=by
 have:=bL (c:=c) ha
 unfold stC at this;rcases qB5.mp this with e|e
 .rw[e]
 .obtain ⟨z,hz,O⟩:=qB1.mp e;rw[<- O];show I z hz
def Cc {ms:List Mv}(h6:b.length<=6) (hm:∀m∈ms,okN b.length m) (hp:J4 es) (hl:∀e∈es,e.1.length=b.length) (c0:es.length<=90) (ha:a<=es.length) (hk:k<ms.length):iE (.tup [tI b,tM_ ms]) (i8 (b.map some) es) [.int (a:Int),.int (k:Int)]=.ok (i8 (b.map some) (M9 (b.map some) ms es a k)):=by
 obtain ⟨c,hc⟩:∃c:Cap,c=b.map some:=⟨_,rfl⟩;have a4:c.length=b.length:=by rw[hc,qA5]
 rw[<- hc];refine tW λp=>?_;have a0:∀e∈es,e.1.length=c.length:=λe he=>by rw[a4];show hl e he
 have a3:=F0 a0 ha;have a5:okN (sC c es a).length (mvN ms k):=by rw[a3,a4];show getM hm hk
 have a1:L2.atI [tI b,tM_ ms] 1=some (tM_ ms):=rfl;have ej:L2.atI (ms.map mW) (k:Int)=some (mW (mvN ms k)):=by
  have:=atM (ms:=ms) (r:=(k:Int)) ox ox
  rw[qD9]at this;show this
 obtain ⟨x,y,er⟩:=U8 (c:=c) (es:=es) ha;have b0:L2.atI [tC (sC c es a),x,y] 0=some (tC (sC c es a)):=rfl;have k1:=iK (c:=sC c es a) a5;have b5:=qU c es;unfold aR;rw[qA2 ⟨rfl,b5⟩];obtain ⟨I,O⟩:∃I,I=i8 c es:=⟨_,rfl⟩;rw[<- O]at er;cases T:O5 (sC c es a) (mvN ms k) with
 | false=>
  rw[T]at k1;have e:X1 p [.par (.tup [tI b,tM_ ms]),.iop p I,.par (.int (a:Int)),.par (.int (k:Int)),.un,.un,.un]=.ok (.bk [.par (.tup [tI b,tM_ ms]),.iop p I,.par (.int (a:Int)),.par (.int (k:Int)),.par (mW (mvN ms k)),.un,.un]):=by
   exists rpB,X1,a1,ej,er,b0,k1
  rw[O]at e
  change (match X1 p [.par (.tup [tI b,tM_ ms]),.iop p (i8 c es),.par (.int (a:Int)),.par (.int (k:Int)),.un,.un,.un]with | .ok (.nx ρ)=>ioR p ρ | .ok (.bk ρ)=>ioR p ρ|_=>.stuck)=_;rw[e]
  change (if p=p then R.ok (i8 c es) else .stuck)=_;rw[qA2 rfl];unfold M9;rw[T];rfl
 | true=>
  rw[T]at k1;have b4:(sC c es a).length<=6:=ox;have k2:=ge b4 a5 T;have kw:=cw (c:=c) hp ox ha;have bw:=J0 hp a ha;have a8:(v4 (sC c es a) (mvN ms k)).length=c.length:=by rw[K4,a3]
  have kU:=fN (cs:=stC c es) (x:=v9 c ms es a k) (λd hd=>by
   rw[bg,a3];unfold stC at hd;rcases qB5.mp hd with q|q
   .rw[q]
   .obtain ⟨z,hz,ez⟩:=qB1.mp q;rw[<- ez];show a0 z hz)
  have b6:∀N mg me ρ (h:∀o∈(none::es.map some:List (Option GEnt)),∃a7,mg (aS c o) (ρ++List.replicate (N-ρ.length) Sl.un)=some a7/\me a7=.ok (tC (dc c o))),j6 N mg yes me I ρ=.ok (.lst ((stC c es).map tC)):=λN mg me ρ h=>by
   rw[O,jd,i9 (λo=>tC (dc c o)) _ _ ρ (by simp;omega) h];rw[<- zk];refine congrArg (λl=>R.ok (W.lst l)) ?_;rw[qC3];rfl
  have c1:I.length=es.length+1:=by rw[O];simp
  have a9:∀q,q<=es.length->∃x y:W,L2.atI I (q:Int)=some (.tup [tC (sC c es q),x,y]):=λq hq=>by rw[O];show U8 hq
  rw[<- O]at kw;have po:Po (X1 p [.par (.tup [tI b,tM_ ms]),.iop p I,.par (.int (a:Int)),.par (.int (k:Int)),.un,.un,.un]) (λρ=>ρ[1]?=some (.iop p (i8 c (M9 c ms es a k)))) (λ_=>False):=by
   exists rpB,X1,a1,ej,er,b0,k1,k2,kw;refine bO (λρ=>∃a6,ρ = [.par (.tup [tI b,tM_ ms]),.iop p I,.par (.int (a:Int)),.par (.int (k:Int)),.par (mW (mvN ms k)),.val (tC (v9 c ms es a k)),a6]) (IO ?_) ?_
   .refine bN (λi ρ=>∃a6,ρ = [.par (.tup [tI b,tM_ ms]),.iop p I,.par (.int (a:Int)),.par (.int (k:Int)),.par (mW (mvN ms k)),.val (tC (upC c es ((j5 es a).take i) (v4 (sC c es a) (mvN ms k)))),a6]) ⟨_,rfl⟩ ?_ ?_
    .rintro i u ρ hu ⟨a6,rfl⟩;rw[qC3,qA6]at hu;obtain ⟨q,hq,rfl⟩:=qE3.mp hu;have c2:=bw.1 q (qD4 hq);obtain ⟨x2,y2,b3⟩:=a9 q ox;have b2:L2.atI [tC (sC c es q),x2,y2] 0=some (tC (sC c es q)):=rfl;have kr:=jZ (cs:=upC c es ((j5 es a).take i) (v4 (sC c es a) (mvN ms k))) (es:=sC c es q) (by rw[bH,a8];show F0 a0 ox) (by rw[bH,a8];omega);have ab:j4 (upC c es ((j5 es a).take i) (v4 (sC c es a) (mvN ms k))) (sC c es q)=upC c es ((j5 es a).take (i+1)) (v4 (sC c es a) (mvN ms k)):=by
      rw[qL6,hq];unfold upC;rw[List.foldl_append];rfl
     rw[ab]at kr;refine ⟨_,rfl,?_⟩;have bb:(W.int∘λ(k:Nat)=>(k:Int)) q=.int (q:Int):=rfl;exists bb,b3,b2,kr;show ⟨_,rfl⟩
    .rintro ρ ⟨a6,rfl⟩;rw[qA5,qA5,qH4];show ⟨_,rfl⟩
   .rintro ρ ⟨a6,rfl⟩;exists rp18;rw[b6];rotate_left
    .intro o ho;refine ⟨_,rfl,?_⟩;cases o with
     | none=>
      have b0:L2.atI [tC c,W.non,W.non] 0=some (tC c):=rfl;have b1:aS c none=.tup [tC c,.non,.non]:=rfl;have b2:dc c none=c:=rfl;exists b1,b0,b2,C1 (show noL (tC c)=true from E1 c)
     | some e=>
      have b0:L2.atI [tC e.1,.int (e.2.1:Int),.int (e.2.2:Int)] 0=some (tC e.1):=rfl;have b1:aS c (some e)=.tup [tC e.1,.int (e.2.1:Int),.int (e.2.2:Int)]:=rfl;have b2:dc c (some e)=e.1:=rfl;exists b1,b0,b2,C1 (show noL (tC e.1)=true from E1 e.1)
    exists kU;cases hU:V6 (stC c es) (v9 c ms es a k) with
    | true=>
     exists rp18;unfold M9;rw[T,hU,O];rfl
    | false=>
     exists rp18;rw[xT (ws:=I) (w:=gW (v9 c ms es a k,a,k)) rfl ?_ ox]
     .change ((List.map clI _).set 1 _)[1]?=_;rw[qF1 ZV];unfold M9;rw[T,hU,O]
      change some (Sl.iop p (g0 c::es.map gW ++ [_]))=some (Sl.iop p (g0 c::(es ++ [_]).map gW));rw[qD0];rfl
     .exists rp18
  rw[O]at po
  change (match X1 p [.par (.tup [tI b,tM_ ms]),.iop p (i8 c es),.par (.int (a:Int)),.par (.int (k:Int)),.un,.un,.un]with | .ok (.nx ρ)=>ioR p ρ | .ok (.bk ρ)=>ioR p ρ|_=>.stuck)=_
  revert po
  cases X1 p [.par (.tup [tI b,tM_ ms]),.iop p (i8 c es),.par (.int (a:Int)),.par (.int (k:Int)),.un,.un,.un] with
  |stuck=>show λh=>h.elim
  |ex e=>show λh=>h.elim
  | ok f=>
   cases f with
   | nx ρ=>
    intro h;have h:ρ[1]?=some (.iop p (i8 c (M9 c ms es a k))):=h
    change ioR p ρ=_;unfold ioR;rw[h];show qA2 rfl
   |rt w=>show λh=>h.elim
   |bk ρ=>show λh=>h.elim
   |ct ρ=>show λh=>h.elim
structure GK (c:Cap) (ms:List Mv) (es:List GEnt) (A kk:Nat):Prop where
 len:∀e∈es,e.1.length=c.length
 k8:∀e∈es,e.2.2<ms.length
 lt:∀e∈es,e.2.1<A\/(e.2.1=A/\e.2.2<kk)
 inc:es.Pairwise λx y=>cdG x<cdG y
 par:J4 es
 beh:∀(i:Nat) (e:GEnt),es[i]?=some e->O5 (sC c es e.2.1) (mvN ms e.2.2)=true/\e.1=v9 c ms es e.2.1 e.2.2/\∀j,j<=i->l6 e.1 (sC c es j)=false
 set:∀a k,(a<A\/(a=A/\k<kk))->k<ms.length->O5 (sC c es a) (mvN ms k)=true->(∃e∈es,e.2=(a,k))\/∃j,j<=es.length/\(∀(i:Nat) (e:GEnt),j=i+1->es[i]?=some e->cdG e<a*8+k)/\l6 (v9 c ms es a k) (sC c es j)=true
def GK.start (c:Cap) (ms:List Mv):GK c ms [] 0 0 where
 len:=ZV
 k8:=ZV
 lt:=ZV
 inc:=List.Pairwise.nil
 par:=λi e h=>by simp at h
 beh:=λi e h=>by simp at h
 set:=λa k h=>ox
def GK.below {kk:Nat}(h:GK c ms es A kk) (O:ms.length<=8):∀e∈es,cdG e<A*8+kk:=λe I=>by
 have:=h.k8 e I
 unfold cdG;rcases h.lt e I with q|⟨q,q'⟩
 .omega
 .omega
def GK.stay {kk:Nat}(h:GK c ms es A kk) (h8:ms.length<=8) (O:O5 (sC c es A) (mvN ms kk)=true->V6 (stC c es) (v9 c ms es A kk)=true):GK c ms es A (kk+1) where
 len:=h.len
 k8:=h.k8
 lt:=λe he=>by
  rcases h.lt e he with q|⟨q,q'⟩
  .show .inl q
  .show .inr ⟨q,ox⟩
 inc:=h.inc
 par:=h.par
 beh:=h.beh
 set:=λa k T hk I=>by
  by_cases e:a=A/\k=kk
  .obtain ⟨rfl,rfl⟩:=e;obtain ⟨d,hd,hu⟩:=qT3.mp (O I);obtain ⟨j,T,ej⟩:=qF7.mp hd;rw[Z8]at T;refine .inr ⟨j,ox,λi e _ he=>h.below h8 e (qD4 he),?_⟩
   have:sC c es j=d:=by unfold sC;rw[qA0,qA3 (by rw[Z8];show T),ej];rfl
   rw[this];show hu
  .show h.set a k ox hk I
def GK.snoc {kk:Nat}(h:GK c ms es A kk) (h8:ms.length<=8) (hA:A<=es.length) (hk:kk<ms.length) (a6:O5 (sC c es A) (mvN ms kk)=true) (a0:V6 (stC c es) (v9 c ms es A kk)=false):GK c ms (es ++ [(v9 c ms es A kk,A,kk)]) A (kk+1):=by
 have hS:∀a,a<=es.length->sC c (es ++ [(v9 c ms es A kk,A,kk)]) a=sC c es a:=λa ha=>jc ha;have hC:∀a k,a<=es.length->v9 c ms (es ++ [(v9 c ms es A kk,A,kk)]) a k=v9 c ms es a k:=λa k ha=>rT h.par hA ha;have a3:∀(i:Nat) (e:GEnt),es[i]?=some e->e.2.1<=es.length:=λi e I=>by
  have:=h.par i e I
  have:=(qA9.mp I).1
  omega
 have O:∀(i:Nat) (e:GEnt),(es ++ [(v9 c ms es A kk,A,kk)])[i]?=some e->(es[i]?=some e/\i<es.length)\/(i=es.length/\e=(v9 c ms es A kk,A,kk)):=λi e I=>by
  by_cases hi:i<es.length
  .rw[qE6 hi]at I;show .inl ⟨I,hi⟩
  .have a7:=(qA9.mp I).1;rw[qD1,qF5]at a7
   have:i=es.length:=ox
   subst this;rw[qH5 (qB4 _),Nat.sub_self]at I;cases I;show .inr ⟨rfl,rfl⟩
 refine ⟨λe I=>?_,λe I=>?_,λe I=>?_,?_,λi e I=>?_,λi e I=>?_,λa k hj a5 T=>?_⟩
 .rcases qF9.mp I with q|q
  .show h.len e q
  .rw [qD5.mp q]
   change (v9 c ms es A kk).length=_;rw[bg];show F0 h.len hA
 .rcases qF9.mp I with q|q
  .show h.k8 e q
  .rw[qD5.mp q];show hk
 .rcases qF9.mp I with q|q
  .rcases h.lt e q with q1|⟨q1,q2⟩
   .show .inl q1
   .show .inr ⟨q1,ox⟩
  .rw[qD5.mp q];show .inr ⟨rfl,qD8 kk⟩
 .refine List.pairwise_append.mpr ⟨h.inc,qY8 _ _,λx hx y hy=>?_⟩;rw[qD5.mp hy];show h.below h8 x hx
 .rcases O i e I with ⟨q,_⟩|⟨rfl,rfl⟩
  .show h.par i e q
  .show hA
 .rcases O i e I with ⟨q,hi⟩|⟨rfl,rfl⟩
  .obtain ⟨p1,p2,p3⟩:=h.beh i e q;have hp:=a3 i e q;rw[hS _ hp,hC _ _ hp];show ⟨p1,p2,λj hj=>by rw[hS j ox];show p3 j hj⟩
  .refine ⟨by rw[hS _ hA];show a6,by rw[hC _ _ hA],λj hj=>?_⟩;rw[hS j hj];unfold V6 at a0;rw[qK8]at a0
   have:=a0 _ (bL hj)
   simpa using this
 .have ha:a<=es.length:=ox;rw[hS a ha]at T;rw[hC a k ha];by_cases e:a=A/\k=kk
  .obtain ⟨rfl,rfl⟩:=e;show .inl ⟨_,qC9 _ (qY9 _),rfl⟩
  .rcases h.set a k ox a5 T with ⟨e,I,q⟩|⟨j,hj,h1,h2⟩
   .show .inl ⟨e,qJ3 _ I,q⟩
   .refine .inr ⟨j,by rw[qD1,qF5];omega,λi e a4 I=>?_,by rw[hS j hj];show h2⟩;rcases O i e I with ⟨q,_⟩|⟨rfl,_⟩
    .show h1 i e a4 q
    .omega
def GK.step {kk:Nat}(h:GK c ms es A kk) (O:ms.length<=8) (hA:A<=es.length) (hk:kk<ms.length):GK c ms (M9 c ms es A kk) A (kk+1):=by
 unfold M9;cases I:O5 (sC c es A) (mvN ms kk) with
 | false=>
  rw[qA4 ZV];show h.stay O λq=>by rw[I]at q;cases q
 | true=>
  cases T:V6 (stC c es) (v9 c ms es A kk) with
  | true=>
   rw[qA4 ZV];show h.stay O λ_=>T
  | false=>
   rw[qA2 ZV];show h.snoc O hA hk I T
def GK.next (h:GK c ms es A ms.length):GK c ms es (A+1) 0 where
 len:=h.len
 k8:=h.k8
 lt:=λe O=>by
  have:=h.k8 e O
  rcases h.lt e O with q|⟨q,q'⟩
  .show .inl ox
  .show .inl ox
 inc:=h.inc
 par:=h.par
 beh:=h.beh
 set:=λa k T hk I=>h.set a k ox hk I
def tf (c:Cap) (ms:List Mv) (es:List GEnt) (a k:Nat):es.length<=(M9 c ms es a k).length/\(M9 c ms es a k).length<=es.length+1:=by
 unfold M9
 split
 .rw[qD1,qF5];omega
 .omega
def rB {most:Nat}(h6:b.length<=6) (hm:∀m∈ms,okN b.length m) (h8:ms.length<=8) (h1:1<=most) (b4:most<=30):Ok (Q7 [.tup [tI b,tM_ ms],.int (most:Int)]) λw=>(w=.non/\∃es A,GK (b.map some) ms es A 0/\most<es.length+1)\/∃es,w=.lst (i8 (b.map some) es)/\es.length+1<=most/\GK (b.map some) ms es (es.length+1) 0:=by
 have a6:(b.map some).length=b.length:=qA5 ..;have a0:L2.atI [tI b,tM_ ms] 0=some (tI b):=rfl;have a1:L2.atI [tI b,tM_ ms] 1=some (tM_ ms):=rfl;have gr:∀(es:List GEnt) (A k:Nat),GK (b.map some) ms es A k->A<=es.length->k<ms.length->es.length<=90->iE (.tup [tI b,tM_ ms]) (i8 (b.map some) es) [.int (A:Int),.int (k:Int)]=.ok (i8 (b.map some) (M9 (b.map some) ms es A k)):=λes A k I hA hk hl=>Cc h6 hm I.par (λe he=>by rw[<- a6];show I.len e he) hl hA hk;have a7:(.lst [.tup [tI b,.non,.non]]:W)=.lst (i8 (b.map some) []):=by rw[zh];rfl
 generalize hc:b.map some=c at *
 exists rpB,nj,a0,C1 (aA b);refine w4 (ax ?_);refine cL (λm ρ=>∃(es:List GEnt) (at_:Nat) (O:Sl),ρ = [.par (.tup [tI b,tM_ ms]),.par (.int (most:Int)),.own (i8 c es),.val (.int (at_:Int)),O]/\GK c ms es at_ 0/\at_<=es.length+1/\es.length+1<=most/\m+at_=102) ?_ 102 _ ⟨[],0,_,by rw[show i8 c [] = [.tup [tI b,.non,.non]] from by injection a7 with h;show h.symm];rfl,GK.start c ms,ZV,by simpa using h1,rfl⟩;rintro m ρ ⟨es,at_,O,rfl,I,b3,a3,ab⟩;have T:(i8 c es).length=es.length+1:=ZV;by_cases b0:at_<es.length+1
 .refine ⟨true,?_,?_⟩
  .have d1:decide ((at_:Int)<((es.length+1:Nat):Int))=true:=qO8 ox;exists T,d1
  .rw [qA2 rfl]
   exists a1;refine bO (λρ=>∃(es:List GEnt) (O:Sl),ρ = [.par (.tup [tI b,tM_ ms]),.par (.int (most:Int)),.own (i8 c es),.val (.int (at_:Int)),O]/\GK c ms es at_ ms.length/\at_<=es.length/\es.length<=60) ?_ ?_
   .refine bN (λi ρ=>∃(es:List GEnt) (O:Sl),ρ = [.par (.tup [tI b,tM_ ms]),.par (.int (most:Int)),.own (i8 c es),.val (.int (at_:Int)),O]/\GK c ms es at_ i/\at_<=es.length/\es.length<=30+i) ⟨es,_,rfl,I,ox,ox⟩ ?_ ?_
    .rintro i u ρ hu ⟨es,O,rfl,I,hA,hl⟩;obtain ⟨hi,rfl⟩:=av hu;have kg:=gr es at_ i I hA hi ox;have a9:=tf c ms es at_ i;refine ⟨_,rfl,?_⟩;obtain ⟨a5,a8⟩:∃a5,a5=i8 c es:=⟨_,rfl⟩;rw[<- a8]at kg ⊢;exists kg;show ⟨M9 c ms es at_ i,_,rfl,I.step h8 hA hi,ox,ox⟩
    .rintro ρ ⟨es,O,rfl,I,hA,hl⟩;simp only [qA5,qF4]at I hl;show ⟨es,_,rfl,I,hA,ox⟩
   .rintro ρ ⟨es,O,rfl,I,hA,hl⟩;have T:(i8 c es).length=es.length+1:=ZV;exists T;refine uj (λh=>?_) (λh=>?_)
    .have h:=qO9 h;exists rp18;show .inl ⟨es,at_+1,I.next,ox⟩
    .have h:=qQ1 h;exists rp18;show ⟨101-at_,ox,es,at_+1,_,by rw[show ((at_+1:Nat):Int)=(at_:Int)+1 by omega],I.next,ox,ox,ox⟩
 .refine ⟨false,?_,?_⟩
  .have d1:decide ((at_:Int)<((es.length+1:Nat):Int))=false:=qO7 ox;exists T,d1
  .rw [qA4 qB0]
   exists rp18
   have:at_=es.length+1:=ox
   subst this;show .inr ⟨es,rfl,a3,I⟩
def vh {most:Nat}(T:b.length<=6) (hm:∀m∈ms,okN b.length m) (h8:ms.length<=8) (O:1<=most) (I:most<=30):Ok (Q7 [.tup [tI b,tM_ ms],.int (most:Int)]) λw=>w=.non\/∃es,w=.lst (i8 (b.map some) es)/\es.length+1<=most/\GK (b.map some) ms es (es.length+1) 0:=by
 obtain ⟨w,e,h⟩:=rB T hm h8 O I;refine ⟨w,e,?_⟩;rcases h with ⟨h,_⟩|h
 .show .inl h
 .show .inr h
def DP (n:Nat)(cs:Cap):shp (n+1) (lC cs)=true:=aq oW n (λo=>by cases o with|none=>show oS n|some i=>show Z9 n i) cs
def kO:Option Int->List Int
 |none=>[1,0]
 |some n=>[0,n]
def v5 (c:Cap):List Zz:=c.map kO
def FV (h:kO x=kO y):x=y:=by
 cases x with
 | none=>
  cases y with
  |none=>rfl
  |some m=>simp [kO]at h
 | some n=>
  cases y with
  |none=>simp [kO]at h
  |some m=>simp [kO]at h;rw[h]
def gF:∀{a b:Cap},v5 a=v5 b->a=b
 | [],[],_=>rfl
 | [],_::_,h=>by simp [v5]at h
 |_::_,[],h=>by simp [v5]at h
 | x::a,y::b,h=>by
  have h:kO x::v5 a=kO y::v5 b:=h;injection h with h1 h2
  rw[FV h1,gF h2]
def jR (x y:VQ) (a b:Cap):l6 (x::a) (y::b)=(L7 x y&&l6 a b):=by
 unfold l6;rw[qC5,List.range_succ_eq_map,List.all_cons,List.all_map];rfl
def wo (h:L7 x y=true) (hn:kO y≠kO x):lexLt (kO y) (kO x)=false:=by
 cases y with
 | none=>
  cases x with
  |none=>show absurd rfl hn
  |some n=>simp [kO,TP.lexLt]
 | some m=>
  cases x with
  |none=>cases h
  | some n=>
   have h:n<=m:=qO9 h;simp [kO,TP.lexLt];omega
def oM:∀{a b:Cap},a.length=b.length->l6 a b=true->x8 (v5 b) (v5 a)=false
 | [],[],_,_=>rfl
 | [],_::_,h,_=>by simp at h
 |_::_,[],h,_=>by simp at h
 | x::a,y::b,hl,h=>by
  rw[jR,qG6]at h
  change (if kO y=kO x then x8 (v5 b) (v5 a) else lexLt (kO y) (kO x))=false;by_cases e:kO y=kO x
  .rw[qA2 e];show oM (by simpa using hl) h.2
  .rw[qA4 e];show wo h.1 e
def U7 (a:Cap):l6 a a=true:=gU λk _=>by
 cases a.getD k none with
 |none=>rfl
 |some x=>show qO8 (qE8 x)
def Dt (I:a.length=b.length)(T:x8 (v5 a) (v5 b)=false)(O:l6 a b=true):a=b:=gF (cT _ _ T (oM I O))
def qA {c:Cap}(O:c.length<=6):N8 [tC c]=.ok (kW (v5 c)):=by
 have e:∀N mg me ρ (h:∀z:Option Int,∃I,mg (oW z) (ρ++List.replicate (N-ρ.length) Sl.un)=some I/\me I=.ok (.tup ((kO z).map W.int))),j6 N mg yes me (c.map oW) ρ=.ok (.lst (gX (v5 c))):=λN mg me ρ h=>by
  rw[i9 (λz=>.tup ((kO z).map W.int)) oW c ρ ox (λz _=>h z)];unfold gX v5;show congrArg (λl=>R.ok (W.lst l)) (by rw[qC3];rfl)
 exists rpB,iw;rw[e]
 .have hn:n5 (gX (v5 c))=true:=mU (v5 c);exists fK hn;rfl
 .intro z;refine ⟨_,rfl,?_⟩;cases z with
  | none=>
   exists rp18;rfl
  | some n=>
   exists rp18;rfl
def uU (O:1<=c.length):keyOf (.ok (kW (v5 c)))=some (v5 c):=by
 have I:aO (gX (v5 c))=some (v5 c):=lD _;unfold keyOf kW;dsimp only;rw[I];cases c with
 |nil=>simp at O
 |cons a c=>rfl
def kB:∀{cs:List Cap},(∀c∈cs,1<=c.length/\c.length<=6)->K2 N8 (cs.map tC)=some (cs.map v5)
 | [],_=>rfl
 | c::cs,h=>by
  have hc:=h c qB3;rw[qC2];unfold K2;rw[qA hc.2,uU hc.1,kB λd hd=>h d (qA8 _ hd)];rfl
def xA (f:α->β) (O:vs.length=ks.length):A3 ks e (vs.map f)=(A3 ks d vs).map f:=by
 unfold A3;rw[qI0,qC3];refine congrArg List.reverse (qE5 λi hi=>?_);have I:i<vs.reverse.length:=by
  have:=(R4 ks.reverse).mem_iff.mp hi
  rw[qF8,qB7]at this;rw[qB7];omega
 rw[<- qI0,qA0,qA6,qA3 I]
 change _=f (vs.reverse.getD i d);rw[qA0,qA3 I];rfl
def srt (cs:List Cap):List Cap:=A3 (cs.map v5) [] cs
def wH (cs:List Cap):(srt cs).Perm cs:=ur ZV
def wI (cs:List Cap):(srt cs).Pairwise λa b=>x8 (v5 a) (v5 b)=false:=by
 unfold srt A3;rw[qT6,qK9];have hm:∀i∈U9 (cs.map v5).reverse,i<cs.reverse.length:=λi hi=>by
  have:=(R4 (cs.map v5).reverse).mem_iff.mp hi
  rw[qF8,qB7,qA5]at this;rw[qB7];show this
 have hk:∀i,i<cs.reverse.length->(cs.map v5).reverse.getD i []=v5 (cs.reverse.getD i []):=λi hi=>by
  rw[<- qI0,qA0,qA6,qA3 hi,qA0,qA3 hi];rfl
 refine qY3 (λ{i j} hi hj h=>?_) (Bg (cs.map v5).reverse);rw[hk i (hm i hi),hk j (hm j hj)]at h;show h
def uH (cs:List Cap):n5 (cs.map tC)=true:=az tC (λc=>E1 c) cs
def qC (O:∀c∈cs,1<=c.length/\c.length<=6) (I:cs.length<64):eP c N8 [.lst (cs.map tC)]=.ok (.lst ((srt cs).map tC)):=by
 change (match K2 N8 (cs.map tC) with|some ks=>if (cs.map tC).length<64 then chks c (A3 ks W.non (cs.map tC)) else .stuck|none=>.stuck)=_;rw[kB O];dsimp only;rw[qA2 (by rw[qA5];show I),xA tC (d:=[]) ZV,fJ (uH _)];rfl
def Ah {cs:List Cap}(hl:∀c∈cs,c.length=n) (h1:1<=n) (h6:n<=6) (a8:cs.length<64):Ok (nF [.lst (cs.map tC)]) λw=>∃ts:List Cap,w=.lst (ts.map tC)/\(∀t∈ts,t∈cs)/\ts.length<=cs.length/\(ts.Pairwise λa b=>x8 (v5 a) (v5 b)=true/\l6 a b=false/\l6 b a=false)/\∀c∈cs,∃t∈ts,l6 c t=true:=by
 have hs:=qC (cs:=cs) (c:=false) (λc hc=>by rw[hl c hc];show ⟨h1,h6⟩) a8;have hp:=wH cs;have hd:=wI cs;have b3:(srt cs).length=cs.length:=hp.length_eq;have a3:∀c∈srt cs,c.length=n:=λc hc=>hl c (hp.mem_iff.mp hc);generalize srt cs=ss at *
 exists rpB,uQ,hs;refine w4 (y8 (λi ρ=>∃(fs:List Cap) (a2:Sl),ρ = [.par (.lst (cs.map tC)),.own (fs.map tC),a2]/\(∀t∈fs,t∈ss.take i)/\fs.length<=i/\(fs.Pairwise λa b=>x8 (v5 a) (v5 b)=false/\l6 b a=false)/\∀c∈ss.take i,∃t∈fs,l6 c t=true) ⟨[],_,rfl,ZV,ZV,List.Pairwise.nil,ZV⟩ ?_ ?_)
 .rintro i u ρ hu ⟨fs,a2,rfl,I,a5,a0,O⟩;rw[qA6]at hu;obtain ⟨x,hx,rfl⟩:=qE3.mp hu;obtain ⟨hi,ex⟩:=qA9.mp hx;have a6:=qD4 hx;have ht:ss.take (i+1)=ss.take i ++ [x]:=by rw[qL6,hx];rfl
  have a7:∀t∈fs,t.length=x.length:=λt T=>by rw[a3 t (List.mem_of_mem_take (I t T)),a3 x a6]
  have ku:=fN (cs:=fs) (x:=x) a7;have a9:fs.length<64:=ox;refine ⟨_,rfl,?_⟩;exists ku;cases hU:V6 fs x with
  | true=>
   exists rp18;refine ⟨fs,_,rfl,λt q=>by rw[ht];show qJ3 _ (I t q),ox,a0,λc hc=>?_⟩;rw[ht]at hc;rcases qF9.mp hc with q|q
   .show O c q
   .rw [qD5.mp q]
    obtain ⟨t,h1,h2⟩:=qT3.mp hU;show ⟨t,h1,h2⟩
  | false=>
   exists C1 (show noL (tC x)=true from E1 x);refine ⟨fs ++ [x],_,by rw[qD0];rfl,λt q=>?_,by rw[qD1,qF5];omega,?_,λc hc=>?_⟩
   .rw [ht]
    rcases qF9.mp q with q|q
    .show qJ3 _ (I t q)
    .show qC9 _ q
   .refine List.pairwise_append.mpr ⟨a0,qY8 _ _,λt T y hy=>?_⟩;rw[qD5.mp hy];refine ⟨?_,?_⟩
    .obtain ⟨j,hj,ej⟩:=qF7.mp (I t T);rw[qM2]at hj;rw[List.getElem_take]at ej
     have:=List.pairwise_iff_getElem.mp hd j i ox hi ox
     rw[ej,ex]at this;show this
    .unfold V6 at hU;rw[qK8]at hU
     have:=hU t T
     simpa using this
   .rw [ht]at hc
    rcases qF9.mp hc with q|q
    .obtain ⟨t,h1,h2⟩:=O c q;show ⟨t,qJ3 _ h1,h2⟩
    .rw [qD5.mp q]
     show ⟨x,qC9 _ (qY9 _),U7 x⟩
 .rintro ρ ⟨fs,a2,rfl,I,a5,a0,O⟩;rw[qA5]at a5;rw[qA5,qH4]at I O;exists rp18;refine ⟨fs.reverse,by rw[qI0],λt q=>hp.mem_iff.mp (I t (qM5.mp q)),by rw[qB7];omega,?_,λc hc=>?_⟩
  .rw [qT6]
   refine qY3 (λ{b a} hb ha h=>?_) a0;have ab:=a3 b (I b hb);have b0:=a3 a (I a ha);have a4:l6 b a=false:=by
    cases hq:l6 b a with
    |false=>rfl
    | true=>
     have:=Dt ox h.1 hq
     subst this;rw[U7]at hq;have h2:=h.2;rw[U7]at h2;cases h2
   refine ⟨?_,h.2,a4⟩;cases hq:x8 (v5 a) (v5 b) with
   |true=>rfl
   | false=>
    have:=gF (cT _ _ h.1 hq)
    subst this;rw[U7]at a4;cases a4
  .obtain ⟨t,q1,q2⟩:=O c (hp.mem_iff.mpr hc);show ⟨t,qM5.mpr q1,q2⟩
def qr (I:L7 x y=true) (O:L7 y z=true):L7 x z=true:=by
 cases z with
 |none=>rfl
 | some c=>
  cases y with
  |none=>cases O
  | some b=>
   cases x with
   |none=>cases I
   | some a=>
    have I:a<=b:=qO9 I;have O:b<=c:=qO9 O;show qO8 ox
def R0:∀{a b c:Cap},a.length=b.length->b.length=c.length->l6 a b=true->l6 b c=true->l6 a c=true
 | [],[],[],_,_,_,_=>rfl
 | [],_::_,_,h,_,_,_=>by simp at h
 |_::_,[],_,h,_,_,_=>by simp at h
 |_,[],_::_,_,h,_,_=>by simp at h
 |_,_::_,[],_,h,_,_=>by simp at h
 | x::a,y::b,z::c,h1,h2,h3,h4=>by
  rw[jR,qG6]at h3 h4 ⊢;show ⟨qr h3.1 h4.1,R0 (by simpa using h1) (by simpa using h2) h3.2 h4.2⟩
def yN {most:Nat}(h1:1<=b.length) (h6:b.length<=6) (hm:∀m∈ms,okN b.length m) (h8:ms.length<=8) (a5:1<=most) (a8:most<=30):∃w u:W,Q7 [.tup [tI b,tM_ ms],.int (most:Int)]=.ok w/\ca [.tup [tI b,tM_ ms],.int (most:Int)]=.ok u/\((w=.non/\u=.non)\/∃(es:List GEnt) (I:List Cap),w=.lst (i8 (b.map some) es)/\es.length+1<=most/\GK (b.map some) ms es (es.length+1) 0/\u=.lst (I.map tC)/\(∀t∈I,t∈stC (b.map some) es)/\I.length<=es.length+1/\(I.Pairwise λa b=>x8 (v5 a) (v5 b)=true/\l6 a b=false/\l6 b a=false)/\∀c∈stC (b.map some) es,∃t∈I,l6 c t=true):=by
 obtain ⟨w,O,hw⟩:=vh (most:=most) h6 hm h8 a5 a8;have a0:(b.map some).length=b.length:=qA5 ..;rcases hw with rfl|⟨es,rfl,hes,hK⟩
 .refine ⟨_,.non,O,?_,.inl ⟨rfl,rfl⟩⟩;exists rpB,jt,O
 .generalize hc:b.map some=c at *
  have a6:∀d∈stC c es,d.length=b.length:=λd hd=>by
   unfold stC at hd;rcases qB5.mp hd with q|q
   .rw[q,a0]
   .obtain ⟨z,hz,ez⟩:=qB1.mp q;rw[<- ez,hK.len z hz,a0]
  obtain ⟨u,et,I,rfl,q1,q2,q3,q4⟩:=Ah (cs:=stC c es) (n:=b.length) a6 h1 h6 (by rw[Z8];omega);rw[Z8]at q2;refine ⟨_,.lst (I.map tC),O,?_,.inr ⟨es,I,rfl,hes,hK,rfl,q1,q2,q3,q4⟩⟩;have T:∀N mg me ρ (h:∀o∈(none::es.map some:List (Option GEnt)),∃a3,mg (aS c o) (ρ++List.replicate (N-ρ.length) Sl.un)=some a3/\me a3=.ok (tC (dc c o))),j6 N mg yes me (i8 c es) ρ=.ok (.lst ((stC c es).map tC)):=λN mg me ρ h=>by
   rw[jd,i9 (λo=>tC (dc c o)) _ _ ρ (by simp;omega) h];rw[<- zk];refine congrArg (λl=>R.ok (W.lst l)) ?_;rw[qC3];rfl
  obtain ⟨a4,a7⟩:∃a4,a4=i8 c es:=⟨_,rfl⟩;rw[<- a7]at O T;exists rpB,jt,O;rw[T]
  .exists et
  .intro o ho;refine ⟨_,rfl,?_⟩;cases o with
   | none=>
    have b0:L2.atI [tC c,W.non,W.non] 0=some (tC c):=rfl;have b1:aS c none=.tup [tC c,.non,.non]:=rfl;have b2:dc c none=c:=rfl;exists b1,b0,b2,C1 (show noL (tC c)=true from E1 c)
   | some e=>
    have b0:L2.atI [tC e.1,.int (e.2.1:Int),.int (e.2.2:Int)] 0=some (tC e.1):=rfl;have b1:aS c (some e)=.tup [tC e.1,.int (e.2.1:Int),.int (e.2.2:Int)]:=rfl;have b2:dc c (some e)=e.1:=rfl;exists b1,b0,b2,C1 (show noL (tC e.1)=true from E1 e.1)
def ak {l:Zz}(h:k<l.length):(l.map some).getD k none=some (l.getD k 0):=by
 rw[qA0,qA6,qA3 h,qA0,qA3 h];rfl
def wm {cs ds:Cap}(h:l6 cs ds=true) (hk:k<cs.length):L7 (cs.getD k none) (ds.getD k none)=true:=by
 unfold l6 at h;show qG2.mp h k (by simpa using hk)
def sS (x:VQ):L7 x x=true:=by
 cases x with
 |none=>rfl
 |some a=>show qO8 (qE8 a)
def gt {α:Type}(n k:Nat) (f:Nat->α) (d:α) (h:k<n):((List.range n).map f).getD k d=f k:=by
 rw[qA0,qA6,qC7 h];rfl
def Ag (x e:Cap):l6 x (j4 x e)=true:=by
 unfold j4;by_cases h:l6 e x=true
 .rw [qA2 h]
  refine gU λk hk=>?_;rw[gt _ _ _ _ hk];unfold S5;by_cases q:x.getD k none=e.getD k none
  .rw[qA2 q];show sS _
  .rw[qA4 q];rfl
 .rw[qA4 h];show U7 x
def sR (c:Cap) (es:List GEnt):∀(l:Zw) (x:Cap),l6 x (upC c es l x)=true
 | [],x=>U7 x
 |q::l,x=>R0 (L9 x (sC c es q)).symm (bH c es l (j4 x (sC c es q))).symm (Ag x (sC c es q)) (sR c es l (j4 x (sC c es q)))
def sk (st:Zz)(m:Mv):Bool:=(List.range st.length).all λk=>decide (m.1.getD k 0<=st.getD k 0)
def bhS (st:Zz)(m:Mv):List Int:=(List.range st.length).map λk=>st.getD k 0-m.1.getD k 0+m.2.getD k 0
def fL (st:Zz)(m:Mv):(bhS st m).length=st.length:=by simp [bhS]
def Da (h:sk st m=true) (hk:k<st.length):m.1.getD k 0<=st.getD k 0:=by
 unfold sk at h;show qO9 (qG2.mp h k (by simpa using hk))
def CZ {t:Cap}(hm:okN st.length m) (I:st.length=t.length) (h:sk st m=true) (O:l6 (st.map some) t=true):O5 t m=true:=by
 refine R0 (b:=st.map some) (by rw[qA5,qA5,hm.1]) (by rw[qA5];show I) (gU λk hk=>?_) O;rw[qA5,hm.1]at hk;rw[ak (by rw[hm.1];show hk),ak hk];show qO8 (Da h hk)
def Id {t:Cap}(T:st.length=t.length) (I:l6 (st.map some) t=true):l6 ((bhS st m).map some) (v4 t m)=true:=by
 refine gU λk hk=>?_;rw[qA5,fL]at hk;have I:=wm I (k:=k) (by rw[qA5];show hk);rw[ak hk]at I;rw[ak (by rw[fL];show hk)];unfold bhS v4;rw[gt _ _ _ _ hk,gt _ _ _ _ ox];cases O:t.getD k none with
 |none=>rfl
 | some y=>
  rw[O]at I;have I:st.getD k 0<=y:=qO9 I;show qO8 (show st.getD k 0-m.1.getD k 0+m.2.getD k 0<=y+(m.2.getD k 0-m.1.getD k 0) by omega)
def gZ (h:t∈stC c es):∃a,a<=es.length/\t=sC c es a:=by
 obtain ⟨a,ha,I⟩:=qF7.mp h;refine ⟨a,by rw[Z8]at ha;omega,?_⟩;unfold sC;rw[qA0,qA3 ha,I];rfl
def Jb (h:m∈ms):∃k,k<ms.length/\m=mvN ms k:=by
 obtain ⟨k,hk,I⟩:=qF7.mp h;refine ⟨k,hk,?_⟩;unfold mvN;rw[qA0,qA3 hk,I];rfl
def wx (I:GK c ms es (es.length+1) 0) (ht:t∈stC c es) (hm:m∈ms) (O:O5 t m=true):∃d∈stC c es,l6 (v4 t m) d=true:=by
 obtain ⟨a,ha,rfl⟩:=gZ ht;obtain ⟨k,hk,rfl⟩:=Jb hm;have hl:=F0 I.len ha;have T:l6 (v4 (sC c es a) (mvN ms k)) (v9 c ms es a k)=true:=sR c es (j5 es a) _;rcases I.set a k ox hk O with ⟨e,he,q⟩|⟨j,hj,_,h2⟩
 .obtain ⟨i,hi,ei⟩:=qF7.mp he
  have:=(I.beh i e (by rw[qA3 hi,ei])).2.1
  rw[q]at this;refine ⟨e.1,qA8 _ (qB1.mpr ⟨e,he,rfl⟩),?_⟩;rw[this];show T
 .show ⟨_,bL hj,R0 (by rw[K4,bg]) (by rw[bg,hl];show (F0 I.len hj).symm) T h2⟩
def gn {kk:Nat}(I:GK c ms es A kk):∀d∈stC c es,d.length=c.length:=λd hd=>by
 obtain ⟨a,ha,rfl⟩:=gZ hd;show F0 I.len ha
def vx {O:List Cap}(hK:GK c ms es (es.length+1) 0) (a0:∀m∈ms,okN c.length m) (q1:∀t∈O,t∈stC c es) (q4:∀d∈stC c es,∃t∈O,l6 d t=true) (hl:st.length=c.length) (hm:m∈ms) (a3:sk st m=true) (T:∃t∈O,l6 (st.map some) t=true):∃t∈O,l6 ((bhS st m).map some) t=true:=by
 obtain ⟨t,ht,T⟩:=T;have hlen:=gn hK;have lt:=hlen t (q1 t ht);have hb:=Id (m:=m) ox T;obtain ⟨d,hd,h2⟩:=wx hK (q1 t ht) hm (CZ (by rw[hl];show a0 m hm) ox a3 T);obtain ⟨t',I,h3⟩:=q4 d hd;have ld:=hlen d hd;have a4:=hlen t' (q1 t' I);show ⟨t',I,R0 (by rw[qA5,fL];omega) ox (R0 (by rw[qA5,fL,K4];omega) (by rw[K4];omega) hb h2) h3⟩
def pz (l:Zw):List Int:=l.map λ(k:Nat)=>(k:Int)
def S8 (l:Zw):(pz l).length=l.length:=by unfold pz;rw[qA5]
def gx (l:Zw):(pz l).map W.int=l.map λ(q:Nat)=>W.int (q:Int):=by unfold pz;rw[qC3];rfl
def plc (x h:Cap):List Nat:=(List.range x.length).filter λk=>decide (h.getD k none≠x.getD k none)
def lfs (c:Cap) (es:List GEnt):List Nat->Cap->List (Nat×List Nat)
 | [],_=>[]
 |q::l,x=>(if plc x (j4 x (sC c es q)) = [] then [] else [(q,plc x (j4 x (sC c es q)))])++lfs c es l (j4 x (sC c es q))
abbrev lfT (p:Nat×List Nat):W:=.tup [.int (p.1:Int),tI (pz p.2)]
def pe (x h:Cap):(plc x h).length<=x.length:=by
 unfold plc
 have:=List.length_filter_le (λk=>decide (h.getD k none≠x.getD k none)) (List.range x.length)
 rwa [qF4]at this
def Hf (a b:VQ):fEq true (oW a) (oW b)=.ok (.bl (decide (a≠b))):=by
 cases a with
 | none=>
  cases b with
  |none=>rfl
  |some y=>rw[show oW none=W.non from rfl,show oW (some y)=W.int y from rfl,nH];rfl
 | some x=>
  cases b with
  |none=>rw[show oW none=W.non from rfl,show oW (some x)=W.int x from rfl,nI];rfl
  | some y=>
   rw[show oW (some x)=W.int x from rfl,show oW (some y)=W.int y from rfl,U3];by_cases h:x=y <;> simp [h]
def atO {cs:Vy}(h:k<cs.length):L2.atI (cs.map oW) (k:Int)=some (oW (cs.getD k none)):=F9 (by rw[qA6,qA0,qA3 h];rfl)
def sQ {kk:Nat}(hK:GK c ms es A kk) (h6:c.length<=6) (hm:∀m∈ms,okN c.length m) (O:es[i]?=some e):T9 [.tup [tI b,tM_ ms],.lst (i8 c es),.int ((i+1:Nat):Int)]=.ok (tC (v4 (sC c es e.2.1) (mvN ms e.2.2))):=by
 have hi:=(qA9.mp O).1;have a3:=qD4 O;have hp:=hK.par i e O;have hk:=hK.k8 e a3;have hs:=F0 hK.len (a:=e.2.1) ox;obtain ⟨a4,_,_⟩:=hK.beh i e O;have r1:=ft (c:=c) O;obtain ⟨x,y,er⟩:=U8 (c:=c) (es:=es) (a:=e.2.1) ox;have a0:L2.atI [tC (sC c es e.2.1),x,y] 0=some (tC (sC c es e.2.1)):=rfl;have a1:L2.atI [tI b,tM_ ms] 1=some (tM_ ms):=rfl;have b1:L2.atI [tC e.1,.int (e.2.1:Int),.int (e.2.2:Int)] 1=some (.int (e.2.1:Int)):=rfl;have b2:L2.atI [tC e.1,.int (e.2.1:Int),.int (e.2.2:Int)] 2=some (.int (e.2.2:Int)):=rfl;have ej:L2.atI (ms.map mW) (e.2.2:Int)=some (mW (mvN ms e.2.2)):=by
  have:=atM (ms:=ms) (r:=(e.2.2:Int)) ox ox
  rw[qD9]at this;show this
 have k:=ge (c:=sC c es e.2.1) (m:=mvN ms e.2.2) ox (by rw[hs];show getM hm hk) a4;obtain ⟨I,T⟩:∃I,I=i8 c es:=⟨_,rfl⟩;rw[<- T]at r1 er;rw[<- T];exists rpB,iu,r1,b1,er,a0,a1,b2,ej,k
def cut1 (l:Zw) (q:Nat):U5 (pz (q::l)) (some 1) none=pz l:=by
 unfold U5;rw[show (1:Int)=((1:Nat):Int) from rfl,HT.sIx_nat,HT.sIx_none]
 have:min 1 (pz (q::l)).length=1:=by rw[S8,qC5];omega
 rw[this]
 change (pz l).take _=_;show qL5 (by rw[S8,S8,qC5];omega)
def rh {kk:Nat}(hK:GK c ms es A kk) (h6:c.length<=6) (hm:∀m∈ms,okN c.length m) (bw:es.length<=90) (he:es[i]?=some e):U0 [.tup [tI b,tM_ ms],.lst (i8 c es),.int ((i+1:Nat):Int)]=.ok (.lst ((lfs c es (j5 es e.2.1) (v4 (sC c es e.2.1) (mvN ms e.2.2))).map lfT)):=by
 have fin:Ok (U0 [.tup [tI b,tM_ ms],.lst (i8 c es),.int ((i+1:Nat):Int)]) λv=>v=.lst ((lfs c es (j5 es e.2.1) (v4 (sC c es e.2.1) (mvN ms e.2.2))).map lfT):=by
  have hi:=(qA9.mp he).1;have hp:=hK.par i e he;have ku:=sQ (b:=b) hK h6 hm he;have kw:=cw (c:=c) (n:=i+1) hK.par ox ox;have b0:=o0 hK.par he;have T:=cut1 (j5 es e.2.1) (i+1);have b6:=J0 hK.par e.2.1 ox;have hs:=F0 hK.len (a:=e.2.1) ox;have kw:D0 [.lst (i8 c es),.int ((i+1:Nat):Int)]=.ok (lI (pz ((i+1)::j5 es e.2.1))):=by rw[b0]at kw;show kw
  have z0:decide (((i+1:Nat):Int)=0)=false:=qO7 ox;have a3:∀q,q<=es.length->∃x y:W,L2.atI (i8 c es) (q:Int)=some (.tup [tC (sC c es q),x,y]):=λq hq=>U8 hq;have b4:(v4 (sC c es e.2.1) (mvN ms e.2.2)).length=c.length:=by rw[K4,hs]
  generalize v4 (sC c es e.2.1) (mvN ms e.2.2)=x0 at *
  generalize hl0:j5 es e.2.1=l0 at *
  obtain ⟨a4,ab⟩:∃a4,a4=i8 c es:=⟨_,rfl⟩;rw[<- ab]at ku kw a3;rw[<- ab];obtain ⟨wl,a9⟩:∃wl,wl=pz ((i+1)::l0):=⟨_,rfl⟩;rw[<- a9]at kw T;exists rpB,ix,z0,ku,kw,T;refine w4 (y8 (λj ρ=>∃(fs:List (Nat×List Nat)) (x:Cap) (a5 a6 a7:Sl),ρ = [.par (.tup [tI b,tM_ ms]),.par (.lst a4),.par (.int ((i+1:Nat):Int)),.own (fs.map lfT),.val (tC x),a5,a6,a7]/\lfs c es l0 x0=fs++lfs c es (l0.drop j) x/\x.length=c.length/\fs.length<=j) ⟨[],x0,_,_,_,rfl,rfl,b4,qB4 _⟩ ?_ ?_)
  .rintro j u ρ hu ⟨fs,x,a5,a6,a7,rfl,O,hx,b5⟩;rw[gx,qA6]at hu;obtain ⟨q,hq,rfl⟩:=qE3.mp hu;obtain ⟨hj,eq⟩:=qA9.mp hq;have c2:=b6.1 q (qD4 hq);obtain ⟨p1,p2,er⟩:=a3 q ox;have a0:L2.atI [tC (sC c es q),p1,p2] 0=some (tC (sC c es q)):=rfl;have kr:=jZ (cs:=x) (es:=sC c es q) (by rw[hx];show F0 hK.len ox) ox;have hd:l0.drop j=q::l0.drop (j+1):=by rw[qW8 hj,eq]
   rw[hd]at O;have O:lfs c es l0 x0=fs++((if plc x (j4 x (sC c es q)) = [] then [] else [(q,plc x (j4 x (sC c es q)))])++lfs c es (l0.drop (j+1)) (j4 x (sC c es q))):=O;have c0:(j4 x (sC c es q)).length=x.length:=L9 x _;generalize j4 x (sC c es q)=h at *
   have ek:∀N mg mc me ρ (hh:∀k∈List.range x.length,∃a8,mg (.int (k:Nat)) (ρ++List.replicate (N-ρ.length) Sl.un)=some a8/\mc a8=.ok (decide (h.getD k none≠x.getD k none))/\(decide (h.getD k none≠x.getD k none)=true->me a8=.ok (.int (k:Nat)))),j6 N mg mc me ((List.range x.length).map λk=>W.int (k:Nat)) ρ=.ok (lI (pz (plc x h))):=λN mg mc me ρ hh=>by
    rw[J2 (λk=>.int (k:Nat)) (λk=>W.int (k:Nat)) (λk=>decide (h.getD k none≠x.getD k none)) _ ρ (by simp;omega) hh];show congrArg (λl=>R.ok (W.lst l)) (gx _).symm
   have c1:=pe x h;have b3:=S8 (plc x h);have bb:(fs.map lfT).length<=100:=by rw[qA5];omega
   refine ⟨_,rfl,?_⟩;exists er,a0,kr;rw[ek];rotate_left
   .intro k hk;have hk:k<x.length:=by simpa using hk
    have y1:=atO hk;have y2:=atO (cs:=h) (k:=k) ox;refine ⟨_,rfl,?_,λ_=>?_⟩
    .exists y1,y2,Hf
    .exists rp18
   exists b3;by_cases I:plc x h = []
   .have z1:decide ((0:Int)<((plc x h).length:Int))=false:=by rw[I];rfl
    rw[qA2 I]at O;exists z1;show ⟨fs,h,_,_,_,rfl,O,ox,ox⟩
   .have z1:decide ((0:Int)<((plc x h).length:Int))=true:=qO8 (by have:=List.length_pos_iff.mpr I;omega);rw[qA4 I,<- qJ8]at O;exists z1;show ⟨fs ++ [(q,plc x h)],h,_,_,_,by rw[qD0];rfl,O,ox,by rw[qD1,qF5];omega⟩
  .rintro ρ ⟨fs,x,a5,a6,a7,rfl,O,hx,b5⟩;rw[qA5,S8,List.drop_length]at O;exists rp18;rw[O]
   change W.lst (fs.map lfT)=W.lst ((fs ++ []).map lfT);rw[qH3]
 obtain ⟨v,e,rfl⟩:=fin;show e
def mvD (m:Mv)(p:Nat):Int:=m.2.getD p 0-m.1.getD p 0
def dsp (ms:List Mv):List Nat->Nat->Int
 | [],_=>0
 |k::r,p=>mvD (mvN ms k) p+dsp ms r p
def gos (n:Nat) (ms:List Mv):List Nat->Zv->Prop
 | [],_=>True
 |k::r,s=>k<ms.length/\(∀p,p<n->(mvN ms k).1.getD p 0<=s p)/\gos n ms r λp=>s p+mvD (mvN ms k) p
def M7:∀(r:Zw) (s t:Zv),(∀p,p<n->s p<=t p)->gos n ms r s->gos n ms r t
 | [],_,_,_,_=>trivial
 |k::r,s,t,h,⟨h1,h2,h3⟩=>⟨h1,λp I=>qC6 (h2 p I) (h p I),M7 r _ _ (λp I=>by have:=h p I;change s p+_<=t p+_;omega) h3⟩
def V1 (q:Zw) (p:Nat):∀r:List Nat,dsp ms (r++q) p=dsp ms r p+dsp ms q p
 | []=>by change dsp ms q p=0+dsp ms q p;omega
 | k::r=>by
  change mvD (mvN ms k) p+dsp ms (r++q) p=mvD (mvN ms k) p+dsp ms r p+dsp ms q p;rw[V1 q p r];omega
def fE (q:Zw):∀(r:Zw) (s:Zv),gos n ms r s->gos n ms q (λp=>s p+dsp ms r p)->gos n ms (r++q) s
 | [],s,_,h=>M7 q _ s (λp _=>by change s p+0<=s p;omega) h
 |k::r,s,⟨h1,h2,h3⟩,h=>⟨h1,h2,fE q r _ h3 (M7 q _ _ (λp _=>by change s p+(mvD (mvN ms k) p+dsp ms r p)<=s p+mvD (mvN ms k) p+dsp ms r p;omega) h)⟩
def dR (r:Zw):Nat->List Nat
 |0=>[]
 |k+1=>r++dR r k
def pZ (r:Zw) (p:Nat):∀k:Nat,dsp ms (dR r k) p=(k:Int)*dsp ms r p
 |0=>by change (0:Int)=((0:Nat):Int)*_;simp
 | k+1=>by
  change dsp ms (r++dR r k) p=_;rw[V1,pZ r p k];push_cast;rw[qN9];omega
def pT (r:Zw):∀(k:Nat) (s:Zv),(∀j:Nat,j<k->gos n ms r λp=>s p+(j:Int)*dsp ms r p)->gos n ms (dR r k) s
 |0,_,_=>trivial
 | k+1,s,h=>by
  refine fE _ r s (M7 r _ s (λp _=>ZV) (h 0 ox)) (pT r k _ λj I=>M7 r _ _ (λp _=>?_) (h (j+1) ox));push_cast;rw[qN9];omega
def bnd (g:Zv):∀n:Nat,∃B:Int,0<=B/\∀p,p<n->g p<=B
 |0=>⟨0,qE8 0,λp I=>absurd I (qF0 _)⟩
 | n+1=>by
  obtain ⟨B,h0,O⟩:=bnd g n;refine ⟨max B (g n),ox,λp I=>?_⟩;by_cases e:p=n
  .subst e;omega
  .have:=O p ox;omega
def w6 (c:Cap) (N:Int)(p:Nat):Int:=(c.getD p none).getD N
def IH (n:Nat) (N:Int)(c:Cap)(s:Zv):Prop:=∀p,p<n->(∀v,c.getD p none=some v->s p=v)/\(c.getD p none=none->N<=s p)
def Rz (n:Nat)(ms:List Mv)(x c:Cap):Prop:=∀N:Int,∃(I:Int)(r:Zw),gos n ms r (w6 x I)/\IH n N c λp=>w6 x I p+dsp ms r p
def Rz.refl (c:Cap):Rz n ms c c:=λN=>⟨N,[],trivial,λp _=>⟨λv h=>by change w6 c N p+0=v;unfold w6;rw[h];simp,λh=>by change N<=w6 c N p+0;unfold w6;rw[h];simp⟩⟩
def bJ {a b:Cap}(h:l6 a b=true) (I:p<a.length):L7 (a.getD p none) (b.getD p none)=true:=by
 unfold l6 at h;rw[qG2]at h;show h p (by simpa using I)
def Rz.aft (h:Rz n ms x c) (hk:k<ms.length) (hl:c.length=n) (hm:(mvN ms k).1.length=n) (ha:O5 c (mvN ms k)=true):Rz n ms x (v4 c (mvN ms k)):=λN=>by
 obtain ⟨B1,b1,a3⟩:=bnd (λp=>(mvN ms k).1.getD p 0) n;obtain ⟨B2,b2,a0⟩:=bnd (λp =>-mvD (mvN ms k) p) n;obtain ⟨MN,n0,n1⟩:∃x:Int,0<=x/\N<=x:=⟨max N 0,qO4 _ _,qU5 _ _⟩;obtain ⟨I,r,hg,hr⟩:=h (MN+B1+B2);refine ⟨I,r ++ [k],fE _ r _ hg ⟨hk,λp T=>?_,trivial⟩,λp T=>?_⟩
 .obtain ⟨h1,h2⟩:(∀v,c.getD p none=some v->w6 x I p+dsp ms r p=v)/\(c.getD p none=none->MN+B1+B2<=w6 x I p+dsp ms r p):=hr p T;have hu:=bJ ha (p:=p) (by rw[qA5,hm];show T);have e1:((mvN ms k).1.map some).getD p none=some ((mvN ms k).1.getD p 0):=by
   rw[qA0,qA6,qA0,qA3 ox];rfl
  rw[e1]at hu
  change (mvN ms k).1.getD p 0<=w6 x I p+dsp ms r p;cases q:c.getD p none with
  | some v=>
   rw[q]at hu;have hu:(mvN ms k).1.getD p 0<=v:=qO9 hu;rw[h1 v q];show hu
  | none=>
   have:=h2 q
   have:(mvN ms k).1.getD p 0<=B1:=a3 p T
   omega
 .obtain ⟨h1,h2⟩:(∀v,c.getD p none=some v->w6 x I p+dsp ms r p=v)/\(c.getD p none=none->MN+B1+B2<=w6 x I p+dsp ms r p):=hr p T
  change (∀v,(v4 c (mvN ms k)).getD p none=some v->w6 x I p+dsp ms (r ++ [k]) p=v)/\((v4 c (mvN ms k)).getD p none=none->N<=w6 x I p+dsp ms (r ++ [k]) p);have ed:dsp ms (r ++ [k]) p=dsp ms r p+mvD (mvN ms k) p:=by
   rw[V1]
   change _+(mvD (mvN ms k) p+0)=_;omega
  have ea:(v4 c (mvN ms k)).getD p none=(c.getD p none).map λx=>x+mvD (mvN ms k) p:=by
   unfold v4 mvD;rw[qA0,qA6,qC7 ox];rfl
  rw[ea,ed];refine ⟨λv O=>?_,λO=>?_⟩
  .cases q:c.getD p none with
   |none=>rw[q]at O;cases O
   | some u=>
    rw[q]at O
    have:=h1 u q
    have O:u+mvD (mvN ms k) p=v:=Option.some.inj O;omega
  .cases q:c.getD p none with
   |some u=>rw[q]at O;cases O
   | none=>
    have h2:=h2 q;have :-mvD (mvN ms k) p<=B2:=a0 p T;omega
def Rz.rai (h:Rz n ms x c) (he:Rz n ms e c) (hl:c.length=n) (ab:e.length=n):Rz n ms x (j4 c e):=by
 by_cases hu:¬ l6 e c=true
 .unfold j4;rw[qA4 hu];show h
 have hu:l6 e c=true:=by simpa using hu
 intro N;obtain ⟨L1,l1,a7⟩:=bnd (λp=>(e.getD p none).getD 0) n;obtain ⟨U,u0,hU⟩:=bnd (λp =>-(c.getD p none).getD 0) n;obtain ⟨Ne,I,a8,a6⟩:=he (L1+1);obtain ⟨D,d0,hD⟩:=bnd (λp =>-dsp ms I p) n;obtain ⟨MN,n0,n1⟩:∃x:Int,0<=x/\N<=x:=⟨max N 0,qO4 _ _,qU5 _ _⟩;obtain ⟨ME,e0,e1⟩:∃x:Int,0<=x/\Ne<=x:=⟨max Ne 0,qO4 _ _,qU5 _ _⟩;obtain ⟨k,hk⟩:∃k:Nat,(k:Int)=MN+U:=⟨(MN+U).toNat,qU9 (Int.add_nonneg n0 u0)⟩;have kD:0<=(k:Int)*D:=qG0 ox d0;obtain ⟨Nx,r1,a9,a3⟩:=h (MN+ME+L1+1+(k:Int)*D)
 -- how the loop moves each place
 have mv:∀p,p<n->(∃v u,e.getD p none=some v/\c.getD p none=some u/\v<=u/\v+dsp ms I p=u)\/(∃v,e.getD p none=some v/\c.getD p none=none/\1<=dsp ms I p/\v<=L1)\/(e.getD p none=none/\c.getD p none=none):=λp hp=>by
  have hup:=bJ hu (p:=p) ox;obtain ⟨g1,g2⟩:(∀v,c.getD p none=some v->w6 e Ne p+dsp ms I p=v)/\(c.getD p none=none->L1+1<=w6 e Ne p+dsp ms I p):=a6 p hp;cases q:e.getD p none with
  | none=>
   cases O:c.getD p none with
   |none=>show .inr (.inr ⟨rfl,rfl⟩)
   |some u=>rw[q,O]at hup;cases hup
  | some v=>
   have T:w6 e Ne p=v:=by unfold w6;rw[q];rfl
   have hL:(e.getD p none).getD 0<=L1:=a7 p hp;rw[q]at hL;have hL:v<=L1:=hL;cases O:c.getD p none with
   | none=>
    have g2:=g2 O;rw[T]at g2;show .inr (.inl ⟨v,rfl,rfl,ox,hL⟩)
   | some u=>
    have g1:=g1 u O;rw[T]at g1;rw[q,O]at hup;show .inl ⟨v,u,rfl,rfl,qO9 hup,g1⟩
 refine ⟨Nx,r1++dR I k,fE _ r1 _ a9 (pT I k _ λj hj=>M7 I _ _ (λp hp=>?_) a8),λp hp=>?_⟩
 .obtain ⟨g1,g2⟩:(∀v,c.getD p none=some v->w6 x Nx p+dsp ms r1 p=v)/\(c.getD p none=none->MN+ME+L1+1+(k:Int)*D<=w6 x Nx p+dsp ms r1 p):=a3 p hp;have a5 :-dsp ms I p<=D:=hD p hp
  change w6 e Ne p<=w6 x Nx p+dsp ms r1 p+(j:Int)*dsp ms I p;have j0:(0:Int)<=(j:Int):=ox;have jk:(j:Int)*D<=(k:Int)*D:=qH8 ox d0;rcases mv p hp with ⟨v,u,q1,O,h1,h2⟩|⟨v,q1,O,h1,h2⟩|⟨q1,O⟩
  .have:=g1 u O
   have hj:=qG0 j0 (show 0<=dsp ms I p by omega);have T:w6 e Ne p=v:=by unfold w6;rw[q1];rfl
   rw[T];omega
  .have:=g2 O
   have hj:=qG0 j0 (show 0<=dsp ms I p by omega);have T:w6 e Ne p=v:=by unfold w6;rw[q1];rfl
   rw[T];omega
  .have:=g2 O
   have hj:(j:Int)*(-D)<=(j:Int)*dsp ms I p:=qH9 ox j0;rw[qM6]at hj;have T:w6 e Ne p=Ne:=by unfold w6;rw[q1];rfl
   rw[T];omega
 .obtain ⟨g1,g2⟩:(∀v,c.getD p none=some v->w6 x Nx p+dsp ms r1 p=v)/\(c.getD p none=none->MN+ME+L1+1+(k:Int)*D<=w6 x Nx p+dsp ms r1 p):=a3 p hp;have a5 :-dsp ms I p<=D:=hD p hp;have a0 :-(c.getD p none).getD 0<=U:=hU p hp
  change (∀v,(j4 c e).getD p none=some v->w6 x Nx p+dsp ms (r1++dR I k) p=v)/\((j4 c e).getD p none=none->N<=w6 x Nx p+dsp ms (r1++dR I k) p);have k0:(0:Int)<=(k:Int):=ox;have ed:dsp ms (r1++dR I k) p=dsp ms r1 p+(k:Int)*dsp ms I p:=by rw[V1,pZ]
  have er:(j4 c e).getD p none=S5 (c.getD p none) (e.getD p none):=by
   unfold j4;rw[qA2 hu,qA0,qA6,qC7 ox];rfl
  rw[er,ed];rcases mv p hp with ⟨v,u,q1,O,h1,h2⟩|⟨v,q1,O,h1,h2⟩|⟨q1,O⟩
  .have g1:=g1 u O;rw[q1,O];unfold S5;by_cases a4:u=v
   .subst a4;have hz:dsp ms I p=0:=ox;rw[qA2 rfl,hz];show ⟨(λw hw=>by have hw:=Option.some.inj hw;omega),(λhw=>by cases hw)⟩
   .rw [qA4 (λz=>a4 (Option.some.inj z))]
    refine ⟨(λw hw=>by cases hw),λ_=>?_⟩;have hj:(k:Int)*1<=(k:Int)*dsp ms I p:=qH9 ox k0;rw[O]at a0;have a0:-u<=U:=a0;omega
  .have g2:=g2 O;rw[q1,O];unfold S5;rw[qA4 (λz=>by cases z)];refine ⟨(λw hw=>by cases hw),λ_=>?_⟩;have hj:=qG0 k0 (show 0<=dsp ms I p by omega);omega
  .have g2:=g2 O;rw[q1,O];unfold S5;rw[qA2 rfl];refine ⟨(λw hw=>by cases hw),λ_=>?_⟩;have hj:(k:Int)*(-D)<=(k:Int)*dsp ms I p:=qH9 ox k0;rw[qM6]at hj;omega
def sP {S:Zw}:∀(l:Zw) (x:Cap),(∀q∈l,q∈S)->(∀q∈S,(sC c es q).length=n)->x.length=n->(∀q∈S,Rz n ms (sC c es q) x)->∀q∈S,Rz n ms (sC c es q) (upC c es l x)
 | [],_,_,_,_,h=>h
 | a::l,x,hl,hn,hx,h=>by
  change ∀q∈S,Rz n ms (sC c es q) (upC c es l (j4 x (sC c es a)));have ha:=hl a qB3;show sP l _ (λq I=>hl q (qA8 _ I)) hn (by rw[L9];show hx) λq I=>(h q I).rai (h a ha) hx (hn a ha)
def GK.rz {kk:Nat}(h:GK c ms es A kk) (hm:∀m∈ms,m.1.length=c.length):∀j,j<=es.length->∀i∈j5 es j,Rz c.length ms (sC c es i) (sC c es j):=by
 intro j
 induction j using Nat.strongRecOn with
 | _ j ih=>
  intro hj i hi;cases j with
  |zero=>rw[E6]at hi;rw[qD5.mp hi];show .refl _
  | succ j=>
   have T:es[j]?=some es[j]:=qA3 ox;have hp:=h.par j _ T;rw[o0 h.par T]at hi;rcases qB5.mp hi with rfl|hi
   .show .refl _
   obtain ⟨a4,a5,_⟩:=h.beh j _ T;have hk:=h.k8 _ (qD4 T);have a0:=(J0 h.par es[j].2.1 ox).1;have hlen:∀q∈j5 es es[j].2.1,(sC c es q).length=c.length:=λq I=>F0 h.len (by have:=a0 q I;omega);have a3:(mvN ms es[j].2.2).1.length=c.length:=hm _ (by unfold mvN;rw[qA0,qA3 hk];show qG1 _);have O:=F0 h.len (a:=es[j].2.1) ox;rw[ib T,a5];unfold v9;show sP _ _ (λq I=>I) hlen (by rw[K4];show O) (λq I=>(ih es[j].2.1 ox ox q I).aft hk O a3 a4) i hi
def lw (O:J4 es):∀j,j<=es.length->0∈j5 es j:=by
 intro j
 induction j using Nat.strongRecOn with
 | _ j T=>
  intro hj;cases j with
  |zero=>rw[E6];show qD5.mpr rfl
  | succ j=>
   have I:es[j]?=some es[j]:=qA3 ox
   have:=O j _ I
   rw[o0 O I];show qA8 _ (T es[j].2.1 ox ox)
def nnC (d:Cap):Prop:=∀k x,d.getD k none=some x->0<=x
def Bp {e:Cap}(h:nnC x):nnC (j4 x e):=λk z hz=>by
 unfold j4 at hz;by_cases q:l6 e x=true
 .rw [qA2 q]at hz
  by_cases hk:k<x.length
  .rw [qA0,qA6,qC7 hk]at hz
   have hz:S5 (x.getD k none) (e.getD k none)=some z:=hz;unfold S5 at hz;by_cases I:x.getD k none=e.getD k none
   .rw[qA2 I]at hz;show h k z hz
   .rw[qA4 I]at hz;cases hz
  .rw[qA0,qD7 (by simpa using qO0 hk)]at hz;cases hz
 .rw[qA4 q]at hz;show h k z hz
def uK:∀(l:Zw) (x:Cap),nnC x->nnC (upC c es l x)
 | [],_,h=>h
 |q::l,x,h=>uK l (j4 x (sC c es q)) (Bp h)
def Bq (hm:okN t.length m) (O:O5 t m=true):nnC (v4 t m):=λk z hz=>by
 unfold v4 at hz;by_cases hk:k<t.length
 .rw [qA0,qA6,qC7 hk]at hz
  have hz:(t.getD k none).map (λx=>x+(m.2.getD k 0-m.1.getD k 0))=some z:=hz;cases hy:t.getD k none with
  |none=>rw[hy]at hz;cases hz
  | some y=>
   rw[hy]at hz;cases hz;have T:L7 ((m.1.map some).getD k none) (t.getD k none)=true:=by
    unfold O5 l6 at O;show qG2.mp O k (by rw[qF8,qA5,hm.1];show hk)
   have I:k<m.1.length:=by rw[hm.1];show hk
   have e1:(m.1.map some).getD k none=some (m.1.getD k 0):=by
    rw[qA0,qA6,qA3 I,qA0,qA3 I];rfl
   rw[e1,hy]at T;have T:m.1.getD k 0<=y:=qO9 T;have h2:=N5 hm.2.2.2 k
   change 0<=y+(m.2.getD k 0-m.1.getD k 0);omega
 .rw[qA0,qD7 (by simpa using qO0 hk)]at hz;cases hz
def GK.nng {kk:Nat}(I:GK c ms es A kk) (O:∀m∈ms,okN c.length m) (hc:nnC c):∀d∈stC c es,nnC d:=λd hd=>by
 unfold stC at hd;rcases qB5.mp hd with rfl|hd
 .show hc
 .obtain ⟨e,he,rfl⟩:=qB1.mp hd;obtain ⟨i,hi,ei⟩:=qF7.mp he;have hq:es[i]?=some e:=by rw[qA3 hi,ei]
  obtain ⟨T,hb,_⟩:=I.beh i e hq;have hp:=I.par i e hq;rw[hb];show uK _ _ (Bq (by rw[F0 I.len ox];show getM O (I.k8 e he)) T)
def xJ (h:nn b):nnC (b.map some):=λk x I=>by
 by_cases hk:k<b.length
 .rw [qA0,qA6,qA3 hk]at I
  cases I;show h _ (qG1 _)
 .rw[qA0,qD7 (by simpa using qO0 hk)]at I;cases I
def hur (ms:List Mv):List Nat->Nat->Int
 | [],_=>0
 |k::r,p=>max ((mvN ms k).1.getD p 0) (hur ms r p-mvD (mvN ms k) p)
def sd {a:Int}(h:a<=u)(I:0<=b):0-(b-a)<=u:=ox
def rZ (I:h+x<=s)(e:y =-x):h<=s+y:=ox
def pR:∀{r:Zw}{u:Int},hur ms r p<=u->hur ms q p<=u+dsp ms r p->hur ms (r++q) p<=u:=by
 intro r
 induction r with
 | nil=>
  intro u _ h;have h:hur ms q p<=u+0:=h;rw[qJ5]at h;show h
 | cons k r T=>
  intro u I O;have I:=qJ6.mp (show max ((mvN ms k).1.getD p 0) (hur ms r p-mvD (mvN ms k) p)<=u from I);have O:hur ms q p<=u+(mvD (mvN ms k) p+dsp ms r p):=O;rw[<- xC7]at O;show qJ6.mpr ⟨I.1,Int.sub_right_le_of_le_add (T (Int.le_add_of_sub_right_le I.2) O)⟩
abbrev Blk:=List Nat×Int
def okB (n:Nat)(ms:List Mv)(s:Zv)(b:Blk):Prop:=1<=b.2/\(∀k∈b.1,k<ms.length)/\b.1.length<=30/\∀p,p<n->hur ms b.1 p<=s p/\hur ms b.1 p<=s p+(b.2-1)*dsp ms b.1 p
def on (ms:List Mv)(s:Zv)(b:Blk):Nat->Int:=λp=>s p+b.2*dsp ms b.1 p
def goB (n:Nat) (ms:List Mv):List Blk->Zv->Prop
 | [],_=>True
 |b::bs,s=>okB n ms s b/\goB n ms bs (on ms s b)
def endB (ms:List Mv):List Blk->Zv->Nat->Int
 | [],s=>s
 |b::bs,s=>endB ms bs (on ms s b)
def yx (n:Nat)(x:Cap)(w s:Zv):Prop:=∀p,p<n->(∀v,x.getD p none=some v->s p=v)/\(x.getD p none=none->w p<=s p)
def ldB (n:Nat)(ms:List Mv)(x:Cap)(w:Zv)(bs:List Blk)(y:Cap)(u:Zv):Prop:=∀s,yx n x w s->goB n ms bs s/\yx n y u (endB ms bs s)
def ldB.cons (h1:ldB n ms x w [b] y u) (h2:ldB n ms y u bs z v):ldB n ms x w (b::bs) z v:=λs I=>by
 obtain ⟨⟨g1,_⟩,O⟩:=h1 s I;obtain ⟨T,f2⟩:=h2 _ O;show ⟨⟨g1,T⟩,f2⟩
def ldB.skip (T:ldB n ms x w [] y u)(I:ldB n ms y u bs z v):ldB n ms x w bs z v:=λs O=>I _ (T s O).2
def ldB.refl (x:Cap)(w:Zv):ldB n ms x w [] x w:=λ_ I=>⟨trivial,I⟩
def ahW (ms:List Mv)(r:Zw) (t:Int)(w:Zv)(p:Nat):Int:=max (max (hur ms r p) (hur ms r p+(1-t)*dsp ms r p)) (w p+(-t)*dsp ms r p)
def lZ {x e:Cap}(I:l6 e x=true) (O:p<x.length):(j4 x e).getD p none=S5 (x.getD p none) (e.getD p none):=by
 unfold j4;rw[qA2 I,qA0,qA6,qC7 O];rfl
def L8 {x e:Cap}(h:(j4 x e).getD p none=some v):x.getD p none=some v:=by
 by_cases I:l6 e x=true
 .by_cases O:p<x.length
  .rw [lZ I O]at h
   unfold S5 at h;by_cases q:x.getD p none=e.getD p none
   .rw[qA2 q]at h;show h
   .rw[qA4 q]at h;cases h
  .rw[qA0,qD7 (by rw[L9];omega)]at h;cases h
 .unfold j4 at h;rw[qA4 I]at h;show h
def oJ:∀(l:Zw) (x:Cap),(upC c es l x).getD p none=some v->x.getD p none=some v
 | [],_,h=>h
 |q::l,x,h=>L8 (oJ l (j4 x (sC c es q)) h)
def BP {x e:Cap}(hx:x.length=n) (he:e.length=n) (hu:l6 e x=true) (hr:∀k∈r,k<ms.length) (hl:r.length<=30) (a0:∀p,p<n->∀v,x.getD p none=some v->∃u,e.getD p none=some u/\u+dsp ms r p=v/\hur ms r p<=u) (ht:1<=t) (hw:∀p,p<n->∀v,x.getD p none=some v->(j4 x e).getD p none=none->w p<=v+t*dsp ms r p):ldB n ms x (ahW ms r t w) [(r,t)] (j4 x e) w:=λs hs=>by
 have hup:∀p,p<n->∀v,x.getD p none=some v->∀u,e.getD p none=some u->u<=v:=λp T v O u a4=>by
  have:=bJ hu (p:=p) ox
  rw[O,a4]at this;show qO9 this
 refine ⟨⟨⟨ht,hr,hl,λp T=>?_⟩,trivial⟩,λp T=>?_⟩
 .obtain ⟨h1,I⟩:=hs p T
  change hur ms r p<=s p/\hur ms r p<=s p+(t-1)*dsp ms r p;cases q:x.getD p none with
  | some v=>
   obtain ⟨u,eu,ed,eh⟩:=a0 p T v q
   have:=hup p T v q u eu
   have e1:=h1 v q
   have:=qG0 (show 0<=t-1 by omega) (show 0<=dsp ms r p by omega)
   omega
  | none=>
   have I:=I q;unfold ahW at I;have e1:(t-1)*dsp ms r p =-((1-t)*dsp ms r p):=by rw[<- qI9,Int.neg_sub]
   have I:=qJ6.mp (qJ6.mp I).1;show ⟨I.1,rZ I.2 e1⟩
 .obtain ⟨h1,I⟩:=hs p T;have a5:endB ms [(r,t)] s p=s p+t*dsp ms r p:=rfl;rw[a5];refine ⟨λv O=>?_,λO=>?_⟩
  .have a3:=L8 O;obtain ⟨u,eu,ed,eh⟩:=a0 p T v a3;rw[lZ hu ox,a3,eu]at O;unfold S5 at O;by_cases q:v=u
   .have:dsp ms r p=0:=ox
    rw[h1 v a3,this,qH1,qJ5]
   .rw[qA4 (λz=>q (Option.some.inj z))]at O;cases O
  .cases q:x.getD p none with
   | some v=>
    rw[h1 v q];show hw p T v q O
   | none=>
    have I:=I q;unfold ahW at I;show rZ (qJ6.mp I).2 (by rw[qI9,Int.neg_neg])
def xU {x e:Cap}(hw:∀p,p<n->∀v,x.getD p none=some v->(j4 x e).getD p none=none->w p<=v) (hn:∀p,p<n->x.getD p none=none->(j4 x e).getD p none=none):ldB n ms x w [] (j4 x e) w:=λs hs=>⟨trivial,λp T=>by
 obtain ⟨O,h2⟩:=hs p T
 change (∀v,(j4 x e).getD p none=some v->s p=v)/\((j4 x e).getD p none=none->w p<=s p);refine ⟨λv I=>O v (L8 I),λI=>?_⟩;cases q:x.getD p none with
 |some v=>rw[O v q];show hw p T v q I
 |none=>show h2 q⟩
def iS (I:p<c.length):(v4 c m).getD p none=(c.getD p none).map λx=>x+mvD m p:=by
 unfold v4 mvD;rw[qA0,qA6,qC7 I];rfl
def oq (hm:okN c.length m) (ha:O5 c m=true) (O:p<c.length) (hv:c.getD p none=some v):m.1.getD p 0<=v:=by
 have I:=bJ ha (p:=p) (by rw[qA5,hm.1];show O);have T:(m.1.map some).getD p none=some (m.1.getD p 0):=by
  rw[qA0,qA6,qA0,qA3 (by rw[hm.1];show O)];rfl
 rw[T,hv]at I;show qO9 I
def Bu (hc:c.length=n) (hk:k<ms.length) (hm:okN n (mvN ms k)) (ha:O5 c (mvN ms k)=true):ldB n ms c (ahW ms [k] 1 w) [([k],1)] (v4 c (mvN ms k)) w:=λs hs=>by
 have hh:∀p,hur ms [k] p=max ((mvN ms k).1.getD p 0) (0-mvD (mvN ms k) p):=λp=>rfl;have hd:∀p,dsp ms [k] p=mvD (mvN ms k) p+0:=λp=>rfl;refine ⟨⟨⟨qE8 1,by simpa using hk,ZV,λp hp=>?_⟩,trivial⟩,λp hp=>?_⟩
 .obtain ⟨T,I⟩:=hs p hp
  change hur ms [k] p<=s p/\hur ms [k] p<=s p+(1-1)*dsp ms [k] p;rw[show (1:Int)-1=0 from rfl,qJ7,qJ5]
  suffices hur ms [k] p<=s p from ⟨this,this⟩
  cases q:c.getD p none with
  | some v=>
   have h3:=oq (by rw[hc];show hm) ha ox q;have h4:=N5 hm.2.2.2 p;rw[T v q,hh];show qJ6.mpr ⟨h3,sd h3 h4⟩
  | none=>
   have I:=I q;unfold ahW at I;show (qJ6.mp (qJ6.mp I).1).1
 .obtain ⟨T,I⟩:=hs p hp;have a0:endB ms [([k],1)] s p=s p+1*dsp ms [k] p:=rfl;rw[a0,iS ox,hd];cases q:c.getD p none with
  | some v=>
   refine ⟨λu O=>?_,λO=>by cases O⟩;have O:v+mvD (mvN ms k) p=u:=Option.some.inj O;rw[T v q,qK2,qJ5];show O
  | none=>
   refine ⟨λu O=>(by cases O),λ_=>?_⟩;have I:=I q;unfold ahW at I;rw[hd]at I;show rZ (qJ6.mp I).2 (by rw[qI9,Int.neg_neg])
def bu (es:List GEnt)(a:Nat):Nat:=(es.getD (a-1) ([],0,0)).2.2
def L0 (es:List GEnt)(q j:Nat):List Nat:=((j5 es j).takeWhile λa=>decide (a≠q)).reverse
def x9 (es:List GEnt)(q j:Nat):List Nat:=(L0 es q j).map (bu es)
def dZ (I:J4 es) (O:q<=es.length):L0 es q q = []:=by
 unfold L0;cases q with
 |zero=>rw[E6];rfl
 | succ i=>
  rw[o0 I (qA3 (show i<es.length by omega)),qM9];simp
def kh (T:J4 es) (I:es[i]?=some e) (O:q≠i+1):L0 es q (i+1)=L0 es q e.2.1 ++ [i+1]:=by
 unfold L0;rw[o0 T I,qM9,qA2 (by simpa using λh=>O h.symm),qI4]
def jr (I:es[i]?=some e):bu es (i+1)=e.2.2:=by
 unfold bu;rw[Nat.add_sub_cancel,getD_at I]
def dP (T:J4 es) (I:es[i]?=some e) (O:q≠i+1):x9 es q (i+1)=x9 es q e.2.1 ++ [e.2.2]:=by
 unfold x9;rw[kh T I O,qD0,List.map_singleton,jr I]
def wV (I:J4 es) (O:j<=es.length):(x9 es q j).length<=j+1:=by
 unfold x9 L0;rw[qA5,qB7];have T:=(List.takeWhile_sublist (λa=>decide (a≠q)) (l:=j5 es j)).length_le;have h2:=(J0 I j O).2;omega
def Aw {kk:Nat}(h:GK c ms es A kk):∀j,j<=es.length->q∈j5 es j->∀k∈x9 es q j,k<ms.length:=by
 intro j
 induction j using Nat.strongRecOn with
 | _ j ih=>
  intro T I;by_cases e:q=j
  .subst e;unfold x9;rw[dZ h.par T];intro k hk;cases hk
  .cases j with
   |zero=>rw[E6]at I;show absurd (qD5.mp I) e
   | succ i=>
    have O:es[i]?=some es[i]:=qA3 ox;have hp:=h.par i _ O;rw[o0 h.par O]at I;have I:q∈j5 es es[i].2.1:=by
     rcases qB5.mp I with q' |q'
     .show absurd q' e
     .show q'
    rw[dP h.par O e];intro k hk;rcases qF9.mp hk with k' |k'
    .show ih es[i].2.1 ox ox I k k'
    .rw[qD5.mp k'];show h.k8 _ (qD4 O)
def Bf {kk:Nat}(h:GK c ms es A kk) (hm:∀m∈ms,okN c.length m) (hc:nnC c) (hp:p<c.length):∀j,j<=es.length->q∈j5 es j->∀v,(sC c es j).getD p none=some v->∃u,(sC c es q).getD p none=some u/\u+dsp ms (x9 es q j) p=v/\hur ms (x9 es q j) p<=u:=by
 intro j
 induction j using Nat.strongRecOn with
 | _ j ih=>
  intro hj O v I;by_cases e:q=j
  .subst e;refine ⟨v,I,?_⟩
   have:x9 es q q = []:=by unfold x9;rw[dZ h.par hj];rfl
   rw[this];have h0:=h.nng hm hc _ (bL hj) p v I;show ⟨qJ5 v,h0⟩
  .cases j with
   |zero=>rw[E6]at O;show absurd (qD5.mp O) e
   | succ i=>
    have T:es[i]?=some es[i]:=qA3 ox;have a6:=h.par i _ T;have hk:=h.k8 _ (qD4 T);rw[o0 h.par T]at O;have O:q∈j5 es es[i].2.1:=by
     rcases qB5.mp O with q' |q'
     .show absurd q' e
     .show q'
    obtain ⟨a4,a5,_⟩:=h.beh i _ T;rw[ib T,a5]at I;unfold v9 at I;have I:=oJ _ _ I;have a3:=F0 h.len (a:=es[i].2.1) ox;rw[iS ox]at I;cases hu:(sC c es es[i].2.1).getD p none with
    |none=>rw[hu]at I;cases I
    | some u'=>
     rw[hu]at I;have I:u'+mvD (mvN ms es[i].2.2) p=v:=Option.some.inj I;obtain ⟨u,eu,ed,eh⟩:=ih es[i].2.1 ox ox O u' hu;have hok:okN (sC c es es[i].2.1).length (mvN ms es[i].2.2):=by rw[a3];show getM hm hk
     have h3:=oq hok a4 ox hu;have h4:=N5 hok.2.2.2 p;have a0:mvD (mvN ms es[i].2.2) p=(mvN ms es[i].2.2).2.getD p 0-(mvN ms es[i].2.2).1.getD p 0:=rfl;have hh:hur ms [es[i].2.2] p=max ((mvN ms es[i].2.2).1.getD p 0) (0-mvD (mvN ms es[i].2.2) p):=rfl;have hd:dsp ms [es[i].2.2] p=mvD (mvN ms es[i].2.2) p+0:=rfl;rw[dP h.par T e];show ⟨u,eu,by rw[V1,hd,qJ5,<- xC7,ed];show I,pR eh (by rw[hh,ed];show qJ6.mpr ⟨h3,by rw[a0];show sd h3 h4⟩)⟩
def srcL (g t p:Zz):List Int:=(List.range g.length).map λk=>max (t.getD k 0) (g.getD k 0-p.getD k 0+t.getD k 0)
def tj (O:t.length=g.length) (hp:p.length=g.length) (hg:g.length<=6):gK [tI g,.tup [tI t,tI p]]=.ok (tI (srcL g t p)):=by
 have T:L2.atI [tI t,tI p] 0=some (tI t):=rfl;have a1:L2.atI [tI t,tI p] 1=some (tI p):=rfl;have hz:=Dl (tI g) (tI t) (tI p) _ _ _ rfl rfl rfl;rw[zZ O hp]at hz;exists rpB,nc,T,a1,hz;have e:∀N mg me ρ (h:∀k,k<g.length->∃I,mg (.tup [.int (g.getD k 0),.int (t.getD k 0),.int (p.getD k 0)]) (ρ++List.replicate (N-ρ.length) Sl.un)=some I/\me I=.ok (.int (max (t.getD k 0) (g.getD k 0-p.getD k 0+t.getD k 0)))),j6 N mg yes me ((List.range g.length).map λk=>.tup [.int (g.getD k 0),.int (t.getD k 0),.int (p.getD k 0)]) ρ=.ok (lI (srcL g t p)):=λN mg me ρ h=>by
  rw[i9 (λk=>.int (max (t.getD k 0) (g.getD k 0-p.getD k 0+t.getD k 0))) _ _ ρ (by simpa using (by omega:g.length<=1000)) (λk hk=>h k (by simpa using hk)),M3];rfl
 rw[e]
 .exists rp18
 .intro k hk;refine ⟨_,rfl,?_⟩;exists rp18
def Cj (h:1<=k/\k<=1000):fRepT (.tup [z]) (.int k)=.ok (.tup (List.replicate k.toNat [z]).flatten):=by
 change (if _ then _ else _)=_;rw[qA2 ⟨List.cons_ne_nil _ _,by simp;omega,h.1,h.2⟩]
def tp (ms:List Mv)(k:Nat) (r:Int):Int×Int:=((ms.getD r.toNat ([],[])).1.getD k 0,(ms.getD r.toNat ([],[])).2.getD k 0)
def col (ms:List Mv)(k:Nat)(I:Zz):List (Int×Int):=I.map (tp ms k)
def nC:List (Int×Int)->Int
 | []=>0
 |a::r=>max a.1 (nC r-a.2+a.1)
def aj:List (Int×Int)->Int
 | []=>0
 |a::r=>a.2-a.1+aj r
def lK:∀(a b:List (Int×Int)),aj (a++b)=aj a+aj b
 | [],b=>by simp [aj]
 |x::a,b=>by simp only [qO3,aj,lK a b];omega
def bx (n:Nat)(ms:List Mv)(I:Zz):List Int:=(List.range n).map λk=>nC (col ms k I)
def ai (n:Nat)(ms:List Mv)(I:Zz):List Int:=(List.range n).map λk=>aj (col ms k I)
def cW (n:Nat)(ms:List Mv)(I:Zz):(bx n ms I).length=n:=by simp [bx]
def lJ (n:Nat)(ms:List Mv)(I:Zz):(ai n ms I).length=n:=by simp [ai]
def zeros (n:Nat) (f:Zv) (h:∀k,f k=0):List.replicate n (0:Int)=(List.range n).map f:=by
 apply qK1
 .simp
 .intro i I O;simp [h]
def io (T:1<=b.length) (O:b.length<=6):ba [.tup [tI b,w]]=.ok (tI (List.replicate b.length 0)):=by
 have I:L2.atI [tI b,w] 0=some (tI b):=rfl;exists rpB,ko,I,Cj
abbrev okR (ms:List Mv)(I:Zz):Prop:=∀r∈I,0<=r/\r<(ms.length:Int)
def vf (h1:1<=b.length) (O:b.length<=6) (hm:∀m∈ms,okN b.length m) (hr:okR ms rs):aG [.tup [tI b,tM_ ms],lI rs]=.ok (tI (bx b.length ms rs)):=by
 have fin:Ok (aG [.tup [tI b,tM_ ms],lI rs]) λv=>v=tI (bx b.length ms rs):=by
  have k0:=io (b:=b) (w:=tM_ ms) h1 O;have a1:L2.atI [tI b,tM_ ms] 1=some (tM_ ms):=rfl;exists rpB,ni,k0;rw[<- qI0];refine w4 (y8 (λi ρ=>∃(a:Sl),ρ = [.par (.tup [tI b,tM_ ms]),.par (lI rs),.val (tI (bx b.length ms (rs.reverse.take i).reverse)),a]) ⟨.un,by rw[zeros b.length (λk=>nC (col ms k [])) (λ_=>rfl)];rfl⟩ ?_ ?_)
  .rintro i w ρ hw ⟨a,rfl⟩;obtain ⟨hi,rfl⟩:=uO hw;have I:0<=rs.reverse.getD i 0/\rs.reverse.getD i 0<(ms.length:Int):=memD (P:=λr=>0<=r/\r<(ms.length:Int)) (λr h=>hr r (qM5.mp h)) hi;have T:=atM I.1 I.2;have hk:=getM hm (show (rs.reverse.getD i 0).toNat<ms.length by omega);have e2:=tj (g:=bx b.length ms (rs.reverse.take i).reverse) (t:=(ms.getD (rs.reverse.getD i 0).toNat ([],[])).1) (p:=(ms.getD (rs.reverse.getD i 0).toNat ([],[])).2) (by rw[cW,hk.1]) (by rw[cW,hk.2.1]) (by rw[cW];show O);refine ⟨_,rfl,?_⟩;exists a1,T,e2;refine ⟨.par (.int (rs.reverse.getD i 0)),?_⟩
   have:srcL (bx b.length ms (rs.reverse.take i).reverse) (ms.getD (rs.reverse.getD i 0).toNat ([],[])).1 (ms.getD (rs.reverse.getD i 0).toNat ([],[])).2=bx b.length ms (rs.reverse.take (i+1)).reverse:=by
    have q:(rs.reverse.take (i+1)).reverse=rs.reverse.getD i 0::(rs.reverse.take i).reverse:=by
     rw[List.take_succ,qN0,qA0];simp only [qA3 hi];rfl
    rw[q];unfold srcL;rw[cW];refine qE5 λk hk=>?_;rw[show (bx b.length ms (rs.reverse.take i).reverse).getD k 0=_ from j9 (by simpa using hk)];rfl
   rw[this]
  .rintro ρ ⟨a,rfl⟩;rw[qA5,qH4,List.reverse_reverse];exists rp18
 obtain ⟨v,e,rfl⟩:=fin;show e
def qD (T:d.length=g.length) (h6:g.length<=1000) (hz:-1000000<=z/\z<=1000000):J5 [tI g,tI d,.int z]=.ok (tI ((List.range g.length).map λk=>g.getD k 0+z*d.getD k 0)):=by
 have O:=R7 (tI g) (tI d) _ _ rfl rfl;rw[Z6 T]at O;exists rpB,aW,O;have e:∀N mg me ρ (h:∀k,k<g.length->∃I,mg (.tup [.int (g.getD k 0),.int (d.getD k 0)]) (ρ++List.replicate (N-ρ.length) Sl.un)=some I/\me I=.ok (.int (g.getD k 0+z*d.getD k 0))),j6 N mg yes me ((List.range g.length).map λk=>W.tup [.int (g.getD k 0),.int (d.getD k 0)]) ρ=.ok (lI ((List.range g.length).map λk=>g.getD k 0+z*d.getD k 0)):=λN mg me ρ h=>by
  rw[i9 (λk=>.int (g.getD k 0+z*d.getD k 0)) _ _ ρ (by simpa using h6) (λk hk=>h k (by simpa using hk)),M3]
 rw[e]
 .exists rp18
 .intro k hk;refine ⟨_,rfl,?_⟩;exists rp18
def yP {I:Zz}(h:i<I.length):col ms k (I.take (i+1))=col ms k (I.take i) ++ [tp ms k (I.getD i 0)]:=by
 unfold col;rw[List.take_succ,qD0,qA0];simp only [qA3 h];rfl
def DL (h1:1<=b.length) (O:b.length<=6) (hm:∀m∈ms,okN b.length m) (hr:okR ms rs):Q6 [.tup [tI b,tM_ ms],lI rs]=.ok (tI (ai b.length ms rs)):=by
 have fin:Ok (Q6 [.tup [tI b,tM_ ms],lI rs]) λv=>v=tI (ai b.length ms rs):=by
  have k0:=io (b:=b) (w:=tM_ ms) h1 O;have a1:L2.atI [tI b,tM_ ms] 1=some (tM_ ms):=rfl;exists rpB,mZ,k0;refine w4 (y8 (λi ρ=>∃(a:Sl),ρ = [.par (.tup [tI b,tM_ ms]),.par (lI rs),.val (tI (ai b.length ms (rs.take i))),a]) ⟨.un,by rw[zeros b.length (λk=>aj (col ms k [])) (λ_=>rfl)];rfl⟩ ?_ ?_)
  .rintro i w ρ hw ⟨a,rfl⟩;obtain ⟨hi,rfl⟩:=uO hw;have I:0<=rs.getD i 0/\rs.getD i 0<(ms.length:Int):=memD (P:=λr=>0<=r/\r<(ms.length:Int)) hr hi;have T:=atM I.1 I.2;have hk:=getM hm (show (rs.getD i 0).toNat<ms.length by omega);have e2:=eZ O hk;have e3:=qD (g:=ai b.length ms (rs.take i)) (d:=(List.range b.length).map λk=>(ms.getD (rs.getD i 0).toNat ([],[])).2.getD k 0-(ms.getD (rs.getD i 0).toNat ([],[])).1.getD k 0) (z:=1) (by simp [ai]) (by rw[lJ];omega) ox;refine ⟨_,rfl,?_⟩;exists a1,T,e2,e3;refine ⟨.par (.int (rs.getD i 0)),?_⟩;rw[lJ]
   have:((List.range b.length).map λk=>(ai b.length ms (rs.take i)).getD k 0+1*((List.range b.length).map λk=>(ms.getD (rs.getD i 0).toNat ([],[])).2.getD k 0-(ms.getD (rs.getD i 0).toNat ([],[])).1.getD k 0).getD k 0)=ai b.length ms (rs.take (i+1)):=by
    refine qE5 λk hk=>?_;have hk:k<b.length:=by simpa using hk
    rw[j9 hk,show (ai b.length ms (rs.take i)).getD k 0=_ from j9 hk,yP hi,lK,qK2];simp only [aj,tp];omega
   rw[this]
  .rintro ρ ⟨a,rfl⟩;rw[qA5,qH4];exists rp18
 obtain ⟨v,e,rfl⟩:=fin;show e
abbrev vF (n:Nat)(f:Zv):List Int:=(List.range n).map f
def D5 (n:Nat)(f:Zv):(vF n f).length=n:=ZV
def Dx (ms:List Mv) (p k:Nat):tp ms p (k:Int)=((mvN ms k).1.getD p 0,(mvN ms k).2.getD p 0):=by
 unfold tp mvN;rw[qD9]
def pQ (ms:List Mv) (p:Nat):∀r:List Nat,nC (col ms p (pz r))=hur ms r p
 | []=>rfl
 | k::r=>by
  change max (tp ms p (k:Int)).1 (nC (col ms p (pz r))-(tp ms p (k:Int)).2+(tp ms p (k:Int)).1)=max ((mvN ms k).1.getD p 0) (hur ms r p-mvD (mvN ms k) p);rw[pQ ms p r,Dx];unfold mvD;congr 1;omega
def oN (ms:List Mv) (p:Nat):∀r:List Nat,aj (col ms p (pz r))=dsp ms r p
 | []=>rfl
 | k::r=>by
  change (tp ms p (k:Int)).2-(tp ms p (k:Int)).1+aj (col ms p (pz r))=mvD (mvN ms k) p+dsp ms r p;rw[oN ms p r,Dx];rfl
def uD (h:∀k∈r,k<ms.length):okR ms (pz r):=λx I=>by
 obtain ⟨k,hk,rfl⟩:=qB1.mp I
 have:=h k hk
 omega
def Ca (I:1<=b.length) (O:b.length<=6) (hm:∀m∈ms,okN b.length m) (T:∀k∈r,k<ms.length):aG [.tup [tI b,tM_ ms],lI (pz r)]=.ok (tI (vF b.length (hur ms r))):=by
 rw[vf I O hm (uD T)];unfold bx;simp only [pQ]
def oO (I:1<=b.length) (O:b.length<=6) (hm:∀m∈ms,okN b.length m) (T:∀k∈r,k<ms.length):Q6 [.tup [tI b,tM_ ms],lI (pz r)]=.ok (tI (vF b.length (dsp ms r))):=by
 rw[DL I O hm (uD T)];unfold ai;simp only [oN]
def jT (T:n<=6) (hd:∀p,p<n->-18446744073709551616<d p/\d p<18446744073709551616):J5 [tI (vF n g),tI (vF n d),.int z]=.ok (tI (vF n λp=>g p+z*d p)):=by
 have O:=R7 (tI (vF n g)) (tI (vF n d)) _ _ rfl rfl;rw[Z6 (by rw[D5,D5]),D5]at O;exists rpB,aW,O;have e:∀N mg me ρ (h:∀k,k<n->∃I,mg (.tup [.int ((vF n g).getD k 0),.int ((vF n d).getD k 0)]) (ρ++List.replicate (N-ρ.length) Sl.un)=some I/\me I=.ok (.int (g k+z*d k))),j6 N mg yes me ((List.range n).map λk=>W.tup [.int ((vF n g).getD k 0),.int ((vF n d).getD k 0)]) ρ=.ok (lI (vF n λp=>g p+z*d p)):=λN mg me ρ h=>by
  rw[i9 (λk=>.int (g k+z*d k)) _ _ ρ (by simp;omega) (λk hk=>h k (by simpa using hk)),M3]
 rw[e]
 .exists rp18
 .intro k hk;have q:=iq (i:=z) (hd k hk);refine ⟨_,rfl,?_⟩;rw[j9 hk,j9 hk];exists q
def mG (T:n<=6):U1 [tI (vF n g),tI (vF n d)]=.ok (tI (vF n λp=>max (g p) (d p))):=by
 have O:=R7 (tI (vF n g)) (tI (vF n d)) _ _ rfl rfl;rw[Z6 (by rw[D5,D5]),D5]at O;exists rpB,eC,O;have e:∀N mg me ρ (h:∀k,k<n->∃I,mg (.tup [.int ((vF n g).getD k 0),.int ((vF n d).getD k 0)]) (ρ++List.replicate (N-ρ.length) Sl.un)=some I/\me I=.ok (.int (max (g k) (d k)))),j6 N mg yes me ((List.range n).map λk=>W.tup [.int ((vF n g).getD k 0),.int ((vF n d).getD k 0)]) ρ=.ok (lI (vF n λp=>max (g p) (d p))):=λN mg me ρ h=>by
  rw[i9 (λk=>.int (max (g k) (d k))) _ _ ρ (by simp;omega) (λk hk=>h k (by simpa using hk)),M3]
 rw[e]
 .exists rp18
 .intro k hk;refine ⟨_,rfl,?_⟩;rw[j9 hk,j9 hk];exists rp18
def R8 (ms:List Mv):Prop:=∀m∈ms,∀p,-10000000000<=mvD m p/\mvD m p<=10000000000
def bc (h:R8 ms) (p:Nat):∀r:List Nat,(∀k∈r,k<ms.length)->-((r.length:Int)*10000000000)<=dsp ms r p/\dsp ms r p<=(r.length:Int)*10000000000
 | [],_=>by change -(((0:Nat):Int)*_)<=0/\0<=((0:Nat):Int)*_;omega
 | k::r,hr=>by
  have hk:=hr k qB3;have O:=h (mvN ms k) (by unfold mvN;rw[qA0,qA3 hk];show qG1 _) p;have T:=bc h p r λq I=>hr q (qA8 _ I);have e:dsp ms (k::r) p=mvD (mvN ms k) p+dsp ms r p:=rfl;rw[e,qC5];omega
def Dn (T:1<=b.length) (I:b.length<=6) (hm:∀m∈ms,okN b.length m) (hs:R8 ms) (O:∀k∈r,k<ms.length) (hl:r.length<=100):D4 [.tup [tI b,tM_ ms],lI (pz r),.int t,tI (vF b.length w)]=.ok (tI (vF b.length (ahW ms r t w))):=by
 have k1:=Ca T I hm O;have k2:=oO T I hm O;have hd:∀p,p<b.length->-18446744073709551616<dsp ms r p/\dsp ms r p<18446744073709551616:=λp _=>by
  have:=bc hs p r O
  omega
 have k3:=jT (n:=b.length) (g:=hur ms r) (d:=dsp ms r) (z:=1-t) I hd;have k4:=mG (n:=b.length) (g:=hur ms r) (d:=λp=>hur ms r p+(1-t)*dsp ms r p) I;have k5:=jT (n:=b.length) (g:=w) (d:=dsp ms r) (z:=-t) I hd;have k6:=mG (n:=b.length) (g:=λp=>max (hur ms r p) (hur ms r p+(1-t)*dsp ms r p)) (d:=λp=>w p+(-t)*dsp ms r p) I;have e7:vF b.length (ahW ms r t w)=vF b.length λp=>max (max (hur ms r p) (hur ms r p+(1-t)*dsp ms r p)) (w p+(-t)*dsp ms r p):=rfl;rw[e7];generalize vF b.length (hur ms r)=g1 at *
 generalize vF b.length (dsp ms r)=g2 at *
 generalize (vF b.length λp=>hur ms r p+(1-t)*dsp ms r p)=g3 at *
 generalize (vF b.length λp=>max (hur ms r p) (hur ms r p+(1-t)*dsp ms r p))=g4 at *
 generalize (vF b.length λp=>w p+(-t)*dsp ms r p)=g5 at *
 generalize (vF b.length λp=>max (max (hur ms r p) (hur ms r p+(1-t)*dsp ms r p)) (w p+(-t)*dsp ms r p))=g6 at *
 generalize vF b.length w=g7 at *
 exists rpB,bV,k1,k2,k3,k4,k5,k6
def bi (x:Cap)(st:Zv)(P:Zw)(w:Zv):Int:=C7 (0::P.map λp=>-(((x.getD p none).getD 0-w p)/st p))
def DB (x:Cap) (st:Zv) (P:Zw) (w:Zv):0<=bi x st P w:=by
 have:=jz (ns:=0::P.map λp=>-(((x.getD p none).getD 0-w p)/st p)) 0 ZV
 show this
def DC (T:p∈P) (hv:x.getD p none=some v) (hs:0<st p):w p<=v+bi x st P w*st p:=by
 have hm:-(((x.getD p none).getD 0-w p)/st p)∈0::P.map λp=>-(((x.getD p none).getD 0-w p)/st p):=qA8 _ (qB1.mpr ⟨p,T,rfl⟩);obtain ⟨k,hk,I⟩:=qF7.mp hm
 have:=jz (ns:=0::P.map λp=>-(((x.getD p none).getD 0-w p)/st p)) k hk
 rw[qA0,qA3 hk,I]at this;rw[hv]at this;have this:-((v-w p)/st p)<=bi x st P w:=this;have O:=qH8 (show -(bi x st P w)<=(v-w p)/st p by omega) (show 0<=st p by omega);have h3:=Int.ediv_mul_le (v-w p) (show st p≠0 by omega);rw[qI9]at O;omega
def wB {x:Cap}(h6:n<=6) (hx:x.length=n) (hP:∀p∈P,p<n/\(∃v,x.getD p none=some v)/\0<st p/\st p<=1000000000000000000000) (hl:P.length<=6):W2 [tC x,tI (vF n st),tI (pz P),tI (vF n w)]=.ok (.int (bi x st P w)):=by
 have e:∀N mg me ρ (h:∀k∈P,∃O,mg (.int (k:Nat)) (ρ++List.replicate (N-ρ.length) Sl.un)=some O/\me O=.ok (.int (-(((x.getD k none).getD 0-w k)/st k)))),j6 N mg yes me ((pz P).map W.int) ρ=.ok (lI (P.map λp=>-(((x.getD p none).getD 0-w p)/st p))):=λN mg me ρ h=>by
  rw[gx,i9 (λk=>.int (-(((x.getD k none).getD 0-w k)/st k))) (λk=>W.int (k:Nat)) _ ρ ox h];show congrArg (λl=>R.ok (W.lst l)) (by rw[qC3];rfl)
 have hc:rL true (.lst [.int 0]) (lI (P.map λp=>-(((x.getD p none).getD 0-w p)/st p)))=.ok (lI (0::P.map λp=>-(((x.getD p none).getD 0-w p)/st p))):=by
  have:(W.lst [W.int 0])=.lst (([0]:Zz).map W.int):=rfl
  rw[this,vn (by simp;omega),<- qD0];rfl
 have hb:Q2 C7 [lI (0::P.map λp=>-(((x.getD p none).getD 0-w p)/st p))]=.ok (.int (bi x st P w)):=cf ZV;obtain ⟨T,a0⟩:∃T,T=lI (P.map λp=>-(((x.getD p none).getD 0-w p)/st p)):=⟨_,rfl⟩;obtain ⟨a3,I⟩:∃T,T=lI (0::P.map λp=>-(((x.getD p none).getD 0-w p)/st p)):=⟨_,rfl⟩;rw[<- I]at hb hc;rw[<- a0]at e hc;exists rpB,fV;rw[e];rotate_left
 .intro p hp;obtain ⟨h1,⟨v,hv⟩,h3,h4⟩:=hP p hp;have q1:=atO (cs:=x) (k:=p) ox;rw[hv]at q1;have q2:L2.atI ((vF n w).map W.int) (p:Int)=some (.int (w p)):=F9 (by rw[qA6,qA6,qC7 h1];rfl);have q3:L2.atI ((vF n st).map W.int) (p:Int)=some (.int (st p)):=F9 (by rw[qA6,qA6,qC7 h1];rfl);have q4:=CC (i:=v-w p) h3 h4;refine ⟨_,rfl,?_⟩;rw[hv];exists q1,q2,q3,q4;rfl
 exists hc,hb
def sE (T:J4 es):∀n,n<=es.length->q∈j5 es n->∃R,j5 es n=((j5 es n).takeWhile λa=>decide (a≠q))++q::R/\q∉R:=by
 intro n
 induction n using Nat.strongRecOn with
 | _ n ih=>
  intro hn I;by_cases e:q=n
  .subst e;cases q with
   |zero=>show ⟨[],by rw[E6];rfl,ZV⟩
   | succ i=>
    have O:es[i]?=some es[i]:=qA3 ox;have a0:=T i _ O;refine ⟨j5 es es[i].2.1,?_,λh=>?_⟩
    .rw[o0 T O,qM9,qA4 ZV];rfl
    .have:=(J0 T es[i].2.1 ox).1 _ h
     omega
  .cases n with
   |zero=>rw[E6]at I;show absurd (qD5.mp I) e
   | succ i=>
    have O:es[i]?=some es[i]:=qA3 ox;have a0:=T i _ O;rw[o0 T O]at I ⊢;have I:q∈j5 es es[i].2.1:=by
     rcases qB5.mp I with q' |q'
     .show absurd q' e
     .show q'
    obtain ⟨R,h1,h2⟩:=ih es[i].2.1 ox ox I;refine ⟨R,?_,h2⟩;rw[qM9,qA2 (by simpa using λh=>e h.symm),qO3,<- h1]
def cN (es:List GEnt)(n:Nat):List Nat:=(j5 es n).reverse
def qO (hp:J4 es) (hn:n<=es.length) (O:q∈j5 es n):∃A,cN es n=A++q::L0 es q n/\q∉A:=by
 obtain ⟨R,I,T⟩:=sE hp n hn O;refine ⟨R.reverse,?_,λh=>T (qM5.mp h)⟩;unfold cN L0
 conv=>lhs;rw[I]
 rw[qN0,qI4,qJ8];rfl
def Dm (O:J4 es) (I:es.length<=100) (hn:n<=es.length):rG [.lst (i8 c es),.int (n:Int)]=.ok (lI (pz (cN es n))):=by
 have k:=cw (c:=c) O I hn;have e:lI (pz (cN es n))=.lst (((j5 es n).map λ(k:Nat)=>(k:Int)).reverse.map W.int):=by unfold pz cN;rw[qI0]
 rw[e];exists rpB,zC,k
def GF (p:Int):∀I:List Int,jB (.int p) (I.map W.int)=I.findIdx? λq=>decide (q=p)
 | []=>rfl
 | q::I=>by
  have g:=GF p I;have e:PyData.eqv (pd (.int q)) (pd (.int p))=decide (q=p):=by
   have:=eqI [q] [p]
   simpa [pds,PyData.eqvAll]using this
  unfold jB at g ⊢;rw[qC2,pds,List.findIdx?_cons,List.findIdx?_cons,g,e]
def ye (hq:q∉A) (T:(A++q::B).length<=500):nB ((pz (A++q::B)).map W.int) (.int (q:Int))=.ok (.int (A.length:Int)):=by
 have e:(pz (A++q::B)).findIdx? (λx=>decide (x=(q:Int)))=some A.length:=by
  rw[qS8];refine ⟨by rw[S8,qD1,qC5];omega,?_,λj I=>?_⟩
  .unfold pz;simp
  .unfold pz;have O:A[j]'I≠q:=λh=>hq (h ▸ qG1 _);rw[qO5,qY4 I];simp only [qQ7];omega
 unfold nB;rw[Z9,lN,qL1,qA2 rfl,GF,e];show qA2 (by rw[qD1,qC5]at T;omega)
def yJ (l:Zw) (j:Nat):U5 (pz l) (some ((j:Int)+1)) none=pz (l.drop (j+1)):=by
 unfold U5;rw[show ((j:Int)+1)=((j+1:Nat):Int) by omega,HT.sIx_nat,HT.sIx_none];have e:pz (l.drop (j+1))=(pz l).drop (j+1):=by unfold pz;rw[xC6]
 rw[e];by_cases h:j+1<=(pz l).length
 .rw [qZ4 h]
  show qL5 (by rw[qL0];omega)
 .rw[Nat.min_eq_right ox,Nat.sub_self,qV4,List.drop_eq_nil_of_le ox]
def oV {es:List GEnt}(h0:0<q) (h:q<=es.length):∃x y:W,L2.atI (i8 c es) (q:Int)=some (.tup [x,y,.int (bu es q:Int)]):=by
 obtain ⟨i,rfl⟩:∃i,q=i+1:=⟨q-1,ox⟩;have I:es[i]?=some es[i]:=qA3 ox;refine ⟨tC es[i].1,.int (es[i].2.1:Int),(ft I).trans ?_⟩;rw[jr I]
def xH (O:J4 es):∀n,n<=es.length->q∈j5 es n->∀a∈L0 es q n,0<a/\a<=es.length:=by
 intro n
 induction n using Nat.strongRecOn with
 | _ n ih=>
  intro hn I a ha;by_cases e:q=n
  .subst e;rw[dZ O hn]at ha;cases ha
  .cases n with
   |zero=>rw[E6]at I;show absurd (qD5.mp I) e
   | succ i=>
    have T:es[i]?=some es[i]:=qA3 ox;have a0:=O i _ T;rw[o0 O T]at I;have I:q∈j5 es es[i].2.1:=by
     rcases qB5.mp I with q' |q'
     .show absurd q' e
     .show q'
    rw[kh O T e]at ha;rcases qF9.mp ha with k' |k'
    .show ih es[i].2.1 ox ox I a k'
    .rw[qD5.mp k'];omega
def Av (hp:J4 es) (hl:es.length<=90) (hn:n<=es.length) (hq:q∈j5 es n):P9 [.lst (i8 c es),.int (q:Int),.int (n:Int)]=.ok (lI (pz (x9 es q n))):=by
 have kw:=Dm (c:=c) hp ox hn;obtain ⟨A,hA,a8⟩:=qO hp hn hq;have a5:=(J0 hp n hn).2;have T:(cN es n).length<=n+1:=by unfold cN;rw[qB7];show a5
 rw[hA]at kw T;have hj:=ye (B:=L0 es q n) a8 ox;have O:=yJ (A++q::L0 es q n) A.length;have a7:(A++q::L0 es q n).drop (A.length+1)=L0 es q n:=by
  rw[List.drop_append,List.drop_eq_nil_of_le ox];simp
 rw[a7]at O;rw[qD1,qC5]at T;have e:∀N mg me ρ (h:∀a∈L0 es q n,∃a0,mg (.int (a:Nat)) (ρ++List.replicate (N-ρ.length) Sl.un)=some a0/\me a0=.ok (.int (bu es a:Int))),j6 N mg yes me ((pz (L0 es q n)).map W.int) ρ=.ok (lI (pz (x9 es q n))):=λN mg me ρ h=>by
  rw[gx,i9 (λa=>.int (bu es a:Int)) (λ(a:Nat)=>W.int (a:Int)) _ ρ ox h];refine congrArg (λl=>R.ok (W.lst l)) ?_;unfold x9;rw[gx,qC3];rfl
 have a6:=xH hp n hn hq;have I:∀a,0<a->a<=es.length->∃x y:W,L2.atI (i8 c es) (a:Int)=some (.tup [x,y,.int (bu es a:Int)]):=λa h0 h=>oV h0 h;generalize pz (x9 es q n)=g1 at *
 generalize a9:pz (L0 es q n)=g2 at *
 generalize pz (A++q::L0 es q n)=g3 at *
 obtain ⟨a3,a4⟩:∃a3,a3=i8 c es:=⟨_,rfl⟩;rw[<- a4]at kw I;rw[<- a4];exists rpB,dq,kw,hj,O;rw[e]
 .exists rp18
 .intro a ha;obtain ⟨h0,h1⟩:=a6 a ha;obtain ⟨x,y,er⟩:=I a h0 h1;have b2:L2.atI [x,y,.int (bu es a:Int)] 2=some (.int (bu es a:Int)):=rfl;refine ⟨_,rfl,?_⟩;exists er,b2
def chn (c:Cap) (es:List GEnt):Cap->List (Nat×List Nat)->Cap->Prop
 |x,[],y=>x=y
 |x,f::L,y=>(f.2=plc x (j4 x (sC c es f.1))/\f.2 ≠ [])/\chn c es (j4 x (sC c es f.1)) L y
def AX (O:h.length=x.length) (I:plc x h = []):h=x:=by
 refine qH7 λk=>?_;by_cases hk:k<x.length
 .have:¬ (h.getD k none≠x.getD k none):=λq=>by
   have:k∈plc x h:=qQ2.mpr ⟨qF8.mpr hk,qO8 q⟩
   rw[I]at this;cases this
  have this:h.getD k none=x.getD k none:=by
   by_cases q:h.getD k none=x.getD k none
   .show q
   .show absurd q this
  rw[qA0,qA0,qA3 hk,qA3 ox]at this;rw[qA3 hk,qA3 ox];show congrArg some this
 .rw[qD7 ox,qD7 ox]
def jx:∀(l:Zw) (x:Cap),chn c es x (lfs c es l x) (upC c es l x)
 | [],_=>rfl
 | q::l,x=>by
  change chn c es x ((if plc x (j4 x (sC c es q)) = [] then [] else [(q,plc x (j4 x (sC c es q)))])++lfs c es l (j4 x (sC c es q))) (upC c es l (j4 x (sC c es q)));by_cases h:plc x (j4 x (sC c es q)) = []
  .rw [qA2 h,AX (L9 _ _) h]
   show jx l x
  .rw [qA4 h]
   show ⟨⟨rfl,h⟩,jx l _⟩
def pI:∀(l:Zw) (x:Cap),∀f∈lfs c es l x,f.1∈l
 | [],_,f,hf=>by cases hf
 | q::l,x,f,hf=>by
  rcases qF9.mp hf with h|h
  .by_cases e:plc x (j4 x (sC c es q)) = []
   .rw[qA2 e]at h;cases h
   .rw [qA4 e]at h
    rw[qD5.mp h];show qB3
  .show qA8 _ (pI l _ f h)
def nT:∀{L:List (Nat×List Nat)}{x:Cap},chn c es x (L ++ [f]) y->∃z,chn c es x L z/\f.2=plc z y/\f.2 ≠ []/\y=j4 z (sC c es f.1)
 | [],x,⟨⟨h1,h2⟩,I⟩=>⟨x,rfl,by have I:j4 x (sC c es f.1)=y:=I;rw[<- I];show h1,h2,I.symm⟩
 | g::L,x,⟨h1,h2⟩=>by
  obtain ⟨z,hz,r⟩:=nT (L:=L) h2;show ⟨z,⟨h1,hz⟩,r⟩
def nS:∀{L:List (Nat×List Nat)}{x:Cap},chn c es x L y->y.length=x.length/\∀p v,y.getD p none=some v->x.getD p none=some v
 | [],x,h=>by have h:x=y:=h;subst h;show ⟨rfl,λ_ _ h=>h⟩
 | g::L,x,⟨_,h2⟩=>by
  obtain ⟨O,I⟩:=nS (L:=L) h2;show ⟨by rw[O,L9],λp v T=>L8 (I p v T)⟩
def Q5 (x:Cap):Nat:=(List.range x.length).countP λk=>(x.getD k none).isSome
def jF (x:Cap):Q5 x<=x.length:=by
 unfold Q5
 have:=List.countP_le_length (p:=λk=>(x.getD k none).isSome) (l:=List.range x.length)
 rwa [qF4]at this
def kH {α:Type}{p q:α->Bool}:∀{l:List α},(∀a∈l,p a=true->q a=true)->(∃a∈l,p a=false/\q a=true)->l.countP p<l.countP q
 | [],_,⟨a,ha,_⟩=>by cases ha
 | b::l,h,⟨a,ha,h1,h2⟩=>by
  rw[qO2,qO2];rcases qB5.mp ha with rfl|ha
  .have:=qT5 (l:=l) (p:=p) (q:=q) λx I=>h x (qA8 _ I)
   rw[h1,h2];simp;omega
  .have:=kH (l:=l) (p:=p) (q:=q) (λx I=>h x (qA8 _ I)) ⟨a,ha,h1,h2⟩
   have O:=h b qB3;cases T:p b
   .simp;split <;> omega
   .rw[O T];simp;omega
def Ci (O:y.length=z.length) (I:∀p v,y.getD p none=some v->z.getD p none=some v) (hp:p<z.length) (T:z.getD p none=some v) (h2:y.getD p none=none):Q5 y<Q5 z:=by
 unfold Q5;rw[O];refine kH (λk _ hk=>?_) ⟨p,qF8.mpr hp,by rw[h2];rfl,by rw[T];rfl⟩;cases q:y.getD k none with
 |none=>rw[q]at hk;cases hk
 |some u=>rw[I k u q];rfl
def yz:Q5 (v4 c m)=Q5 c:=by
 unfold Q5;rw[K4];refine List.countP_congr λk hk=>?_;rw[iS (qF8.mp hk)];cases c.getD k none <;> simp
def lx (O:J4 es):∀n,n<=es.length->∀j a,(j5 es n)[j]?=some a->(j5 es n).drop j=j5 es a:=by
 intro n
 induction n using Nat.strongRecOn with
 | _ n ih=>
  intro hn j a ha;cases n with
  | zero=>
   rw[E6]at ha ⊢;cases j with
   |zero=>cases ha;show (E6 es).symm
   |succ j=>cases ha
  | succ i=>
   have I:es[i]?=some es[i]:=qA3 ox;have T:=O i _ I;cases j with
   | zero=>
    rw[o0 O I]at ha;cases ha;rfl
   | succ j=>
    rw[o0 O I]at ha ⊢;show ih es[i].2.1 ox ox j a ha
def yI (l:Zw):U5 (pz l) none (some (-1))=pz l.dropLast:=by
 have e:pz l.dropLast=(pz l).dropLast:=by unfold pz;rw[List.map_dropLast]
 rw[e];unfold U5;rw[HT.sIx_none,xA9,List.dropLast_eq_take];congr 1;unfold HT.sIx;simp;omega
abbrev blW (b:Blk):W:=.tup [lI (pz b.1),.int b.2]
def pc {e:Cap}(h:p∈plc x (j4 x e)):p<x.length/\(∃v,x.getD p none=some v)/\(j4 x e).getD p none=none:=by
 unfold plc at h;obtain ⟨T,O⟩:=qQ2.mp h;have T:=qF8.mp T;have O:(j4 x e).getD p none≠x.getD p none:=qO9 O;refine ⟨T,?_,?_⟩
 .cases q:x.getD p none with
  |some v=>show ⟨v,rfl⟩
  | none=>
   exfalso;refine O ?_;rw[q];cases I:(j4 x e).getD p none with
   |none=>rfl
   |some v=>rw[L8 I]at q;cases q
 .cases I:(j4 x e).getD p none with
  |none=>rfl
  |some v=>show absurd (by rw[I,L8 I]) O
def xh {x e:Cap}(h:x.getD p none=none):(j4 x e).getD p none=none:=by
 cases q:(j4 x e).getD p none with
 |none=>rfl
 |some v=>rw[L8 q]at h;cases h
def AW {e:Cap}(h:plc x (j4 x e) ≠ []):l6 e x=true:=by
 cases q:l6 e x with
 |true=>rfl
 | false=>
  exfalso;refine h ?_
  have:j4 x e=x:=by unfold j4;rw[qA4 (by rw[q];simp)]
  rw[this];unfold plc;rw[qS9];intro a _;simp
def ldB.weak (h:ldB n ms x w bs y u) (hw:∀p,p<n->x.getD p none=none->w p<=w' p) (hu:∀p,p<n->y.getD p none=none->u' p<=u p):ldB n ms x w' bs y u':=λs O=>by
 obtain ⟨h1,T⟩:=h s λp I=>⟨(O p I).1,λq=>qC6 (hw p I q) ((O p I).2 q)⟩;show ⟨h1,λp I=>⟨(T p I).1,λq=>qC6 (hu p I q) ((T p I).2 q)⟩⟩
def yQ {kk:Nat}(hK:GK (b.map some) ms es A kk) (h1:1<=b.length) (h6:b.length<=6) (gb:nn b) (hm:∀m∈ms,okN b.length m) (hs:R8 ms) (e6:es.length<=29) (hn:n<=es.length):
  Ok (ce [.tup [tI b,tM_ ms],.lst (i8 (b.map some) es),.int (n:Int),.int hh]) λw=>∃bs:List Blk,w=.lst (bs.map blW)/\bs.length<=40/\ldB b.length ms (b.map some) (λ_=>0) bs (sC (b.map some) es n) (λ_=>hh):=by
 have ab:(b.map some).length=b.length:=qA5 ..;have ek:nnC (b.map some):=xJ gb;obtain ⟨c,hc⟩:∃c:Cap,c=b.map some:=⟨_,rfl⟩;rw[<- hc]at hK ab ek ⊢;rw[<- ab]at h1 h6 hm;have hlen:∀a,a<=es.length->(sC c es a).length=c.length:=λa ha=>F0 hK.len ha;have kw:=cw (c:=c) (n:=n) hK.par ox hn;have kw:D0 [.lst (i8 c es),.int (n:Int)]=.ok (lI (pz (j5 es n))):=kw;have cp:=J0 hK.par n hn;have cx:=yI (j5 es n);have a5:(j5 es n).length<=30:=qC1 cp.2 (qJ0 (qC1 hn e6));obtain ⟨x0,y0,er⟩:=U8 (c:=c) (es:=es) hn;have a0:L2.atI [tC (sC c es n),x0,y0] 0=some (tC (sC c es n)):=rfl;obtain ⟨w0,e7⟩:∃w0:Nat->Int,w0=λp=>((sC c es n).getD p none).getD hh:=⟨_,rfl⟩;have ew:∀N mg me ρ (h:∀o∈sC c es n,∃ep,mg (oW o) (ρ++List.replicate (N-ρ.length) Sl.un)=some ep/\me ep=.ok (.int (o.getD hh))),j6 N mg yes me ((sC c es n).map oW) ρ=.ok (lI (vF c.length w0)):=λN mg me ρ h=>by
  have hl:=hlen n hn;rw[i9 (λo=>.int (o.getD hh)) _ _ ρ ox h];refine congrArg (λl=>R.ok (W.lst l)) ?_;rw[qC3];apply qH7;intro k;rw[qA6,qA6];by_cases hk:k<c.length
  .rw [qC7 hk,qA3 ox]
   change some (W.int _)=some (W.int (w0 k));rw[e7]
   change _=some (W.int (((sC c es n).getD k none).getD hh));rw[qA0,qA3 ox];rfl
  .rw[qD7 ox,qD7 (by simp;omega)];rfl
 have hu:∀i e,es[i]?=some e->T9 [.tup [tI b,tM_ ms],.lst (i8 c es),.int ((i+1:Nat):Int)]=.ok (tC (v4 (sC c es e.2.1) (mvN ms e.2.2))):=λi e he=>sQ hK h6 hm he;have e4:∀i e,es[i]?=some e->U0 [.tup [tI b,tM_ ms],.lst (i8 c es),.int ((i+1:Nat):Int)]=.ok (.lst ((lfs c es (j5 es e.2.1) (v4 (sC c es e.2.1) (mvN ms e.2.2))).map lfT)):=λi e he=>rh hK h6 hm ox he;have fi:∀a q,a<=es.length->q∈j5 es a->P9 [.lst (i8 c es),.int (q:Int),.int (a:Int)]=.ok (lI (pz (x9 es q a))):=λa q ha hq=>Av hK.par ox ha hq;have e5:∀a,0<a->a<=es.length->∃x y:W,L2.atI (i8 c es) (a:Int)=some (.tup [x,y,.int (bu es a:Int)]):=λa h0 h=>oV h0 h;have d0:∀r:List Nat,(∀k∈r,k<ms.length)->Q6 [.tup [tI b,tM_ ms],lI (pz r)]=.ok (tI (vF c.length (dsp ms r))):=λr hr=>by rw[ab];show oO ox ox (by rw[<- ab];show hm) hr
 have cv:∀(r:Zw) (t:Int) (w:Zv),(∀k∈r,k<ms.length)->r.length<=100->D4 [.tup [tI b,tM_ ms],lI (pz r),.int t,tI (vF c.length w)]=.ok (tI (vF c.length (ahW ms r t w))):=λr t w hr hl=>by rw[ab];show Dn ox ox (by rw[<- ab];show hm) hs hr hl
 have fl:∀(x:Cap) (st w:Zv) (P:Zw),x.length=c.length->(∀p∈P,p<c.length/\(∃v,x.getD p none=some v)/\0<st p/\st p<=1000000000000000000000)->P.length<=6->W2 [tC x,tI (vF c.length st),tI (pz P),tI (vF c.length w)]=.ok (.int (bi x st P w)):=λx st w P hx hP hl=>wB h6 hx hP hl;rw[<- ab];obtain ⟨mo,i0⟩:∃mo,mo=W.tup [tI b,tM_ ms]:=⟨_,rfl⟩;rw[<- i0]at hu e4 d0 cv ⊢;obtain ⟨b5,i2⟩:∃b5,b5=i8 c es:=⟨_,rfl⟩;rw[<- i2]at kw er hu e4 fi e5 ⊢;obtain ⟨wy,b6⟩:∃wy,wy=j5 es n:=⟨_,rfl⟩;rw[<- b6]at kw cp cx a5;obtain ⟨vv,i1⟩:∃vv:Zv->List Int,vv=vF c.length:=⟨_,rfl⟩;rw[<- i1]at ew cv d0 fl;exists rpB,pG,er,a0;rw[ew];rotate_left
 .intro o ho;refine ⟨_,rfl,?_⟩;cases o with
  | none=>
   exists rp18;rfl
  | some v=>
   exists rp18;rfl
 exists kw,cx;refine w4 (bO (λρ=>∃(bs:List Blk) (w:Zv) (a6 a7 a8 a9 a3 T:Sl),ρ = [.par mo,.par (.lst b5),.par (.int (n:Int)),.par (.int hh),.val (tI (vv w)),.own (bs.map blW),a6,a7,a8,a9,a3,T]/\bs.length<=36/\ldB c.length ms c w bs.reverse (sC c es n) w0) ?_ ?_)
 .refine bN (λj ρ=>∃(bs:List Blk) (w:Zv) (a6 a7 a8 a9 a3 T:Sl) (a:Nat),ρ = [.par mo,.par (.lst b5),.par (.int (n:Int)),.par (.int hh),.val (tI (vv w)),.own (bs.map blW),a6,a7,a8,a9,a3,T]/\wy[j]?=some a/\bs.length<=j+Q5 (sC c es a)/\ldB c.length ms (sC c es a) w bs.reverse (sC c es n) w0) ?_ ?_ ?_
  .have:wy[0]?=some n:=by
    rw[b6];cases n with
    |zero=>rw[E6];rfl
    |succ i=>rw[o0 hK.par (qA3 (show i<es.length by omega))];rfl
   show ⟨[],w0,_,_,_,_,_,_,n,rfl,this,ZV,.refl _ _⟩
  .rintro j u ρ hj ⟨bs,w,a6,a7,a8,a9,a3,T,a,rfl,b0,I,O⟩;rw[gx,qA6]at hj;obtain ⟨a',dv,rfl⟩:=qE3.mp hj;have h8:j<wy.dropLast.length:=(qA9.mp dv).1;have cy:j+1<wy.length:=by rw[qU6]at h8;omega
   have gk:a'=a:=by
    rw[List.getElem?_dropLast,qA2 ox,b0]at dv;show (Option.some.inj dv).symm
   subst gk;have b3:=lx hK.par n hn j a' (by rw[<- b6];show b0);rw[<- b6]at b3;have ea:a'<=n:=cp.1 a' (qD4 b0);cases a' with
   | zero=>
    exfalso
    have:=congrArg List.length b3
    rw[qL0,E6]at this;simp at this;omega
   | succ i=>
    have he:es[i]?=some es[i]:=qA3 ox;obtain ⟨e,h5⟩:∃e,e=es[i]:=⟨_,rfl⟩;rw[<- h5]at he;have eb:=hK.par i e he;have c6:=hK.k8 e (qD4 he);have b4:i+1<=es.length:=qC1 ea hn;have bb:e.2.1<=es.length:=qC1 eb (qI6 b4);have ik:i<es.length:=b4;obtain ⟨ey,h2,_⟩:=hK.beh i e he;have ku:=hu i e he;have kl:=e4 i e he;have gr:wy[j+1]?=some e.2.1:=by
     rw[o0 hK.par he]at b3
     have:(wy.drop j)[1]?=(j5 es e.2.1)[0]?:=by rw[b3];rfl
     rw[List.getElem?_drop]at this;rw[this];cases q:e.2.1 with
     |zero=>rw[E6];rfl
     |succ i'=>rw[o0 hK.par (qA3 (show i'<es.length by omega))];rfl
    have c4:=hlen e.2.1 bb;have c0:(v4 (sC c es e.2.1) (mvN ms e.2.2)).length=c.length:=by rw[K4];show c4
    rw[ib he,h2]at I O;obtain ⟨z1,z2,ee⟩:=e5 (i+1) (Nat.succ_pos i) b4;rw[jr he]at ee;have b2:L2.atI [z1,z2,W.int (e.2.2:Int)] 2=some (.int (e.2.2:Int)):=rfl;have d4:∀q∈j5 es e.2.1,∀p,p<c.length->∀v,(v4 (sC c es e.2.1) (mvN ms e.2.2)).getD p none=some v->∃u,(sC c es q).getD p none=some u/\u+dsp ms (x9 es q (i+1)) p=v/\hur ms (x9 es q (i+1)) p<=u:=λq hq p hp v hv=>by
     have gw:q≠i+1:=by
      have:=(J0 hK.par e.2.1 bb).1 q hq
      omega
     rw[iS (c4.symm ▸ hp)]at hv;cases cn:(sC c es e.2.1).getD p none with
     |none=>rw[cn]at hv;cases hv
     | some u'=>
      rw[cn]at hv;have hv:u'+mvD (mvN ms e.2.2) p=v:=Option.some.inj hv;obtain ⟨u,eu,ed,eh⟩:=Bf hK hm ek hp e.2.1 bb hq u' cn;have hok:okN (sC c es e.2.1).length (mvN ms e.2.2):=by rw[c4];show getM hm c6
      have h3:=oq hok ey (c4.symm ▸ hp) cn;have h4:=N5 hok.2.2.2 p;have hg:mvD (mvN ms e.2.2) p=(mvN ms e.2.2).2.getD p 0-(mvN ms e.2.2).1.getD p 0:=rfl;have hh:hur ms [e.2.2] p=max ((mvN ms e.2.2).1.getD p 0) (0-mvD (mvN ms e.2.2) p):=rfl;have hd:dsp ms [e.2.2] p=mvD (mvN ms e.2.2) p+0:=rfl;rw[dP hK.par he gw];show ⟨u,eu,by rw[V1,hd,qJ5,<- xC7,ed];show hv,pR eh (by rw[hh,ed];show qJ6.mpr ⟨h3,by rw[hg];show sd h3 h4⟩)⟩
    unfold v9 at I O;have ef:=jx (c:=c) (es:=es) (j5 es e.2.1) (v4 (sC c es e.2.1) (mvN ms e.2.2));have f5:=pI (c:=c) (es:=es) (j5 es e.2.1) (v4 (sC c es e.2.1) (mvN ms e.2.2));have gz:=λw=>Bu (n:=c.length) (w:=w) c4 c6 (getM hm c6) ey;have gv:Q5 (v4 (sC c es e.2.1) (mvN ms e.2.2))=Q5 (sC c es e.2.1):=yz;have dy:∀w,D4 [mo,.lst [.int (e.2.2:Int)],.int 1,tI (vv w)]=.ok (tI (vv (ahW ms [e.2.2] 1 w))):=λw=>cv [e.2.2] 1 w (by simpa using c6) ZV;generalize ih:v4 (sC c es e.2.1) (mvN ms e.2.2)=X0 at *
    obtain ⟨Lf,g4⟩:∃Lf,Lf=lfs c es (j5 es e.2.1) X0:=⟨_,rfl⟩;rw[<- g4]at kl ef f5;refine ⟨_,rfl,?_⟩;exists ku,kl;refine bO (λρ=>∃(bs:List Blk) (w:Zv) (a8 a9 a3 T:Sl),ρ = [.par mo,.par (.lst b5),.par (.int (n:Int)),.par (.int hh),.val (tI (vv w)),.own (bs.map blW),.par (.int ((i+1:Nat):Int)),.val (tC X0),a8,a9,a3,T]/\bs.length<=j+Q5 X0/\ldB c.length ms X0 w bs.reverse (sC c es n) w0) ?_ ?_
    .rw [<- qI0]
     refine bN (λm ρ=>∃(bs:List Blk) (w:Zv) (a8 a9 a3 T:Sl) (X:Cap),ρ = [.par mo,.par (.lst b5),.par (.int (n:Int)),.par (.int hh),.val (tI (vv w)),.own (bs.map blW),.par (.int ((i+1:Nat):Int)),.val (tC X0),a8,a9,a3,T]/\bs.length<=j+Q5 X/\ldB c.length ms X w bs.reverse (sC c es n) w0/\chn c es X0 (Lf.take (Lf.length-m)) X) ⟨bs,w,_,_,_,_,_,rfl,I,O,by rw[Nat.sub_zero,qH4];show ef⟩ ?_ ?_
     .rintro m u ρ fa ⟨bs,w,a8,a9,a3,T,X,rfl,I,O,a4⟩;rw[qA6]at fa;obtain ⟨f,hf,rfl⟩:=qE3.mp fa;have et:m<Lf.length:=by
       have:=(qA9.mp hf).1
       rwa [qB7]at this
      have g7:f∈Lf:=qM5.mp (qD4 hf);rw[List.getElem?_reverse et]at hf;have htk:Lf.take (Lf.length-m)=Lf.take (Lf.length-(m+1)) ++ [f]:=by
       rw[show Lf.length-m=(Lf.length-(m+1))+1 from (qS4 (qW2 et)).symm,qL6,show Lf.length-(m+1)=Lf.length-1-m by rw[Nat.sub_sub,qX5 1 m],hf];rfl
      rw[htk]at a4;obtain ⟨z,hz,hP,eg,hX⟩:=nT a4;obtain ⟨gs,e2⟩:=nS hz;have hq:=f5 f g7;have fo:=(J0 hK.par e.2.1 bb).1 _ hq;have ei:f.1∈j5 es (i+1):=by rw[o0 hK.par he];show qA8 _ hq
      have d3:=fi (i+1) f.1 b4 ei;have c1:=Aw hK (i+1) b4 ei;have d2:(x9 es f.1 (i+1)).length<=30:=qC1 (wV (q:=f.1) hK.par b4) (qJ0 (qC1 b4 e6));have c5:z.length=c.length:=gs.trans c0;have e1:=d0 _ c1;have c2:l6 (sC c es f.1) z=true:=AW (by rw[<- hX,<- hP];show eg);have bw:=hlen f.1 (qC1 fo bb);have c3:∀p,p<c.length->∀v,z.getD p none=some v->∃u,(sC c es f.1).getD p none=some u/\u+dsp ms (x9 es f.1 (i+1)) p=v/\hur ms (x9 es f.1 (i+1)) p<=u:=λp hp v hv=>d4 f.1 hq p hp v (e2 p v hv);have ej:∀p∈f.2,p<c.length/\(∃v,X0.getD p none=some v)/\0<dsp ms (x9 es f.1 (i+1)) p/\dsp ms (x9 es f.1 (i+1)) p<=1000000000000000000000:=λp hp=>by
       rw[hP,hX]at hp;obtain ⟨p1,⟨v,p2⟩,p3⟩:=pc hp;have d1:p<c.length:=c5 ▸ p1;obtain ⟨u,eu,ed,_⟩:=c3 p d1 v p2;have j0:u<=v:=by
        have:=bJ c2 (p:=p) (bw.symm ▸ d1)
        rw[eu,p2]at this;show qO9 this
       have i3:v≠u:=λq=>by
        rw[lZ c2 p1,p2,eu,q]at p3;unfold S5 at p3;rw[qA2 rfl]at p3;cases p3
       have:=bc hs p _ c1
       show ⟨d1,⟨v,e2 p v p2⟩,ox,ox⟩
      have ez:f.2.length<=6:=by
       rw[hP];show qC1 (pe z X) (c5.symm ▸ h6)
      have fe:=fl X0 (dsp ms (x9 es f.1 (i+1))) w f.2 c0 ej ez;have iv:=DB X0 (dsp ms (x9 es f.1 (i+1))) f.2 w;have c7:∀p,p<c.length->∀v,z.getD p none=some v->X.getD p none=none->w p<=v+bi X0 (dsp ms (x9 es f.1 (i+1))) f.2 w*dsp ms (x9 es f.1 (i+1)) p:=λp hp v hv e0=>by
       have ec:p∈f.2:=by
        rw[hP];unfold plc;show qQ2.mpr ⟨qF8.mpr (c5.symm ▸ hp),qO8 (by rw[e0,hv];simp)⟩
       show DC ec (e2 p v hv) (ej p ec).2.2.1
      have rA:Q5 X<Q5 z:=by
       obtain ⟨p,hp⟩:=List.exists_mem_of_ne_nil _ eg;rw[hP,hX]at hp;obtain ⟨p1,⟨v,p2⟩,p3⟩:=pc hp;rw[hX];show Ci (L9 _ _) (λp v h=>L8 h) p1 p2 p3
      have e3:=cv (x9 es f.1 (i+1)) (bi X0 (dsp ms (x9 es f.1 (i+1))) f.2 w) w c1 (qC1 d2 ZY);have gp:=jF z;have g6:j<=30:=qC1 (qK4 (qL7 cy)) a5;have cc:bs.length<1000:=qG5 I (qG5 (xB2 g6 (qC1 (qK4 rA) (qC1 gp (c5.symm ▸ h6)))) ZY);generalize bi X0 (dsp ms (x9 es f.1 (i+1))) f.2 w=t at *
      obtain ⟨r,hr⟩:∃r,r=x9 es f.1 (i+1):=⟨_,rfl⟩;rw[<- hr]at d3 c1 d2 e1 c3 c7 e3 fe;obtain ⟨rz,f3⟩:∃rz,rz=pz r:=⟨_,rfl⟩;rw[<- f3]at d3 e1 e3;refine ⟨_,rfl,?_⟩;exists d3,e1,fe;refine cM (λht=>?_) (λht=>?_)
      .have ht:0<t:=by simpa using ht
       have hL:=BP (ms:=ms) (t:=t) (w:=w) c5 bw c2 c1 d2 c3 ht (by rw[<- hX];show c7);rw[<- hX]at hL;exists e3;refine ⟨bs ++ [(r,t)],_,_,_,_,_,z,by rw[qD0,f3];rfl,by rw[qD1,qF5];show Nat.succ_le_of_lt (qG5 I (Nat.add_lt_add_left rA j)),by rw[qN0];show hL.cons O,hz⟩
      .have ht:t=0:=by
        have:¬ 0<t:=by simpa using ht
        omega
       rw[ht]at c7;have hL:=xU (ms:=ms) (n:=c.length) (x:=z) (e:=sC c es f.1) (w:=w) (by rw[<- hX];intro p hp v hv e0;have:=c7 p hp v hv e0;omega) (λp _ h=>xh h);rw[<- hX]at hL;exists rp18;show ⟨bs,w,_,_,_,_,z,rfl,qC1 I (Nat.add_le_add_left (qK4 rA) j),hL.skip O,hz⟩
     .rintro ρ ⟨bs,w,a8,a9,a3,T,X,rfl,I,O,a4⟩;rw[qA5,qB7,Nat.sub_self,qV4]at a4;have a4:X0=X:=a4;subst a4;show ⟨bs,w,_,_,_,_,rfl,I,O⟩
    .rintro ρ ⟨bs,w,a8,a9,a3,T,rfl,I,O⟩;have hy:=jF X0;have dy:=dy w;have cc:bs.length<1000:=qG5 I (qG5 (xB2 (qC1 (qK4 (qL7 cy)) a5) (qC1 hy (c0.symm ▸ h6))) ZY);exists ee,b2,dy;show ⟨bs ++ [([e.2.2],1)],_,_,_,_,_,_,_,e.2.1,by rw[qD0];rfl,gr,by rw[qD1,qF5,<- gv,Nat.add_right_comm];show qJ0 I,by rw[qN0];show (gz w).cons O⟩
  .rintro ρ ⟨bs,w,a6,a7,a8,a9,a3,T,a,rfl,b0,I,O⟩;rw[qA5,S8]at b0 I;have b3:=lx hK.par n hn _ a (by rw[<- b6];show b0);rw[<- b6]at b3;have ea:a<=n:=cp.1 a (qD4 b0);have g5:a=0:=by
    cases a with
    |zero=>rfl
    | succ i=>
     exfalso;have he:es[i]?=some es[i]:=qA3 ox;have eb:=hK.par i _ he;have hr:=lw hK.par es[i].2.1 ox
     have:=congrArg List.length b3
     rw[o0 hK.par he,qL0,qC5,qU6]at this;have h1:wy.length-(wy.length-1)<=1:=Nat.sub_le_of_le_add (by rw[qX5];show Nat.le_add_of_sub_le (qB4 _));rw[this]at h1;show absurd (List.length_pos_of_mem hr) (qO1 (qH6 h1))
   subst g5;have h0:sC c es 0=c:=rfl;rw[h0]at I O
   have:=jF c
   rw[qU6]at I;show ⟨bs,w,_,_,_,_,_,_,rfl,qC1 I (qC1 (xB2 (Nat.sub_le_sub_right a5 1) (qC1 this h6)) ZY),O⟩
 .rintro ρ ⟨bs,w,a6,a7,a8,a9,a3,T,rfl,hb,O⟩;exists rp18;refine ⟨bs.reverse,by rw[qI0],by rw[qB7];omega,O.weak (λp hp q=>?_) (λp hp q=>?_)⟩
  .rw [hc,qA0,qA6,qA3 ox]at q
   cases q
  .rw [e7]
   change hh<=((sC c es n).getD p none).getD hh;rw[q];show qE8 _
def ub (xs:Zz):Prop:=∀x∈xs,x<=10000000000
def ze (h:ub xs) (k:Nat):xs.getD k 0<=10000000000:=by
 by_cases hk:k<xs.length
 .show memD h hk
 .rw[qA0];simp [hk]
def wK (hm:∀m∈ms,okN n m) (T:∀m∈ms,ub m.1/\ub m.2):R8 ms:=λm h p=>by
 have I:=hm m h;have O:=T m h;have a1:=N5 I.2.2.1 p;have a2:=N5 I.2.2.2 p;have b1:=ze O.1 p;have b2:=ze O.2 p;unfold mvD;omega
def BZ:∀(r:Zw) (j k:Nat),r[j]?=some k->(mvN ms k).1.getD p 0-dsp ms (r.take j) p<=hur ms r p:=by
 intro r
 induction r with
 |nil=>intro j k h;cases h
 | cons a r I=>
  intro j k h;cases j with
  | zero=>
   cases h
   change (mvN ms a).1.getD p 0-0<=max ((mvN ms a).1.getD p 0) (hur ms r p-mvD (mvN ms a) p);rw[Int.sub_zero];show qU5 _ _
  | succ j=>
   have:=I j k h
   change (mvN ms k).1.getD p 0-(mvD (mvN ms a) p+dsp ms (r.take j) p)<=max ((mvN ms a).1.getD p 0) (hur ms r p-mvD (mvN ms a) p);rw[Int.add_comm,<- Int.sub_sub];show qC6 (Int.sub_le_sub_right this _) (qO4 _ _)
def GI (hm:∀m∈ms,okN n m):∀r:List Nat,(∀k∈r,k<ms.length)->0<=hur ms r p
 | [],_=>qE8 0
 | a::r,h=>by
  have:=N5 (getM hm (h a qB3)).2.2.1 p
  have:0<=(mvN ms a).1.getD p 0:=this
  change 0<=max ((mvN ms a).1.getD p 0) (hur ms r p-mvD (mvN ms a) p);omega
def Ds (hm:m<n):(vF n f).set m v=vF n λp=>if p=m then v else f p:=by
 apply qH7;intro k;by_cases e:m=k
 .subst e;rw[qF1 (by simpa using hm),qA6,qC7 hm]
  change some v=some (if m=m then v else f m);rw[qA2 rfl]
 .rw [qB9 e,qA6,qA6]
  by_cases hk:k<n
  .rw [qC7 hk]
   change some (f k)=some (if k=m then v else f k);rw[qA4 (λq=>e q.symm)]
  .rw[qD7 (by simp;omega)];rfl
def qq (f:Zv)(h:p<n):L2.atI ((vF n f).map W.int) (p:Int)=some (.int (f p)):=F9 (by rw[qA6,qA6,qC7 h];rfl)
def yE {r:Zw}(h:r[j]?=some k):dsp ms (r.take (j+1)) p=dsp ms (r.take j) p+mvD (mvN ms k) p:=by
 rw[qL6,h,V1]
 change _+(mvD (mvN ms k) p+0)=_;omega
def Ix (b:Zz):b=vF b.length λp=>b.getD p 0:=by
 apply qH7;intro k;rw[qA6];by_cases hk:k<b.length
 .rw [qC7 hk,qA3 hk]
  change _=some (b.getD k 0);rw[qA0,qA3 hk];rfl
 .rw[qD7 ox,qD7 (by simp;omega)];rfl
def pV:∀(bs:List Blk) (s:Zv) (j:Nat) (bl:Blk),goB n ms bs s->bs[j]?=some bl->okB n ms (endB ms (bs.take j) s) bl/\endB ms (bs.take (j+1)) s=on ms (endB ms (bs.take j) s) bl
 | [],_,_,_,_,h=>by cases h
 |b::bs,s,0,bl,hg,h=>by cases h;show ⟨hg.1,rfl⟩
 |b::bs,s,j+1,bl,hg,h=>pV bs (on ms s b) j bl hg.2 h
def Z3 (I:List Cap)(p:Nat):List VQ:=I.map λt=>t.getD p none
def xsP (I:List Cap)(p:Nat):List Int:=I.map λt=>(t.getD p none).getD 0
def pkL (I:List Cap)(p:Nat):Zk:=if (Z3 I p).any (·.isNone)=true then [.str "grows"] else [.str "at most",.int (C7 (xsP I p))]
def yA:∀(cs:Vy),fIn false .non (lC cs)=.ok (.bl (cs.any (·.isNone))):=λcs=>by
 unfold fIn;rw[DP,oS,qL1,qA2 rfl]
 have:((pds (cs.map oW)).any λy=>PyData.eqv y (pd .non))=cs.any (·.isNone):=by
  induction cs with
  |nil=>rfl
  | cons q O I=>
   rw[qC2,pds,List.any_cons,List.any_cons,I];cases q <;> rfl
 change (match some ((pds (cs.map oW)).any λy=>PyData.eqv y (pd .non)) with|some b=>R.ok (W.bl (if false=true then !b else b))|none=>.stuck)=_;rw[this];rfl
def xF (h:(Z3 ts p).any (·.isNone)=false):(Z3 ts p).map oW=(xsP ts p).map W.int:=by
 unfold Z3 xsP at *;rw[qC3,qC3];refine qE5 λt I=>?_;rw[qK8]at h
 have:=h _ (qB1.mpr ⟨t,I,rfl⟩)
 change oW (t.getD p none)=W.int ((t.getD p none).getD 0);cases O:t.getD p none with
 |none=>rw[O]at this;show absurd rfl this
 |some x=>rfl
def xw {p most:Nat}(hc:ca [w,.int (most:Int)]=.ok .non):eL [w,.int (p:Int),.int (most:Int)]=.ok (.tup [.str "open"]):=by
 exists rpB,nh,hc
def xx {I:List Cap}{most:Nat}(hc:ca [w,.int (most:Int)]=.ok (.lst (I.map tC))) (hl:I.length<=100) (h0:0<I.length) (hp:∀t∈I,p<t.length):eL [w,.int (p:Int),.int (most:Int)]=.ok (.tup (pkL I p)):=by
 have ek:∀N mg me ρ (h:∀t∈I,∃O,mg (tC t) (ρ++List.replicate (N-ρ.length) Sl.un)=some O/\me O=.ok (oW (t.getD p none))),j6 N mg yes me (I.map tC) ρ=.ok (lC (Z3 I p)):=λN mg me ρ h=>by
  rw[i9 (λt=>oW (t.getD p none)) _ _ ρ ox h];show congrArg (λl=>R.ok (W.lst l)) (by unfold Z3;rw[qC3];rfl)
 have kin:=yA (Z3 I p);obtain ⟨tw,T⟩:∃tw,tw=I.map tC:=⟨_,rfl⟩;rw[<- T]at hc ek;exists rpB,nh,hc;rw[ek];rotate_left
 .intro t ht;have k:=atO (hp t ht);refine ⟨_,rfl,?_⟩;exists k
 exists kin;unfold pkL;cases hn:(Z3 I p).any (·.isNone) with
 | true=>
  exists rp18
 | false=>
  have hb:Q2 C7 [lI (xsP I p)]=.ok (.int (C7 (xsP I p))):=cf (by unfold xsP;rw[qA5];show h0);exists rp18;rw[xF hn];exists hb
def A5:Nat->Zv->Int
 |0,_=>0
 |n+1,f=>f n-A5 n f
def dg:∀{n:Nat},(∀k,k<n->f k=g k)->A5 n f=A5 n g
 |0,_=>rfl
 | n+1,h=>by
  change f n-A5 n f=g n-A5 n g;rw[h n (qD8 n),dg λk hk=>h k (qF3 hk)]
def om (a b:Int) (f g:Zv):∀n:Nat,A5 n (λk=>a*f k+b*g k)=a*A5 n f+b*A5 n g
 |0=>by simp [A5]
 | n+1=>by
  change (a*f n+b*g n)-A5 n (λk=>a*f k+b*g k)=a*(f n-A5 n f)+b*(g n-A5 n g);rw[om a b f g n,qK3,qK3];omega
def fj:∀{n:Nat},(∀k,k<n->f k=0)->A5 n f=0
 |0,_=>rfl
 | n+1,h=>by
  change f n-A5 n f=0;rw[h n (qD8 n),fj λk hk=>h k (qF3 hk)];rfl
def oj:∀{n:Nat},i+1<n->(∀k,k<n->k≠i->k≠i+1->f k=0)->f i=f (i+1)->A5 n f=0
 |0,h,_,_=>absurd h (qF0 _)
 | n+1,h,hz,he=>by
  change f n-A5 n f=0;by_cases e:n=i+1
  .subst e
   change f (i+1)-(f i-A5 i f)=0;rw[fj λk hk=>hz k ox ox ox,he];omega
  .rw[hz n (qD8 n) ox e,oj (n:=n) ox (λk hk=>hz k ox) he];rfl
def skp (k i:Nat):Nat:=if i<k then i else i+1
def det:Nat->Zj->Int
 |0,_=>1
 |n+1,v=>A5 (n+1) λk=>v k n*det n λi=>v (skp k i)
def tF (h:i<n):skp k i<n+1:=by unfold skp;split <;> omega
def DN (k i:Nat):skp k i≠k:=by unfold skp;split <;> omega
def R6:∀{n:Nat}{v w:Zj},(∀i,i<n->∀p,p<n->v i p=w i p)->det n v=det n w
 |0,_,_,_=>rfl
 | n+1,v,w,h=>dg λk hk=>by
  rw[h k hk n (qD8 n),R6 (n:=n) λi hi p I=>h (skp k i) (tF hi) p (qF3 I)]
def upv (v:Zj)(i:Nat)(x:Zv):Nat->Nat->Int:=λj=>if j=i then x else v j
def W4 (v:Zj)(i:Nat)(x:Zv):upv v i x i=x:=qA2 rfl
def O7 (h:j≠i):upv v i x j=v j:=qA4 h
def iY (h:k≠i):(λj=>upv v i x (skp k j))=upv (λj=>v (skp k j)) (if i<k then i else i-1) x:=by
 funext j
 unfold upv;by_cases e:skp k j=i
 .rw [qA2 e]
  have:j=if i<k then i else i-1:=by
   unfold skp at e
   split at e <;> split <;> omega
  rw[qA2 this]
 .rw [qA4 e]
  have:j≠if i<k then i else i-1:=by
   unfold skp at e;intro q;apply e
   split at q <;> split <;> omega
  rw[qA4 this]
def ag:(λj=>upv v i x (skp i j))=λj=>v (skp i j):=by
 funext j
 show O7 (DN i j)
def R5 (a b:Int) (x y:Zv):∀(n:Nat) (v:Zj) (i:Nat),i<n->det n (upv v i λp=>a*x p+b*y p)=a*det n (upv v i x)+b*det n (upv v i y)
 |0,_,_,h=>absurd h (qF0 _)
 | n+1,v,i,h=>by
  change A5 (n+1) _=a*A5 (n+1) _+b*A5 (n+1) _;rw[<- om];refine dg λk hk=>?_;by_cases e:k=i
  .subst e;rw[W4,W4,W4,ag,ag,ag,qN9,qD3,qD3]
  .rw[O7 e,O7 e,O7 e,iY e,iY e,iY e,R5 a b x y n _ _ (by split <;> omega),xA5,<- qD3,<- qD3,<- qD3,<- qD3,qD2 (v k n) a,qD2 (v k n) b]
def fG:∀(n:Nat) (v:Zj) (i:Nat),i+1<n->v i=v (i+1)->det n v=0
 |0,_,_,h,_=>absurd h (qF0 _)
 | n+1,v,i,h,e=>by
  refine oj (i:=i) h (λk hk O T=>?_) ?_
  .have:det n (λj=>v (skp k j))=0:=by
    by_cases q:k<i
    .refine fG n _ (i-1) ox ?_
     change v (skp k (i-1))=v (skp k (i-1+1));unfold skp;rw[qA4 ox,qA4 ox,show i-1+1=i by omega];show e
    .refine fG n _ i ox ?_
     change v (skp k i)=v (skp k (i+1));unfold skp;rw[qA2 ox,qA2 ox];show e
   rw[this,qH1]
  .have:(λj=>v (skp i j))=λj=>v (skp (i+1) j):=by
    funext j
    unfold skp;by_cases q:j<i
    .rw[qA2 q,qA2 ox]
    .by_cases I:j=i
     .subst I;rw[qA4 ox,qA2 ox];show e.symm
     .rw[qA4 q,qA4 ox]
   change v i n*det n (λj=>v (skp i j))=v (i+1) n*det n (λj=>v (skp (i+1) j));rw[this,e]
def L6 (h:i≠j):upv (upv v i x) j y=upv (upv v j y) i x:=by
 funext k
 unfold upv;by_cases q:k=j
 .rw[qA2 q,qA4 ox,qA2 q]
 .rw [qA4 q]
  by_cases I:k=i
  .rw[qA2 I,qA2 I]
  .rw[qA4 I,qA4 I,qA4 q]
def U6 (v:Zj) (i:Nat):upv v i (v i)=v:=by
 funext k
 unfold upv;by_cases q:k=i
 .rw[qA2 q,q]
 .rw[qA4 q]
def Ae (v:Zj) (i:Nat) (x y:Zv):upv (upv v i x) i y=upv v i y:=by
 funext k
 unfold upv;by_cases q:k=i
 .rw[qA2 q,qA2 q]
 .rw[qA4 q,qA4 q,qA4 q]
def nP (hi:i<n) (hj:j<n) (I:i≠j) (h0:∀(v:Zj) (x:Zv),det n (upv (upv v i x) j x)=0) (v:Zj) (x y:Zv):det n (upv (upv v i x) j y) =-det n (upv (upv v i y) j x):=by
 have h:=h0 v λp=>1*x p+1*y p;rw[R5 1 1 x y n _ j hj,L6 I,R5 1 1 x y n _ i hi,L6 (i:=i) (j:=j) I (x:=λp=>1*x p+1*y p) (y:=y),R5 1 1 x y n _ i hi]at h;have O:=h0 v x;have T:=h0 v y;rw[L6 I]at O T;rw[L6 I (x:=x) (y:=y),L6 I (x:=y) (y:=x)];omega
def jK:∀(d i:Nat),i+d+1<n->∀(v:Zj) (x:Zv),det n (upv (upv v i x) (i+d+1) x)=0
 |0,i,h,v,x=>fG n _ i h (by rw[W4,O7 ox,W4])
 | d+1,i,h,v,x=>by
  have I:=nP (n:=n) (i:=i+d+1) (j:=i+d+1+1) ox h ox (λv x=>fG n _ (i+d+1) h (by rw[W4,O7 ox,W4])) (upv v i x) (v (i+d+1)) x;have O:upv (upv (upv v i x) (i+d+1) (v (i+d+1))) (i+d+1+1) x=upv (upv v i x) (i+(d+1)+1) x:=by
   have:upv (upv v i x) (i+d+1) (v (i+d+1))=upv v i x:=by
    have T:=U6 (upv v i x) (i+d+1)
    rwa [O7 (show i+d+1≠i by omega)]at T
   rw[this,show i+(d+1)+1=i+d+1+1 by omega]
  rw[O]at I;rw[I,L6 (i:=i+d+1) (j:=i+d+1+1) ox,L6 (i:=i) (j:=i+d+1+1) ox,jK d i ox];rfl
def qe (hi:i<n) (O:j<n) (I:i≠j) (v:Zj) (x:Zv):det n (upv (upv v i x) j x)=0:=by
 rcases Nat.lt_or_gt_of_ne I with q|q
 .have:=jK (n:=n) (j-i-1) i ox v x
  rwa [show i+(j-i-1)+1=j by omega]at this
 .have:=jK (n:=n) (i-j-1) j ox v x
  rw[show j+(i-j-1)+1=i by omega]at this;rw[L6 I];show this
def jJ (hi:i<n) (hk:k<n) (I:k≠i) (v:Zj):det n (upv v i (v k))=0:=by
 have:=qe hk hi I v (v k)
 rwa [U6]at this
def yH (hi:i<n) (O:r<n) (I:r≠i) (v:Zj) (c:Zv):det n (upv (upv v r c) i (v r)) =-det n (upv v i c):=by
 rw[nP O hi I (qe O hi I) v c (v r),U6]
def iR:∀{n:Nat},(∀k,k<n->-B<=f k/\f k<=B)->-((n:Int)*B)<=A5 n f/\A5 n f<=(n:Int)*B
 |0,_=>by simp [A5]
 | n+1,h=>by
  have I:=h n (qD8 n);have O:=iR (n:=n) λk hk=>h k (qF3 hk)
  change -(((n+1:Nat):Int)*B)<=f n-A5 n f/\f n-A5 n f<=((n+1:Nat):Int)*B;have e:((n+1:Nat):Int)*B=(n:Int)*B+B:=by
   rw[show ((n+1:Nat):Int)=(n:Int)+1 by omega,qN9,qK2]
  rw[e];omega
def nO:∀n:Nat,det n (λi p=>if i=p then 1 else 0)=1
 |0=>rfl
 | n+1=>by
  change (if n=n then (1:Int) else 0)*det n (λi p=>if skp n i=p then 1 else 0)-A5 n (λk=>(if k=n then (1:Int) else 0)*det n (λi p=>if skp k i=p then 1 else 0))=1;have I:det n (λi p=>if skp n i=p then (1:Int) else 0)=1:=by
   refine (R6 λi hi p O=>?_).trans (nO n);unfold skp;rw[qA2 hi]
  rw[qA2 rfl,I,fj]
  .rfl
  .intro k hk;rw[qA4 ox,qJ7]
def d7:Nat->Zv->Int
 |0,_=>0
 |n+1,f=>d7 n f+f n
def j7:∀{n:Nat},(∀k,k<n->f k=g k)->d7 n f=d7 n g
 |0,_=>rfl
 | n+1,h=>by
  change d7 n f+f n=d7 n g+g n;rw[h n (qD8 n),j7 λk hk=>h k (qF3 hk)]
def t6 (a:Int) (f:Zv):∀n:Nat,d7 n (λk=>a*f k)=a*d7 n f
 |0=>by simp [d7]
 | n+1=>by
  change d7 n (λk=>a*f k)+a*f n=a*(d7 n f+f n);rw[t6 a f n,xA5]
def J8 (f g:Zv):∀n:Nat,d7 n (λk=>f k+g k)=d7 n f+d7 n g
 |0=>rfl
 | n+1=>by
  change d7 n (λk=>f k+g k)+(f n+g n)=d7 n f+f n+(d7 n g+g n);rw[J8 f g n];omega
def D2:∀{n:Nat},(∀k,k<n->f k=0)->d7 n f=0
 |0,_=>rfl
 | n+1,h=>by
  change d7 n f+f n=0;rw[h n (qD8 n),D2 λk hk=>h k (qF3 hk)];rfl
def Z7:∀{n:Nat},r<n->(∀k,k<n->k≠r->f k=g k)->d7 n f=d7 n g+(f r-g r)
 |0,h,_=>absurd h (qF0 _)
 | n+1,h,e=>by
  change d7 n f+f n=d7 n g+g n+(f r-g r);by_cases q:r=n
  .subst q;rw[j7 λk hk=>e k ox ox];omega
  .rw[Z7 (n:=n) ox λk hk=>e k ox,e n (qD8 n) ox];omega
def J7 (h:r<n) (e:∀k,k<n->k≠r->f k=0):d7 n f=f r:=by
 rw[Z7 (g:=λ_=>0) h e,D2 λ_ _=>rfl];omega
def aP (f:Zj) (m:Nat):∀n:Nat,d7 n (λi=>d7 m λj=>f i j)=d7 m λj=>d7 n λi=>f i j
 |0=>(D2 λ_ _=>rfl).symm
 | n+1=>by
  change d7 n (λi=>d7 m λj=>f i j)+d7 m (λj=>f n j)=d7 m λj=>(d7 n λi=>f i j)+f n j;rw[aP f m n,J8]
def bj:∀{n:Nat},(∀k,k<n->f k<=0)->d7 n f<=0
 |0,_=>qE8 0
 | n+1,h=>by
  have I:=h n (qD8 n);have O:=bj (n:=n) λk hk=>h k (qF3 hk)
  change d7 n f+f n<=0;omega
def wG (O:r<n) (h:∀k,k<n->f k<=0) (hn:f r<0):d7 n f<0:=by
 have I:=Z7 (f:=f) (g:=λk=>if k=r then 0 else f k) O λk _ q=>by rw[qA4 q]
 have T:d7 n (λk=>if k=r then 0 else f k)<=0:=bj λk hk=>by
  change (if k=r then 0 else f k)<=0
  split
  .show qE8 0
  .show h k hk
 rw[I];simp only [qA2];omega
def fF (hi:i<m) (v:Zj) (a:Zv) (x:Zj):∀n:Nat,det m (upv v i λp=>d7 n λk=>a k*x k p)=d7 n λk=>a k*det m (upv v i (x k))
 | 0=>by
  change det m (upv v i λ_=>0)=0
  have:=R5 0 0 (λ_=>0) (λ_=>0) m v i hi
  simp only [qJ7,qJ5]at this;show this
 | n+1=>by
  change det m (upv v i λp=>(d7 n λk=>a k*x k p)+a n*x n p)=(d7 n λk=>a k*det m (upv v i (x k)))+a n*det m (upv v i (x n));rw[<- fF hi v a x n]
  have:=R5 1 (a n) (λp=>d7 n λk=>a k*x k p) (x n) m v i hi
  simp only [qK2]at this;show this
structure Tab (m n:Nat) (A:Zj) (c:Zv) (h:Nat->Nat) (t:Zj) (o:Zv) (d:Int):Prop where
 dp:0<d
 hn:∀i,i<m->h i<n
 dd:d=det m λi=>A (h i)
 tt:∀i,i<m->∀j,j<n->t i j=det m (upv (λi=>A (h i)) i (A j))
 cr:∀j,j<n->∀p,p<m->d*A j p=d7 m λi=>t i j*A (h i) p
 oo:∀j,j<n->o j=d*c j-d7 m λi=>c (h i)*t i j
def hup (h:Nat->Nat)(r s:Nat):Nat->Nat:=λi=>if i=r then s else h i
def Tab.unit (T:Tab m n A c h t o d) (hi:i<m) (hk:k<m):t i (h k)=if i=k then d else 0:=by
 rw[T.tt i hi _ (T.hn k hk)];by_cases e:i=k
 .subst e;rw[qA2 rfl,T.dd];show congrArg (det m) (U6 (λi=>A (h i)) i)
 .rw [qA4 e]
  show jJ hi hk (λq=>e q.symm) λi=>A (h i)
def Tab.ozero (T:Tab m n A c h t o d) (hk:k<m):o (h k)=0:=by
 rw[T.oo _ (T.hn k hk),J7 (r:=k) hk λi hi q=>by rw[T.unit hi hk,qA4 q,qH1],T.unit hk hk,qA2 rfl,qD2];omega
def rq {A:Zj}:(λi=>A (hup h r s i))=upv (λi=>A (h i)) r (A s):=by
 funext i
 unfold hup upv;by_cases e:i=r
 .rw[qA2 e,qA2 e]
 .rw[qA4 e,qA4 e]
def Tab.step (T:Tab m n A c h t o d) (hr:r<m) (hs:s<n) (hi:i<m) (hj:j<n) (I:i≠r):d*det m (upv (λi=>A (hup h r s i)) i (A j))=t i j*t r s-t i s*t r j:=by
 rw[rq];obtain ⟨v,O⟩:∃v:Nat->Nat->Int,v=λi=>A (h i):=⟨_,rfl⟩;have e1:d*det m (upv (upv v r (A s)) i (A j))=det m (upv (upv v r (A s)) i λp=>d*A j p):=by
  have:=R5 d 0 (A j) (A j) m (upv v r (A s)) i hi
  simp only [qJ7,qJ5]at this;show this.symm
 have e2:det m (upv (upv v r (A s)) i λp=>d*A j p)=det m (upv (upv v r (A s)) i λp=>d7 m λk=>t k j*v k p):=by
  refine R6 λa ha p hp=>?_;unfold upv;by_cases q:a=i
  .rw[qA2 q,qA2 q,T.cr j hj p hp,O]
  .rw[qA4 q,qA4 q]
 rw[<- O,e1,e2,fF hi];have hd:det m (upv (upv v r (A s)) i (v i))=t r s:=by
  have:upv (upv v r (A s)) i (v i)=upv v r (A s):=by
   have:=U6 (upv v r (A s)) i
   rwa [O7 I]at this
  rw[this,T.tt r hr s hs,O]
 have a0:det m (upv (upv v r (A s)) i (v r)) =-t i s:=by
  rw[yH hi hr (λq=>I q.symm),T.tt i hi s hs,O]
 rw [Z7 (r:=i) (g:=λk=>if k=r then t r j*(- t i s) else 0) hi λk hk q=>by
  change t k j*det m (upv (upv v r (A s)) i (v k))=if k=r then t r j*(- t i s) else 0
  by_cases q2:k=r
  .rw[qA2 q2,q2,a0]
  .rw [qA4 q2]
   have:=jJ hi hk q (upv v r (A s))
   rw[O7 q2]at this;rw[this,qH1]]
 rw[J7 (r:=r) hr λk _ q=>qA4 q,hd];simp only [qA2,qA4 I];rw[qM6,qD2 (t r j)];omega
def Tab.inj (T:Tab m n A c h t o d) (hi:i<m) (hk:k<m) (e:h i=h k):i=k:=by
 have I:=T.unit hi hk;rw[<- e,T.unit hi hi,qA2 rfl]at I
 have:=T.dp
 by_cases q:i=k
 .show q
 .rw[qA4 q]at I;omega
def Tab.pivot (T:Tab m n A c h t o d) (hr:r<m) (hs:s<n) (hp:0<t r s) (h1:∀j,j<n->t' r j=t r j) (h2:∀i,i<m->i≠r->∀j,j<n->d*t' i j=t i j*t r s-t i s*t r j) (h3:∀j,j<n->d*o' j=o j*t r s-o s*t r j):Tab m n A c (hup h r s) t' o' (t r s):=by
 have hd:=T.dp;have O:∀{x y:Int},d*x=d*y->x=y:=λe=>Int.eq_of_mul_eq_mul_left ox e;have a3:∀i,i≠r->hup h r s i=h i:=λi q=>qA4 q;have a0:hup h r s r=s:=qA2 rfl
 -- sums over the new lines, times d
 have a4:∀(j:Nat),j<n->∀g:Nat->Int,d*d7 m (λi=>g (hup h r s i)*t' i j)=t r s*d7 m (λi=>g (h i)*t i j)-t r j*d7 m (λi=>g (h i)*t i s)+d*(g s*t r j):=λj I g=>by
  rw [<- t6,Z7 (r:=r) (g:=λi=>t r s*(g (h i)*t i j)+(- t r j)*(g (h i)*t i s)) hr λi hi q=>by
   change d*(g (hup h r s i)*t' i j)=t r s*(g (h i)*t i j)+(- t r j)*(g (h i)*t i s);rw[a3 i q,show d*(g (h i)*t' i j)=g (h i)*(d*t' i j) by rw[<- qD3,qD2 d,qD3],h2 i hi q j I,qK3,qI9,show t r s*(g (h i)*t i j)=g (h i)*(t i j*t r s) by rw[qD2 (t r s),qD3],show t r j*(g (h i)*t i s)=g (h i)*(t i s*t r j) by rw[qD2 (t r j),qD3]];omega]
  rw[J8,t6,t6,a0,h1 j I,qI9,qI9,show t r s*(g (h r)*t r j)=t r j*(g (h r)*t r s) by rw[qD2 (g (h r)) (t r j),<- qD3,qD2 (t r s),qD3,qD2 (t r s)]];omega
 show {
  dp:=hp
  hn:=λi hi=>by
   by_cases q:i=r
   .rw[q,a0];show hs
   .rw[a3 i q];show T.hn i hi
  dd:=by rw[rq];show T.tt r hr s hs
  tt:=λi hi j I=>by
   by_cases q:i=r
   .subst q;rw[h1 j I,rq,Ae];show T.tt i hi j I
   .refine O ?_;rw[h2 i hi q j I,T.step hr hs hi I q]
  cr:=λj I p hp=>by
   refine O ?_;have e1:=a4 j I λa=>A a p;have e2:d7 m (λi=>A (h i) p*t i j)=d*A j p:=by
    rw[T.cr j I p hp];show j7 λi _=>qD2 _ _
   have e3:d7 m (λi=>A (h i) p*t i s)=d*A s p:=by
    rw[T.cr s hs p hp];show j7 λi _=>qD2 _ _
   have e4:d7 m (λi=>t' i j*A (hup h r s i) p)=d7 m (λi=>A (hup h r s i) p*t' i j):=j7 λi _=>qD2 _ _;rw[e4,e1,e2,e3,show t r j*(d*A s p)=d*(A s p*t r j) by rw[qD2 (t r j),qD3],show d*(t r s*A j p)=t r s*(d*A j p) by rw[<- qD3,qD2 d,qD3]];omega
  oo:=λj I=>by
   refine O ?_;have e1:=a4 j I c;have e2:d7 m (λi=>c (h i)*t i j)=d*c j-o j:=by rw[T.oo j I];omega
   have e3:d7 m (λi=>c (h i)*t i s)=d*c s-o s:=by rw[T.oo s hs];omega
   rw[h3 j I,qK3,e1,e2,e3,qK3,qK3,show t r j*(d*c s)=d*(c s*t r j) by rw[qD2 (t r j),qD3],show d*(t r s*c j)=t r s*(d*c j) by rw[<- qD3,qD2 d,qD3],qD2 (o j),qD2 (o s)];omega }
def Tab.ker (T:Tab m n A c h t o d){y:Zv}(O:∀p,p<m->d7 n (λj=>y j*A j p)=0):d7 n (λj=>o j*y j)=d*d7 n (λj=>c j*y j):=by
 have hz:∀i,i<m->d7 n (λj=>y j*t i j)=0:=λi hi=>by
  have e:d7 n (λj=>y j*t i j)=d7 n (λj=>y j*det m (upv (λi=>A (h i)) i (A j))):=j7 λj I=>by rw[T.tt i hi j I]
  rw[e,<- fF hi];have e2:det m (upv (λi=>A (h i)) i λp=>d7 n λk=>y k*A k p)=det m (upv (λi=>A (h i)) i λp=>0*(0:Int)+0*0):=R6 λa _ p hp=>by
   unfold upv;by_cases q:a=i
   .rw[qA2 q,qA2 q,O p hp];rfl
   .rw[qA4 q,qA4 q]
  rw[e2,R5 0 0 (λ_=>0) (λ_=>0) m _ i hi,qJ7];rfl
 have e:d7 n (λj=>o j*y j)=d7 n (λj=>d*(c j*y j)+(-1)*d7 m (λi=>c (h i)*(y j*t i j))):=j7 λj I=>by
  change o j*y j=_;rw[T.oo j I,Int.sub_mul,qD3,qD2 (d7 m _),<- t6,show d7 m (λk=>y j*(c (h k)*t k j))=d7 m (λi=>c (h i)*(y j*t i j)) from j7 λi _=>by rw[<- qD3,qD2 (y j),qD3]];omega
 have e3:d7 m (λi=>d7 n λj=>c (h i)*(y j*t i j))=0:=D2 λi hi=>by
  change d7 n (λj=>c (h i)*(y j*t i j))=0;rw[t6,hz i hi,qH1]
 rw[e,J8,t6,t6,aP,e3];omega
def t8 (m:Nat)(h:Nat->Nat)(t:Zj) (d:Int)(s j:Nat):Int:=(if j=s then d else 0)+(-1)*d7 m λi=>if h i=j then t i s else 0
def Tab.dirSum (T:Tab m n A c h t o d) (I:s<n) (g:Zv):d7 n (λj=>g j*t8 m h t d s j)=g s*d-d7 m λi=>g (h i)*t i s:=by
 have e:d7 n (λj=>g j*t8 m h t d s j)=d7 n (λj=>g j*(if j=s then d else 0)+(-1)*d7 m λi=>g j*(if h i=j then t i s else 0)):=j7 λj _=>by
  unfold t8;rw[xA5,t6,<- qD3,qD2 (g j) (-1),qD3]
 rw[e,J8,t6,aP,J7 (r:=s) I λj _ q=>by rw[qA4 q,qH1],qA2 rfl];have O:d7 m (λi=>d7 n λj=>g j*(if h i=j then t i s else 0))=d7 m λi=>g (h i)*t i s:=j7 λi hi=>by
  rw[J7 (r:=h i) (T.hn i hi) λj _ q=>by rw[qA4 (λz=>q z.symm),qH1],qA2 rfl]
 rw[O];omega
def Tab.dirKer (T:Tab m n A c h t o d) (I:s<n):∀p,p<m->d7 n (λj=>t8 m h t d s j*A j p)=0:=λp O=>by
 have e:d7 n (λj=>t8 m h t d s j*A j p)=d7 n (λj=>A j p*t8 m h t d s j):=j7 λj _=>qD2 _ _;rw[e,T.dirSum I λj=>A j p,qD2,T.cr s I p O,j7 (g:=λi=>t i s*A (h i) p) λi _=>qD2 _ _];omega
def Tab.dirO (T:Tab m n A c h t o d) (I:s<n):d7 n (λj=>c j*t8 m h t d s j)=o s:=by
 rw[T.dirSum I c,T.oo s I,qD2]
def Tab.dirB (T:Tab m n A c h t o d) (hi:i<m) (I:h i≠s):t8 m h t d s (h i) =-t i s:=by
 unfold t8;rw[qA4 I,J7 (r:=i) hi λk hk q=>qA4 λe=>q (T.inj hk hi e),qA2 rfl];omega
def Tab.dirN (O:∀i,i<m->h i≠j) (I:j≠s):t8 m h t d s j=0:=by
 unfold t8;rw[qA4 I,D2 λi hi=>qA4 (O i hi)];rfl
def Tab.dirS (I:∀i,i<m->h i≠s):t8 m h t d s s=d:=by
 unfold t8;rw[qA2 rfl,D2 λi hi=>qA4 (I i hi)];omega
structure TB (m n:Nat) (A:Zj) (c:Zv) where
 h:Nat->Nat
 t:Nat->Nat->Int
 o:Nat->Int
 d:Int
 ok:Tab m n A c h t o d
def Bas {m n:Nat}{A:Zj}{c:Zv}(S:TB m n A c)(j:Nat):Prop:=∃i,i<m/\S.h i=j
structure Mv_ {m n:Nat}{A:Zj}{c:Zv}(S S':TB m n A c) (e l:Nat):Prop where
 en:e<n
 eo:0<S.o e
 el:∀j,j<e->S.o j<=0
 lv:∃r,r<m/\S.h r=l/\0<S.t r e/\(∀i,i<m->0<S.t i e->l<=S.h i)/\S'.h=hup S.h r e
def Mv_.nb {S:TB m n A c}(M:Mv_ S S' e l):¬ Bas S e:=λI=>by
 obtain ⟨i,hi,q⟩:=I
 have:=S.ok.ozero hi
 rw[q]at this
 have:=M.eo
 omega
def Mv_.lb {S:TB m n A c}(M:Mv_ S S' e l):Bas S l:=by
 obtain ⟨r,I,q,_⟩:=M.lv;show ⟨r,I,q⟩
def Mv_.bas {S:TB m n A c}(M:Mv_ S S' e l) (j:Nat):Bas S' j↔j=e\/(Bas S j/\j≠l):=by
 obtain ⟨r,O,q,_,_,hh⟩:=M.lv;constructor
 .rintro ⟨i,hi,I⟩;rw[hh]at I;unfold hup at I;by_cases z:i=r
  .rw[qA2 z]at I;show .inl I.symm
  .rw [qA4 z]at I
   refine .inr ⟨⟨i,hi,I⟩,λw=>z (S.ok.inj hi O (by rw[I,q,w]))⟩
 .rintro (I|⟨⟨i,hi,I⟩,e2⟩)
  .show ⟨r,O,by rw[hh,I];show qA2 rfl⟩
  .refine ⟨i,hi,?_⟩;rw[hh];unfold hup;rw[qA4 (λz=>e2 (by rw[<- I,z,q]))];show I
def JL {O a6 I a5:TB m n A c}(T:Mv_ O a6 q l1) (M2:Mv_ I a5 s q) (a4:s<q) (hup:∀j,q<j->j<n->Bas I j->Bas O j):False:=by
 obtain ⟨r,hr,a7,a9,a3,_⟩:=M2.lv;have hs:=M2.en;have nb:=M2.nb;have hq:=T.en;have k1:=O.ok.ker (I.ok.dirKer hs);rw[I.ok.dirO hs]at k1;have ab:0<O.d*I.o s:=Int.mul_pos O.ok.dp M2.eo;have b0:d7 n (λj=>O.o j*t8 m I.h I.t I.d s j)<0:=by
  have a0:t8 m I.h I.t I.d s q =-I.t r s:=by
   have:=I.ok.dirB (s:=s) hr ox
   rwa [a7]at this
  refine wG hq (λj hj=>?_) ?_
  .change O.o j*t8 m I.h I.t I.d s j<=0;by_cases j1:j=s
   .subst j1;rw[Tab.dirS λi hi e=>nb ⟨i,hi,e⟩];show qS5 (T.el j a4) (by have:=I.ok.dp;omega)
   .by_cases j2:Bas I j
    .obtain ⟨i,hi,ei⟩:=j2;have hy:=I.ok.dirB (s:=s) hi ox;rw[ei]at hy;rcases Nat.lt_trichotomy j q with z|z|z
     .have h1:=T.el j z;have h2:¬ 0<I.t i s:=λw=>by have:=a3 i hi w;omega
      rw[hy];show qS5 h1 ox
     .subst z;rw[a0];show Int.mul_nonpos_of_nonneg_of_nonpos (by have:=T.eo;omega) ox
     .obtain ⟨i1,a8,e1⟩:=hup j z hj ⟨i,hi,ei⟩;rw[<- e1,O.ok.ozero a8,qJ7];show qE8 0
    .rw [Tab.dirN (λi hi e=>j2 ⟨i,hi,e⟩) j1,qH1]
     show qE8 0
  .change O.o q*t8 m I.h I.t I.d s q<0;rw[a0,qM6]
   have:=Int.mul_pos T.eo a9
   omega
 omega
def Fk (q:Nat):2^(q+1)=2*2^q:=by rw[Nat.pow_succ,qX6]
def fq (S:Nat->TB m n A c) (e l:Nat->Nat):∀(q a b:Nat),a<=b->(∀i,a<=i->i<b->Mv_ (S i) (S (i+1)) (e i) (l i)/\e i<q/\l i<q)->b-a<2^q
 | 0,a,b,hab,h=>by
  by_cases z:a<b
  .have:=(h a (qB4 a) z).2.1
   omega
  .simp;omega
 | q+1,a,b,hab,h=>by
  -- what stands above q stays
  have stay:∀j,q<j->∀k,a<=k->k<=b->(Bas (S k) j↔Bas (S a) j):=λj hj k=>by
   induction k with
   | zero=>
    intro h1 _
    have:a=0:=ox
    rw[this]
   | succ k ih=>
    intro h1 h2;by_cases z:a=k+1
    .rw[z]
    .obtain ⟨M,m1,m2⟩:=h k ox ox;rw[M.bas j,<- ih ox ox];constructor
     .rintro (w|w)
      .omega
      .show w.1
     .show λw=>.inr ⟨w,ox⟩
  have O:∀i k,a<=i->i<b->a<=k->k<b->e i=q->l k=q->False:=λi k I i2 k1 k2 hi hk=>by
   obtain ⟨Mi,_,_⟩:=h i I i2;obtain ⟨Mk,mk,_⟩:=h k k1 k2;rw[hi]at Mi;rw[hk]at Mk;have a7:e k≠q:=λw=>Mk.nb (by rw[w];show Mk.lb);show JL Mi Mk ox λj hj _ hb=>(stay j hj i I ox).mpr ((stay j hj k k1 ox).mp hb)
  by_cases a4:∃i,a<=i/\i<b/\(e i=q\/l i=q)
  .have a3:∀i k,a<=i->i<k->k<b->(e i=q\/l i=q)->(e k=q\/l k=q)->False:=λi k I ik kb hi hk=>by
    obtain ⟨Mi,_,_⟩:=h i I ox;obtain ⟨Mk,_,_⟩:=h k ox kb;rcases hi with hi|hi
    .have a5:∀x,a<=x->x<b->l x≠q:=λx x1 T w=>O i x I ox x1 T hi w;have a0:∀x,i+1<=x->x<=b->Bas (S x) q:=λx=>by
      induction x with
      |zero=>intro w;omega
      | succ x ih=>
       intro x1 T;obtain ⟨M,_,_⟩:=h x ox ox;by_cases z:x=i
       .subst z;show (M.bas q).mpr (.inl hi.symm)
       .show (M.bas q).mpr (.inr ⟨ih ox ox,λw=>a5 x ox ox w.symm⟩)
     rcases hk with hk|hk
     .show Mk.nb (by rw[hk];show a0 k ox ox)
     .show a5 k ox kb hk
    .have a6:∀x,a<=x->x<b->e x≠q:=λx x1 T w=>O x i x1 T I ox w hi;have a0:∀x,i+1<=x->x<=b->¬ Bas (S x) q:=λx=>by
      induction x with
      |zero=>intro w;omega
      | succ x ih=>
       intro x1 T hb;obtain ⟨M,_,_⟩:=h x ox ox;rcases (M.bas q).mp hb with w|w
       .show a6 x ox ox w.symm
       .by_cases z:x=i
        .subst z;show w.2 hi.symm
        .show ih ox ox w.1
     rcases hk with hk|hk
     .show a6 k ox kb hk
     .show a0 k ox ox (by rw[<- hk];show Mk.lb)
   obtain ⟨i,I,i2,hi⟩:=a4;have h1:=fq S e l q a i I λx x1 T=>⟨(h x x1 ox).1,by
    have:=(h x x1 ox).2.1
    have:e x≠q:=λw=>a3 x i x1 T i2 (.inl w) hi
    omega,by
    have:=(h x x1 ox).2.2
    have:l x≠q:=λw=>a3 x i x1 T i2 (.inr w) hi
    omega⟩
   have h2:=fq S e l q (i+1) b ox λx x1 T=>⟨(h x ox T).1,by
    have:=(h x ox T).2.1
    have:e x≠q:=λw=>a3 i x I ox T hi (.inl w)
    omega,by
    have:=(h x ox T).2.2
    have:l x≠q:=λw=>a3 i x I ox T hi (.inr w)
    omega⟩
   rw[Fk];omega
  .have:=fq S e l q a b hab λi I i2=>⟨(h i I i2).1,by
    have:=(h i I i2).2.1
    have:e i≠q:=λw=>a4 ⟨i,I,i2,.inl w⟩
    omega,by
    have:=(h i I i2).2.2
    have:l i≠q:=λw=>a4 ⟨i,I,i2,.inr w⟩
    omega⟩
   rw[Fk];omega
def wS (S:Nat->TB m n A c) (e l:Nat->Nat) (L:Nat) (h:∀i,i<L->Mv_ (S i) (S (i+1)) (e i) (l i)):L<2^n:=by
 have:=fq S e l n 0 L (qE0 _) λi _ hi=>⟨h i hi,(h i hi).en,by
  obtain ⟨r,I,q,_⟩:=(h i hi).lv;rw[<- q];show (S i).ok.hn r I⟩
 omega
def cE (f:Zv) (k:Nat):∀m:Nat,d7 (k+m) f=d7 k f+d7 m λq=>f (k+q)
 |0=>by change d7 k f=d7 k f+0;omega
 | m+1=>by
  change d7 (k+m) f+f (k+m)=d7 k f+((d7 m λq=>f (k+q))+f (k+m));rw[cE f k m];omega
structure Cols (k m pl:Nat) (st:Zj) (A:Zj) (c:Zv):Prop where
 am:∀j,j<k->∀p,p<m->A j p =-st j p
 au:∀q,q<m->∀p,p<m->A (k+q) p=if q=p then 1 else 0
 cm:∀j,j<k->c j=st j pl
 cu:∀q,q<m->c (k+q)=0
def Cols.comb (C:Cols k m pl st A c) (x:Zv) (I:p<m):x p=d7 m λq=>x q*A (k+q) p:=by
 rw[J7 (r:=p) I λq O z=>by rw[C.au q O p I,qA4 z,qH1],C.au p I p I,qA2 rfl,qZ5]
def Cols.detc (C:Cols k m pl st A c) (hi:i<m) (v:Zj) (x:Zv):det m (upv v i x)=d7 m λq=>x q*det m (upv v i (A (k+q))):=by
 rw[<- fF hi v x λq=>A (k+q)];refine R6 λa _ p I=>?_;unfold upv;by_cases z:a=i
 .rw[qA2 z,qA2 z];show C.comb x I
 .rw[qA4 z,qA4 z]
def Cols.det1 (C:Cols k m pl st A c):det m (λi=>A (k+i))=1:=(R6 λi hi p I=>C.au i hi p I).trans (nO m)
def Cols.first (C:Cols k m pl st A c):Tab m (k+m) A c (λi=>k+i) (λi j=>A j i) c 1 where
 dp:=ZY
 hn i hi:=ox
 dd:=C.det1.symm
 tt i hi j hj:=by
  rw [C.detc hi,J7 (r:=i) hi λq I z=>by
   have:=jJ hi I z λi=>A (k+i)
   rw[this,qH1]]
  have:=U6 (λi=>A (k+i)) i
  have e:upv (λi=>A (k+i)) i (A (k+i))=λi=>A (k+i):=this;rw[e,C.det1,qZ5]
 cr j hj p hp:=by rw[qK2];show C.comb (A j) hp
 oo j hj:=by
  rw[qK2,D2 λi hi=>by rw[C.cu i hi,qJ7]];omega
def Cols.weights (C:Cols k m pl st A c) (T:Tab m (k+m) A c h t o d) (I:pl<m) (hj:j<k):d7 m (λp=>(- o (k+p)+d*(if p=pl then 1 else 0))*st j p)=o j:=by
 have ho:∀q,q<m ->-o (k+q)=d7 m λi=>c (h i)*t i (k+q):=λq O=>by
  rw[T.oo (k+q) ox,C.cu q O,qH1];omega
 have ht:∀i,i<m->t i j=d7 m λq=>(- st j q)*t i (k+q):=λi hi=>by
  rw[T.tt i hi j ox,C.detc hi];show j7 λq O=>by rw[C.am j hj q O,T.tt i hi (k+q) ox]
 have e1:d7 m (λp=>(- o (k+p)+d*(if p=pl then 1 else 0))*st j p)=d7 m (λp=>st j p*(d7 m λi=>c (h i)*t i (k+p))+d*((if p=pl then 1 else 0)*st j p)):=j7 λp hp=>by
  rw[ho p hp,qN9,qD2 (d7 m _),qD3]
 have e2:d7 m (λp=>st j p*(d7 m λi=>c (h i)*t i (k+p))) =-d7 m (λi=>c (h i)*t i j):=by
  have:d7 m (λi=>c (h i)*t i j)=d7 m (λi=>d7 m λp=>(-1)*(st j p*(c (h i)*t i (k+p)))):=j7 λi hi=>by
   rw[ht i hi,<- t6];show j7 λq _=>by
    rw[qI9,qM6,qI9,qK2,<- qD3,<- qD3,qD2 (c (h i))]
  rw[this,aP]
  have:d7 m (λp=>d7 m λi=>(-1)*(st j p*(c (h i)*t i (k+p))))=d7 m (λp=>(-1)*(st j p*d7 m λi=>c (h i)*t i (k+p))):=j7 λp _=>by
   rw[t6,t6]
  rw[this,t6];omega
 have e3:d7 m (λp=>(if p=pl then 1 else 0)*st j p)=st j pl:=by
  rw[J7 (r:=pl) I λp _ z=>by rw[qA4 z,qJ7],qA2 rfl,qK2]
 rw[e1,J8,t6,e2,e3,T.oo j ox,C.cm j hj];omega
def Cols.bag (C:Cols k m pl st A c) (T:Tab m (k+m) A c h t o d) (hs:s<k+m):(∀p,p<m->d7 k (λj=>t8 m h t d s j*st j p)=t8 m h t d s (k+p))/\d7 k (λj=>t8 m h t d s j*st j pl)=o s:=by
 refine ⟨λp I=>?_,?_⟩
 .have e:=T.dirKer hs p I;rw[cE,J7 (r:=p) I λq hq z=>by rw[C.au q hq p I,qA4 z,qH1],C.au p I p I,qA2 rfl,qZ5]at e;have e2:d7 k (λj=>t8 m h t d s j*A j p)=(-1)*d7 k (λj=>t8 m h t d s j*st j p):=by
   rw[<- t6];show j7 λj O=>by rw[C.am j O p I,qM6,qI9,qK2]
  rw[e2]at e;omega
 .have e:=T.dirO hs;rw[cE,D2 (n:=m) λq hq=>by rw[C.cu q hq,qJ7]]at e;rw[<- e,qJ5];show j7 λj O=>by rw[C.cm j O,qD2]
def Tab.dirP (T:Tab m n A c h t o d) (ho:0<o s) (hn:∀i,i<m->t i s<=0) (j:Nat):0<=t8 m h t d s j:=by
 have nb:∀i,i<m->h i≠s:=λi hi e=>by
  have:=T.ozero hi
  rw[e]at this;omega
 by_cases O:j=s
 .subst O;rw[Tab.dirS nb]
  have:=T.dp
  omega
 .by_cases I:∃i,i<m/\h i=j
  .obtain ⟨i,hi,e⟩:=I
   have:=T.dirB (s:=s) hi (nb i hi)
   rw[e]at this
   have:=hn i hi
   omega
  .rw [Tab.dirN (λi hi e=>I ⟨i,hi,e⟩) O]
   show qE8 0
def dB (M:Int):Nat->Int
 |0=>1
 |n+1=>((n+1:Nat):Int)*(M*dB M n)
def jO (T:-A<=a/\a<=A) (h2:-B<=b/\b<=B):-(A*B)<=a*b/\a*b<=A*B:=by
 have I:a.natAbs<=A.natAbs:=ox;have O:b.natAbs<=B.natAbs:=ox;have h:=Nat.mul_le_mul I O;rw[<- Int.natAbs_mul,<- Int.natAbs_mul]at h;have hp:0<=A*B:=qG0 ox ox;omega
def eV (I:0<=M):∀(n:Nat) (v:Zj),(∀i,i<n->∀p,p<n->-M<=v i p/\v i p<=M)->-dB M n<=det n v/\det n v<=dB M n
 |0,_,_=>by change -(1:Int)<=1/\(1:Int)<=1;omega
 | n+1,v,h=>by
  have:=iR (B:=M*dB M n) (n:=n+1) (f:=λk=>v k n*det n λi=>v (skp k i)) λk hk=>jO (h k hk n (qD8 n)) (eV I n _ λi hi p O=>h (skp k i) (tF hi) p ox)
  show this
def cF:∀{n:Nat},(∀k,k<n->-B<=f k/\f k<=B)->-((n:Int)*B)<=d7 n f/\d7 n f<=(n:Int)*B
 |0,_=>by change -(((0:Nat):Int)*B)<=0/\(0:Int)<=((0:Nat):Int)*B;simp
 | n+1,h=>by
  have T:=cF λk hk=>h k (qF3 hk);have O:=h n (qD8 n);have e:((n+1:Nat):Int)*B=(n:Int)*B+B:=by rw[Int.natCast_succ,qN9,qK2]
  have I:d7 (n+1) f=d7 n f+f n:=rfl;rw[e,I];omega
abbrev mM:Int:=2000000000
def dB6 (h:m<=6):dB mM m<=2^197:=by
 have:m=0\/m=1\/m=2\/m=3\/m=4\/m=5\/m=6:=ox
 rcases this with rfl|rfl|rfl|rfl|rfl|rfl|rfl <;> decide
def Tab.bt (T:Tab m n A c h t o d) (hm:m<=6) (O:∀j,j<n->∀p,p<m->-mM<=A j p/\A j p<=mM):∀i,i<m->∀j,j<n->-(2^197)<=t i j/\t i j<=2^197:=λi hi j I=>by
 have:=eV (M:=mM) ZY m (upv (λi=>A (h i)) i (A j)) λk hk p hp=>by
  by_cases e:k=i
  .subst e;rw[W4];show O j I p hp
  .rw[O7 e];show O _ (T.hn k hk) p hp
 rw[<- T.tt i hi j I]at this
 have:=dB6 hm
 omega
def Tab.bd (T:Tab m n A c h t o d) (hm:m<=6) (I:∀j,j<n->∀p,p<m->-mM<=A j p/\A j p<=mM):d<=2^197:=by
 have:=eV (M:=mM) ZY m (λi=>A (h i)) λk hk p O=>I _ (T.hn k hk) p O
 rw[<- T.dd]at this
 have:=dB6 hm
 omega
def Tab.bo (T:Tab m n A c h t o d) (hm:m<=6) (O:∀j,j<n->∀p,p<m->-mM<=A j p/\A j p<=mM) (hc:∀j,j<n->-mM<=c j/\c j<=mM):∀j,j<n->-(2^240)<=o j/\o j<=2^240:=λj I=>by
 have b1:=jO (a:=d) (A:=2^197) ⟨by have:=T.dp;omega,T.bd hm O⟩ (hc j I);have b2:=cF (f:=λi=>c (h i)*t i j) (B:=mM*2^197) (n:=m) λi hi=>jO (hc _ (T.hn i hi)) (T.bt hm O i hi j I);have e:(m:Int)*(mM*2^197)<=6*(mM*2^197):=qH8 ox ZY;rw[T.oo j I];have k1:(2:Int)^197*mM+6*(mM*2^197)<=2^240:=ZY;omega
structure Lv (m:Nat) (h:Nat->Nat) (t:Zj) (s r:Nat):Prop where
 lt:r<m
 pos:0<t r s
 least:∀i,i<m->0<t i s->h r<=h i
inductive Run {m n:Nat}{A:Zj}{c:Zv}(S0:TB m n A c):Nat->TB m n A c->Prop where
 |zero:Run S0 0 S0
 |succ {L:Nat}{S S':TB m n A c}{e l:Nat}:Run S0 L S->Mv_ S S' e l->Run S0 (L+1) S'
def Run.seq:∀{L:Nat}{S:TB m n A c},Run S0 L S->∃(F:Nat->TB m n A c) (e l:Nat->Nat),F L=S/\∀i,i<L->Mv_ (F i) (F (i+1)) (e i) (l i)
 |_,_,.zero=>⟨λ_=>S0,λ_=>0,λ_=>0,rfl,λi hi=>absurd hi (qF0 _)⟩
 | _,_,.succ (L:=L) (S:=S) (S':=S') (e:=e) (l:=l) r mv=>by
  obtain ⟨F,es,T,O,I⟩:=r.seq;refine ⟨λi=>if i<=L then F i else S',λi=>if i<L then es i else e,λi=>if i<L then T i else l,qA4 ox,λi hi=>?_⟩;by_cases q:i<L
  .dsimp only;rw[qA2 ox,qA2 ox,qA2 q,qA2 q];show I i q
  .have:i=L:=ox
   subst this;dsimp only;rw[qA2 (qB4 _),qA4 ox,qA4 (qE2 _),qA4 (qE2 _),O];show mv
def Run.lt {S0:TB m n A c}(r:Run S0 L S):L<2^n:=by
 obtain ⟨F,e,l,_,h⟩:=r.seq;show wS F e l L h
abbrev vec (n:Nat)(f:Zv):List Int:=(List.range n).map f
def w8 (n:Nat)(f:Zv):(vec n f).length=n:=by simp [vec]
def fk (k m:Nat) (f:Zv):vec (k+m) f=vec k f++vec m λq=>f (k+q):=by
 unfold vec;rw[List.range_add,qD0,qC3];rfl
abbrev z9 (m n:Nat)(t:Zj)(o:Zv):List Zz:=(List.range m).map (λi=>vec n (t i)) ++ [vec n o]
def wU (m n:Nat)(t:Zj)(o:Zv):(z9 m n t o).length=m+1:=ZV
def dO (h:i<m):L2.atI ((z9 m n t o).map tI) (i:Int)=some (tI (vec n (t i))):=F9 (by
 rw[qA6,qE6 (by simpa using h),qA6,qC7 h];rfl)
def jX (m n:Nat) (t:Zj) (o:Zv):L2.atI ((z9 m n t o).map tI) (-1)=some (tI (vec n o)):=by
 unfold L2.atI
 have:L2.ixN ((z9 m n t o).map tI).length (-1)=some m:=by
  unfold L2.ixN;rw[qA5,wU];simp;omega
 rw[this]
 change ((z9 m n t o).map tI)[m]?=_;simp
def oK {p m:Nat}(hm:m<=6):iD [.int (p:Int),.int (m:Int)]=.ok (tI (vec m λq=>if q=p then 1 else 0)):=by
 have e:∀N mg me ρ (h:∀k∈List.range m,∃I,mg (.int (k:Nat)) (ρ++List.replicate (N-ρ.length) Sl.un)=some I/\me I=.ok (.int (if k=p then 1 else 0))),j6 N mg yes me ((List.range m).map λk=>W.int (k:Nat)) ρ=.ok (lI (vec m λq=>if q=p then 1 else 0)):=λN mg me ρ h=>by
  rw[i9 (λk=>W.int (if k=p then 1 else 0)) _ _ ρ (by simp;omega) h,M3]
 exists rpB,uP;rw[e]
 .exists rp18
 .intro k hk;refine ⟨_,rfl,?_⟩;by_cases q:k=p
  .have O:decide ((k:Int)=(p:Int))=true:=qO8 ox;exists U3,O;rw[qA2 q]
  .have O:decide ((k:Int)=(p:Int))=false:=qO7 ox;exists U3,O;rw[qA4 q]
def stM (ms:List Mv)(j p:Nat):Int:=(ms.getD j ([],[])).2.getD p 0-(ms.getD j ([],[])).1.getD p 0
def cA (ms:List Mv)(j p:Nat):Int:=if j<ms.length then-stM ms j p else if j-ms.length=p then 1 else 0
def cC (ms:List Mv)(pl j:Nat):Int:=if j<ms.length then stM ms j pl else 0
def Jq (ms:List Mv) (m pl:Nat):Cols ms.length m pl (stM ms) (cA ms) (cC ms pl) where
 am j hj p _:=qA2 hj
 au q _ p _:=by
  unfold cA;rw[qA4 ox,qZ0]
 cm j hj:=qA2 hj
 cu q _:=qA4 ox
def nJ (h:xs.length+ys.length<=1000):fCatT (tI xs) (tI ys)=.ok (tI (xs++ys)):=by
 change (if _ then _ else _)=_;rw[qA2 ⟨by simpa using h,F4 xs,F4 ys⟩,<- qD0]
def FJ (ms:List Mv) (f:Mv->List Int):ms.map f=(List.range ms.length).map λj=>f (ms.getD j ([],[])):=by
 apply qK1
 .simp
 .intro i I O
  have:i<ms.length:=by simpa using I
  simp [qA0,this]
def yy (h1:1<=m) (h6:m<=6) (T:∀x∈ms,okN m x) (h8:ms.length<=8) (a0:pl<m):Q0 [tM_ ms,.int (pl:Int),.int (m:Int)]=.ok (lS (z9 m (ms.length+m) (λi j=>cA ms j i) (cC ms pl))):=by
 generalize hk:ms.length=k at h8
 have e1:∀N mg me ρ (h:∀x∈ms,∃I,mg (mW x) (ρ++List.replicate (N-ρ.length) Sl.un)=some I/\me I=.ok (tI (vec m λp=>x.2.getD p 0-x.1.getD p 0))),j6 N mg yes me (ms.map mW) ρ=.ok (.lst ((List.range k).map λj=>tI (vec m (stM ms j)))):=λN mg me ρ h=>by
  rw[i9 (λx=>tI (vec m λp=>x.2.getD p 0-x.1.getD p 0)) _ _ ρ ox h]
  have:=FJ ms λx=>vec m λp=>x.2.getD p 0-x.1.getD p 0
  rw[show (ms.map λx=>tI (vec m λp=>x.2.getD p 0-x.1.getD p 0))=(ms.map λx=>vec m λp=>x.2.getD p 0-x.1.getD p 0).map tI by rw[qC3];rfl,this,qC3,hk];rfl
 have e2:∀N mg me ρ (f:Nat->List Int) (h:∀i∈List.range m,∃I,mg (.int (i:Nat)) (ρ++List.replicate (N-ρ.length) Sl.un)=some I/\me I=.ok (tI (f i))),j6 N mg yes me ((List.range m).map λi=>W.int (i:Nat)) ρ=.ok (.lst ((List.range m).map λi=>tI (f i))):=λN mg me ρ f h=>i9 (λi=>tI (f i)) _ _ ρ (by simp;omega) h;have e3:∀N mg me ρ (f:Zv) (h:∀j∈List.range k,∃I,mg (tI (vec m (stM ms j))) (ρ++List.replicate (N-ρ.length) Sl.un)=some I/\me I=.ok (.int (f j))),j6 N mg yes me ((List.range k).map λj=>tI (vec m (stM ms j))) ρ=.ok (lI (vec k f)):=λN mg me ρ f h=>by
  rw[i9 (λj=>W.int (f j)) _ _ ρ (by simp;omega) h,M3]
 have fr:fRepT (.tup [.int 0]) (.int (m:Int))=.ok (tI (vec m λ_=>0)):=by
  change (if _ then _ else _)=_;rw[qA2 ⟨ZV,by simp;omega,ox,ox⟩,qD9]
  have:(List.replicate m [W.int 0]).flatten=(vec m λ_=>0).map W.int:=by
   clear a0 h1 h6 T e1 e2 e3
   induction m with
   |zero=>rfl
   | succ m ih=>
    rw[qE7,qG8,ih];unfold vec;rw[List.range_succ_eq_map,qC2,qC2,qC3,qC3,qC3];rfl
  rw[this]
 exists rpB,dr;rw[e1];rotate_left
 .intro x hx;have k1:=eZ h6 (T x hx);refine ⟨_,rfl,?_⟩;exists k1
 exists rp18;rw[e2 _ _ _ _ λi=>vec (k+m) λj=>cA ms j i];rotate_left
 .intro i hi;have hi:i<m:=by simpa using hi
  have ku:=oK (p:=i) h6;have O:=nJ (xs:=vec k λj =>-stM ms j i) (ys:=vec m λq=>if q=i then 1 else 0) (by simp;omega);have ev:(vec k λj =>-stM ms j i)++(vec m λq=>if q=i then 1 else 0)=vec (k+m) λj=>cA ms j i:=by
   rw[fk];congr 1
   .refine qE5 λj hj=>?_
    have:j<k:=by simpa using hj
    unfold cA;rw[hk,qA2 this]
   .refine qE5 λq _=>?_;unfold cA;rw[hk,qA4 (show ¬ (k+q<k) by omega),qZ0]
  rw[ev]at O;refine ⟨_,rfl,?_⟩;exists rp18;rw[e3 _ _ _ _ λj =>-stM ms j i]
  .exists ku,O
  .intro j hj;have a1:L2.atI ((vec m (stM ms j)).map W.int) (i:Int)=some (.int (stM ms j i)):=by
    have:=F9 (ws:=(vec m (stM ms j)).map W.int) (k:=i) (w:=.int (stM ms j i)) (by rw[qA6,qA6,qC7 hi];rfl)
    show this
   refine ⟨_,rfl,?_⟩;exists a1
 exists rp18;rw[e3 _ _ _ _ λj=>stM ms j pl];rotate_left
 .intro j hj;have a1:L2.atI ((vec m (stM ms j)).map W.int) (pl:Int)=some (.int (stM ms j pl)):=by
   have:=F9 (ws:=(vec m (stM ms j)).map W.int) (k:=pl) (w:=.int (stM ms j pl)) (by rw[qA6,qA6,qC7 a0];rfl)
   show this
  refine ⟨_,rfl,?_⟩;exists a1
 have O:=nJ (xs:=vec k λj=>stM ms j pl) (ys:=vec m λ_=>0) (by simp;omega);have ev:(vec k λj=>stM ms j pl)++(vec m λ_=>0)=vec (k+m) (cC ms pl):=by
  rw[fk];congr 1
  .refine qE5 λj hj=>?_
   have:j<k:=by simpa using hj
   unfold cC;rw[hk,qA2 this]
  .refine qE5 λq _=>?_;unfold cC;rw[hk,qA4 ox]
 rw[ev]at O;exists fr,O,C1 (aA (vec (k+m) (cC ms pl)))
 change _=R.ok (W.lst ((z9 m (k+m) (λi j=>cA ms j i) (cC ms pl)).map tI));rw[qD0,qC3];rfl
def pY {xs:Zz}(h:((xs.map W.int).mapIdx λi x=>W.tup [.int (i:Int),x])[i]?=some w):i<xs.length/\w=.tup [.int (i:Int),.int (xs.getD i 0)]:=by
 rw[List.getElem?_mapIdx,qA6]at h;by_cases hi:i<xs.length
 .rw [qA3 hi]at h
  cases h;show ⟨hi,by rw[qA0,qA3 hi];rfl⟩
 .rw[qD7 ox]at h;cases h
inductive Com (n:Nat) (o:Zv):W->Prop where
 |none:(∀j,j<n->o j<=0)->Com n o .non
 |some {j:Nat}:j<n->0<o j->(∀i,i<j->o i<=0)->Com n o (.int (j:Int))
def vB (hm:m<=6) (hn:n<=100):Ok (aH [lS (z9 m n t o)]) (Com n o):=by
 have a1:=jX m n t o;have T:=w8 n o;exists rpB,nk,a1;refine w4 (y8 (λi ρ=>∃(x y:Sl),ρ = [.par (lS (z9 m n t o)),x,y]/\∀j,j<i->o j<=0) ⟨_,_,rfl,λj O=>absurd O (qF0 _)⟩ ?_ ?_)
 .rintro i u ρ hu ⟨x,y,rfl,I⟩;obtain ⟨hi,rfl⟩:=pY hu;have hi:i<n:=by rw[<- T];show hi
  have ev:(vec n o).getD i 0=o i:=j9 hi;rw[ev];refine ⟨_,rfl,?_⟩;exists rp18;refine cM (λh=>?_) (λh=>?_)
  .have h:=qO9 h;exists rp18;show .some hi h I
  .have h:=qQ1 h;exists rp18;refine ⟨_,_,rfl,λj O=>?_⟩;by_cases e:j=i
   .subst e;omega
   .show I j ox
 .rintro ρ ⟨x,y,rfl,I⟩;have I:∀j,j<n->o j<=0:=λj O=>I j (by rw[qV7,qA5,T];show O);exists rp18;show .none I
def nK (I:Zv):∀L:List Nat,L ≠ []->∃i∈L,∀j∈L,I i<=I j
 | [],h=>absurd rfl h
 | [a],_=>⟨a,qB3,λj O=>by rw[qD5.mp O];show qE8 _⟩
 | a::b::L,_=>by
  obtain ⟨i,hi,hm⟩:=nK I (b::L) ZV;by_cases q:I a<=I i
  .refine ⟨a,qB3,λj O=>?_⟩;rcases qB5.mp O with rfl|O
   .show qE8 _
   .have:=hm j O;omega
  .refine ⟨i,qA8 _ hi,λj O=>?_⟩;rcases qB5.mp O with rfl|O
   .omega
   .show hm j O
inductive Lea (m:Nat) (h:Nat->Nat) (t:Zj) (s:Nat):W->Prop where
 |none:(∀i,i<m->t i s<=0)->Lea m h t s .non
 |some {r:Nat}:Lv m h t s r->Lea m h t s (.int (r:Int))
def rm (hm:m<=6) (hn:n<=100) (hs:s<n):Ok (eM [lS (z9 m n t o),lI (vec m λi=>(h i:Int)),.int (s:Int)]) (Lea m h t s):=by
 have e1:∀N mg mc me ρ (q:∀i∈List.range m,∃O,mg (.int (i:Nat)) (ρ++List.replicate (N-ρ.length) Sl.un)=some O/\mc O=.ok (decide (0<t i s))/\me O=.ok (.int (i:Nat))),j6 N mg mc me ((List.range m).map λi=>W.int (i:Nat)) ρ=.ok (lI (((List.range m).filter λi=>decide (0<t i s)).map λ(i:Nat)=>(i:Int))):=λN mg mc me ρ q=>by
  rw [J2 (λi=>W.int (i:Nat)) _ (λi=>decide (0<t i s)) _ ρ (by simp;omega) λi hi=>by
   obtain ⟨O,a1,a2,a3⟩:=q i hi;show ⟨O,a1,a2,λ_=>a3⟩,M3]
 have hl:=w8 m λi=>(h i:Int);exists rpB,kq;rw[e1];rotate_left
 .intro i hi;have hi:i<m:=by simpa using hi
  have a1:=dO (n:=n) (t:=t) (o:=o) hi;have a2:L2.atI ((vec n (t i)).map W.int) (s:Int)=some (.int (t i s)):=by
   have:=F9 (ws:=(vec n (t i)).map W.int) (k:=s) (w:=.int (t i s)) (by rw[qA6,qA6,qC7 hs];rfl)
   show this
  refine ⟨_,rfl,?_,?_⟩
  .exists a1,a2
  .exists rp18
 generalize hL:(List.range m).filter (λi=>decide (0<t i s))=L
 have I:∀i,i∈L↔i<m/\0<t i s:=λi=>by rw[<- hL,qQ2,qF8,qS0]
 have a5:gD (L.map λ(i:Nat)=>(i:Int)) (vec m λi=>(h i:Int))=.ok (vW (cQ (λi=>(vec m λi=>(h i:Int)).getD i.toNat 0) (L.map λ(i:Nat)=>(i:Int)))):=by
  unfold gD;rw[qA2];rw[qG2];intro x hx;obtain ⟨i,hi,rfl⟩:=qB1.mp hx
  have:=(I i).mp hi
  rw[qG6,qS0,qS0,hl];omega
 exists a5;unfold cQ;cases q:(L.map λ(i:Nat)=>(i:Int)).find? (λi=>(L.map λ(i:Nat)=>(i:Int)).all λx=>decide ((vec m λi=>(h i:Int)).getD i.toNat 0<=(vec m λi=>(h i:Int)).getD x.toNat 0)) with
 | none=>
  have a0:L = []:=qX1 λne=>by
   obtain ⟨i,hi,a4⟩:=nK (λi=>(h i:Int)) L ne
   have:=List.find?_eq_none.mp q (i:Int) (qB1.mpr ⟨i,hi,rfl⟩)
   refine this (qG2.mpr λx hx=>?_);obtain ⟨j,hj,rfl⟩:=qB1.mp hx;rw[qS0,qD9,qD9,j9 ((I i).mp hi).1,j9 ((I j).mp hj).1];show a4 j hj
  refine ⟨_,rfl,.none λi hi=>?_⟩
  have:=mt (I i).mpr (by rw[a0];show qE4)
  omega
 | some x=>
  obtain ⟨hx,_⟩:=List.find?_eq_some_iff_append.mp q;obtain ⟨i,hi,rfl⟩:=qB1.mp (List.mem_of_find?_eq_some q);have T:=(I i).mp hi;refine ⟨_,rfl,.some ⟨T.1,T.2,λj hj hp=>?_⟩⟩
  have:=qG2.mp hx (j:Int) (qB1.mpr ⟨j,(I j).mpr ⟨hj,hp⟩,rfl⟩)
  have this:=qO9 this;rw[qD9,qD9,j9 T.1,j9 hj]at this;omega
def F8 (h:-(2^k)<=z/\z<=2^k):Builtin.Int.intBits z<=k+1:=by
 refine intBits_le_iff.mpr ?_;have O:(z.natAbs:Int)<=((2^k:Nat):Int):=by push_cast;omega
 have I:z.natAbs<=2^k:=by exact_mod_cast O
 show qG5 I (Nat.pow_lt_pow_right ZY (qD8 k))
def nN (h0:0<j) (h:j<=2^400):fI O1 K3 (.int i) (.int j)=.ok (.int (i/j)):=by
 change (if O1 i j then _ else _)=_;rw[qA2 ⟨h0,Int.lt_of_le_of_lt h (by unfold big8;decide)⟩]
def iJ (hn:n<=100) (O:s<n) (hx:∀j,j<n->-(2^240)<=x j/\x j<=2^240) (hb:∀j,j<n->-(2^240)<=b j/\b j<=2^240) (h0:0<d) (hd:d<=2^400):
  eN [tI (vec n x),tI (vec n b),.int (s:Int),.int d]=.ok (tI (vec n λj=>(x j*b s-x s*b j)/d)):=by
 have hz:=R7 (tI (vec n x)) (tI (vec n b)) _ _ rfl rfl;rw[Z6 (by rw[w8,w8]),w8]at hz;have as:L2.atI ((vec n x).map W.int) (s:Int)=some (.int (x s)):=by
  have:=F9 (ws:=(vec n x).map W.int) (k:=s) (w:=.int (x s)) (by rw[qA6,qA6,qC7 O];rfl)
  show this
 have bs:L2.atI ((vec n b).map W.int) (s:Int)=some (.int (b s)):=by
  have:=F9 (ws:=(vec n b).map W.int) (k:=s) (w:=.int (b s)) (by rw[qA6,qA6,qC7 O];rfl)
  show this
 have e:∀N mg me ρ (h:∀j,j<n->∃I,mg (.tup [.int ((vec n x).getD j 0),.int ((vec n b).getD j 0)]) (ρ++List.replicate (N-ρ.length) Sl.un)=some I/\me I=.ok (.int ((x j*b s-x s*b j)/d))),j6 N mg yes me ((List.range n).map λj=>W.tup [.int ((vec n x).getD j 0),.int ((vec n b).getD j 0)]) ρ=.ok (lI (vec n λj=>(x j*b s-x s*b j)/d)):=λN mg me ρ h=>by
  rw[i9 (λj=>.int ((x j*b s-x s*b j)/d)) _ _ ρ (by simpa using (by omega:n<=1000)) (λk hk=>h k (by simpa using hk)),M3]
 exists rpB,kx,hz;rw[e]
 .exists rp18
 .intro j T;have b1:=F8 (hx j T);have b2:=F8 (hx s O);have b3:=F8 (hb j T);have b4:=F8 (hb s O);have v1:(vec n x).getD j 0=x j:=j9 T;have v2:(vec n b).getD j 0=b j:=j9 T;have m1:fI CMulB o8 (.int (x j)) (.int (b s))=.ok (.int (x j*b s)):=bU ox;have m2:fI CMulB o8 (.int (x s)) (.int (b j))=.ok (.int (x s*b j)):=bU ox;have m3:=nN (i:=x j*b s-x s*b j) h0 hd;rw[v1,v2];refine ⟨_,rfl,?_⟩;exists as,bs,m1,m2,m3
def pvT (t:Zj)(r s:Nat) (d:Int)(i j:Nat):Int:=if i=r then t r j else (t i j*t r s-t i s*t r j)/d
def pvO (t:Zj)(o:Zv)(r s:Nat) (d:Int)(j:Nat):Int:=(o j*t r s-o s*t r j)/d
def yD:((z9 m n t o).map tI).mapIdx (λi x=>W.tup [.int (i:Int),x])=(List.range (m+1)).map λ(i:Nat)=>W.tup [.int (i:Int),tI (if i<m then vec n (t i) else vec n o)]:=by
 apply qK1
 .simp
 .intro i O I;have hi:i<m+1:=by simpa using I
  rw[List.getElem_mapIdx,qO5,qO5,List.getElem_range];by_cases q:i<m
  .rw[qA2 q,qY4 (by simpa using q)];simp
  .have:i=m:=ox
   subst this;rw[qA4 (qE2 _),List.getElem_append_right ZV];simp
def qN (hm:m<=6) (hn:n<=100) (T:r<m) (hs:s<n) (ht:∀i,i<m->∀j,j<n->-(2^240)<=t i j/\t i j<=2^240) (ho:∀j,j<n->-(2^240)<=o j/\o j<=2^240) (h0:0<d) (hd:d<=2^400):
  aZ [lS (z9 m n t o),.int (r:Int),.int (s:Int),.int d]=.ok (lS (z9 m n (pvT t r s d) (pvO t o r s d))):=by
 have a1:=dO (n:=n) (t:=t) (o:=o) T;have e:∀N mg me ρ (h:∀i∈List.range (m+1),∃I,mg (.tup [.int (i:Int),tI (if i<m then vec n (t i) else vec n o)]) (ρ++List.replicate (N-ρ.length) Sl.un)=some I/\me I=.ok (tI (if i<m then vec n (pvT t r s d i) else vec n (pvO t o r s d)))),j6 N mg yes me ((List.range (m+1)).map λ(i:Nat)=>W.tup [.int (i:Int),tI (if i<m then vec n (t i) else vec n o)]) ρ=.ok (lS (z9 m n (pvT t r s d) (pvO t o r s d))):=λN mg me ρ h=>by
  rw[i9 (λi=>tI (if i<m then vec n (pvT t r s d i) else vec n (pvO t o r s d))) _ _ ρ (by simp;omega) h];congr 2;rw[List.range_succ,qD0,qD0,qC3];congr 1
  .refine qE5 λi hi=>?_
   have:i<m:=by simpa using hi
   rw[qA2 this];rfl
  .simp
 have he:bC [lS (z9 m n t o)]=.ok ((List.range (m+1)).map λ(i:Nat)=>W.tup [.int (i:Int),tI (if i<m then vec n (t i) else vec n o)]):=by rw[<- yD];rfl
 exists rpB,km,a1,he;rw[e]
 .exists rp18
 .intro i hi;have hi:i<m+1:=by simpa using hi
  refine ⟨_,rfl,?_⟩;by_cases q:i=r
  .subst q;have d1:decide ((i:Int)=(i:Int))=true:=qO8 rfl;rw[qA2 T,qA2 T];have ev:vec n (pvT t i s d i)=vec n (t i):=qE5 λj _=>qA2 rfl;rw[ev];exists U3,d1
  .have d1:decide ((i:Int)=(r:Int))=false:=qO7 ox;by_cases O:i<m
   .have k1:=iJ (x:=t i) (b:=t r) hn hs (ht i O) (ht r T) h0 hd;have ev:vec n (pvT t r s d i)=vec n λj=>(t i j*t r s-t i s*t r j)/d:=qE5 λj _=>qA4 q;rw[qA2 O,qA2 O,ev];exists U3,d1,k1
   .have k1:=iJ (x:=o) (b:=t r) hn hs ho (ht r T) h0 hd;rw[qA4 O,qA4 O];exists U3,d1,k1;rfl
def GJ (ha:0<=a) (hb:0<=b):F7 [.int a,.int b]=.ok (.int (Int.gcd a b:Nat)):=by
 have fin:Ok (F7 [.int a,.int b]) λv=>v=.int (Int.gcd a b:Nat):=by
  exists rpB,X2;refine w4 (ax ?_);refine cL (λM ρ=>∃(x y:Int) (z:Sl),(ρ = [.par (.int x),.par (.int y),z]\/ρ = [.val (.int x),.val (.int y),z])/\0<=x/\0<=y/\Int.gcd x y=Int.gcd a b/\M=y.toNat) ?_ b.toNat _ ⟨a,b,.un,.inl rfl,ha,hb,rfl,rfl⟩;rintro M ρ ⟨x,y,z,I,hx,hy,hg,hM⟩;by_cases h0:y=0
  .have T:decide (y=0)=true:=qO8 h0;refine ⟨false,?_,?_⟩
   .rcases I with rfl|rfl
    all_goals exists T
   rw[qA4 ZY];have O:(Int.gcd a b:Int)=x:=by
    rw[<- hg,h0,Int.gcd_zero_right];omega
   rcases I with rfl|rfl
   all_goals
    exists rp18;rw[O]
  .have T:decide (y=0)=false:=qO7 h0;have h1:0<y:=ox;refine ⟨true,?_,?_⟩
   .rcases I with rfl|rfl
    all_goals exists T
   rw[qA2 rfl];have q0:0<=x%y:=qU7 _ h0;have q1:x%y<y:=qN6 _ h1;have a0:Int.gcd y (x%y)=Int.gcd a b:=by
    have e:=Int.gcd_add_mul_left_left y (x%y) (x/y);rw[Int.emod_add_mul_ediv]at e;rw[<- hg,Int.gcd_comm y,e]
   rcases I with rfl|rfl
   all_goals
    exists rp18;show ⟨(x%y).toNat,ox,y,x%y,_,.inr rfl,hy,q0,a0,rfl⟩
 obtain ⟨v,e,rfl⟩:=fin;show e
def int_at {xs:Zz}(h:(xs.map W.int)[i]?=some w):i<xs.length/\w=.int (xs.getD i 0):=by
 rw[qA6]at h;by_cases hi:i<xs.length
 .rw [qA3 hi]at h
  cases h;show ⟨hi,by rw[qA0,qA3 hi];rfl⟩
 .rw[qD7 ox]at h;cases h
def nv (hL:L=lI xs\/L=tI xs) (hl:xs.length<=100) (h0:∀x∈xs,0<=x/\x<=2^400) (hp:∃j,j<xs.length/\0<xs.getD j 0):Ok (F6 [L]) λv=>∃(g:Int) (ys:Zz),v=tI ys/\0<g/\ys.length=xs.length/\∀i,i<xs.length->xs.getD i 0=g*ys.getD i 0:=by
 have hx:∀j,j<xs.length->0<=xs.getD j 0/\xs.getD j 0<=2^400:=λj I=>memD h0 I;have e:∀(g:Int) N mg me ρ (h:∀x∈xs,∃a0,mg (.int x) (ρ++List.replicate (N-ρ.length) Sl.un)=some a0/\me a0=.ok (.int (x/g))),j6 N mg yes me (xs.map W.int) ρ=.ok (lI (xs.map λx=>x/g)):=λg N mg me ρ h=>by
  rw[i9 (λx=>W.int (x/g)) _ _ ρ ox h,M3]
 rcases hL with rfl|rfl
 all_goals
  exists rpB,W9;refine w4 (y8 (λi ρ=>∃(g:Nat) (y:Sl),(ρ = [.par (lI xs),.val (.int (g:Int)),y]\/ρ = [.par (tI xs),.val (.int (g:Int)),y])/\(∀j,j<i->(g:Int)∣xs.getD j 0)/\((∃j,j<i/\0<xs.getD j 0)->0<g)) ⟨0,_,by first|show .inl rfl|show .inr rfl,λj I=>absurd I (qF0 _),λT=>by obtain ⟨j,I,_⟩:=T;show absurd I (qF0 _)⟩ ?_ ?_)
  .rintro i u ρ hu ⟨g,y,O,h1,h2⟩;obtain ⟨hi,rfl⟩:=int_at hu;have k1:=GJ (a:=(g:Int)) (b:=xs.getD i 0) ox (hx i hi).1;have fin:(∀j,j<i+1->((Int.gcd (g:Int) (xs.getD i 0):Nat):Int)∣xs.getD j 0)/\((∃j,j<i+1/\0<xs.getD j 0)->0<Int.gcd (g:Int) (xs.getD i 0)):=by
    refine ⟨λj I=>?_,λ⟨j,I,hp⟩=>?_⟩
    .by_cases e:j=i
     .subst e;show Int.gcd_dvd_right ..
     .show Int.dvd_trans (Int.gcd_dvd_left ..) (h1 j ox)
    .refine Nat.pos_of_ne_zero λz=>?_;have z:=Int.gcd_eq_zero_iff.mp z;by_cases e:j=i
     .subst e;omega
     .have:=h2 ⟨j,ox,hp⟩;omega
   rcases O with rfl|rfl
   all_goals
    refine ⟨_,rfl,?_⟩;exists k1;show ⟨_,_,by first|show .inl rfl|show .inr rfl,fin⟩
  .rintro ρ ⟨g,y,O,h1,h2⟩;rw[qA5]at h1 h2;have g0:=h2 hp;obtain ⟨j,I,a3⟩:=hp;have gb:(g:Int)<=2^400:=qC6 (Int.le_of_dvd a3 (h1 j I)) (hx j I).2;have fin:∃(g':Int) (ys:Zz),tI (xs.map λx=>x/(g:Int))=tI ys/\0<g'/\ys.length=xs.length/\∀i,i<xs.length->xs.getD i 0=g'*ys.getD i 0:=by
    refine ⟨g,_,rfl,ox,qA5 _,λi hi=>?_⟩
    have:(xs.map λx=>x/(g:Int)).getD i 0=xs.getD i 0/(g:Int):=by
     rw[qA0,qA0,qA6,qA3 hi];rfl
    rw[this,qU8 (h1 i hi)]
   rcases O with rfl|rfl
   all_goals
    exists rp18;rw[e (g:Int)]
    .exists rp18;show fin
    .intro x _;have m3:=nN (i:=x) (j:=(g:Int)) ox gb;refine ⟨_,rfl,?_⟩;exists m3
def Hv {n:Nat}(h:n<=xs.length):U5 xs none (some (n:Int))=xs.take n:=by
 unfold U5;rw[HT.sIx_nat,HT.sIx_none,xA9,qZ4 h,Nat.sub_zero]
def Hw {n:Nat}(h:n<=xs.length):U5 xs (some (n:Int)) none=xs.drop n:=by
 unfold U5;rw[HT.sIx_nat,HT.sIx_none,qZ4 h,qL5 (by rw[qL0];omega)]
def wg (k m:Nat) (f:Zv):(vec (k+m) f).take k=vec k f:=by
 rw[fk,List.take_left' (w8 _ _)]
def wj (k m:Nat) (f:Zv):(vec (k+m) f).drop k=vec m λq=>f (k+q):=by
 rw[fk,List.drop_left' (w8 _ _)]
def iW:(vec n f).set i v=vec n λj=>if j=i then v else f j:=by
 apply qK1
 .simp
 .intro j O I;have T:j<n:=by simpa using I
  rw[List.getElem_set];simp only [vec,qO5,List.getElem_range];by_cases e:i=j
  .rw[qA2 e,qA2 e.symm]
  .rw[qA4 e,qA4 λq=>e q.symm]
def rep0 (n:Nat) (h:n<=100):gM true (.lst [.int 0]) (.int (n:Int))=.ok (lI (vec n λ_=>0)):=by
 rw[vm ox]
 have:(List.replicate ((n:Int).toNat) [W.int 0]).flatten=(vec n λ_=>0).map W.int:=by
  rw[qD9];apply qH7;intro k;rw[qA6,qA6,List.flatten_replicate_singleton];by_cases hk:k<n
  .rw[qC7 hk,qA3 (by simpa using hk)];simp
  .rw[qD7 (by simpa using hk),qD7 (by simpa using hk)];rfl
 rw[this];rfl
def sK (h:i<n):L2.atI ((vec n f).map W.int) (i:Int)=some (.int (f i)):=by
 have:=F9 (ws:=(vec n f).map W.int) (k:=i) (w:=.int (f i)) (by rw[qA6,qA6,qC7 h];rfl)
 show this
def yG (T:Tab m n A c h t o d) (hi:i<m) (I:h i≠s) (j:Nat):t8 (i+1) h t d s j=if j=h i then-t i s else t8 i h t d s j:=by
 unfold t8;have e:d7 (i+1) (λr=>if h r=j then t r s else 0)=d7 i (λr=>if h r=j then t r s else 0)+if h i=j then t i s else 0:=rfl
 rw[e];by_cases q:j=h i
 .subst q;rw[qA2 rfl,qA2 rfl,qA4 I,D2 λr O=>qA4 λz=>by have:=T.inj ox hi z;omega];omega
 .rw[qA4 (show ¬ (h i=j) from λz=>q z.symm),qA4 (show ¬ (j=h i) from q)];omega
def Ie (T:Tab m (k+m) A c h t o d) (h1:1<=m) (hm:m<=6) (hk:k<=8) (hs:s<k+m) (ho:0<o s) (hn:∀i,i<m->t i s<=0) (hb:∀j,t8 m h t d s j<=2^400) (hp:∃j,j<k/\0<t8 m h t d s j):
  Ok (gL [lS (z9 m (k+m) t o),lI (vec m λi=>(h i:Int)),.int (s:Int),.int d,.int (k:Int)]) λv=>∃(g:Int) (ys:Zz),v=tI ys/\0<g/\ys.length=k/\∀j,j<k->t8 m h t d s j=g*ys.getD j 0:=by
 have nb:∀i,i<m->h i≠s:=λi hi e=>by
  have:=T.ozero hi
  rw[e]at this;omega
 have a1:=dO (n:=k+m) (t:=t) (o:=o) (show 0<m by omega);have l1:((z9 m (k+m) t o).getD 0 []).length=k+m:=by
  rw[qA0,qE6 (by rw[qA5,qF4];omega),qA6,qC7 ox];show w8 _ _
 have r0:=rep0 (k+m) ox;have l2:=w8 (k+m) λ_=>0;have he:bC [lI (vec m λi=>(h i:Int))]=.ok (((vec m λi=>(h i:Int)).map W.int).mapIdx λi x=>W.tup [.int (i:Int),x]):=rfl;have x1:ixN (k+m) (s:Int)=some s:=by unfold ixN;rw[qA2 ox,qA2 ox,qD9]
 exists rpB,nq,a1,r0,he,l1,l2,x1;have d0:(vec (k+m) λ_=>0).set s d=vec (k+m) (t8 0 h t d s):=by
  rw[iW];refine qE5 λj _=>?_
  change _=(if j=s then d else 0)+(-1)*(0:Int);omega
 rw[d0];refine w4 (y8 (λi ρ=>∃(x y:Sl),ρ = [.par (lS (z9 m (k+m) t o)),.par (lI (vec m λi=>(h i:Int))),.par (.int (s:Int)),.par (.int d),.par (.int (k:Int)),.own ((vec (k+m) (t8 i h t d s)).map W.int),x,y]) ⟨_,_,rfl⟩ ?_ ?_)
 .rintro i u ρ hu ⟨x,y,rfl⟩;obtain ⟨hi,rfl⟩:=pY hu;have hi:i<m:=by simpa using hi
  have ev:(vec m λi=>(h i:Int)).getD i 0=(h i:Int):=j9 hi;have b1:=dO (n:=k+m) (t:=t) (o:=o) hi;have b2:=sK (f:=t i) hs;have hh:=T.hn i hi;have x2:ixN (k+m) (h i:Int)=some (h i):=by unfold ixN;rw[qA2 ox,qA2 ox,qD9]
  have l3:=w8 (k+m) (t8 i h t d s);rw[ev];refine ⟨_,rfl,?_⟩;exists b1,b2,l3,x2;have d1:(vec (k+m) (t8 i h t d s)).set (h i) (- t i s)=vec (k+m) (t8 (i+1) h t d s):=by
   rw[iW];show qE5 λj _=>(yG T hi (nb i hi) j).symm
  rw[d1];show ⟨_,_,rfl⟩
 .rintro ρ ⟨x,y,rfl⟩;have hl:(((vec m λi=>(h i:Int)).map W.int).mapIdx λi x=>W.tup [.int (i:Int),x]).length=m:=ZV;rw[hl];have l4:=w8 (k+m) (t8 m h t d s);have c1:U5 (vec (k+m) (t8 m h t d s)) none (some (k:Int))=vec k (t8 m h t d s):=by
   rw[Hv (by rw[l4];omega),wg]
  have l5:=w8 k (t8 m h t d s);have kk:=nv (.inl rfl) (xs:=vec k (t8 m h t d s)) (by rw[l5];omega) (λz hz=>by
   obtain ⟨j,_,rfl⟩:=qB1.mp hz;show ⟨T.dirP ho hn j,hb j⟩) (by
   obtain ⟨j,O,hp⟩:=hp;show ⟨j,by rw[l5];show O,by rw[j9 O];show hp⟩)
  exists c1;obtain ⟨v,e,g,ys,rfl,g0,hy,I⟩:=kk;exists e;refine ⟨g,ys,rfl,g0,hy.trans l5,λj O=>?_⟩
  have:=I j (by rw[l5];show O)
  rw[j9 O]at this;show this
def tJ (hm:m<=6) (hd:-(2^400)<=d/\d<=2^400) (hb:∀j,j<m->-(2^400)<=b j/\b j<=2^400):J5 [lI (vec m x),tI (vec m b),.int d]=.ok (tI (vec m λp=>x p+d*b p)):=by
 have hz:=R7 (lI (vec m x)) (tI (vec m b)) _ _ rfl rfl;rw[Z6 (by rw[w8,w8]),w8]at hz;have e:∀N mg me ρ (h:∀j,j<m->∃I,mg (.tup [.int ((vec m x).getD j 0),.int ((vec m b).getD j 0)]) (ρ++List.replicate (N-ρ.length) Sl.un)=some I/\me I=.ok (.int (x j+d*b j))),j6 N mg yes me ((List.range m).map λj=>W.tup [.int ((vec m x).getD j 0),.int ((vec m b).getD j 0)]) ρ=.ok (lI (vec m λj=>x j+d*b j)):=λN mg me ρ h=>by
  rw[i9 (λj=>.int (x j+d*b j)) _ _ ρ (by simpa using (by omega:m<=1000)) (λk hk=>h k (by simpa using hk)),M3]
 exists rpB,aW,hz;rw[e]
 .exists rp18
 .intro j O;have b1:=F8 hd;have b2:=F8 (hb j O);have m1:fI CMulB o8 (.int d) (.int (b j))=.ok (.int (d*b j)):=bU ox;have v1:(vec m x).getD j 0=x j:=j9 O;have T:(vec m b).getD j 0=b j:=j9 O;rw[v1,T];refine ⟨_,rfl,?_⟩;exists m1
def qp (h1:1<=m) (hm:m<=6) (hk:k<=8) (I:pl<m) (h0:0<d) (hd:d<=2^399) (ho:∀j,j<k+m->o j<=0 /\ -(2^399)<=o j):
  Ok (aE [lS (z9 m (k+m) t o),.int (pl:Int),.int d,.int (k:Int)]) λv=>∃(g:Int) (ys:Zz),v=tI ys/\0<g/\ys.length=m/\∀p,p<m ->-o (k+p)+d*(if p=pl then 1 else 0)=g*ys.getD p 0:=by
 have a1:=jX m (k+m) t o;have l1:=w8 (k+m) o;have c1:U5 (vec (k+m) o) (some (k:Int)) none=vec m λq=>o (k+q):=by
  rw[Hw (by rw[l1];omega),wj]
 have e:∀N mg me ρ (h:∀q∈List.range m,∃O,mg (.int (o (k+q))) (ρ++List.replicate (N-ρ.length) Sl.un)=some O/\me O=.ok (.int (- o (k+q)))),j6 N mg yes me ((vec m λq=>o (k+q)).map W.int) ρ=.ok (lI (vec m λq =>-o (k+q))):=λN mg me ρ h=>by
  rw[qC3]
  change j6 N mg yes me (List.map (λq=>W.int (o (k+q))) (List.range m)) ρ=_;rw[i9 (λq=>W.int (- o (k+q))) _ _ ρ (by simp;omega) h,M3]
 have l2:=w8 m λq =>-o (k+q);have ku:=oK (p:=pl) hm;have ks:=tJ (x:=λq =>-o (k+q)) (b:=λq=>if q=pl then 1 else 0) (d:=d) hm ⟨ox,ox⟩ (λj _=>by split <;> decide)
 have l5:=w8 m λp =>-o (k+p)+d*if p=pl then 1 else 0
 have kk:=nv (.inr rfl) (xs:=vec m λp =>-o (k+p)+d*if p=pl then 1 else 0) (by rw[l5];omega) (λz hz=>by
  obtain ⟨p,hp,rfl⟩:=qB1.mp hz;have hp:p<m:=by simpa using hp
  have:=ho (k+p) ox
  by_cases e:p=pl
  .rw[qA2 e];omega
  .rw [qA4 e];omega) ⟨pl,by rw[l5];show I,by
   rw[j9 I,qA2 rfl]
   have:=ho (k+pl) ox
   omega⟩
 exists rpB,eB,a1,c1;rw[e];rotate_left
 .intro q _;refine ⟨_,rfl,?_⟩;exists rp18
 exists l2,ku,ks;obtain ⟨v,e,g,ys,rfl,g0,hy,T⟩:=kk;exists e;refine ⟨_,rfl,g,ys,rfl,g0,hy.trans l5,λj hj=>?_⟩
 have:=T j (by rw[l5];show hj)
 rw[j9 hj]at this;show this
def lH:∀{n:Nat},(∀i,i<n->d∣f i)->d∣d7 n f
 |0,_=>⟨0,by rw[qH1];rfl⟩
 |n+1,h=>Int.dvd_add (lH λi hi=>h i (qF3 hi)) (h n (qD8 n))
def Tab.dt (T:Tab m n A c h t o d) (hr:r<m) (I:s<n) (hi:i<m) (O:j<n):d∣t i j*t r s-t i s*t r j:=by
 by_cases e:i=r
 .subst e;rw[qD2 (t i j),Int.sub_self];show ⟨0,by rw[qH1]⟩
 .show ⟨_,(T.step hr I hi O e).symm⟩
def Tab.do_ (T:Tab m n A c h t o d) (hr:r<m) (I:s<n) (O:j<n):d∣o j*t r s-o s*t r j:=by
 have e:d7 m (λi=>c (h i)*(t i j*t r s-t i s*t r j))=t r s*d7 m (λi=>c (h i)*t i j)+(- t r j)*d7 m (λi=>c (h i)*t i s):=by
  rw[<- t6,<- t6,<- J8];refine j7 λi _=>?_;rw[qK3,qI9,<- qD3,<- qD3,qD2 (t r s),qD2 (t r j)];omega
 have e2:o j*t r s-o s*t r j=d*(c j*t r s-c s*t r j)-d7 m (λi=>c (h i)*(t i j*t r s-t i s*t r j)):=by
  rw[e,T.oo j O,T.oo s I,Int.sub_mul,Int.sub_mul,qK3,qI9,<- qD3,<- qD3,qD2 (t r s) (d7 m _),qD2 (t r j) (d7 m _)];omega
 rw[e2];show Int.dvd_sub (Int.dvd_mul_right _ _) (lH λi hi=>Int.dvd_trans (T.dt hr I hi O) (Int.dvd_mul_left _ _))
def Tab.next (T:Tab m n A c h t o d) (hr:r<m) (I:s<n) (hp:0<t r s):Tab m n A c (hup h r s) (pvT t r s d) (pvO t o r s d) (t r s):=
 T.pivot hr I hp (λj _=>qA2 rfl) (λi hi e j O=>by
  unfold pvT;rw[qA4 e,qU8 (T.dt hr I hi O)]) (λj O=>by
  unfold pvO;rw[qU8 (T.do_ hr I O)])
def Al {f g:Zv}(O:∀j,j<n->0<=f j) (h:0<d7 n λj=>f j*g j):∃j,j<n/\0<f j:=qX1 λq=>by
 have:d7 n (λj=>f j*g j)=0:=D2 λj I=>by
  have z:f j=0:=by
   have:=O j I
   by_cases e:0<f j
   .show absurd ⟨j,I,e⟩ q
   .omega
  rw[z,qJ7]
 omega
structure Wts (ms:List Mv) (m pl:Nat) (w:Zz):Prop where
 len:w.length=m
 nn:∀p,p<m->0<=w.getD p 0/\w.getD p 0<=2^300
 one:1<=w.getD pl 0
 down:∀j,j<ms.length->d7 m (λp=>w.getD p 0*stM ms j p)<=0
structure Iv (ms:List Mv) (m pl:Nat) (y:Zz):Prop where
 len:y.length=ms.length
 nn:∀j,j<ms.length->0<=y.getD j 0/\y.getD j 0<=2^400
 up:∀p,p<m->(if p=pl then 1 else 0)<=d7 ms.length (λj=>y.getD j 0*stM ms j p)
inductive Cei (ms:List Mv) (m pl:Nat):W->Prop where
 |w {y:Zz}:Wts ms m pl y->Cei ms m pl (.tup [.str "weights",tI y])
 |b {y:Zz}:Iv ms m pl y->Cei ms m pl (.tup [.str "bag",tI y])
def pj {g:Int}(h0:0<g) (O:0<=x) (T:x<=B) (e:x=g*y):0<=y/\y<=B:=by
 have I:0<=y:=by
  by_cases q:0<=y
  .show q
  .have:g*y<0:=qX2 h0 ox
   omega
 have:1*y<=g*y:=qH8 ox I
 omega
def sZ {x y z:Zv}(e:∀j,j<n->x j=g*y j):d7 n (λj=>x j*z j)=g*d7 n (λj=>y j*z j):=by
 rw[<- t6];show j7 λj I=>by rw[e j I,qD3]
def xK {y:Int}(h0:0<g) (h:g*y<=0):y<=0:=by
 by_cases q:y<=0
 .show q
 .have:=Int.mul_pos h0 (show 0<y by omega)
  omega
def xL {y:Int}(h0:0<g) (h:0<=g*y):0<=y:=by
 by_cases q:0<=y
 .show q
 .have:=qX2 h0 (show y<0 by omega)
  omega
def mV {y:Int}(h0:0<g) (h:0<g*y):0<y:=by
 by_cases q:0<y
 .show q
 .have:=qG0 (qN5 h0) (show 0 <=-y by omega)
  rw[qM6]at this;omega
def rS (h1:1<=m) (h6:m<=6) (b0:∀x∈ms,okN m x) (h8:ms.length<=8) (a4:pl<m) (hB:∀j,j<ms.length->∀p,p<m->-mM<=stM ms j p/\stM ms j p<=mM):Ok (eO [tM_ ms,.int (pl:Int),.int (m:Int)]) (Cei ms m pl):=by
 have C:=Jq ms m pl;have hA:∀j,j<ms.length+m->∀p,p<m->-mM<=cA ms j p/\cA ms j p<=mM:=λj hj p hp=>by
  unfold cA;by_cases q:j<ms.length
  .rw [qA2 q]
   have:=hB j q p hp
   omega
  .rw [qA4 q]
   split <;> decide
 have hc:∀j,j<ms.length+m->-mM<=cC ms pl j/\cC ms pl j<=mM:=λj hj=>by
  unfold cC;by_cases q:j<ms.length
  .rw[qA2 q];show hB j q pl a4
  .rw[qA4 q];decide
 have kf:=yy h1 h6 b0 h8 a4;have S0:∃S:TB m (ms.length+m) (cA ms) (cC ms pl),S.h=(λi=>ms.length+i)/\S.t=(λi j=>cA ms j i)/\S.o=cC ms pl/\S.d=1:=⟨⟨_,_,_,1,C.first⟩,rfl,rfl,rfl,rfl⟩;obtain ⟨S0,s1,s2,s3,s4⟩:=S0;have e:∀N mg me ρ (h:∀i∈List.range m,∃a8,mg (.int (i:Nat)) (ρ++List.replicate (N-ρ.length) Sl.un)=some a8/\me a8=.ok (.int ((ms.length:Int)+(i:Int)))),j6 N mg yes me ((List.range m).map λi=>W.int (i:Nat)) ρ=.ok (lI (vec m λi=>(S0.h i:Int))):=λN mg me ρ h=>by
  rw[i9 (λ(i:Nat)=>W.int ((ms.length:Int)+(i:Int))) _ _ ρ (by simp;omega) h,M3,s1];congr 2
 have kf:Q0 [tM_ ms,.int (pl:Int),.int (m:Int)]=.ok (lS (z9 m (ms.length+m) S0.t S0.o)):=by rw[s2,s3];show kf
 have hn:ms.length+m<=100:=ox;have kc:∀S:TB m (ms.length+m) (cA ms) (cC ms pl),∃w,aH [lS (z9 m (ms.length+m) S.t S.o)]=.ok w/\R9 w=.val w/\Com (ms.length+m) S.o w:=λS=>by
  obtain ⟨w,ew,hw⟩:=vB (t:=S.t) (o:=S.o) h6 hn;show ⟨w,ew,by cases hw <;> rfl,hw⟩
 exists rpB,kz,kf;rw[e];rotate_left
 .intro i _;refine ⟨_,rfl,?_⟩;exists rp18
 obtain ⟨w,ew,hs,hw⟩:=kc S0;exists ew,hs;refine w4 (ax ?_);refine cL (λM ρ=>∃(L:Nat) (S:TB m (ms.length+m) (cA ms) (cC ms pl)) (w:W) (z:Sl),ρ = [.par (tM_ ms),.par (.int (pl:Int)),.par (.int (m:Int)),.own ((z9 m (ms.length+m) S.t S.o).map tI),.own ((vec m λi=>(S.h i:Int)).map W.int),.val (.int S.d),.val w,z]/\Run S0 L S/\Com (ms.length+m) S.o w/\M=2^(ms.length+m)-L) ?_ _ _ ⟨0,S0,w,.un,by rw[s4],.zero,hw,rfl⟩;rintro M ρ ⟨L,S,w,z,rfl,a6,hw,hM⟩;have T:=S.ok;have hd:=T.bd h6 hA;have ht:=T.bt h6 hA;have ho:=T.bo h6 hA hc;have hL:=a6.lt;cases hw with
 | none a0=>
  refine ⟨false,?_,?_⟩
  .exists rp18
  rw[qA4 ZY];have kw:=qp (k:=ms.length) (t:=S.t) (o:=S.o) (d:=S.d) h1 h6 h8 a4 T.dp (qC6 hd ZY) λj hj=>⟨a0 j hj,qC6 ZY (ho j hj).1⟩;obtain ⟨v,ev,g,ys,rfl,g0,hy,I⟩:=kw;exists ev;refine .w ⟨hy,λp hp=>?_,?_,λj hj=>?_⟩
  .refine pj g0 (x :=-S.o (ms.length+p)+S.d*(if p=pl then 1 else 0)) ?_ ?_ (I p hp)
   .have:=a0 (ms.length+p) ox
    have:=T.dp
    by_cases q:p=pl
    .rw[qA2 q];omega
    .rw[qA4 q];omega
   .have:=ho (ms.length+p) ox
    have k1:(2:Int)^240+2^197<=2^300:=ZY;by_cases q:p=pl
    .rw[qA2 q];omega
    .rw[qA4 q];omega
  .have e:=I pl a4;rw[qA2 rfl]at e
   have:=a0 (ms.length+pl) ox
   have:=T.dp
   show mV g0 ox
  .have e:=C.weights T a4 hj;rw[sZ (y:=λp=>ys.getD p 0) I]at e;show xK g0 (by rw[e];show a0 j ox)
 | @some s hs a5 a7=>
  refine ⟨true,?_,?_⟩
  .exists rp18
  rw[qA2 rfl];obtain ⟨v,ev,hv⟩:=rm (t:=S.t) (o:=S.o) (h:=S.h) h6 hn hs;cases hv with
  | none a9=>
   have dy:∀j,t8 m S.h S.t S.d s j<=2^400:=λj=>by
    have nb:∀i,i<m->S.h i≠s:=λi hi e=>by
     have:=T.ozero hi
     rw[e]at this;omega
    have k1:(2:Int)^197<=2^400:=ZY;by_cases js:j=s
    .subst js;rw[Tab.dirS nb];omega
    .by_cases jb:∃i,i<m/\S.h i=j
     .obtain ⟨i,hi,e⟩:=jb;have e2:=T.dirB (s:=s) hi (nb i hi);rw[e]at e2
      have:=ht i hi s hs
      omega
     .rw [Tab.dirN (λi hi e=>jb ⟨i,hi,e⟩) js]
      decide
   obtain ⟨b1,b2⟩:=C.bag T hs;have dp:=T.dirP a5 a9;have kb:=Ie T h1 h6 h8 hs a5 a9 dy (Al (g:=λj=>stM ms j pl) (λj _=>dp j) (by rw[b2];show a5));obtain ⟨v,ab,g,ys,rfl,g0,hy,I⟩:=kb;exists ev,ab;refine .b ⟨hy,λj hj=>pj g0 (dp j) (dy j) (I j hj),λp hp=>?_⟩;have e1:=b1 p hp;have e2:=b2;rw[sZ (y:=λj=>ys.getD j 0) I]at e1 e2;by_cases q:p=pl
   .subst q;rw[qA2 rfl];show mV g0 (by rw[e2];show a5)
   .rw [qA4 q]
    show xL g0 (by rw[e1];show dp _)
  | @some r O=>
   have T2:=T.next O.lt hs O.pos;have kp:=qN (t:=S.t) (o:=S.o) (d:=S.d) h6 hn O.lt hs (λi hi j hj=>by
    have:=ht i hi j hj
    have k1:(2:Int)^197<=2^240:=ZY;omega) ho T.dp (qC6 hd ZY)
   obtain ⟨S',q1,q2,q3,q4⟩:∃S':TB m (ms.length+m) (cA ms) (cC ms pl),S'.h=hup S.h r s/\S'.t=pvT S.t r s S.d/\S'.o=pvO S.t S.o r s S.d/\S'.d=S.t r s:=⟨⟨_,_,_,_,T2⟩,rfl,rfl,rfl,rfl⟩;have kp:aZ [lS (z9 m (ms.length+m) S.t S.o),.int (r:Int),.int (s:Int),.int S.d]=.ok (lS (z9 m (ms.length+m) S'.t S'.o)):=by rw[q2,q3];show kp
   obtain ⟨w,ew,b3,hw⟩:=kc S';have a1:=dO (n:=ms.length+m) (t:=S'.t) (o:=S'.o) O.lt;have a2:=sK (f:=S'.t r) hs;have a3:S'.t r s=S'.d:=by rw[q2,q4];show qA2 rfl
   have x2:ixN m (r:Int)=some r:=by
    have:=O.lt
    unfold ixN;rw[qA2 ox,qA2 ox,qD9]
   have l3:=w8 m λi=>(S.h i:Int);have d1:(vec m λi=>(S.h i:Int)).set r (s:Int)=vec m λi=>(S'.h i:Int):=by
    rw[iW,q1];refine qE5 λi _=>?_
    change (if i=r then (s:Int) else (S.h i:Int))=((hup S.h r s i:Nat):Int);unfold hup;by_cases e:i=r
    .rw[qA2 e,qA2 e]
    .rw[qA4 e,qA4 e]
   have mv:Mv_ S S' s (S.h r):=⟨hs,a5,a7,r,O.lt,rfl,O.pos,O.least,q1⟩;exists ev,kp,l3,x2,a1,a2,a3,ew,b3,d1;show ⟨2^(ms.length+m)-(L+1),ox,L+1,S',w,_,rfl,.succ a6 mv,hw,rfl⟩
def Q9 (s:Zz)(m:Mv):List Int:=(List.range s.length).map λk=>s.getD k 0-m.1.getD k 0+m.2.getD k 0
inductive Rch (ms:List Mv) (b:Zz):List Int->Prop where
 |beg:Rch ms b b
 |go {s:Zz}{m:Mv}:Rch ms b s->m∈ms->O4 s m.1=true->Rch ms b (Q9 s m)
def gQ (s:Zz)(m:Mv):(Q9 s m).length=s.length:=by simp [Q9]
def Rch.len (h:Rch ms b s):s.length=b.length:=by
 induction h with
 |beg=>rfl
 |go _ _ _ I=>rw[gQ];show I
def pU:∀(r:Zw) (I:Zz),Rch ms b I->I.length=n->gos n ms r (λp=>I.getD p 0)->∃s,Rch ms b s/\s.length=n/\∀p,p<n->s.getD p 0=I.getD p 0+dsp ms r p
 | [],I,h,hl,_=>⟨I,h,hl,λp _=>by change I.getD p 0=I.getD p 0+0;omega⟩
 | k::r,I,h,hl,⟨h1,h2,h3⟩=>by
  have T:mvN ms k∈ms:=by unfold mvN;rw[qA0,qA3 h1];show qG1 _
  have hc:O4 I (mvN ms k).1=true:=cov_iff.mpr λp O=>h2 p ox;have hb:∀p,p<n->(Q9 I (mvN ms k)).getD p 0=I.getD p 0+mvD (mvN ms k) p:=λp O=>by
   rw[show (Q9 I (mvN ms k)).getD p 0=_ from j9 ox];unfold mvD;omega
  obtain ⟨s,g1,g2,g3⟩:=pU r (Q9 I (mvN ms k)) (.go h T hc) (by rw[gQ];show hl) (M7 r _ _ (λp O=>by rw[hb p O];show qE8 _) h3);refine ⟨s,g1,g2,λp O=>?_⟩;rw[g3 p O,hb p O]
  change _=I.getD p 0+(mvD (mvN ms k) p+dsp ms r p);omega
def kK {kk:Nat}(hK:GK (b.map some) ms es A kk) (hm:∀m∈ms,m.1.length=b.length) (hd:d∈stC (b.map some) es) (N:Int):∃s,Rch ms b s/\s.length=b.length/\∀p,p<b.length->(∀v,d.getD p none=some v->s.getD p 0=v)/\(d.getD p none=none->N<=s.getD p 0):=by
 obtain ⟨j,hj,rfl⟩:=gZ hd;have O:(b.map some).length=b.length:=qA5 ..;obtain ⟨T,r,hg,hr⟩:=hK.rz (by rw[O];show hm) j hj 0 (lw hK.par j hj) N;rw[O]at hg hr;have h0:sC (b.map some) es 0=b.map some:=rfl;have hc:∀p,p<b.length->w6 (sC (b.map some) es 0) T p=b.getD p 0:=λp I=>by unfold w6;rw[h0,ak I];rfl
 obtain ⟨s,g1,g2,g3⟩:=pU (b:=b) r b .beg rfl (M7 r _ _ (λp I=>by rw[hc p I];show qE8 _) hg);refine ⟨s,g1,g2,λp I=>?_⟩;obtain ⟨r1,r2⟩:(∀v,(sC (b.map some) es j).getD p none=some v->w6 (sC (b.map some) es 0) T p+dsp ms r p=v)/\((sC (b.map some) es j).getD p none=none->N<=w6 (sC (b.map some) es 0) T p+dsp ms r p):=hr p I;rw[hc p I]at r1 r2;rw[g3 p I];show ⟨r1,r2⟩
def AA {I:List Cap}(hK:GK (b.map some) ms es (es.length+1) 0) (O:∀m∈ms,okN b.length m) (q1:∀t∈I,t∈stC (b.map some) es) (T:∀d∈stC (b.map some) es,∃t∈I,l6 d t=true) (h:Rch ms b s):∃t∈I,l6 (s.map some) t=true:=by
 induction h with
 |beg=>show T _ qB3
 | @go s m r hm hc ih=>show vx (st:=s) hK (by rw[qA5];show O) q1 T (by rw[qA5];show r.len) hm hc ih
def Iz {k:Int}(h0:0<=k)(I:k<=1000):0<=k*k/\k*k<=1000000:=⟨qG0 h0 h0,qC6 (qM1 I I h0 ox) ox⟩
def small (h:-18446744073709551616<z/\z<18446744073709551616):Builtin.Int.intBits z<=64:=intBits_le_64 ox ox
def E5 {ns:Zz}(hb:∀x∈ns,Builtin.Int.intBits x<=1048576) (h0:0<=k) (h1:k<=1000):Ok (p9 [.scr (ns.map W.int),.int k]) λw=>∃z:Int,w=.int z:=by
 have O:=Iz h0 h1;by_cases h:k<(ns.length:Int)
 .exists rpB,W1,qO8 h;show ⟨_,rfl,_,rfl⟩
 .by_cases I:0<(ns.length:Int)
  .have m0:0<=k*47%(ns.length:Int):=qU7 _ ox;have m1:k*47%(ns.length:Int)<(ns.length:Int):=qN6 _ I;have hz:=memD (P:=λx=>Builtin.Int.intBits x<=1048576) hb (i:=(k*47%(ns.length:Int)).toNat) ox;exists rpB,W1,qO7 h,qO8 I;generalize ns.getD (k*47%(ns.length:Int)).toNat 0=z at *
   have b1:=intBits_mul_le hz (small (z:=39373) ox);have b2:Builtin.Int.intBits (k*k*1013)<=64:=small ox;have T:=intBits_add_le b1 b2;have b4:=intBits_add_le T (small (z:=23) ox);have b5:Builtin.Int.intBits (z*39373+k*k*1013+23)+Builtin.Int.intBits (z*39373+k*k*1013+23)<=134217728:=ox;exists rp18;show ⟨_,rfl,_,rfl⟩
  .exists rpB,W1,qO7 h,qO7 I;show ⟨_,rfl,_,rfl⟩
def m6 (h0:0<=d) (h:d<6):∃z:Int,L2.atI [W.int 0,W.int 1,W.int 0,W.int 0,W.int 1,W.int 2] d=some (.int z)/\0<=z/\z<=2:=by
 have:d=0\/d=1\/d=2\/d=3\/d=4\/d=5:=ox
 rcases this with rfl|rfl|rfl|rfl|rfl|rfl
 all_goals show ⟨_,rfl,ox⟩
def m8 (h0:0<=d) (h:d<8):∃z:Int,L2.atI [W.int 0,W.int 1,W.int 0,W.int 1,W.int 0,W.int 2,W.int 0,W.int 0] d=some (.int z)/\0<=z/\z<=2:=by
 have:d=0\/d=1\/d=2\/d=3\/d=4\/d=5\/d=6\/d=7:=ox
 rcases this with rfl|rfl|rfl|rfl|rfl|rfl|rfl|rfl
 all_goals show ⟨_,rfl,ox⟩
def rK (b:Bool):∃z:Int,fInt [.bl b]=.ok (.int z)/\0<=z/\z<=1:=by
 cases b
 .show ⟨0,rfl,ox⟩
 .show ⟨1,rfl,ox⟩
abbrev bd (z:Int):Prop:=0<=z/\z<=1000000000
def bdL (xs:Zz):Prop:=∀x∈xs,bd x
def ql (h:bdL xs) (hz:bd z):bdL (xs ++ [z]):=λx I=>by
 rcases qF9.mp I with q|q
 .show h x q
 .rw[qD5.mp q];show hz
def pbd (h:Paired f (List.range n) I) (O:∀k z,f k z->bd z):bdL I/\I.length=n:=by
 refine ⟨λz hz=>?_,by have:=Paired.length h;simpa using this.symm⟩
 have:∀(l:Zw) (I:Zz),Paired f l I->∀z∈I,bd z:=λl I q=>by
  induction q with
  |nil=>intro z hz;cases hz
  | cons r _ T=>
   intro z hz;rcases qB5.mp hz with rfl|hz
   .show O _ _ r
   .show T z hz
 show this _ _ h z hz
def vU (h0:0<=z)(O:z<=2)(I:0<=f/\f<=100000001):bd (z*f):=⟨qG0 h0 I.1,qC6 (qM1 O I.2 I.1 ox) ox⟩
def Bt {ns:Zz}(hb:∀x∈ns,Builtin.Int.intBits x<=1048576){n:Nat}(h1:1<=n) (h6:n<=6) (a0:0<=a) (a1:a<=200) (hf:0<=f/\f<=100000001):Ok (bB [.scr (ns.map W.int),.int a,.int (n:Int),.bl pl,.int f]) λw=>∃m:Mv,w=mW m/\okN n m/\(∀x∈m.1,x<=1000000000)/\∀x∈m.2,x<=1000000000:=by
 exists rpB,fY;refine w4 (y8 (λi ρ=>∃(xs ys:Zz) (T a8:Sl),ρ = [.par (.scr (ns.map W.int)),.par (.int a),.par (.int (n:Int)),.par (.bl pl),.par (.int f),.own (xs.map W.int),.own (ys.map W.int),T,a8,.un]/\xs.length=i/\ys.length=i/\bdL xs/\bdL ys) ⟨[],[],_,_,rfl,rfl,rfl,λx h=>(nomatch h),λx h=>(nomatch h)⟩ ?_ ?_)
 .rintro i u ρ hu ⟨xs,ys,T,a8,rfl,I,O,hx,hy⟩;obtain ⟨hi,rfl⟩:=av hu;obtain ⟨_,e1,c,rfl⟩:=E5 hb (k:=a+(i:Int)) ox ox;obtain ⟨z6,e6,a5,b4⟩:=m6 (d:=c%6) ox ox;obtain ⟨z7,e7,ab,b3⟩:=m8 (d:=c/6%8) ox ox;refine ⟨_,rfl,?_⟩;exists e1,e6,e7;show ⟨xs ++ [z6],ys ++ [z7*f],_,_,by rw[qD0,qD0],by simp [I],by simp [O],ql hx ⟨a5,ox⟩,ql hy (vU ab b3 hf)⟩
 .rintro ρ ⟨xs,ys,T,a8,rfl,I,O,hx,hy⟩;rw[qA5,qF4]at I O;refine bO (λρ=>∃(xs ys:Zz) (T a8 a9:Sl),ρ = [.par (.scr (ns.map W.int)),.par (.int a),.par (.int (n:Int)),.par (.bl pl),.par (.int f),.own (xs.map W.int),.own (ys.map W.int),T,a8,a9]/\xs.length=n/\ys.length=n/\bdL xs/\bdL ys) ?_ ?_
  .cases pl
   .exists rp18;show ⟨xs,ys,_,_,_,rfl,I,O,hx,hy⟩
   .obtain ⟨_,e1,c,rfl⟩:=E5 hb (k:=a) ox ox;exists e1;refine pb ?_;refine jo (λ_ z=>bd z) (by simp;omega) ?_ ?_
    .intro j hj;obtain ⟨z,ez,z0,z1⟩:=rK (decide ((j:Int)=c/48%(n:Int)));refine ⟨_,rfl,?_⟩;exists ez;show ⟨_,rfl,_,rfl,z0,ox⟩
    intro us hu;obtain ⟨b0,a4⟩:=pbd hu λ_ _ h=>h;exists rp18;refine ui ?_;refine jo (λ_ z=>bd z) (by simp;omega) ?_ ?_
    .intro j hj;obtain ⟨z,ez,z0,z1⟩:=rK (decide ((j:Int)=(c/48%(n:Int)+1)%(n:Int)));obtain ⟨y,ey,y0,y1⟩:=rK (decide (c/48%(n:Int)=1));have q0:0<=z*(1+y):=qG0 z0 ox;have q1:z*(1+y)<=1*2:=qM1 z1 ox ox ox;refine ⟨_,rfl,?_⟩;exists ez,ey;show ⟨_,rfl,_,rfl,vU q0 ox hf⟩
    intro vs hv;obtain ⟨a6,a3⟩:=pbd hv λ_ _ h=>h;exists rp18;show ⟨us,vs,_,_,_,rfl,a4,a3,b0,a6⟩
  rintro ρ ⟨xs,ys,T,a8,a9,rfl,I,O,hx,hy⟩;exists rp18;show ⟨(xs,ys),rfl,⟨I,O,λx h=>(hx x h).1,λx h=>(hy x h).1⟩,λx h=>(hx x h).2,λx h=>(hy x h).2⟩
def isV (w:W)(I:Zz):Prop:=w=tI I\/w=lI I
def X4 (h:isV w zs) (hk:k<zs.length):fIx w (.int (k:Int))=.ok (.int (zs.getD k 0)):=by
 have c:=af (ns:=zs) (k:=k) hk;rcases h with rfl|rfl
 .exists c
 .exists c
def BW (h:isV w zs):fLen [w]=.ok (.int (zs.length:Int)):=by
 rcases h with rfl|rfl
 .exists rp18
 .exists rp18
def jA (ha:isV wa a) (hb:isV wb b) (h6:a.length<=6) (hl:b.length=a.length):E2 [wa,wb]=.ok (.bl (O4 a b)):=by
 have fin:Ok (E2 [wa,wb]) λv=>v=.bl (O4 a b):=by
  have O:=BW ha;exists rpB,du,O;refine w4 (y8 (λi ρ=>∃x,ρ = [.par wa,.par wb,x]/\∀k,k<i->b.getD k 0<=a.getD k 0) ⟨_,rfl,λk hk=>absurd hk (qF0 _)⟩ ?_ ?_)
  .rintro i u ρ hu ⟨x,rfl,I⟩;obtain ⟨hi,rfl⟩:=av hu;have T:=X4 ha hi;have x2:=X4 hb (show i<b.length by omega);refine ⟨_,rfl,?_⟩;exists T,x2;refine cM (λh=>?_) (λh=>?_)
   .have h:=qO9 h;exists Jp hi h
   .have h:=qQ1 h;exists rp18;refine ⟨_,rfl,λk hk=>?_⟩;by_cases e:k=i
    .subst e;omega
    .show I k ox
  .rintro ρ ⟨x,rfl,I⟩;rw[qA5,qF4]at I;exists zO I
 obtain ⟨v,e,rfl⟩:=fin;show e
def rp (h6:s.length<=6) (hm:okN s.length m):Y3 [tI s,mW m]=.ok (tI (Q9 s m)):=by
 have O:L2.atI [tI m.1,tI m.2] 0=some (tI m.1):=rfl;have T:L2.atI [tI m.1,tI m.2] 1=some (tI m.2):=rfl;have e1:=hm.1;have e2:=hm.2.1;have e:∀N mg me ρ (h:∀k∈List.range s.length,∃I,mg (.int (k:Nat)) (ρ++List.replicate (N-ρ.length) Sl.un)=some I/\me I=.ok (.int (s.getD k 0-m.1.getD k 0+m.2.getD k 0))),j6 N mg yes me ((List.range s.length).map λk=>W.int (k:Nat)) ρ=.ok (lI (Q9 s m)):=λN mg me ρ h=>by
  rw[i9 (λk=>W.int (s.getD k 0-m.1.getD k 0+m.2.getD k 0)) _ _ ρ (by simp;omega) h];unfold lI Q9;rw[qC3];rfl
 exists rpB,dz;rw[e]
 .exists rp18
 .intro k hk;have hk:k<s.length:=by simpa using hk
  refine ⟨_,rfl,?_⟩;exists O,T
def DO (k:Nat) (m:Mv):shp (k+2) (mW m)=true:=by
 change (shp (k+1) (tI m.1)&&(shp (k+1) (tI m.2)&&true))=true;rw[dJ,dJ];rfl
def eq_nil (g:Mv) (I:List Mv):fEq false (.lst ((g::I).map mW)) (.lst [])=.ok (.bl false):=by
 have h:shp 8 (.lst ((g::I).map mW))=true:=aq mW 7 (DO 5) (g::I);unfold fEq;rw[h];rfl
def CV (pre:Zq) (s:Zz):L2.atI ((pre ++ [s]).map tI) (-1)=some (tI s):=by
 have I:((pre ++ [s]).map tI).length=pre.length+1:=ZV;have O:ixN (pre.length+1) (-1)=some pre.length:=by
  unfold ixN;rw[qA4 ox,qA2 ox];congr 1;omega
 unfold L2.atI;rw[I,O];simp
def smS (B:Int)(s:Zz):Prop:=∀p,0<=s.getD p 0/\s.getD p 0<=B
def yF {ns:Zz}(hb:∀x∈ns,Builtin.Int.intBits x<=1048576) (h6:b.length<=6) (hm:∀m∈ms,okN b.length m) (b0:∀m∈ms,∀x∈m.2,x<=1000000000) (h8:ms.length<=8) (a3:smS 1000000000 b):Ok (aJ [.scr (ns.map W.int),tI b,.lst (ms.map mW)]) λw=>∃ss:List Zz,w=.lst (ss.map tI)/\0<ss.length/\ss.length<=100/\∀s∈ss,Rch ms b s/\smS 100000000000 s:=by
 obtain ⟨q,hq⟩:∃q:Nat,min 40 (9+(ns.length:Int))=(q:Int):=⟨(min 40 (9+(ns.length:Int))).toNat,ox⟩;have b5:q<=40:=ox;have ct:=C1 (aA b);have step:∀{i:Nat}{s:Zz}{m:Mv},i<=40->Rch ms b s->smS (1000000000*((i:Int)+1)) s->m∈ms->O4 s m.1=true->smS (1000000000*(((i+1:Nat):Int)+1)) (Q9 s m):=λ{i s m} hi hr hs a4 hc p=>by
  have hok:=hm m a4;by_cases hp:p<s.length
  .rw [show (Q9 s m).getD p 0=_ from j9 hp]
   have c1:=cov_iff.mp hc p hp;have c2:=hs p;have c3:=N5 hok.2.2.1 p;have c4:=N5 hok.2.2.2 p;have c5:m.2.getD p 0<=1000000000:=by
    by_cases ab:p<m.2.length
    .show memD (P:=λx=>x<=1000000000) (b0 m a4) ab
    .rw[qA0];simp [ab]
   omega
  .have:(Q9 s m).getD p 0=0:=by rw[qA0,qD7 (by rw[gQ];omega)];rfl
   rw[this];omega
 exists rpB,eG,hq,ct;refine w4 (y8 (λi ρ=>∃(pre:Zq) (s:Zz) (x y:Sl),ρ = [.par (.scr (ns.map W.int)),.par (tI b),.par (.lst (ms.map mW)),.own ((pre ++ [s]).map tI),x,y]/\pre.length=i/\(∀t∈pre ++ [s],Rch ms b t/\smS 100000000000 t)/\smS (1000000000*((i:Int)+1)) s) ⟨[],b,_,_,rfl,rfl,λt ht=>by
  rw[qD5.mp ht];show ⟨.beg,λp=>⟨(a3 p).1,by have:=(a3 p).2;omega⟩⟩,λp=>⟨(a3 p).1,by have:=(a3 p).2;omega⟩⟩ ?_ ?_)
 .rintro i u ρ hu ⟨pre,s,x,y,rfl,a5,I,a9⟩;obtain ⟨hi,rfl⟩:=av hu;obtain ⟨_,e4,d,rfl⟩:=E5 hb (k:=(i:Int)) ox ox;have hR:=(I s ZV).1;have a8:s.length=b.length:=hR.len;have al:=CV pre s;have b3:((pre ++ [s]).map tI).length=pre.length+1:=ZV;obtain ⟨pw,T⟩:∃pw,pw=(pre ++ [s]).map tI:=⟨_,rfl⟩;rw[<- T]at al b3 ⊢;refine ⟨_,rfl,?_⟩;exists rp18;rw[J2 mW mW (λm=>O4 s m.1) ms _ ox λm a4=>?_]
  .have hg:∀m∈ms.filter (λm=>O4 s m.1),m∈ms/\O4 s m.1=true:=λm h=>qQ2.mp h;have a7:(ms.filter λm=>O4 s m.1).length<=8:=qC1 (List.length_filter_le _ _) h8;generalize ms.filter (λm=>O4 s m.1)=O at hg a7
   exists rp18;cases O with
   | nil=>
    exists rp18;show ⟨pre ++ [s],T ▸ rfl,ZV,by simp;omega,I⟩
   | cons g O=>
    have a7:O.length+1<=8:=a7;have ne:=eq_nil g O;have hL:(((g::O).map mW).length:Int)=((O.length+1:Nat):Int):=ZV;have g0:=qU7 (d/7) (show ((O.length+1:Nat):Int)≠0 by omega);have g1:=qN6 (d/7) (show (0:Int)<((O.length+1:Nat):Int) by omega);have ea:=iP mW (as:=g::O) (d:=([],[])) (i:=d/7%((O.length+1:Nat):Int)) ⟨g0,g1⟩;have hk:=hg ((g::O).getD (d/7%((O.length+1:Nat):Int)).toNat ([],[])) (by rw[qA0,qA3 (show (d/7%((O.length+1:Nat):Int)).toNat<(g::O).length by rw[qC5];omega)];show qG1 _);generalize (g::O).getD (d/7%((O.length+1:Nat):Int)).toNat ([],[])=m at ea hk
    have k2:=rp (s:=s) (m:=m) ox (by rw[a8];show hm m hk.1);obtain ⟨gw,b4⟩:∃gw,gw=(g::O).map mW:=⟨_,rfl⟩;rw[<- b4]at ne hL ea ⊢;have a6:=step ox hR a9 hk.1 hk.2;exists ne,e4,hL,ea,al,k2;refine ⟨pre ++ [s],Q9 s m,_,_,by rw[T,qD0 (l₁:=pre ++ [s])];rfl,by simp [a5],λt ht=>?_,a6⟩;rcases qF9.mp ht with z|z
    .show I t z
    .rw [qD5.mp z]
     show ⟨.go hR hk.1 hk.2,λp=>⟨(a6 p).1,by have:=(a6 p).2;omega⟩⟩
  .have a0:L2.atI [tI m.1,tI m.2] 0=some (tI m.1):=rfl;have k1:=jA (wa:=tI s) (wb:=tI m.1) (a:=s) (b:=m.1) (.inl rfl) (.inl rfl) ox (by rw[a8];show (hm m a4).1);have cm:=C1 (uJ m);refine ⟨_,rfl,?_,λ_=>?_⟩
   .exists al,a0,k1
   .exists cm
 .rintro ρ ⟨pre,s,x,y,rfl,a5,I,a9⟩;rw[qA5,qF4]at a5;exists rp18;show ⟨pre ++ [s],rfl,ZV,by simp;omega,I⟩
def Gr {n:Nat}(h:∀k∈r,k<n):∀x∈pz r,0<=x/\x<(n:Int):=λx I=>by
 unfold pz at I;obtain ⟨k,hk,rfl⟩:=qB1.mp I
 have:=h k hk
 omega
def Bs (h1:1<=n) (h6:n<=6) (hm:∀m∈ms,okN n m) (hr:∀k∈r,k<ms.length):Ok (bz [lI (pz r),tM_ ms,.int (n:Int)]) λw=>∃a:List Int,w=.tup [lI a,lI (vF n (dsp ms r))]/\a.length=n/\∀p,p<n->a.getD p 0<=hur ms r p:=by
 have z0:List.replicate n (0:Int)=vF n (dsp ms []):=zeros n _ λ_=>rfl;have zl:(List.replicate n (0:Int)).length=n:=qM0 ..;have hz:∀p,p<n->(List.replicate n (0:Int)).getD p 0<=hur ms r p:=λp T=>by
  have:(List.replicate n (0:Int)).getD p 0=0:=by rw[qA0];simp [T]
  rw[this];show GI hm r hr
 have er:gM true (.lst [.int 0]) (.int (n:Int))=.ok (lI (List.replicate n 0)):=by
  change (if ([W.int 0]:Zk).length*((n:Int)).toNat<=1000 /\ -1000<=(n:Int)/\(n:Int)<=1000 then chks true (List.replicate ((n:Int)).toNat [W.int 0]).flatten else .stuck)=_;rw[qA2 ⟨by simp;omega,ox,ox⟩,qD9,ua];rfl
 exists rpB,fX,er;refine w4 (y8 (λi ρ=>∃(a:Zz) (a5 a6:Sl),ρ = [.par (lI (pz r)),.par (tM_ ms),.par (.int (n:Int)),.own (a.map W.int),.own ((vF n (dsp ms (r.take i))).map W.int),a5,a6]/\a.length=n/\∀p,p<n->a.getD p 0<=hur ms r p) ⟨List.replicate n 0,_,_,by rw[qV4,<- z0],zl,hz⟩ ?_ ?_)
 .rintro i u ρ hu ⟨a,a5,a6,rfl,O,I⟩;rw[gx,qA6]at hu;obtain ⟨k,hk,rfl⟩:=qE3.mp hu;have a7:=hr k (qD4 hk);have am:L2.atI (ms.map mW) (k:Int)=some (mW (mvN ms k)):=by
   have:=iP mW (as:=ms) (d:=([],[])) (i:=(k:Int)) ox
   rw[qD9]at this;show this
  have hok:okN n (mvN ms k):=getM hm a7;have a0:L2.atI [tI (mvN ms k).1,tI (mvN ms k).2] 0=some (tI (mvN ms k).1):=rfl;have a1:L2.atI [tI (mvN ms k).1,tI (mvN ms k).2] 1=some (tI (mvN ms k).2):=rfl;have d0:∀p,dsp ms (r.take (i+1)) p=dsp ms (r.take i) p+mvD (mvN ms k) p:=λp=>yE hk;refine ⟨_,rfl,?_⟩;exists rp18;refine bN (λp ρ=>∃(a:Zz) (a6:Sl),ρ = [.par (lI (pz r)),.par (tM_ ms),.par (.int (n:Int)),.own (a.map W.int),.own ((vF n λq=>if q<p then dsp ms (r.take (i+1)) q else dsp ms (r.take i) q).map W.int),.par (.int (k:Int)),a6]/\a.length=n/\∀p,p<n->a.getD p 0<=hur ms r p) ⟨a,_,rfl,O,I⟩ ?_ ?_
  .rintro p u ρ hu ⟨a,a6,rfl,O,I⟩;obtain ⟨T,rfl⟩:=av hu;have c1:=af (ns:=a) (k:=p) ox;have c2:=qq (n:=n) (λq=>if q<p then dsp ms (r.take (i+1)) q else dsp ms (r.take i) q) T;simp only [qE2,qP1]at c2;have x1:=af (ns:=(mvN ms k).1) (k:=p) (by rw[hok.1];show T);have x2:=af (ns:=(mvN ms k).2) (k:=p) (by rw[hok.2.1];show T);have a4:=BZ (ms:=ms) (p:=p) r i k hk;have a3:(vF n λq=>if q<p then dsp ms (r.take (i+1)) q else dsp ms (r.take i) q).set p (dsp ms (r.take i) p+(mvN ms k).2.getD p 0-(mvN ms k).1.getD p 0)=vF n λq=>if q<p+1 then dsp ms (r.take (i+1)) q else dsp ms (r.take i) q:=by
    rw[Ds T];refine qE5 λq hq=>?_
    change (if q=p then _ else _)=_;by_cases e:q=p
    .subst e;rw[qA2 rfl,qA2 (qD8 _),d0 q];unfold mvD;omega
    .rw [qA4 e]
     by_cases e2:q<p
     .rw[qA2 e2,qA2 ox]
     .rw[qA4 e2,qA4 ox]
   generalize (vF n λq=>if q<p then dsp ms (r.take (i+1)) q else dsp ms (r.take i) q)=gv at *
   have a8:gv.length=n:=by
    have:=congrArg List.length a3
    rw[qF2,D5]at this;show this
   have ab:p<(a.map W.int).length:=by rw[qA5,O];show T
   have a9:p<(gv.map W.int).length:=by rw[qA5,a8];show T
   refine ⟨_,rfl,?_⟩;exists c1,am,a0,a1,x1,x2,c2;rw[a3];refine ⟨_,_,rfl,by rw[qF2];show O,λq hq=>?_⟩;by_cases e:p=q
   .subst e;rw[qA0,qF1 ox];show qJ6.mpr ⟨I p hq,a4⟩
   .rw [qA0,qB9 e,<- qA0]
    show I q hq
  .rintro ρ ⟨a,a6,rfl,O,I⟩;rw[qA5,qF4]
   have:(vF n λq=>if q<n then dsp ms (r.take (i+1)) q else dsp ms (r.take i) q)=vF n (dsp ms (r.take (i+1))):=qE5 λq hq=>qA2 (qF8.mp hq)
   rw[this];show ⟨a,_,_,rfl,O,I⟩
 .rintro ρ ⟨a,a5,a6,rfl,O,I⟩;have hl:((pz r).map W.int).length=r.length:=by rw[qA5,S8]
  rw[hl,qH4];exists rp18;show ⟨a,rfl,O,I⟩
def Ht (I:R8 ms) (O:∀k∈r,k<ms.length) (T:r.length<=30) (p:Nat):-18446744073709551616<dsp ms r p/\dsp ms r p<18446744073709551616:=by
 have:=bc I p r O
 omega
def vP (h1:1<=b.length) (h6:b.length<=6) (hm:∀m∈ms,okN b.length m) (hs:R8 ms) (hl:bs.length<=40) (hg:goB b.length ms bs λp=>b.getD p 0):E3 [.lst (bs.map blW),tI b,tM_ ms]=.ok (tI (vF b.length (endB ms bs λp=>b.getD p 0))):=by
 have fin:Ok (E3 [.lst (bs.map blW),tI b,tM_ ms]) λv=>v=tI (vF b.length (endB ms bs λp=>b.getD p 0)):=by
  have d1:decide (100<(bs.length:Int))=false:=qO7 ox;exists rpB,dw,d1;refine w4 (y8 (λj ρ=>∃(v a3 a4 a5 a6 a7 a8:Sl),ρ = [.par (.lst (bs.map blW)),v,.par (tM_ ms),a3,a4,a5,a6,a7,a8]/\(v=.par (tI (vF b.length (endB ms (bs.take j) λp=>b.getD p 0)))\/v=.val (tI (vF b.length (endB ms (bs.take j) λp=>b.getD p 0))))) ⟨_,_,_,_,_,_,_,rfl,.inl (by rw[qV4];change _=Sl.par (tI (vF b.length λp=>b.getD p 0));rw[<- Ix b])⟩ ?_ ?_)
  .rintro j u ρ hu ⟨v,a3,a4,a5,a6,a7,a8,rfl,hv⟩;rw[qA6]at hu;obtain ⟨⟨r,t⟩,b4,rfl⟩:=qE3.mp hu;obtain ⟨ho,he⟩:=pV bs _ j (r,t) hg b4;rw[he];generalize endB ms (bs.take j) (λp=>b.getD p 0)=s at *
   obtain ⟨ht,hr,a0,hh⟩:=ho;have ht:1<=t:=ht;have hr:∀k∈r,k<ms.length:=hr;have a0:r.length<=30:=a0;obtain ⟨_,kn,a,rfl,b3,ab⟩:=Bs h1 h6 hm hr;have rv:rdS .B (some v)=.ok (tI (vF b.length s)):=by rcases hv with rfl|rfl <;> rfl
   have ea:on ms s (r,t)=λp=>s p+t*dsp ms r p:=rfl;have k1:=jA (wa:=tI (vF b.length s)) (wb:=lI a) (.inl rfl) (.inr rfl) (by rw[D5];show h6) (by rw[D5];show b3);have k2:=jA (wa:=lI (vF b.length λp=>s p+(t-1)*dsp ms r p)) (wb:=lI a) (.inr rfl) (.inr rfl) (by rw[D5];show h6) (by rw[D5];show b3);rw[cov_iff.mpr λp I=>by rw[D5]at I;rw[j9 I];show qC6 (ab p I) (hh p I).1]at k1;rw[cov_iff.mpr λp I=>by rw[D5]at I;rw[j9 I];show qC6 (ab p I) (hh p I).2]at k2;have d2:decide (30<(r.length:Int))=false:=qO7 ox;have d3:decide (t<0)=false:=qO7 ox;have d4:decide (0<t)=true:=qO8 ox;have bb:(!decide (((2:Nat):Int)=2))=false:=rfl;have eb:blW (r,t)=.tup [lI (pz r),.int t]:=rfl;have b0:L2.atI [lI (pz r),W.int t] 0=some (lI (pz r)):=rfl;have b6:(pz r).length=r.length:=S8 r;have ef:∀N mg mc me ρ (h:∀x∈pz r,∃O,mg (.int x) (ρ++List.replicate (N-ρ.length) Sl.un)=some O/\mc O=.ok false),j6 N mg mc me ((pz r).map W.int) ρ=.ok (.lst []):=λN mg mc me ρ h=>by
    have:=J2 (mg:=mg) (mc:=mc) (me:=me) (N':=N) W.int W.int (λ_=>false) (pz r) ρ ox λx hx=>by
     obtain ⟨O,q1,q2⟩:=h x hx;show ⟨O,q1,q2,λz=>by cases z⟩
    rw[this];simp
   have el:∀(c:Int) N mg me ρ (h:∀p,p<b.length->∃O,mg (.int (p:Nat)) (ρ++List.replicate (N-ρ.length) Sl.un)=some O/\me O=.ok (.int (s p+c*dsp ms r p))),j6 N mg yes me ((List.range b.length).map λk=>W.int (k:Nat)) ρ=.ok (lI (vF b.length λp=>s p+c*dsp ms r p)):=λc N mg me ρ h=>by
    rw[i9 (λp=>.int (s p+c*dsp ms r p)) _ _ ρ (by simp;omega) (λk hk=>h k (by simpa using hk)),M3]
   have sv:=λp (I:p<b.length)=>qq s I;have gv:=λp (I:p<b.length)=>qq (dsp ms r) I;have a9:(vF b.length s).length=b.length:=D5 _ _;have mu:=λ(c:Int) p=>iq (i:=c) (Ht hs hr a0 p);rw[ea];generalize hL:(vF b.length λp=>s p+t*dsp ms r p)=L at *
   generalize vF b.length s=V at *
   generalize b5:(vF b.length λp=>s p+(t-1)*dsp ms r p)=L1 at *
   generalize hT:vF b.length (dsp ms r)=T at *
   have u0:L2.atI [lI a,lI T] 0=some (lI a):=rfl;refine ⟨_,rfl,?_⟩;exists eb,bb,b0,b6,d2;rw[ef];rotate_left
   .intro x hx;obtain ⟨x0,x1⟩:=Gr hr x hx;have y0:decide (0<=x)=true:=qO8 x0;have y1:decide (x<(ms.length:Int))=true:=qO8 x1;refine ⟨_,rfl,?_⟩;exists y0,y1
   have bw:decide (0<((0:Nat):Int))=false:=rfl;exists d3,bw,d4,rv,a9,kn;rw[el (t-1)];rotate_left
   .intro p I;have s1:=sv p I;have s2:=gv p I;have m1:=mu (t-1) p;refine ⟨_,rfl,?_⟩;exists rv,s1,s2,m1
   rw[b5];exists rv,k1,k2,a9;rw[el t];rotate_left
   .intro p I;have s1:=sv p I;have s2:=gv p I;have m1:=mu t p;refine ⟨_,rfl,?_⟩;exists rv,s1,s2,m1
   rw[hL];exists rp18;show ⟨_,_,_,_,_,_,_,rfl,.inr rfl⟩
  .rintro ρ ⟨v,a3,a4,a5,a6,a7,a8,rfl,hv⟩;rw[qA5,qH4]at hv;rcases hv with rfl|rfl
   .exists C1 (aA (vF b.length (endB ms bs λp=>b.getD p 0)))
   .exists C1 (aA (vF b.length (endB ms bs λp=>b.getD p 0)))
 obtain ⟨v,e,rfl⟩:=fin;show e
def Co (a b:VQ):fEq false (oW a) (oW b)=.ok (.bl (decide (a=b))):=by
 cases a with
 | none=>
  cases b with
  |none=>rfl
  |some y=>rw[show oW none=W.non from rfl,show oW (some y)=W.int y from rfl,nH];rfl
 | some x=>
  cases b with
  |none=>rw[show oW none=W.non from rfl,show oW (some x)=W.int x from rfl,nI];rfl
  | some y=>
   rw[show oW (some x)=W.int x from rfl,show oW (some y)=W.int y from rfl,U3];by_cases h:x=y <;> simp [h]
def rR {most:Nat}(h1:1<=b.length) (h6:b.length<=6) (b6:nn b) (hm:∀m∈ms,okN b.length m) (hs:R8 ms) (b3:es.length<=29) (hK:GK (b.map some) ms es (es.length+1) 0) (hp:p<b.length) (eg:Q7 [.tup [tI b,tM_ ms],.int (most:Int)]=.ok (.lst (i8 (b.map some) es))) (a8:∃n,n<=es.length/\(sC (b.map some) es n).getD p none=o):
  Ok (O0 [.tup [tI b,tM_ ms],.int (most:Int),.int (p:Int),oW o,.int hh]) λw=>∃v:List Int,w=tI v/\v.length=b.length/\(o=none->hh<=v.getD p 0)/\∀x,o=some x->v.getD p 0=x:=by
 have b4:(b.map some).length=b.length:=qA5 ..;have hlen:=gn hK;have a9:∀k,k<es.length+1->p<(sC (b.map some) es k).length:=λk hk=>by rw[hlen _ (bL ox),b4];show hp
 have a4:(i8 (b.map some) es).length=es.length+1:=ZV;have O:∀k,k<es.length+1->∃x y:W,L2.atI (i8 (b.map some) es) (k:Int)=some (.tup [tC (sC (b.map some) es k),x,y]):=λk hk=>U8 ox;have kc:∀n:Nat,n<=es.length->Ok (ce [.tup [tI b,tM_ ms],.lst (i8 (b.map some) es),.int (n:Int),.int hh]) λw=>∃bs:List Blk,w=.lst (bs.map blW)/\bs.length<=40/\ldB b.length ms (b.map some) (λ_=>0) bs (sC (b.map some) es n) (λ_=>hh):=λn hn=>yQ hK h1 h6 b6 hm hs b3 hn;have kb:∀bs:List Blk,bs.length<=40->goB b.length ms bs (λp=>b.getD p 0)->E3 [.lst (bs.map blW),tI b,tM_ ms]=.ok (tI (vF b.length (endB ms bs λp=>b.getD p 0))):=λbs hl hg=>vP h1 h6 hm hs hl hg;have a0:yx b.length (b.map some) (λ_=>0) λp=>b.getD p 0:=λq hq=>by
  rw[ak hq];show ⟨λv hv=>Option.some.inj hv,λh=>by cases h⟩
 obtain ⟨mo,a5⟩:∃mo,mo=W.tup [tI b,tM_ ms]:=⟨_,rfl⟩;have c3:fIx mo (.int 0)=.ok (tI b):=by rw[a5];rfl
 have c0:fIx mo (.int 1)=.ok (tM_ ms):=by rw[a5];rfl
 rw[<- a5]at kc eg ⊢;obtain ⟨c,hc⟩:∃c:Cap,c=b.map some:=⟨_,rfl⟩;rw[<- hc]at a8 a9 a4 O kc a0 eg;obtain ⟨I,c4⟩:∃I,I=i8 c es:=⟨_,rfl⟩;rw[<- c4]at kc a4 O eg;have i0:∀x:Int,D1 false (.int x) .non=.ok (.bl false):=λ_=>rfl;have i1:∀x:Int,D1 true (.int x) .non=.ok (.bl true):=λ_=>rfl;have i2:D1 false .non .non=.ok (.bl true):=rfl;have i3:D1 true .non .non=.ok (.bl false):=rfl;exists rpB,bX,eg,a4;refine w4 (y8 (λi ρ=>∃a6 a7:Sl,ρ = [.par mo,.par (.int (most:Int)),.par (.int (p:Int)),.par (oW o),.par (.int hh),.own I,a6,a7]/\∀k,k<i->(sC c es k).getD p none≠o) ⟨_,_,rfl,λk hk=>absurd hk (qF0 _)⟩ ?_ ?_)
 .rintro i u ρ hu ⟨a6,a7,rfl,T⟩;obtain ⟨hi,rfl⟩:=av hu;obtain ⟨x,y,er⟩:=O i hi;have b0:L2.atI [tC (sC c es i),x,y] 0=some (tC (sC c es i)):=rfl;have y1:=atO (a9 i hi);have fin:∀(r:R Fl),(r=ifS (.ok (decide ((sC c es i).getD p none=o))) (j3 (bA E3 (aC (bA ce (aC (b8 .B 0) (aC (b8 .B 5) (aC (b8 .B 6) (aC (b8 .B 4) aN))))) (aC (b2 fIx (b8 .B 0) (mC (.int 0))) (aC (b2 fIx (b8 .B 0) (mC (.int 1))) aN))))) sNx [.par mo,.par (.int (most:Int)),.par (.int (p:Int)),.par (oW o),.par (.int hh),.own I,.par (.int (i:Int)),.val (oW ((sC c es i).getD p none))]) ->
    Po r (λρ=>∃a6 a7:Sl,ρ = [.par mo,.par (.int (most:Int)),.par (.int (p:Int)),.par (oW o),.par (.int hh),.own I,a6,a7]/\∀k,k<i+1->(sC c es k).getD p none≠o) (λw=>∃v:List Int,w=tI v/\v.length=b.length/\(o=none->hh<=v.getD p 0)/\∀x,o=some x->v.getD p 0=x):=by
   rintro r rfl;refine cM (λh=>?_) (λh=>?_)
   .have h:(sC c es i).getD p none=o:=qO9 h;obtain ⟨_,ec,bs,rfl,c2,bb⟩:=kc i ox;obtain ⟨c1,a3⟩:=bb _ a0;have k2:=kb bs c2 c1;obtain ⟨f1,f2⟩:=a3 p hp;obtain ⟨bw,b5⟩:∃bw,bw=bs.map blW:=⟨_,rfl⟩;rw[<- b5]at ec k2;have hv:(vF b.length (endB ms bs λp=>b.getD p 0)).getD p 0=endB ms bs (λp=>b.getD p 0) p:=j9 hp;have ab:=D5 b.length (endB ms bs λp=>b.getD p 0);generalize vF b.length (endB ms bs λp=>b.getD p 0)=V at *
    exists ec,c3,c0,k2;show ⟨V,rfl,ab,λz=>by rw[hv];show f2 (h.trans z),λx z=>by rw[hv];show f1 x (h.trans z)⟩
   .have h:=qQ1 h;exists rp18;refine ⟨_,_,rfl,λk hk=>?_⟩;by_cases e:k=i
    .rw[e];show h
    .show T k ox
  have y2:=Co ((sC c es i).getD p none) o;refine ⟨_,rfl,?_⟩;refine fin _ ?_;generalize (sC c es i).getD p none=g at *
  cases o with
  | none=>
   have eo:oW none=.non:=rfl;cases g with
   | none=>
    exists er,b0,y1,eo,i2,i3
   | some z=>
    have ez:oW (some z)=.int z:=rfl;exists er,b0,y1,eo,ez,i0,i2,i3
  | some w=>
   have eo:oW (some w)=.int w:=rfl;rw[eo]at y2 ⊢;exists er,b0,y1,i0,i1,y2
 .rintro ρ ⟨a6,a7,rfl,T⟩;rw[qA5,qF4]at T;obtain ⟨n,hn,hu⟩:=a8;show absurd hu (T n ox)
def BD (h0:0<zs.length)(h:∀x∈zs,x<=v):C7 zs<=v:=h _ (mY h0)
def lV (a b c d e f:W):i4 6 N m [a,b,c,d,e,f]=TP.endB (m (Sl.par a::Sl.par b::Sl.par c::Sl.par d::Sl.par e::Sl.par f::List.replicate (N-6) Sl.un)):=aa rfl
def BE (h:x∈zs):x<=C7 zs:=by
 obtain ⟨k,hk,rfl⟩:=qV0 h
 have:=jz k hk
 rw[qA0,qA3 hk]at this;show this
def wn (h:L7 (some x) (some y)=true):x<=y:=by
 simpa [L7]using h
def mD {most:Nat}{ss:Zq}(h1:1<=b.length) (h6:b.length<=6) (b5:nn b) (hm:∀m∈ms,okN b.length m) (hs:R8 ms) (h8:ms.length<=8) (b4:1<=most) (b6:most<=30) (hp:p<b.length) (h0:0<ss.length) (c0:ss.length<=100) (hr:∀s∈ss,Rch ms b s):
  ∃f:List W,eL [.tup [tI b,tM_ ms],.int (p:Int),.int (most:Int)]=.ok (.tup f)/\Q8 [.tup f,.tup [tI b,tM_ ms],.int (most:Int),.int (p:Int),.int hh,.lst (ss.map tI)]=.ok (.bl true)/\(f = [.str "open"]\/(f = [.str "grows"]/\∀N:Int,∃s,Rch ms b s/\N<=s.getD p 0)\/∃v:Int,f = [.str "at most",.int v]/\∃s,Rch ms b s/\s.getD p 0=v):=by
 obtain ⟨_,u,eg,ec,hu⟩:=yN (b:=b) (most:=most) h1 h6 hm h8 b4 b6;have n1:D1 true .non .non=.ok (.bl false):=rfl;have n2:∀x:List Int,D1 true (tI x) .non=.ok (.bl true):=λ_=>rfl;obtain ⟨mo,a5⟩:∃mo,mo=W.tup [tI b,tM_ ms]:=⟨_,rfl⟩;have s0:∀(x:W),fIx (.tup [x]) (.int 0)=.ok x:=λ_=>rfl;have s2:∀(x y:W),fIx (.tup [x,y]) (.int 0)=.ok x:=λ_ _=>rfl;have s1:∀(x y:W),fIx (.tup [x,y]) (.int 1)=.ok y:=λ_ _=>rfl;have e0:v6 false (.str "open") (.str "grows")=.ok (.bl false):=rfl;have e1:v6 true (.str "open") (.str "at most")=.ok (.bl true):=rfl;have e2:v6 false (.str "grows") (.str "grows")=.ok (.bl true):=rfl;have e3:v6 false (.str "at most") (.str "grows")=.ok (.bl false):=rfl;have e4:v6 true (.str "at most") (.str "at most")=.ok (.bl false):=rfl;have e5:fEq false (.tup [.str "open"]) (.tup [.str "open"])=.ok (.bl true):=ZJ;rcases hu with ⟨rfl,rfl⟩|⟨es,ts,rfl,hes,hK,rfl,q1,q2,q3,q4⟩
 .refine ⟨_,xw ec,?_,.inl rfl⟩;rw[<- a5];exists lV,K1,s0,e0,e1,e5
 have b3:(b.map some).length=b.length:=qA5 ..;have hlen:∀d∈ts,d.length=b.length:=λd hd=>by rw[gn hK d (q1 d hd)];show b3
 have a8:0<ts.length:=by
  obtain ⟨t,I,_⟩:=q4 _ (bL (qE0 _));show List.length_pos_of_mem I
 have kp:=xx (p:=p) ec ox a8 λt I=>by rw[hlen t I];show hp
 have a6:∀{o:VQ}{d:Cap},d∈ts->d.getD p none=o->_:=λ{o d} hd ho=>rR (hh:=hh) (o:=o) h1 h6 b5 hm hs ox hK hp eg (by
  obtain ⟨a,ha,e⟩:=gZ (q1 d hd);show ⟨a,ha,by rw[<- e];show ho⟩)
 refine ⟨_,kp,?_⟩;unfold pkL;cases hn:(Z3 ts p).any (·.isNone) with
 | true=>
  obtain ⟨o,ho,hi⟩:=qT3.mp hn;obtain ⟨t,I,rfl⟩:=qB1.mp ho;have a0:t.getD p none=none:=Option.isNone_iff_eq_none.mp hi;obtain ⟨_,k,v,rfl,ab,hv,_⟩:=a6 I a0;have hv:=hv rfl;have y1:=X4 (w:=tI v) (.inl rfl) (show p<v.length by omega);rw[<- a5]at k ⊢;rw[show oW none=W.non from rfl]at k;have dv:decide (v.getD p 0≥hh)=true:=qO8 hv;refine ⟨?_,.inr (.inl ⟨rfl,λN=>?_⟩)⟩
  .rw [qA2 rfl]
   exists lV,K1,s0,e2,k,n2,y1,dv
  .obtain ⟨s,g1,g2,g3⟩:=kK hK (λm h=>(hm m h).1) (q1 t I) N;show ⟨s,g1,(g3 p hp).2 a0⟩
 | false=>
  have b0:0<(xsP ts p).length:=by unfold xsP;rw[qA5];show a8
  obtain ⟨t,I,hv⟩:=qB1.mp (mY b0);generalize hM:C7 (xsP ts p)=M at *
  have T:∀t∈ts,t.getD p none=some ((t.getD p none).getD 0):=λt I=>by
   have:=qK8.mp hn _ (qB1.mpr ⟨t,I,rfl⟩)
   cases h:t.getD p none with
   |none=>rw[h]at this;show absurd rfl this
   |some x=>rfl
  have a0:t.getD p none=some M:=(T t I).trans (congrArg some (hv.trans hM));obtain ⟨_,k,v,rfl,ab,_,a4⟩:=a6 I a0;have a4:=a4 _ rfl;have y1:=X4 (w:=tI v) (.inl rfl) (show p<v.length by omega);have bw:∀s∈ss,s.getD p 0<=M:=λs O=>by
   obtain ⟨t,I,hu⟩:=AA hK hm q1 q4 (hr s O);have a3:p<s.length:=by rw[(hr s O).len];show hp
   have:=bJ hu (p:=p) (by rw[qA5];show a3)
   rw[ak a3,T t I]at this;have h2:=wn this;have h3:(t.getD p none).getD 0<=M:=by rw[<- hM];show BE (qB1.mpr ⟨t,I,rfl⟩)
   omega
  have hb:Q2 C7 [lI (ss.map λs=>s.getD p 0)]=.ok (.int (C7 (ss.map λs=>s.getD p 0))):=cf (by rw[qA5];show h0);have a7:C7 (ss.map λs=>s.getD p 0)<=M:=BD (by rw[qA5];show h0) λx hx=>by
   obtain ⟨s,O,rfl⟩:=qB1.mp hx;show bw s O
  generalize C7 (ss.map λs=>s.getD p 0)=X at hb a7
  have dx:decide (X<=M)=true:=qO8 a7;have ek:∀N mg me ρ (h:∀s∈ss,∃a9,mg (tI s) (ρ++List.replicate (N-ρ.length) Sl.un)=some a9/\me a9=.ok (.int (s.getD p 0))),j6 N mg yes me (ss.map tI) ρ=.ok (lI (ss.map λs=>s.getD p 0)):=λN mg me ρ h=>by
   rw[i9 (λs=>.int (s.getD p 0)) _ _ ρ ox h];show congrArg (λl=>R.ok (W.lst l)) (by rw[qC3];rfl)
  rw[<- a5]at k ⊢;rw[show oW (some M)=W.int M from rfl]at k;have e6:fEq false (.int (v.getD p 0)) (.int M)=.ok (.bl true):=by rw[a4,U3];simp
  refine ⟨?_,.inr (.inr ⟨M,by rw[qA4 ZV],?_⟩)⟩
  .rw [qA4 ZV]
   obtain ⟨sw,bb⟩:∃sw,sw=ss.map tI:=⟨_,rfl⟩;rw[<- bb]at ek ⊢;exists lV,K1,s2,s1,e3,e4,k,n2,y1,e6;rw[ek];rotate_left
   .intro s O;have y:=X4 (w:=tI s) (.inl rfl) (show p<s.length by rw[(hr s O).len];show hp);refine ⟨_,rfl,?_⟩;exists y
   exists hb,dx
  .obtain ⟨s,g1,g2,g3⟩:=kK hK (λm h=>(hm m h).1) (q1 t I) 0;show ⟨s,g1,(g3 p hp).1 M a0⟩
def xM (hi:-(2^410)<=i/\i<=2^410) (I:-(2^410)<=j/\j<=2^410):fI CMulB o8 (.int i) (.int j)=.ok (.int (i*j)):=by
 have b1:=F8 hi;have b2:=F8 I;show bU ox
def dF (f:Zv):∀n:Nat,((List.range n).map f).sum=d7 n f
 |0=>rfl
 | n+1=>by
  rw[List.range_succ,qD0,List.sum_append,dF f n]
  change _+(f n+0)=d7 n f+f n;omega
def lu {k:Nat}(T:y.length=k) (h:k<=100) (h0:∀x∈y,0<=x):U2 [tI y,.int (k:Int)]=.ok (.bl true):=by
 subst T;have ef:∀N mg mc me ρ (h:∀x∈y,∃I,mg (.int x) (ρ++List.replicate (N-ρ.length) Sl.un)=some I/\mc I=.ok false),j6 N mg mc me (y.map W.int) ρ=.ok (.lst []):=λN mg mc me ρ hh=>by
  rw [J2 W.int W.int (λ_=>false) y ρ ox λx O=>by
   obtain ⟨r,h1,h2⟩:=hh x O;show ⟨r,h1,h2,λz=>by cases z⟩]
  rw[qS9.mpr ZV];rfl
 exists rpB,eD;rw[ef]
 .exists rp18
 .intro x O;have d1:decide (x<0)=false:=qO7 (by have:=h0 x O;omega);refine ⟨_,rfl,?_⟩;exists d1
def cq (h6:n<=6) (hy:y.length=n) (hs:s.length=n) (a0:∀p,p<n->0<=y.getD p 0/\y.getD p 0<=2^300) (bs:∀p,p<n->-(2^410)<=s.getD p 0/\s.getD p 0<=2^410):D7 [tI y,tI s]=.ok (.int (d7 n λp=>y.getD p 0*s.getD p 0)):=by
 have ec:∀N mg me ρ (h:∀p∈List.range n,∃I,mg (.int (p:Nat)) (ρ++List.replicate (N-ρ.length) Sl.un)=some I/\me I=.ok (.int (y.getD p 0*s.getD p 0))),j6 N mg yes me ((List.range n).map λp=>W.int (p:Nat)) ρ=.ok (lI ((List.range n).map λp=>y.getD p 0*s.getD p 0)):=λN mg me ρ h=>by
  rw[i9 (λp=>W.int (y.getD p 0*s.getD p 0)) _ _ ρ (by simp;omega) h,M3]
 have O:jD ((List.range n).map λp=>y.getD p 0*s.getD p 0)=d7 n λp=>y.getD p 0*s.getD p 0:=dF _ _;exists rpB,eE,hs;rw[ec];rotate_left
 .intro p T;have T:p<n:=by simpa using T
  have y1:=X4 (w:=tI y) (.inl rfl) (show p<y.length by omega);have y2:=X4 (w:=tI s) (.inl rfl) (show p<s.length by omega);have q:=a0 p T;have m1:=xM (i:=y.getD p 0) (j:=s.getD p 0) ⟨qC6 ZY q.1,qC6 q.2 ZY⟩ (bs p T);refine ⟨_,rfl,?_⟩;exists y1,y2,m1
 exists O
def lG (f g:Zv) (n:Nat):d7 n (λk=>f k-g k)=d7 n f-d7 n g:=by
 have:=J8 (λk=>f k-g k) g n
 rw[j7 (g:=f) λk _=>ox]at this;omega
def Ak (h:∀k,k<n->0<=f k) (I:r<n):f r<=d7 n f:=by
 have:=bj (f:=λk=>if k=r then 0 else -(f k)) (n:=n) λk hk=>by
  by_cases e:k=r
  .rw[qA2 e];show qE8 _
  .rw[qA4 e];have:=h k hk;omega
 have e:=Z7 (f:=λk=>if k=r then 0 else -(f k)) (g:=λk=>-1*f k) I λk _ hk=>by rw[qA4 hk];omega
 rw[t6]at e;simp only [qP0]at e;omega
def Iy (h:m∈ms):∃j,j<ms.length/\∀p,stM ms j p=m.2.getD p 0-m.1.getD p 0:=by
 obtain ⟨j,I,rfl⟩:=qV0 h;refine ⟨j,I,λp=>?_⟩;have e:ms.getD j ([],[])=ms[j]:=by rw[qA0,qA3 I];rfl
 unfold stM;rw[e]
def pA (I:Wts ms n pl y) (h:m∈ms):(d7 n λp=>y.getD p 0*m.2.getD p 0)<=d7 n λp=>y.getD p 0*m.1.getD p 0:=by
 obtain ⟨j,O,e⟩:=Iy h
 have:=I.down j O
 rw[j7 (g:=λp=>y.getD p 0*m.2.getD p 0-y.getD p 0*m.1.getD p 0) λp _=>by rw[e,qK3],lG]at this;omega
def lX (I:Wts ms b.length pl y) (h:Rch ms b s):(d7 b.length λp=>y.getD p 0*s.getD p 0)<=d7 b.length λp=>y.getD p 0*b.getD p 0:=by
 induction h with
 |beg=>show qE8 _
 | @go s m r hm hc ih=>
  have hd:=pA I hm;have O:=r.len
  rw [j7 (g:=λp=>(y.getD p 0*s.getD p 0-y.getD p 0*m.1.getD p 0)+y.getD p 0*m.2.getD p 0) λp T=>by
   rw[show (Q9 s m).getD p 0=s.getD p 0-m.1.getD p 0+m.2.getD p 0 from j9 ox,xA5,qK3],J8,lG]
  omega
def uc (hm:∀m∈ms,okN b.length m) (O:nn b) (h:Rch ms b s):∀p,p<b.length->0<=s.getD p 0:=by
 induction h with
 |beg=>show λp _=>N5 O p
 | @go s m r I hc ih=>
  intro p hp;have T:=r.len;rw[show (Q9 s m).getD p 0=s.getD p 0-m.1.getD p 0+m.2.getD p 0 from j9 ox];have h1:=cov_iff.mp hc p (by have:=(hm m I).1;omega);have h2:=N5 (hm m I).2.2.2 p;omega
def AB (hm:∀m∈ms,okN b.length m) (hb:nn b) (T:pl<b.length) (I:Wts ms b.length pl y) (h:Rch ms b s):s.getD pl 0*y.getD pl 0<=d7 b.length λp=>y.getD p 0*b.getD p 0:=by
 have:=Ak (f:=λp=>y.getD p 0*s.getD p 0) (n:=b.length) (r:=pl) (λk hk=>qG0 (I.nn k hk).1 (uc hm hb h k hk)) T
 have O:=lX I h;rw[qD2];show qC6 this O
def wnn {y:Zz}(T:y.length=n) (h:∀p,p<n->0<=y.getD p 0):∀x∈y,0<=x:=λx I=>by
 obtain ⟨p,O,rfl⟩:=qV0 I
 have:=h p ox
 rw[qA0,qA3 O]at this;show this
def rF (h6:n<=6) (h8:ms.length<=8) (hm:∀m∈ms,okN n m) (hb:∀m∈ms,bdL m.1/\bdL m.2) (a5:pl<n) (I:Wts ms n pl y):N9 [tI y,.int (pl:Int),.lst (ms.map mW),.int (n:Int)]=.ok (.bl true):=by
 have T:=I.len;have kw:=lu I.len ox (wnn I.len λp hp=>(I.nn p hp).1);have d1:decide (y.getD pl 0<1)=false:=qO7 (by have:=I.one;omega);have y1:=X4 (w:=tI y) (.inl rfl) (show pl<y.length by omega);have fin:Ok (N9 [tI y,.int (pl:Int),.lst (ms.map mW),.int (n:Int)]) λv=>v=.bl true:=by
  exists rpB,bW,kw,y1,d1;refine w4 (y8 (λi ρ=>∃a:Sl,ρ = [.par (tI y),.par (.int (pl:Int)),.par (.lst (ms.map mW)),.par (.int (n:Int)),a]) ⟨_,rfl⟩ ?_ ?_)
  .rintro i u ρ hu ⟨a,rfl⟩;obtain ⟨m,O,a4,rfl⟩:=BF hu;have hk:=hm m O;have a3:=hb m O;have bb:∀{xs:Zz},bdL xs->xs.length=n->∀p,p<n->-(2^410)<=xs.getD p 0/\xs.getD p 0<=2^410:=λ{xs} h hl p hp=>by
    have:=memD h (show p<xs.length by omega)
    show ⟨qC6 ZY this.1,qC6 this.2 ZY⟩
   have k1:=cq h6 T hk.1 I.nn (bb a3.1 hk.1);have k2:=cq h6 T hk.2.1 I.nn (bb a3.2 hk.2.1);have hd:=pA I O;generalize (d7 n λp=>y.getD p 0*m.2.getD p 0)=A at *
   generalize (d7 n λp=>y.getD p 0*m.1.getD p 0)=B at *
   have d2:decide (A>B)=false:=qO7 ox;have a0:fIx (mW m) (.int 0)=.ok (tI m.1):=rfl;have a1:fIx (mW m) (.int 1)=.ok (tI m.2):=rfl;refine ⟨_,rfl,?_⟩;generalize mW m=w at *
   exists a0,a1,k1,k2,d2;show ⟨_,rfl⟩
  .rintro ρ ⟨a,rfl⟩;exists rp18
 obtain ⟨v,e,rfl⟩:=fin;show e
def BR (h1:1<=n) (h6:n<=6) (h8:ms.length<=8) (hm:∀m∈ms,okN n m) (a5:∀j,j<ms.length->∀p,p<n->-mM<=stM ms j p/\stM ms j p<=mM) (a3:pl<n) (T:Iv ms n pl y):cY [tI y,.int (pl:Int),.lst (ms.map mW),.int (n:Int)]=.ok (.bl true):=by
 have ab:=T.len;have kw:=lu T.len ox (wnn T.len λp O=>(T.nn p O).1);obtain ⟨G,hG⟩:∃G:Nat->Int,G=λp=>d7 ms.length λj=>y.getD j 0*stM ms j p:=⟨_,rfl⟩;have ec:∀N mg me ρ (h:∀p∈List.range n,∃I,mg (.int (p:Nat)) (ρ++List.replicate (N-ρ.length) Sl.un)=some I/\me I=.ok (.int (G p))),j6 N mg yes me ((List.range n).map λp=>W.int (p:Nat)) ρ=.ok (lI ((List.range n).map G)):=λN mg me ρ h=>by
  rw[i9 (λp=>W.int (G p)) _ _ ρ (by simp;omega) h,M3]
 have ed:∀p N mg me ρ (h:∀j∈List.range ms.length,∃I,mg (.int (j:Nat)) (ρ++List.replicate (N-ρ.length) Sl.un)=some I/\me I=.ok (.int (y.getD j 0*stM ms j p))),j6 N mg yes me ((List.range ms.length).map λp=>W.int (p:Nat)) ρ=.ok (lI ((List.range ms.length).map λj=>y.getD j 0*stM ms j p)):=λp N mg me ρ h=>by
  rw[i9 (λj=>W.int (y.getD j 0*stM ms j p)) _ _ ρ (by simp;omega) h,M3]
 have a8:∀p,p<n->0<=G p:=λp O=>by
  have:=T.up p O
  rw[hG];by_cases q:p=pl
  .rw[qA2 q]at this;show qC6 ZY this
  .rw[qA4 q]at this;show this
 have a7:0<G pl:=by
  have:=T.up pl a3
  rw[qA2 rfl]at this;rw[hG]
  change 0<d7 ms.length λj=>y.getD j 0*stM ms j pl;omega
 exists rpB,iz,kw;rw[ec];rotate_left
 .intro p O;have O:p<n:=by simpa using O
  have a4:jD ((List.range ms.length).map λj=>y.getD j 0*stM ms j p)=G p:=by rw[hG];show dF _ _
  refine ⟨_,rfl,?_⟩;exists rp18;rw[ed p];rotate_left
  .intro j hj;have hj:j<ms.length:=by simpa using hj
   have hk:=getM (n:=n) (i:=j) hm hj;have am:=atM (ms:=ms) (r:=(j:Int)) ox ox;rw[qD9]at am;have l1:=hk.1;have l2:=hk.2.1;have q1:=T.nn j hj;have q2:=a5 j hj p O;have m1:fI CMulB o8 (.int (y.getD j 0)) (.int ((ms.getD j ([],[])).2.getD p 0-(ms.getD j ([],[])).1.getD p 0))=.ok (.int (y.getD j 0*stM ms j p)):=xM (i:=y.getD j 0) (j:=stM ms j p) ⟨qC6 ZY q1.1,qC6 q1.2 ZY⟩ ⟨qC6 ZY q2.1,qC6 q2.2 ZY⟩;have a0:∀x y:W,L2.atI [x,y] 0=some x:=λ_ _=>rfl;have a1:∀x y:W,L2.atI [x,y] 1=some y:=λ_ _=>rfl;refine ⟨_,rfl,?_⟩;exists am,a0,a1,m1
  exists a4
 have hl:((List.range n).map G).length=n:=ZV;have hb:Q2 aB [lI ((List.range n).map G)]=.ok (.int (aB ((List.range n).map G))):=cf ox;have a6:0<=aB ((List.range n).map G):=by
  obtain ⟨p,O,e⟩:=qB1.mp (xR (ns:=(List.range n).map G) ox);rw[<- e];show a8 p (by simpa using O)
 have a9:((List.range n).map G).getD pl 0=G pl:=j9 a3;have c1:=af (ns:=(List.range n).map G) (k:=pl) ox;rw[a9]at c1;generalize (List.range n).map G=L at *
 have d1:decide (aB L≥0)=true:=qO8 a6;have d2:decide (G pl>0)=true:=qO8 a7;exists hb,d1,c1,d2
def law_pure (ns:Zz) (h:ns.length<=63) (hb:∀x∈ns,Builtin.Int.intBits x<=1048576):lm [.scr (ns.map W.int)]=.ok (.bl true):=by
 have fin:Ok (lm [.scr (ns.map W.int)]) λv=>v=.bl true:=by
  obtain ⟨_,e0,c0,rfl⟩:=E5 hb (k:=0) ox ox;obtain ⟨_,e1,c1,rfl⟩:=E5 hb (k:=1) ox ox;obtain ⟨_,e2,c2,rfl⟩:=E5 hb (k:=2) ox ox;obtain ⟨_,e3,c3,rfl⟩:=E5 hb (k:=3) ox ox;obtain ⟨_,e4,c4,rfl⟩:=E5 hb (k:=4) ox ox;obtain ⟨_,e5,c5,rfl⟩:=E5 hb (k:=5) ox ox;obtain ⟨_,e6,c6,rfl⟩:=E5 hb (k:=6) ox ox;obtain ⟨_,e7,c7,rfl⟩:=E5 hb (k:=7) ox ox;obtain ⟨n,hn⟩:∃m:Nat,1+c0%4=(m:Int):=⟨(1+c0%4).toNat,ox⟩;obtain ⟨most,eb⟩:∃m:Nat,1+c1%14=(m:Int):=⟨(1+c1%14).toNat,ox⟩;obtain ⟨M,hM⟩:∃m:Nat,1+c4%5=(m:Int):=⟨(1+c4%5).toNat,ox⟩;have h1:1<=n:=ox;have h4:n<=4:=ox;exists rpB,zD,e0,e1,e2,hn,eb,e3;refine w4 (bO (λρ=>∃f:Int,ρ = [.par (.scr (ns.map W.int)),.val (.int (n:Int)),.val (.int (most:Int)),.val (.bl (decide (c2%3=1))),.val (.int f),.un,.un,.un,.un,.un,.un,.un,.un,.un,.un]/\1<=f/\f<=100000001) ?_ ?_)
  .refine cM (λh=>?_) (λh=>?_)
   .exists e3;show ⟨1+c3/4%100000000,rfl,ox⟩
   .exists rp18;show ⟨1,rfl,ox⟩
  rintro ρ ⟨f,rfl,hf⟩;exists e4,hM;refine y8 (λi ρ=>∃(ms:List Mv) (x:Sl),ρ = [.par (.scr (ns.map W.int)),.val (.int (n:Int)),.val (.int (most:Int)),.val (.bl (decide (c2%3=1))),.val (.int f),.own (ms.map mW),x,.un,.un,.un,.un,.un,.un,.un,.un]/\(∀m∈ms,okN n m/\(∀x∈m.1,x<=1000000000)/\∀x∈m.2,x<=1000000000)/\ms.length=i) ⟨[],_,rfl,(λm hm=>by cases hm),rfl⟩ ?_ ?_
  .rintro i w ρ hw ⟨ms,x,rfl,O,ab⟩;obtain ⟨hi,rfl⟩:=av hw;have ee:0<=(n:Int)*(i:Int)/\(n:Int)*(i:Int)<=4*5:=⟨qG0 ox ox,qM1 ox ox ox ox⟩;obtain ⟨_,em,m,rfl,hm⟩:=Bt hb (a:=12+(n:Int)*(i:Int)) (f:=f) (n:=n) (pl:=decide (c2%3=1)) h1 ox ox ox ox;refine ⟨_,rfl,?_⟩;exists em;refine ⟨ms ++ [m],_,by rw[qD0];rfl,λm' d0=>?_,by simp [ab]⟩;rcases qF9.mp d0 with q|q
   .show O m' q
   .rw[qD5.mp q];show hm
  rintro ρ ⟨ms,x,rfl,O,ab⟩;rw[qA5,qF4]at ab;have h5:ms.length<=5:=ox;have I:∀m∈ms,okN n m:=λm h=>(O m h).1;have dv:R8 ms:=wK I λm h=>⟨λx hx=>qC6 ((O m h).2.1 x hx) ZY,λx hx=>qC6 ((O m h).2.2 x hx) ZY⟩;exists rp18;refine pb (uC (λ_ z=>0<=z/\z<=1000000000) ox (λk hk=>?_) λb cv bb=>?_)
  .obtain ⟨_,ek,z,rfl⟩:=E5 hb (k:=8+(k:Int)) ox ox;refine ⟨_,rfl,?_⟩;exists ek;show ⟨_,rfl,_,rfl,qG0 ox ox,qC6 (qM1 (show z%3<=2 by omega) hf.2 ox ox) ZY⟩
  have b0:nn b:=λx hx=>by
   obtain ⟨k,hk,rfl⟩:=qF7.mp hx
   have:=(bb k ox).1
   rw[qA0,qA3 hk]at this;show this
  have a6:smS 1000000000 b:=λp=>by
   by_cases hp:p<n
   .show bb p hp
   .rw [qA0,qD7 ox]
    show ⟨ZY,ZY⟩
  subst cv;obtain ⟨p,hp⟩:∃m:Nat,c5%(b.length:Int)=(m:Int):=⟨(c5%(b.length:Int)).toNat,(qU9 (qU7 _ ox)).symm⟩;have a5:p<b.length:=by have:=qN6 c5 (show 0<(b.length:Int) by omega);omega
  obtain ⟨hh,eh⟩:∃hh:Int,L2.atI [W.int (c6%30),W.int (c7%1000000000000000000000000000000000000000000000000000000000000)] (c5/4%2)=some (.int hh):=by
   by_cases q:c5/4%2=0
   .rw[q];show ⟨_,rfl⟩
   .rw[show c5/4%2=1 by omega];show ⟨_,rfl⟩
  have ct:=C1 (aA b);have cm:chk (tM_ ms)=.ok (tM_ ms):=C1 (FH ms);obtain ⟨_,kd,ss,rfl,cx,a9,a7⟩:=yF hb (b:=b) (ms:=ms) ox I (λm h=>(O m h).2.2) ox a6;obtain ⟨fo,ep,et,dy⟩:=mD (hh:=hh) h1 ox b0 I dv ox (show 1<=most by omega) ox a5 cx a9 λs h=>(a7 s h).1;have b4:∀j,j<ms.length->∀p,p<b.length->-mM<=stM ms j p/\stM ms j p<=mM:=λj hj p hp=>by
   have hk:=getM (n:=b.length) (i:=j) I hj;have e:ms.getD j ([],[])=ms[j]:=by rw[qA0,qA3 hj];rfl
   have hx:=O _ (qG1 hj);rw[<- e]at hx;have a1:=memD hx.2.1 (show p<_ by have:=hk.1;omega);have a2:=memD hx.2.2 (show p<_ by have:=hk.2.1;omega);have a3:=N5 hk.2.2.1 p;have a4:=N5 hk.2.2.2 p;unfold stM mM;omega
  obtain ⟨ed,er,b3⟩:=rS h1 ox I ox a5 b4;have a0:∀x y:W,L2.atI [x,y] 0=some x:=λ_ _=>rfl;have a1:∀x y:W,L2.atI [x,y] 1=some y:=λ_ _=>rfl;have z0:∀x:W,L2.atI [x] 0=some x:=λ_=>rfl;have sb:v6 false (W.str "bag") (W.str "bag")=.ok (.bl true):=rfl;have sw:v6 false (W.str "weights") (W.str "bag")=.ok (.bl false):=rfl;have st:v6 true (W.str "weights") (W.str "weights")=.ok (.bl false):=rfl;have so:v6 false (W.str "open") (W.str "grows")=.ok (.bl false):=rfl;have sa:v6 false (W.str "at most") (W.str "grows")=.ok (.bl false):=rfl;have ea:v6 false (W.str "open") (W.str "at most")=.ok (.bl false):=rfl;have ec:v6 false (W.str "at most") (W.str "at most")=.ok (.bl true):=rfl;cases b3 with
  | @b y hy=>
   have kb:=BR h1 ox ox I b4 a5 hy;exists e5,hp,e6,e7,eh,ct,cm,kd,ep,et,a0,a1,er,sb,kb
  | @w y hy=>
   have d3:∀m∈ms,bdL m.1/\bdL m.2:=λm hm=>⟨λx hx=>⟨(I m hm).2.2.1 x hx,(O m hm).2.1 x hx⟩,λx hx=>⟨(I m hm).2.2.2 x hx,(O m hm).2.2 x hx⟩⟩;have kf:=rF ox ox I d3 a5 hy;have b5:=cq (s:=b) ox hy.len rfl hy.nn λp hp=>⟨qC6 ZY (a6 p).1,qC6 (a6 p).2 ZY⟩;have bw:∀s∈ss,D7 [tI y,tI s]=.ok (.int (d7 b.length λp=>y.getD p 0*s.getD p 0)):=λs T=>cq ox hy.len (a7 s T).1.len hy.nn λp hp=>⟨qC6 ZY ((a7 s T).2 p).1,qC6 ((a7 s T).2 p).2 ZY⟩;have cp:∀s∈ss,(d7 b.length λp=>y.getD p 0*s.getD p 0)<=d7 b.length λp=>y.getD p 0*b.getD p 0:=λs T=>lX hy (a7 s T).1;have a8:∀s,Rch ms b s->0<=s.getD p 0/\s.getD p 0*y.getD p 0<=d7 b.length λp=>y.getD p 0*b.getD p 0:=λs T=>⟨uc I b0 T p a5,AB I b0 a5 hy T⟩;have hW:(d7 b.length λp=>y.getD p 0*b.getD p 0)<=2^410:=by
    have:=(cF (f:=λp=>y.getD p 0*b.getD p 0) (B:=2^300*1000000000) (n:=b.length) λk hk=>⟨qC6 ZY (qG0 (hy.nn k hk).1 (a6 k).1),qM1 (hy.nn k hk).2 (a6 k).2 (a6 k).1 ZY⟩).2
    show qC6 this (qC6 (qH8 (show (b.length:Int)<=4 by omega) ZY) ZY)
   have cn:=hy.one;have cc:=hy.nn p a5;have yl:=hy.len;have cy:=af (ns:=y) (k:=p) ox;have ef:∀N mg mc me ρ (h:∀s∈ss,∃b6,mg (tI s) (ρ++List.replicate (N-ρ.length) Sl.un)=some b6/\mc b6=.ok false),j6 N mg mc me (ss.map tI) ρ=.ok (.lst []):=λN mg mc me ρ hh=>by
    rw [J2 tI tI (λ_=>false) ss ρ ox λx hx=>by
     obtain ⟨r,h1,h2⟩:=hh x hx;show ⟨r,h1,h2,λz=>by cases z⟩]
    rw[qS9.mpr ZV];rfl
   generalize (d7 b.length λp=>y.getD p 0*b.getD p 0)=W0 at *
   obtain ⟨sl,d4⟩:∃sl,sl=ss.map tI:=⟨_,rfl⟩;rw[<- d4]at kd et ef;rcases dy with rfl|⟨rfl,hg⟩|⟨v,rfl,s,T,hv⟩
   .exists e5,hp,e6,e7,eh,ct,cm,kd,ep,et,a0,a1,z0,er,sw,st,kf,so,ea,b5;rw[ef]
    .exists rp18
    .intro s T;have k:=bw s T;have d:=cp s T;generalize (d7 b.length λp=>y.getD p 0*s.getD p 0)=A at *
     have d2:decide (A>W0)=false:=qO7 ox;refine ⟨_,rfl,?_⟩;exists a1,k,d2
   .exfalso;obtain ⟨s,T,hN⟩:=hg (W0+1);obtain ⟨t1,t2⟩:=a8 s T
    have:=qH9 cn t1
    omega
   .obtain ⟨t1,t2⟩:=a8 s T;rw[hv]at t1 t2;have t3:=qH9 cn t1;have m1:=xM (i:=v) (j:=y.getD p 0) ⟨qC6 ZY t1,ox⟩ ⟨qC6 ZY cc.1,qC6 cc.2 ZY⟩;have d1:decide (v*y.getD p 0>W0)=false:=qO7 ox;exists e5,hp,e6,e7,eh,ct,cm,kd,ep,et,a0,a1,er,sw,st,kf,sa,ec,b5,cy,m1,d1;rw[ef]
    .exists rp18
    .intro s T;have k:=bw s T;have d:=cp s T;generalize (d7 b.length λp=>y.getD p 0*s.getD p 0)=A at *
     have d2:decide (A>W0)=false:=qO7 ox;refine ⟨_,rfl,?_⟩;exists a1,k,d2
 obtain ⟨v,e,rfl⟩:=fin;show e
end K95
set_option maxHeartbeats 4000000
open PySem L2 TP
namespace K95
def D9 {K:Frag}{d:Mode}:=(fC (K:=K) (d:=d) (g:=C9) (λ_ _=>rfl) (λ_ _ _=>.int))
def bh {K:Frag}{d:Mode}:=(fC (K:=K) (d:=d) (g:=gSub) (λ_ _=>rfl) (λ_ _ _=>.int))
def xLt {K:Frag}{d:Mode}:=(fC (K:=K) (d:=d) (g:=gLt) (λ_ _=>rfl) (λ_ _ _=>.bl))
def xLe {K:Frag}{d:Mode}:=(fC (K:=K) (d:=d) (g:=gLe) (λ_ _=>rfl) (λ_ _ _=>.bl))
def xGt {K:Frag}{d:Mode}:=(fC (K:=K) (d:=d) (g:=gGt) (λ_ _=>rfl) (λ_ _ _=>.bl))
def xGe {K:Frag}{d:Mode}:=(fC (K:=K) (d:=d) (g:=gGe) (λ_ _=>rfl) (λ_ _ _=>.bl))
local macro_rules | `(tactic| trivial)=>`(tactic| first | exact Or.inl rfl | exact Or.inr rfl | exact Or.inr (Or.inl rfl) | exact Or.inr (Or.inr rfl) | assumption | exact ⟨rfl,rfl,rfl,by decide +kernel,rfl,by decide +kernel,by decide +kernel⟩ | exact Room.mono (by assumption) (by decide) | exact ⟨rfl,by decide +kernel,by decide +kernel,by decide +kernel,by decide +kernel,by decide,by decide +kernel,by decide +kernel⟩)
abbrev hk (w:World):Frag:=ve w.params
structure Blt (mg:Vx):Prop where
 bool_:mg "bool" = none
 enumerate_:mg "enumerate" = none
 int_:mg "int" = none
 isinstance_:mg "isinstance" = none
 len_:mg "len" = none
 list_:mg "list" = none
 max_:mg "max" = none
 min_:mg "min" = none
 range_:mg "range" = none
 reversed_:mg "reversed" = none
 sorted_:mg "sorted" = none
 sum_:mg "sum" = none
 tuple_:mg "tuple" = none
 zip_:mg "zip" = none
def En (w:World)(mg:Vx):Prop:=∃h:Heap,(hk w).In h/\h.Ns mainGlobals mg
def bn (Y:En w mg)(e:PySem.W.nsIn (hk w) mainGlobals x=some none):mg x=none:=Y.elim λ_ q=>PySem.W.mg_none_of q.1 q.2 e
def bl (Y:En w mg):Blt mg:=⟨bn Y ZJ,bn Y ZJ,bn Y ZJ,bn Y ZJ,bn Y ZJ,bn Y ZJ,bn Y ZJ,bn Y ZJ,bn Y ZJ,bn Y ZJ,bn Y ZJ,bn Y ZJ,bn Y ZJ,bn Y ZJ⟩
abbrev FD (I:String)(i:Nat)(pm:Value)(c:Nat):FuncData:=PySem.W.fnOf I I (V2 (top i)) (E4 (top i)) (c8 (top i)) .none .none .none pm none (.ref c) .none
def dk (Y:En w mg){I:String}{c:Nat}(e:(PySem.W.nsIn (hk w) mainGlobals I,(hk w).lookup f,PySem.W.codeIn (hk w) (.ref c) I,PySem.W.keepIn (hk w) (.ref f))=(some (some (.ref f)),some (hxG I i pm c),true,true)) (O:∀(kV doc pm:Value) (an:Option Addr) (cdv ct:Value) (us:VZ),us.length=ps.length->bindArgs (PySem.W.fnOf I I (V2 (top i)) (E4 (top i)) (c8 (top i)) .none kV doc pm an cdv ct) ⟨us,[]⟩=pure (ps.zip us)):Def (hk w) mg I (top i) ps f (FD I i pm c):=by
 obtain ⟨h,X,G⟩:=Y;injection e with a e
 injection e with l e
 injection e with c k
 have F:=GP (st:=top i) l c k;show ⟨F,PySem.W.mg_of X G a,F.binds O⟩
def okF (D:Def K mg x st ps f fd) (S:f8 N ps (c8 st)) (hd:d=.F\/d=.V) (hn:ps.length=n) (I:N.length=l) (b:∀{cdv:Value}{A:Around}{outer:List Env}{s:Shared}{H:Hp}{E:XK},Room k (A.deeper (PyProof.Rows.envOfC x (c8 st) s.heap.objs.size f cdv))->PSs (bF CX0 P w K mg base N x (c8 st) f cdv A outer s H E).nox (E4 st) (tSt K (λ_ _=>False) d m)):FnOk P w K mg base CX0 (k+1) f fd ps (spM K n d (i4 n l m)):=by
 subst hn I;show D.F.ok S (λ_ _ _ _ h=>h.1) λcdv A outer s H vs Q E O h=>⟨_,b O,vK hd h⟩
def okI (D:Def K mg x st ps f fd) (S:f8 N ps (c8 st)) (hn:ps.length=n) (I:N.length=l) (b:∀(p:Addr){cdv:Value}{A:Around}{outer:List Env}{s:Shared}{H:Hp}{E:XK},Room k (A.deeper (PyProof.Rows.envOfC x (c8 st) s.heap.objs.size f cdv))->PSs (bF CX0 P w K mg base N x (c8 st) f cdv A outer s H E).nox (E4 st) (tStI K (λ_ _=>False) p (m p))):FnOk P w K mg base CX0 (k+1) f fd ps (iZ K n (K7 n l m)):=by
 subst hn I;show D.F.ok S (λ_ _ _ _ h=>h.1) λcdv A outer s H vs Q E O h=>(CO h).elim λp q=>⟨_,b p O,q⟩
def okL (D:Def K mg x st ps f fd) (S:f8 N ps (c8 st)) (hd:d=.F\/d=.V) (hn:ps.length=n) (I:N.length=l) (b:∀{A:Around}{outer:List Env}{s:Shared}{H:Hp}{E:XK},Room k (A.deeper (PyProof.Rows.envOfC x (c8 st) s.heap.objs.size f fd.code))->PSs (bF CX0 P w K mg base N x (c8 st) f fd.code A outer s H E).nox (E4 st) (tSt K (λ_ _=>False) d m)):FnOk P w K mg base CX0 (k+1) f fd ps (spM K n d (i4 n l m)):=by
 subst hn I;show D.F.okC S (λ_ _ _ _ h=>h.1) λA outer s H vs Q E O h=>⟨_,b O,vK hd h⟩
def qcD {X:Cx}{K:Frag}{d:Mode}{e:Expr}{es:VV}{pos:Pos}{T:Zp}{k:Nat}{f:Addr}{fd:FuncData}{ps:VJ}{x:Str}{st:Stmt}{p:Pos}{n N:Nat}{m:Zy}(F:FnOk X.prog X.w X.K X.mg X.base CX0 k f fd ps (spM K n d (i4 n N m))) (D:Def X.K X.mg x st ps f fd)
  (ha:PA X (e::es) (tA K (λ_ _=>False) .B T)) (hd:d=.F\/d=.V:=by first|show .inl rfl|show .inr rfl) (hr:Room k X.A:=by show Room.mono (by assumption) ZY) (hg:Gl X x:=by rfl) (I:(x == ("__debug__" : Str))=false:=by decide) (he:starEach (e::es) X.env=(false,eval e X.env)::starEach es X.env:=by rfl) (O:(backTo pos (starEach es X.env)).any (·.1)=false:=by rfl) :
  PE X (.Call (.Name x p) (e::es) [] pos) (tM K (λ_ _=>False) d (bA (i4 n N m) T)):=Fb F hd hr hg D.m D.F.kp D.b ha I he O
def Jf:((224,173,26, "leaving.<locals>.<lambda>"): Addr×Nat×Nat×Str)∈L2.lamT:=by
 unfold L2.lamT;show qB3
def n4 {X:Cx}{K:Frag}{EX:EXT}{cs:Scope}{N':VJ}{n:Nat}{tg iter O:Expr}{I:VV}{dd:Mode}{g:TG}{mg:Zg}{mi:Zp}{ta:Zo}{ma:Zx}{pos:Pos}(S:f7 X.env.scope cs X.N N') (hc:X.calm=true) (hi:PI X tg iter (tIt K EX false dd mi))
  (hg:∀cl ex s H,PG (m9 X cs cl N' ex s H) tg g) (T:Gt K dd g mg) (hk:K5 X.N.length g) (ht:∀cl ex s H,PIf (m9 X cs cl N' ex s H) I (tT K EX ta)) (he:∀cl ex s H,PE (m9 X cs cl N' ex s H) O (tM K EX .V ma))
  (hn:N'.length=n:=by rfl) (hs:∀x,foldedSetIterable iter X.env x=pure x:=by intro _;rfl):PE X (.ListComp O [⟨tg,iter,I,0⟩] cs pos) (tM K EX .F (j8 n mi mg ta ma)):=by
 subst hn;show EZ S hc hi hg T hk ht he hs
def R3 {X:Cx}{K:Frag}{EX:EXT}{d:Mode}{i n:Nat}{y:Str}{py:Pos}{cs:Scope}{N':VJ}{tg iter T:Expr}{O:VV}{dd:Mode}{g:TG}{mg:Zg}{mi:Zp}{ta:Zo}{ma:Zx}{I pos:Pos}(S:f7 X.env.scope cs X.N N') (hc:X.calm=true) (hi:PI X tg iter (tIt K EX false dd mi))
  (hg:∀cl ex s H,PG (m9 X cs cl N' ex s H) tg g) (a0:Gt K dd g mg) (hk:K5 X.N.length g) (ht:∀cl ex s H,PIf (m9 X cs cl N' ex s H) O (tT K EX ta)) (he:∀cl ex s H,PE (m9 X cs cl N' ex s H) T (tM K EX .V ma))
  (hN:X.N.Nodup) (hy:X.N[i]?=some y) (hl:Loc X.env.scope y)
  (hn:N'.length=n:=by rfl) (a3:swapsWith (.ListComp T [⟨tg,iter,O,0⟩] cs I) (some (.Name y py)) pos.line X.env=pure true:=by rfl) (hf:X.fn y=true\/X.env.scope.names.lookup y=some .local:=by first|show .inl rfl|show .inr rfl|assumption)
  (hs:∀x,foldedSetIterable iter X.env x=pure x:=by intro _;rfl):PS X (.Assign [.Name y py] (.ListComp T [⟨tg,iter,O,0⟩] cs I) pos) (tSt K EX d (sF i (j8 n mi mg ta ma))):=by
 subst hn;show EQ S hc hi hg a0 hk ht he hN hy hl a3 hf hs
def mn {X:Cx}{K:Frag}{EX:EXT}{d:Mode}{i n:Nat}{y:Str}{py:Pos}{cs:Scope}{N':VJ}{yc:Str}{tg iter T:Expr}{O:VV}{dd:Mode}{g:TG}{mg:Zg}{mi:Zp}{ta:Zo}{ma:Zx}{I pos:Pos}(S:G0 X.env.scope cs X.N N' yc) (hc:X.calm=true) (hi:PI X tg iter (tIt K EX false dd mi))
  (hg:∀cl ex s H,PG (n8 X cs yc cl N' ex s H) tg g) (a0:Gt K dd g mg) (hk:K5 X.N.length g) (ht:∀cl ex s H,PIf (n8 X cs yc cl N' ex s H) O (tT K EX ta)) (he:∀cl ex s H,PE (n8 X cs yc cl N' ex s H) T (tM K EX .V ma))
  (hN:X.N.Nodup) (hy:X.N[i]?=some y) (hl:Loc X.env.scope y)
  (hn:N'.length=n:=by rfl) (a3:swapsWith (.ListComp T [⟨tg,iter,O,0⟩] cs I) (some (.Name y py)) pos.line X.env=pure true:=by rfl) (hf:X.fn y=true\/X.env.scope.names.lookup y=some .local:=by first|show .inl rfl|show .inr rfl|assumption)
  (hs:∀x,foldedSetIterable iter X.env x=pure x:=by intro _;rfl):PS X (.Assign [.Name y py] (.ListComp T [⟨tg,iter,O,0⟩] cs I) pos) (tSt K EX d (sF i (j8 n mi mg ta ma))):=by
 subst hn;show AN S hc hi hg a0 hk ht he hN hy hl a3 hf hs
def us0 {P:List Value->Prop}(h:P []):∀us:List Value,us.length=0->P us:=λus e=>by
 rw[qY5.mp e];show h
def us1 {P:List Value->Prop}(h:∀I,P [I]):∀us:List Value,us.length=1->P us:=λus e=>by
 cases us with
 |nil=>cases e
 |cons a us=>show us0 (P:=λus=>P (a::us)) (h a) us (Nat.succ.inj e)
def us2 {P:List Value->Prop}(h:∀O I,P [O,I]):∀us:List Value,us.length=2->P us:=λus e=>by
 cases us with
 |nil=>cases e
 |cons a us=>show us1 (P:=λus=>P (a::us)) (λI=>h a I) us (Nat.succ.inj e)
def us3 {P:List Value->Prop}(h:∀T O I,P [T,O,I]):∀us:List Value,us.length=3->P us:=λus e=>by
 cases us with
 |nil=>cases e
 |cons a us=>show us2 (P:=λus=>P (a::us)) (λO I=>h a O I) us (Nat.succ.inj e)
def us4 {P:List Value->Prop}(h:∀a0 O I T,P [a0,O,I,T]):∀us:List Value,us.length=4->P us:=λus e=>by
 cases us with
 |nil=>cases e
 |cons a us=>show us3 (P:=λus=>P (a::us)) (λO I T=>h a O I T) us (Nat.succ.inj e)
def us5 {P:List Value->Prop}(h:∀a0 O I T a4,P [a0,O,I,T,a4]):∀us:List Value,us.length=5->P us:=λus e=>by
 cases us with
 |nil=>cases e
 |cons a us=>show us4 (P:=λus=>P (a::us)) (λO I T a4=>h a O I T a4) us (Nat.succ.inj e)
def us6 {P:List Value->Prop}(h:∀a0 T I a3 a4 O,P [a0,T,I,a3,a4,O]):∀us:List Value,us.length=6->P us:=λus e=>by
 cases us with
 |nil=>cases e
 |cons a us=>show us5 (P:=λus=>P (a::us)) (λT I a3 a4 O=>h a T I a3 a4 O) us (Nat.succ.inj e)
def wP:f8 ["move"] ["move"] (c8 (top 4)):=ZZ
def wN:f8 ["stand","move"] ["stand","move"] (c8 (top 6)):=ZZ
def lQ:f8 ["stand","other"] ["stand","other"] (c8 (top 7)):=ZZ
def ja:f8 ["cap","other","number","bound"] ["cap","other"] (c8 (top 9)):=ZZ
def fO:f8 ["cap","caps","other"] ["cap","caps"] (c8 (top 10)):=ZZ
def qF:f8 ["cap","move"] ["cap","move"] (c8 (top 11)):=ZZ
def oB:f8 ["cap","move"] ["cap","move"] (c8 (top 12)):=ZZ
def wO:f8 ["cap","elder"] ["cap","elder"] (c8 (top 13)):=ZZ
def qE:f8 ["cap"] ["cap"] (c8 (top 15)):=ZZ
def lO:f8 ["caps","found","cap"] ["caps"] (c8 (top 14)):=ZZ
def Y8:f8 ["tree","number","numbers","at"] ["tree","number"] (c8 (top 18)):=ZZ
def dM:f8 ["moor","tree","at","number","move","cap","elder"] ["moor","tree","at","number"] (c8 (top 17)):=ZZ
def ar:f8 ["moor","most","tree","at","number"] ["moor","most"] (c8 (top 16)):=ZZ
def oT:f8 ["moor","most","tree"] ["moor","most"] (c8 (top 19)):=ZZ
def tO:f8 ["moor"] ["moor"] (c8 (top 24)):=ZZ
def cI:f8 ["moor","row","needed","number"] ["moor","row"] (c8 (top 21)):=ZZ
def tL:f8 ["stand","step","times"] ["stand","step","times"] (c8 (top 23)):=ZZ
def cH:f8 ["moor","row","total","number"] ["moor","row"] (c8 (top 22)):=ZZ
def IA:f8 ["tree","number"] ["tree","number"] (c8 (top 26)):=ZZ
def dl:f8 ["tree","elder","number","path"] ["tree","elder","number"] (c8 (top 27)):=ZZ
def hZ:f8 ["moor","tree","number","row"] ["moor","tree","number"] (c8 (top 29)):=ZZ
def J9:f8 ["moor","tree","number","found","cap","elder","higher","places"] ["moor","tree","number"] (c8 (top 28)):=ZZ
def N1:f8 ["moor","row","times","wanted","needed","step","first_and_last"] ["moor","row","times","wanted"] (c8 (top 32)):=ZZ
def oA:f8 ["cap","step","places","wanted"] ["cap","step","places","wanted"] (c8 (top 31)):=ZZ
def J1:f8 ["moor","tree","number","height","wanted","blocks","at","cap","elder","places","row","times"] ["moor","tree","number","height"] (c8 (top 30)):=ZZ
def lP:f8 ["moor","place","most","caps","numbers"] ["moor","place","most"] (c8 (top 33)):=ZZ
def DX:f8 ["place","many"] ["place","many"] (c8 (top 35)):=ZZ
def Y0:f8 ["moves","place","many","steps","table"] ["moves","place","many"] (c8 (top 38)):=ZZ
def gq:f8 ["table","column","gain"] ["table"] (c8 (top 39)):=ZZ
def jV:f8 ["table","held","column","lines"] ["table","held","column"] (c8 (top 40)):=ZZ
def tP:f8 ["row","by","column","scale"] ["row","by","column","scale"] (c8 (top 42)):=ZZ
def jU:f8 ["table","line","column","scale","by"] ["table","line","column","scale"] (c8 (top 41)):=ZZ
def E8:f8 ["one","other","rest"] ["one","other"] (c8 (top 46)):=ZZ
def E7:f8 ["numbers","shared","number"] ["numbers"] (c8 (top 45)):=ZZ
def dL:f8 ["table","place","scale","many_moves","losses"] ["table","place","scale","many_moves"] (c8 (top 44)):=ZZ
def cJ:f8 ["table","held","column","scale","many_moves","times","line","holder"] ["table","held","column","scale","many_moves"] (c8 (top 43)):=ZZ
def E9:f8 ["moves","place","many","table","held","scale","column","line"] ["moves","place","many"] (c8 (top 37)):=ZZ
def bp:f8 ["_law_script","_law_k","_law_number"] ["_law_script","_law_k"] (c8 (top 48)):=ZZ
def D3:f8 ["_law_script","_law_at","_law_many","_law_ring","_law_times","_law_take","_law_put","_law_p","_law_cell_here","_law_one"] ["_law_script","_law_at","_law_many","_law_ring","_law_times"] (c8 (top 49)):=ZZ
def dm:f8 ["_law_stand","_law_other","_law_p"] ["_law_stand","_law_other"] (c8 (top 50)):=ZZ
def kP:f8 ["_law_stand","_law_move_here"] ["_law_stand","_law_move_here"] (c8 (top 51)):=ZZ
def S3:f8 ["_law_script","_law_begin","_law_moves","_law_stands","_law_k","_law_goers"] ["_law_script","_law_begin","_law_moves"] (c8 (top 52)):=ZZ
def O9:f8 ["_law_row","_law_moves","_law_many","_law_need_here","_law_gain","_law_k","_law_p"] ["_law_row","_law_moves","_law_many"] (c8 (top 53)):=ZZ
def A2:f8 ["_law_blocks_here","_law_stand","_law_moves","_law_block","_law_row","_law_laps","_law_need_here","_law_gain","_law_last"] ["_law_blocks_here","_law_stand","_law_moves"] (c8 (top 54)):=ZZ
def lU:f8 ["_law_weights","_law_counts"] ["_law_weights","_law_counts"] (c8 (top 55)):=ZZ
def lT:f8 ["_law_some","_law_many"] ["_law_some","_law_many"] (c8 (top 56)):=ZZ
def bK:f8 ["_law_weights","_law_place","_law_moves","_law_many","_law_move_here"] ["_law_weights","_law_place","_law_moves","_law_many"] (c8 (top 57)):=ZZ
def ia:f8 ["_law_bag_here","_law_place","_law_moves","_law_many","_law_gain"] ["_law_bag_here","_law_place","_law_moves","_law_many"] (c8 (top 58)):=ZZ
def N3:f8 ["_law_land","_law_most","_law_place","_law_wanted","_law_height","_law_tree","_law_number","_law_cap"] ["_law_land","_law_most","_law_place","_law_wanted","_law_height"] (c8 (top 59)):=ZZ
def Q4:f8 ["_law_found","_law_land","_law_most","_law_place","_law_height","_law_drawn_here","_law_there"] ["_law_found","_law_land","_law_most","_law_place","_law_height","_law_drawn_here"] (c8 (top 60)):=ZZ
def G9:f8 ["_law_script","_law_many","_law_most","_law_ring","_law_times","_law_moves","_law_k","_law_begin","_law_place","_law_height","_law_land","_law_drawn_here","_law_found","_law_roof","_law_weight"] ["_law_script"] (c8 (top 61)):=ZZ
section
variable {P:Program}{w:World}{mg:Vx}{base:Heap}(Y:En w mg)
include Y
def fH:Def (hk w) mg "change" (top 4) ["move"] 51 (FD "change" 4 yf 50):=dk Y ZJ λ_ _ _ _ _ _=>us1 λ_=>rfl
abbrev Qa:List Str:=["cap","move"]
abbrev Qb:List Str:=["stand","move","number","take","put"]
abbrev Qc:List Str:=["tree","number"]
abbrev Qd:List Str:=["moor","most"]
abbrev Qe:List Str:=["moor","row"]
abbrev Qf:List Str:=["moor","tree","number"]
abbrev Qg:List Str:=["moves","place","many"]
abbrev Qh:List Str:=["_law_script","_law_at","_law_many","_law_ring","_law_times","_law_take","_law_put","#_law_p","_law_cell_here","_law_one","_law_p"]
abbrev Qi:List Str:=["_law_blocks_here","_law_stand","_law_moves","_law_block","_law_row","_law_laps","_law_need_here","_law_gain","_law_last","_law_p"]
abbrev Qj:List Str:=["move","take","put"]
abbrev Qk:List Str:=["stand","move"]
abbrev Ql:List Str:=["stand","other"]
abbrev Qm:List Str:=["stand","other","number","wanted"]
abbrev Qn:List Str:=["cap","move","number","step"]
abbrev Qo:List Str:=["cap","elder"]
abbrev Qp:List Str:=["cap","elder","number","old"]
abbrev Qq:List Str:=["stand","step","times"]
abbrev Qr:List Str:=["stand","step","times","number","by"]
abbrev Qs:List Str:=["cap","step","places","wanted"]
abbrev Qt:List Str:=["place","many"]
abbrev Qu:List Str:=["moves","place","many","steps","table"]
abbrev Qv:List Str:=["row","by","column","scale"]
abbrev Qw:List Str:=["row","by","column","scale","number","mate"]
abbrev Qx:List Str:=["table","line","column","scale","by","at","row"]
abbrev Qy:List Str:=["_law_stand","_law_move_here"]
abbrev Qz:List Str:=["_law_blocks_here","_law_stand","_law_moves","_law_block","_law_row","_law_laps","_law_need_here","_law_gain","_law_last"]
abbrev QB:List Str:=["_law_weights","_law_counts"]
abbrev QC:List Str:=["_law_some","_law_many"]
abbrev QD:List Str:=["_law_script"]
abbrev QE:List Str:=["moor","tree","at","number"]
abbrev QF:List Str:=["moor","tree","at","number","move","cap","elder","row"]
abbrev QG:List Str:=["moor","most","tree","row"]
abbrev QH:List Str:=["tree","elder","number"]
abbrev QI:List Str:=["tree","elder","number","path","at"]
abbrev QJ:List Str:=["moor","tree","number","found","cap","elder","higher","places","place"]
abbrev QK:List Str:=["moor","row","times","wanted"]
abbrev QL:List Str:=["cap","step","places","wanted","place"]
abbrev QM:List Str:=["moor","tree","number","height"]
abbrev QN:List Str:=["moor","tree","number","height","wanted","blocks","at","cap","elder","places","row","times","bound"]
abbrev QO:List Str:=["moor","place","most","caps","numbers","cap"]
abbrev QP:List Str:=["moves","place","many","steps","table","move"]
abbrev QQ:List Str:=["moves","place","many","steps","table","at"]
abbrev QR:List Str:=["moves","place","many","steps","table","step"]
abbrev QS:List Str:=["table","held","column"]
abbrev QT:List Str:=["table","held","column","lines","line"]
abbrev QU:List Str:=["table","line","column","scale"]
abbrev QV:List Str:=["numbers","shared","#number","number"]
abbrev QW:List Str:=["table","place","scale","many_moves"]
abbrev QX:List Str:=["table","place","scale","many_moves","losses","gain"]
abbrev QY:List Str:=["table","held","column","scale","many_moves"]
abbrev QZ:List Str:=["moves","place","many","table","held","scale","column","line","at"]
abbrev JY:List Str:=["_law_script","_law_at","_law_many","_law_ring","_law_times"]
abbrev JZ:List Str:=["_law_script","_law_at","_law_many","_law_ring","_law_times","_law_take","_law_put","_law_p","_law_cell_here","_law_one"]
abbrev Va:List Str:=["_law_stand","_law_other"]
abbrev Vb:List Str:=["_law_stand","_law_move_here","_law_p"]
abbrev Vc:List Str:=["_law_script","_law_begin","_law_moves"]
abbrev Vd:List Str:=["_law_script","_law_begin","_law_moves","_law_stands","_law_k","_law_goers","_law_move_here"]
abbrev Ve:List Str:=["_law_row","_law_moves","_law_many"]
abbrev Vf:List Str:=["_law_blocks_here","_law_stand","_law_moves"]
abbrev Vg:List Str:=["_law_blocks_here","_law_stand","_law_moves","_law_block","_law_row","_law_laps","_law_need_here","_law_gain","_law_last","_law_k"]
abbrev Vh:List Str:=["_law_weights","_law_counts","_law_p"]
abbrev Vi:List Str:=["_law_some","_law_many","_law_x"]
abbrev Vj:List Str:=["_law_weights","_law_place","_law_moves","_law_many"]
abbrev Vk:List Str:=["_law_bag_here","_law_place","_law_moves","_law_many"]
abbrev Vl:List Str:=["_law_bag_here","_law_place","_law_moves","_law_many","_law_gain","_law_p"]
abbrev Vm:List Str:=["_law_land","_law_most","_law_place","_law_wanted","_law_height"]
abbrev Vn:List Str:=["_law_found","_law_land","_law_most","_law_place","_law_height","_law_drawn_here"]
abbrev Vo:List Str:=["_law_found","_law_land","_law_most","_law_place","_law_height","_law_drawn_here","_law_there","_law_stand"]
abbrev Vp:List Str:=["_law_script","_law_many","_law_most","_law_ring","_law_times","_law_moves","_law_k","_law_begin","_law_place","_law_height","_law_land","_law_drawn_here","_law_found","_law_roof","_law_weight"]
abbrev Vq:List Str:=["_law_script","_law_many","_law_most","_law_ring","_law_times","_law_moves","_law_k","_law_begin","_law_place","_law_height","_law_land","_law_drawn_here","_law_found","_law_roof","_law_weight","_law_p"]
abbrev Vr:List Str:=["_law_script","_law_many","_law_most","_law_ring","_law_times","_law_moves","_law_k","_law_begin","_law_place","_law_height","_law_land","_law_drawn_here","_law_found","_law_roof","_law_weight","_law_stand"]
def Vs {K:Frag}{d:Mode}:=(o7 (K:=K) (d:=d) (C:=CMulB) (g:=o8) (λ_ _=>rfl) (λ_ _ _=>.int))
def Vt {K:Frag}{d:Mode}:=(o7 (K:=K) (d:=d) (C:=O1) (g:=K3) (λ_ _=>rfl) (λ_ _ _=>.int))
def Vu {K:Frag}{d:Mode}:=(o7 (K:=K) (d:=d) (C:=t9) (g:=u8) (λ_ _=>rfl) (λ_ _ _=>.int))
def Vv {K:Frag}{d:Mode}:=(o7 (K:=K) (d:=d) (C:=O6) (g:=K3) (λ_ _=>rfl) (λ_ _ _=>.int))
def Vw (n:Nat)(a b:VJ){c:Scope}(h:f7 (c8 (top n)) c a b:=by trivial):=h
def gA:FnOk P w (hk w) mg base CX0 1 51 (FD "change" 4 yf 50) ["move"] (spM (hk w) 1 .F aI):=
 okF (fH Y) wP (.inl rfl) rfl rfl λI=>(d5 (h9 (D6 B7 (B6 (c:=true)) ZQ (bl Y).tuple_ r9 (b7 (h7 (n4 (Vw 4 ["move"] Qj) rfl (aw ZQ (bl Y).zip_ (b7 (f6 (d8 (qv .B 0) d6)) (b7 (f6 (d8 (qv .B 0) d6)) b9))) (λ_ _ _ _=>(@B4 _ (hk w) _ _ _ _ 2 rfl (k7 (@e8 _ _ 1 _ (by decide +kernel:(Qj:VJ).Nodup) rfl (Or.inl rfl) (.inr rfl)) (k7 (@e8 _ _ 2 _ (by decide +kernel:(Qj:VJ).Nodup) rfl (Or.inl rfl) (.inr rfl)) B3)) ZQ ZQ ZQ)) (F5 (.inr rfl) (k9 (.inr rfl) i5 (k9 (.inr rfl) i5 B5))) (X5 (z8 (show 1<=1 by decide) (z8 (show 1<=2 by decide) X6))) (λ_ _ _ _=>n6) (λ_ _ _ _=>(g9 P2 bh (qv .B 2) (qv .B 1))))) b9))))
def qc:Def (hk w) mg "source" (top 6) Qk 56 (FD "source" 6 jC 55):=dk Y ZJ λ_ _ _ _ _ _=>us2 λ_ _=>rfl
def xB:FnOk P w (hk w) mg base CX0 1 56 (FD "source" 6 jC 55) Qk (spM (hk w) 2 .F gK):=
 okF (qc Y) wN (.inl rfl) rfl rfl λI=>(d5 (h9 (D6 B7 (B6 (c:=true)) ZQ (bl Y).tuple_ r9 (b7 (h7 (n4 (Vw 6 Qk Qb) rfl (aw ZQ (bl Y).zip_ (b7 (qv .B 0) (b7 (f6 (d8 (qv .B 1) d6)) (b7 (f6 (d8 (qv .B 1) d6)) b9)))) (λ_ _ _ _=>(@B4 _ (hk w) _ _ _ _ 3 rfl (k7 (@e8 _ _ 2 _ (by decide +kernel:(Qb:VJ).Nodup) rfl (Or.inl rfl) (.inr rfl)) (k7 (@e8 _ _ 3 _ (by decide +kernel:(Qb:VJ).Nodup) rfl (Or.inl rfl) (.inr rfl)) (k7 (@e8 _ _ 4 _ (by decide +kernel:(Qb:VJ).Nodup) rfl (Or.inl rfl) (.inr rfl)) B3))) ZQ ZQ ZQ)) (F5 (.inr rfl) (k9 (.inr rfl) i5 (k9 (.inr rfl) i5 (k9 (.inr rfl) i5 B5)))) (X5 (z8 (show 2<=2 by decide) (z8 (show 2<=3 by decide) (z8 (show 2<=4 by decide) X6)))) (λ_ _ _ _=>n6) (λ_ _ _ _=>(n9 (fc rfl) (b_2 (g:=eK)) ZQ (bl Y).max_ cj (b7 (qv .B 3) (b7 (g9 x4 D9 (g9 P2 bh (qv .B 2) (qv .B 4)) (qv .B 3)) b9)))))) b9))))
def bD:Def (hk w) mg "least_over" (top 7) Ql 61 (FD "least_over" 7 jC 60):=dk Y ZJ λ_ _ _ _ _ _=>us2 λ_ _=>rfl
def dU:FnOk P w (hk w) mg base CX0 1 61 (FD "least_over" 7 jC 60) Ql (spM (hk w) 2 .F U1):=
 okF (bD Y) lQ (.inl rfl) rfl rfl λI=>(d5 (h9 (D6 B7 (B6 (c:=true)) ZQ (bl Y).tuple_ r9 (b7 (h7 (n4 (Vw 7 Ql Qm) rfl (aw ZQ (bl Y).zip_ (b7 (qv .B 0) (b7 (qv .B 1) b9))) (λ_ _ _ _=>(@B4 _ (hk w) _ _ _ _ 2 rfl (k7 (@e8 _ _ 2 _ (by decide +kernel:(Qm:VJ).Nodup) rfl (Or.inl rfl) (.inr rfl)) (k7 (@e8 _ _ 3 _ (by decide +kernel:(Qm:VJ).Nodup) rfl (Or.inl rfl) (.inr rfl)) B3)) ZQ ZQ ZQ)) (F5 (.inr rfl) (k9 (.inr rfl) i5 (k9 (.inr rfl) i5 B5))) (X5 (z8 (show 2<=2 by decide) (z8 (show 2<=3 by decide) X6))) (λ_ _ _ _=>n6) (λ_ _ _ _=>(n9 (fc rfl) (b_2 (g:=eK)) ZQ (bl Y).max_ cj (b7 (qv .B 2) (b7 (qv .B 3) b9)))))) b9))))
def dunder:Def (hk w) mg "under" (top 9) ["cap","other"] 68 (FD "under" 9 x5 67):=dk Y ZJ λ_ _ _ _ _ _=>us2 λ_ _=>rfl
def jl:FnOk P w (hk w) mg base CX0 1 68 (FD "under" 9 x5 67) ["cap","other"] (spM (hk w) 2 .F ae):=
 okF (dunder Y) ja (.inl rfl) rfl rfl λI=>(c9 (A4 qD6 rfl (EN ZQ (bl Y).zip_ (b7 (qv .U 0) (b7 (qv .U 1) b9))) (@B4 _ (hk w) _ _ _ _ 2 rfl (k7 (@e8 _ _ 2 _ ja.nd rfl ZZ ZZ) (k7 (@e8 _ _ 3 _ ja.nd rfl ZZ ZZ) B3)) ZQ ZQ ZQ) (F5 (.inr rfl) (k9 (.inr rfl) i5 (k9 (.inr rfl) i5 B5))) (d5 (r6 (PW.pt (ic (i6 ac ad (qv .B 3) v7) (fw (PW.pt (N4 (i6 S9 T6 (qv .B 2) v7) (P0 (i6 K0 xGt (qv .B 2) (qv .B 3)))))))) (d5 (h9 S7)) o9))) (d5 (h9 S7)))
def cZ:Def (hk w) mg "under_any" (top 10) ["cap","caps"] 75 (FD "under_any" 10 x5 74):=dk Y ZJ λ_ _ _ _ _ _=>us2 λ_ _=>rfl
def fQ:FnOk P w (hk w) mg base CX0 2 75 (FD "under_any" 10 x5 74) ["cap","caps"] (spM (hk w) 2 .F P4):=
 okF (cZ Y) fO (.inl rfl) rfl rfl λI=>(c9 (A4 qD6 rfl (P1 (qv .U 1)) (@e8 _ _ 2 _ fO.nd rfl ZZ ZZ) i5 (d5 (r6 (C6 (l9 (h7 (qcD (jl Y) (dunder Y) (b7 (qv .B 0) (b7 (qv .B 2) b9)))))) (d5 (h9 S7)) o9))) (d5 (h9 S7)))
def eW:Def (hk w) mg "cap_able" (top 11) Qa 82 (FD "cap_able" 11 x5 81):=dk Y ZJ λ_ _ _ _ _ _=>us2 λ_ _=>rfl
def im:FnOk P w (hk w) mg base CX0 2 82 (FD "cap_able" 11 x5 81) Qa (spM (hk w) 2 .F Z4):=
 okF (eW Y) qF (.inl rfl) rfl rfl λI=>(d5 (h9 (qcD (jl Y) (dunder Y) (b7 (f6 (d8 (qv .B 1) d6)) (b7 (qv .B 0) b9)))))
def da:Def (hk w) mg "cap_after" (top 12) Qa 87 (FD "cap_after" 12 x5 86):=dk Y ZJ λ_ _ _ _ _ _=>us2 λ_ _=>rfl
def fR:FnOk P w (hk w) mg base CX0 3 87 (FD "cap_after" 12 x5 86) Qa (spM (hk w) 2 .F W3):=
 okF (da Y) oB (.inl rfl) rfl rfl λI=>(c9 (r6 (C0 (C6 (l9 (h7 (qcD (im Y) (eW Y) (b7 (qv .B 0) (b7 (qv .B 1) b9))))))) (d5 AO) o9) (d5 (h9 (D6 B7 (B6 (c:=true)) ZQ (bl Y).tuple_ r9 (b7 (h7 (n4 (Vw 12 Qa Qn) rfl (aw ZQ (bl Y).zip_ (b7 (qv .B 0) (b7 (l9 (h7 (qcD (gA Y) (fH Y) (b7 (qv .B 1) b9)))) b9))) (λ_ _ _ _=>(@B4 _ (hk w) _ _ _ _ 2 rfl (k7 (@e8 _ _ 2 _ (by decide +kernel:(Qn:VJ).Nodup) rfl (Or.inl rfl) (.inr rfl)) (k7 (@e8 _ _ 3 _ (by decide +kernel:(Qn:VJ).Nodup) rfl (Or.inl rfl) (.inr rfl)) B3)) ZQ ZQ ZQ)) (F5 (.inr rfl) (k9 (.inr rfl) i5 (k9 (.inr rfl) i5 B5))) (X5 (z8 (show 2<=2 by decide) (z8 (show 2<=3 by decide) X6))) (λ_ _ _ _=>n6) (λ_ _ _ _=>(ji (i6 S9 T6 (qv .B 2) v7) v7 (g9 x4 D9 (qv .B 2) (qv .B 3)))))) b9)))))
def jH:Def (hk w) mg "raised" (top 13) Qo 92 (FD "raised" 13 x5 91):=dk Y ZJ λ_ _ _ _ _ _=>us2 λ_ _=>rfl
def mL:FnOk P w (hk w) mg base CX0 2 92 (FD "raised" 13 x5 91) Qo (spM (hk w) 2 .F aF):=
 okF (jH Y) wO (.inl rfl) rfl rfl λI=>(c9 (r6 (C0 (C6 (l9 (h7 (qcD (jl Y) (dunder Y) (b7 (qv .B 1) (b7 (qv .B 0) b9))))))) (d5 (@F3 _ _ _ _ _ 0 _ _ (.inl rfl) ZQ ZZ ZY ZY)) o9) (d5 (h9 (D6 B7 (B6 (c:=true)) ZQ (bl Y).tuple_ r9 (b7 (h7 (n4 (Vw 13 Qo Qp) rfl (aw ZQ (bl Y).zip_ (b7 (qv .B 0) (b7 (qv .B 1) b9))) (λ_ _ _ _=>(@B4 _ (hk w) _ _ _ _ 2 rfl (k7 (@e8 _ _ 2 _ (by decide +kernel:(Qp:VJ).Nodup) rfl (Or.inl rfl) (.inr rfl)) (k7 (@e8 _ _ 3 _ (by decide +kernel:(Qp:VJ).Nodup) rfl (Or.inl rfl) (.inr rfl)) B3)) ZQ ZQ ZQ)) (F5 (.inr rfl) (k9 (.inr rfl) i5 (k9 (.inr rfl) i5 B5))) (X5 (z8 (show 2<=2 by decide) (z8 (show 2<=3 by decide) X6))) (λ_ _ _ _=>n6) (λ_ _ _ _=>(ji (i6 (W7 (aD I)) (T7 (neg:=false)) (qv .B 2) (qv .B 3)) (qv .V 2) v7)))) b9)))))
def eR:Def (hk w) mg "sort_key" (top 15) ["cap"] 104 (FD "sort_key" 15 x5 103):=dk Y ZJ λ_ _ _ _ _ _=>us1 λ_=>rfl
def qR:FnOk P w (hk w) mg base CX0 1 104 (FD "sort_key" 15 x5 103) ["cap"] (spM (hk w) 1 .F N8):=
 okF (eR Y) qE (.inl rfl) rfl rfl λI=>(d5 (h9 (D6 B7 (B6 (c:=true)) ZQ (bl Y).tuple_ r9 (b7 (h7 (n4 (Vw 15 ["cap"] ["cap","number"]) rfl (A7 (qv .B 0)) (λ_ _ _ _=>(@e8 _ _ 1 _ (by decide +kernel:(["cap","number"]:VJ).Nodup) rfl (Or.inl rfl) (.inr rfl))) i5 (m7 (show 1<=1 by decide)) (λ_ _ _ _=>n6) (λ_ _ _ _=>(ji (i6 S9 T6 (qv .B 1) v7) (B8 (F2 (m5 (m5 b9)))) (B8 (F2 (m5 (b7 (qv .V 1) b9)))))))) b9))))
def zM:Def (hk w) mg "tops" (top 14) ["caps"] 99 (FD "tops" 14 x5 98):=dk Y ZJ λ_ _ _ _ _ _=>us1 λ_=>rfl
def Fz:FnOk P w (hk w) mg base CX0 4 99 (FD "tops" 14 x5 98) ["caps"] (spM (hk w) 1 .F nF):=
 okF (zM Y) lO (.inl rfl) rfl rfl λI=>(c9 (i7 (i:=1) lO.nd rfl ZZ (B0 b9) ZQ ZZ) (c9 (A4 qD6 rfl (P1 (jj (B8 (@AM _ _ _ _ _ _ _ _ _ _ _ _ _ _ _ _ _ _ _ _ false (qR Y) ZZ ZQ (eR Y).m (eR Y).b ZQ (bl Y).sorted_ vM (b7 (qv .B 0) b9) ZQ ZY ZY ZY ZQ ZQ ZQ ZQ ZQ)))) (@e8 _ _ 2 _ lO.nd rfl ZZ ZZ) i5 (d5 (r6 (C0 (C6 (l9 (h7 (qcD (fQ Y) (cZ Y) (b7 (qv .B 2) (b7 (qv .B 1) b9))))))) (d5 (@V9 _ _ _ _ _ _ _ 1 _ _ _ _ rfl ZZ (qv .V 2) ZY ZY ZQ ZQ ZQ ZQ ZQ)) o9))) (c9 (@zr _ _ _ _ _ 1 _ _ _ _ rfl ZZ ZQ ZY ZY ZQ ZQ ZQ) (d5 (@F3 _ _ _ _ _ 1 _ _ (.inl rfl) ZQ ZZ ZY ZY)))))
def X7:Def (hk w) mg "way_back" (top 18) Qc 123 (FD "way_back" 18 x5 122):=dk Y ZJ λ_ _ _ _ _ _=>us2 λ_ _=>rfl
def Z2:FnOk P w (hk w) mg base CX0 1 123 (FD "way_back" 18 x5 122) Qc (spM (hk w) 2 .F D0):=
 okF (X7 Y) Y8 (.inl rfl) rfl rfl λI=>(c9 (i7 (i:=2) Y8.nd rfl ZZ (B0 b9) ZQ ZZ) (c9 (y6 (i:=3) Y8.nd rfl ZZ (qv .V 1) ZQ ZZ) (c9 (fv qD6 (i6 ac ad (qv .B 3) v7) (c9 (@V9 _ _ _ _ _ _ _ 2 _ _ _ _ rfl ZZ (qv .V 3) ZY ZY ZQ ZQ ZQ ZQ ZQ) (d5 (@ie _ _ _ _ _ _ _ 3 _ _ Y8.nd rfl ZZ (d8 (f6 (d8 (qv .B 0) (qv .B 3))) d6) ZQ ZZ)))) (d5 (@F3 _ _ _ _ _ 2 _ _ (.inl rfl) ZQ ZZ ZY ZY)))))
def lq:Def (hk w) mg "grow" (top 17) QE 116 (FD "grow" 17 x5 115):=dk Y ZJ λ_ _ _ _ _ _=>us4 λ_ _ _ _=>rfl
def FB:FnOk P w (hk w) mg base CX0 4 116 (FD "grow" 17 x5 115) QE (iZ (hk w) 4 iE):=
 okI (lq Y) dM rfl rfl λp=>λI=>(fy (@q_i _ _ _ .F _ _ _ (@ie _ _ _ _ _ _ _ 4 _ _ dM.nd rfl ZZ (d8 (f6 (d8 (qv .B 0) d6)) (qv .B 3)) ZQ ZZ)) (fy (zt (C0 (C6 (l9 (h7 (qcD (im Y) (eW Y) (b7 (f6 (d8 (f6 (d8 (qv .B 1) (qv .B 2))) d6)) (b7 (qv .B 4) b9))))))) (jh ER) (@EW _ _ _ .F _ _ _ o9)) (fy (@q_i _ _ _ .F _ _ _ (i7 (i:=5) dM.nd rfl ZZ (qcD (fR Y) (da Y) (b7 (f6 (d8 (f6 (d8 (qv .B 1) (qv .B 2))) d6)) (b7 (qv .B 4) b9))) ZQ ZZ)) (fy (@q_i _ _ _ .F _ _ _ (A4 qD6 rfl (P1 (jj (B8 (qcD (Z2 Y) (X7 Y) (b7 (qv .B 1) (b7 (qv .B 2) b9)))))) (@e8 _ _ 6 _ dM.nd rfl ZZ ZZ) i5 (d5 (i7 (i:=5) dM.nd rfl ZZ (qcD (mL Y) (jH Y) (b7 (qv .B 5) (b7 (f6 (d8 (f6 (d8 (qv .B 1) (qv .B 6))) d6)) b9))) ZQ ZZ)))) (jh (zt (C0 (C6 (l9 (h7 (qcD (fQ Y) (cZ Y) (b7 (qv .B 5) (b7 (l9 (h7 (n4 (Vw 17 ["moor","tree","at","number","move","cap","elder"] QF) rfl (A7 (qv .B 1)) (λ_ _ _ _=>(@e8 _ _ 7 _ (by decide +kernel:(QF:VJ).Nodup) rfl (Or.inl rfl) (.inr rfl))) i5 (m7 (show 7<=7 by decide)) (λ_ _ _ _=>n6) (λ_ _ _ _=>(S6 (d8 (qv .B 7) d6)))))) b9))))))) (jh (@Fc _ _ _ _ _ _ _ 1 _ _ _ _ rfl ZZ (B8 (F2 (b7 (qv .V 5) (b7 (qv .V 2) (b7 (qv .V 3) b9))))) ZY ZY ZQ ZQ ZQ ZQ ZQ)) (@EW _ _ _ .F _ _ _ o9)))))))
def jI:Def (hk w) mg "growth" (top 16) Qd 111 (FD "growth" 16 x5 110):=dk Y ZJ λ_ _ _ _ _ _=>us2 λ_ _=>rfl
def mN:FnOk P w (hk w) mg base CX0 5 111 (FD "growth" 16 x5 110) Qd (spM (hk w) 2 .F Q7):=
 okF (jI Y) ar (.inl rfl) rfl rfl λI=>(c9 (i7 (i:=2) ar.nd rfl ZZ (B0 (b7 (B8 (F2 (b7 (S6 (d8 (qv .B 0) d6)) (b7 v7 (b7 v7 b9))))) b9)) ZQ ZZ) (c9 (y6 (i:=3) ar.nd rfl ZZ d6 ZQ ZZ) (c9 (fv qD6 (i6 cO xLt (qv .B 3) (n9 t5 t4 ZQ (bl Y).len_ qC4 (b7 (qv .B 2) b9))) (c9 (A4 qD6 rfl (x6 ZQ (bl Y).range_ (b7 (n9 t5 t4 ZQ (bl Y).len_ qC4 (b7 (f6 (d8 (qv .B 0) d6)) b9)) b9)) (@e8 _ _ 4 _ ar.nd rfl ZZ ZZ) i5 (d5 (@AR _ _ _ _ _ _ _ _ 2 _ _ _ _ _ _ _ _ _ _ _ _ rfl ZZ (FB Y) ZZ ZQ (lq Y).m (lq Y).F.kp (lq Y).b (qv .B 0) (b7 (qv .B 3) (b7 (qv .B 4) b9)) ZY ZY ZY ZQ ZQ ZQ ZQ))) (c9 (r6 (i6 K0 xGt (n9 t5 t4 ZQ (bl Y).len_ qC4 (b7 (qv .B 2) b9)) (qv .B 1)) (d5 (h9 v7)) o9) (d5 (@IK _ _ _ _ _ _ _ 3 _ _ _ _ ar.nd rfl ZZ d6 GA ZZ))))) (d5 (@F3 _ _ _ _ _ 2 _ _ (.inl rfl) ZQ ZZ ZY ZY)))))
def vt:Def (hk w) mg "crown" (top 19) Qd 128 (FD "crown" 19 x5 127):=dk Y ZJ λ_ _ _ _ _ _=>us2 λ_ _=>rfl
def Bi:FnOk P w (hk w) mg base CX0 6 128 (FD "crown" 19 x5 127) Qd (spM (hk w) 2 .F ca):=
 okF (vt Y) oT (.inl rfl) rfl rfl λI=>(c9 (i7 (i:=2) oT.nd rfl ZZ (qcD (mN Y) (jI Y) (b7 (qv .B 0) (b7 (qv .B 1) b9))) ZQ ZZ) (c9 (r6 (i6 S9 T6 (qv .B 2) v7) (d5 (h9 v7)) o9) (d5 (h9 (qcD (Fz Y) (zM Y) (b7 (l9 (h7 (n4 (Vw 19 ["moor","most","tree"] QG) rfl (A7 (qv .B 2)) (λ_ _ _ _=>(@e8 _ _ 3 _ (by decide +kernel:(QG:VJ).Nodup) rfl (Or.inl rfl) (.inr rfl))) i5 (m7 (show 3<=3 by decide)) (λ_ _ _ _=>n6) (λ_ _ _ _=>(S6 (d8 (qv .B 3) d6)))))) b9))))))
def gO:Def (hk w) mg "noughts" (top 24) ["moor"] 154 (FD "noughts" 24 Y2 153):=dk Y ZJ λ_ _ _ _ _ _=>us1 λ_=>rfl
def ke:FnOk P w (hk w) mg base CX0 1 154 (FD "noughts" 24 Y2 153) ["moor"] (spM (hk w) 1 .F ba):=
 okF (gO Y) tO (.inl rfl) rfl rfl λI=>(d5 (h9 (g9 pk pq (h7 (F2 (m5 b9))) (n9 t5 t4 ZQ (bl Y).len_ qC4 (b7 (f6 (d8 (qv .B 0) d6)) b9)))))
def qd:Def (hk w) mg "hurdle" (top 21) Qe 135 (FD "hurdle" 21 Y2 134):=dk Y ZJ λ_ _ _ _ _ _=>us2 λ_ _=>rfl
def xC:FnOk P w (hk w) mg base CX0 2 135 (FD "hurdle" 21 Y2 134) Qe (spM (hk w) 2 .F aG):=
 okF (qd Y) cI (.inl rfl) rfl rfl λI=>(c9 (i7 (i:=2) cI.nd rfl ZZ (qcD (ke Y) (gO Y) (b7 (qv .B 0) b9)) ZQ ZZ) (c9 (A4 qD6 rfl (@zq _ _ _ _ _ _ _ _ ZQ (bl Y).reversed_ (b7 (qv .U 1) b9) ZQ ZQ) (@e8 _ _ 3 _ cI.nd rfl ZZ ZZ) i5 (d5 (i7 (i:=2) cI.nd rfl ZZ (qcD (xB Y) (qc Y) (b7 (qv .B 2) (b7 (f6 (d8 (f6 (d8 (qv .B 0) d6)) (qv .B 3))) b9))) ZQ ZZ))) (d5 (@F3 _ _ _ _ _ 2 _ _ (.inl rfl) ZQ ZZ ZY ZY))))
def aK:Def (hk w) mg "shifted" (top 23) Qq 147 (FD "shifted" 23 Y2 146):=dk Y ZJ λ_ _ _ _ _ _=>us3 λ_ _ _=>rfl
def aU:FnOk P w (hk w) mg base CX0 1 147 (FD "shifted" 23 Y2 146) Qq (spM (hk w) 3 .F J5):=
 okF (aK Y) tL (.inl rfl) rfl rfl λI=>(d5 (h9 (D6 B7 (B6 (c:=true)) ZQ (bl Y).tuple_ r9 (b7 (h7 (n4 (Vw 23 Qq Qr) rfl (aw ZQ (bl Y).zip_ (b7 (qv .B 0) (b7 (qv .B 1) b9))) (λ_ _ _ _=>(@B4 _ (hk w) _ _ _ _ 2 rfl (k7 (@e8 _ _ 3 _ (by decide +kernel:(Qr:VJ).Nodup) rfl (Or.inl rfl) (.inr rfl)) (k7 (@e8 _ _ 4 _ (by decide +kernel:(Qr:VJ).Nodup) rfl (Or.inl rfl) (.inr rfl)) B3)) ZQ ZQ ZQ)) (F5 (.inr rfl) (k9 (.inr rfl) i5 (k9 (.inr rfl) i5 B5))) (X5 (z8 (show 3<=3 by decide) (z8 (show 3<=4 by decide) X6))) (λ_ _ _ _=>n6) (λ_ _ _ _=>(g9 x4 D9 (qv .B 3) (g9 w9 Vs (qv .B 2) (qv .B 4)))))) b9))))
def jG:Def (hk w) mg "sum_of" (top 22) Qe 142 (FD "sum_of" 22 Y2 141):=dk Y ZJ λ_ _ _ _ _ _=>us2 λ_ _=>rfl
def mK:FnOk P w (hk w) mg base CX0 2 142 (FD "sum_of" 22 Y2 141) Qe (spM (hk w) 2 .F Q6):=
 okF (jG Y) cH (.inl rfl) rfl rfl λI=>(c9 (i7 (i:=2) cH.nd rfl ZZ (qcD (ke Y) (gO Y) (b7 (qv .B 0) b9)) ZQ ZZ) (c9 (A4 qD6 rfl (P1 (qv .U 1)) (@e8 _ _ 3 _ cH.nd rfl ZZ ZZ) i5 (d5 (i7 (i:=2) cH.nd rfl ZZ (qcD (aU Y) (aK Y) (b7 (qv .B 2) (b7 (l9 (h7 (qcD (gA Y) (fH Y) (b7 (f6 (d8 (f6 (d8 (qv .B 0) d6)) (qv .B 3))) b9)))) (m5 b9)))) ZQ ZZ))) (d5 (@F3 _ _ _ _ _ 2 _ _ (.inl rfl) ZQ ZZ ZY ZY))))
def Hr:Def (hk w) mg "way" (top 26) Qc 161 (FD "way" 26 C8 160):=dk Y ZJ λ_ _ _ _ _ _=>us2 λ_ _=>rfl
def IX:FnOk P w (hk w) mg base CX0 2 161 (FD "way" 26 C8 160) Qc (spM (hk w) 2 .F rG):=
 okF (Hr Y) IA (.inl rfl) rfl rfl λI=>(d5 (h9 (@ET _ _ _ _ _ _ _ _ _ rfl ZQ (bl Y).list_ ZQ (bl Y).reversed_ (b7 (l9 (h7 (qcD (Z2 Y) (X7 Y) (b7 (qv .B 0) (b7 (qv .B 1) b9))))) b9) ZQ ZQ ZQ)))
def eT:Def (hk w) mg "row_between" (top 27) QH 166 (FD "row_between" 27 C8 165):=dk Y ZJ λ_ _ _ _ _ _=>us3 λ_ _ _=>rfl
def kQ:FnOk P w (hk w) mg base CX0 3 166 (FD "row_between" 27 C8 165) QH (spM (hk w) 3 .F P9):=
 okF (eT Y) dl (.inl rfl) rfl rfl λI=>(c9 (i7 (i:=3) dl.nd rfl ZZ (qcD (IX Y) (Hr Y) (b7 (qv .B 0) (b7 (qv .B 2) b9))) ZQ ZZ) (d5 (h9 (n4 (Vw 27 ["tree","elder","number","path"] QI) rfl (A7 (l9 (h7 (@qK _ _ _ _ _ _ true _ _ _ _ _ (qv .C 3) (mq (g9 x4 D9 (@AQ _ _ _ _ _ _ _ _ _ _ (aD I) (qv .B 3) (qv .B 1) ZQ ZQ ZQ ZQ ZQ ZQ) d6)) mw ZQ)))) (λ_ _ _ _=>(@e8 _ _ 4 _ (by decide +kernel:(QI:VJ).Nodup) rfl (Or.inl rfl) (.inr rfl))) i5 (m7 (show 4<=4 by decide)) (λ_ _ _ _=>n6) (λ_ _ _ _=>(S6 (d8 (f6 (d8 (qv .B 0) (qv .B 4))) d6)))))))
def eQ:Def (hk w) mg "unraised" (top 29) Qf 178 (FD "unraised" 29 C8 177):=dk Y ZJ λ_ _ _ _ _ _=>us3 λ_ _ _=>rfl
def il:FnOk P w (hk w) mg base CX0 4 178 (FD "unraised" 29 C8 177) Qf (spM (hk w) 3 .F T9):=
 okF (eQ Y) hZ (.inl rfl) rfl rfl λI=>(c9 (@ie _ _ _ _ _ _ _ 3 _ _ hZ.nd rfl ZZ (d8 (qv .B 1) (qv .B 2)) ZQ ZZ) (d5 (h9 (qcD (fR Y) (da Y) (b7 (f6 (d8 (f6 (d8 (qv .B 1) (f6 (d8 (qv .B 3) d6)))) d6)) (b7 (f6 (d8 (f6 (d8 (qv .B 0) d6)) (f6 (d8 (qv .B 3) d6)))) b9))))))
def kF:Def (hk w) mg "lifts_of" (top 28) Qf 171 (FD "lifts_of" 28 C8 170):=dk Y ZJ λ_ _ _ _ _ _=>us3 λ_ _ _=>rfl
def qS:FnOk P w (hk w) mg base CX0 5 171 (FD "lifts_of" 28 C8 170) Qf (spM (hk w) 3 .F U0):=
 okF (kF Y) J9 (.inl rfl) rfl rfl λI=>(c9 (r6 (i6 T0 M0 (qv .B 2) d6) (d5 (h9 (B0 b9))) o9) (c9 (i7 (i:=3) J9.nd rfl ZZ (B0 b9) ZQ ZZ) (c9 (i7 (i:=4) J9.nd rfl ZZ (qcD (il Y) (eQ Y) (b7 (qv .B 0) (b7 (qv .B 1) (b7 (qv .B 2) b9)))) ZQ ZZ) (c9 (A4 qD6 rfl (P1 (jj (B8 (@qK _ _ _ _ _ _ true _ _ _ _ _ (h7 (qcD (Z2 Y) (X7 Y) (b7 (qv .B 1) (b7 (qv .B 2) b9)))) (mq d6) mw ZQ)))) (@e8 _ _ 5 _ J9.nd rfl ZZ ZZ) i5 (c9 (i7 (i:=6) J9.nd rfl ZZ (qcD (mL Y) (jH Y) (b7 (qv .B 4) (b7 (f6 (d8 (f6 (d8 (qv .B 1) (qv .B 5))) d6)) b9))) ZQ ZZ) (c9 (i7 (i:=7) J9.nd rfl ZZ (D6 B7 (B6 (c:=true)) ZQ (bl Y).tuple_ r9 (b7 (h7 (n4 (Vw 28 ["moor","tree","number","found","cap","elder","higher","places"] QJ) rfl (x6 ZQ (bl Y).range_ (b7 (n9 t5 t4 ZQ (bl Y).len_ qC4 (b7 (qv .B 4) b9)) b9)) (λ_ _ _ _=>(@e8 _ _ 8 _ (by decide +kernel:(QJ:VJ).Nodup) rfl (Or.inl rfl) (.inr rfl))) i5 (m7 (show 8<=8 by decide)) (λ_ _ _ _=>(bM (i6 (Fw (aD I)) (T7 (neg:=true)) (f6 (d8 (qv .B 6) (qv .B 8))) (f6 (d8 (qv .B 4) (qv .B 8)))))) (λ_ _ _ _=>(qv .V 8)))) b9)) ZQ ZZ) (c9 (r6 (i6 K0 xGt (n9 t5 t4 ZQ (bl Y).len_ qC4 (b7 (qv .B 7) b9)) d6) (d5 (@V9 _ _ _ _ _ _ _ 3 _ _ _ _ rfl ZZ (B8 (F2 (b7 (qv .V 5) (b7 (qv .V 7) b9)))) ZY ZY ZQ ZQ ZQ ZQ ZQ)) o9) (d5 (fx (y6 (i:=4) J9.nd rfl ZZ (qv .V 6) ZQ ZZ))))))) (d5 (@F3 _ _ _ _ _ 3 _ _ (.inl rfl) ZQ ZZ ZY ZY))))))
def Y4:Def (hk w) mg "wanted_ahead" (top 32) QK 195 (FD "wanted_ahead" 32 C8 194):=dk Y ZJ λ_ _ _ _ _ _=>us4 λ_ _ _ _=>rfl
def bR:FnOk P w (hk w) mg base CX0 3 195 (FD "wanted_ahead" 32 C8 194) QK (spM (hk w) 4 .F D4):=
 okF (Y4 Y) N1 (.inl rfl) rfl rfl λI=>(c9 (i7 (i:=4) N1.nd rfl ZZ (qcD (xC Y) (qd Y) (b7 (qv .B 0) (b7 (qv .B 1) b9))) ZQ ZZ) (c9 (i7 (i:=5) N1.nd rfl ZZ (qcD (mK Y) (jG Y) (b7 (qv .B 0) (b7 (qv .B 1) b9))) ZQ ZZ) (c9 (i7 (i:=6) N1.nd rfl ZZ (qcD (dU Y) (bD Y) (b7 (qv .B 4) (b7 (l9 (h7 (qcD (aU Y) (aK Y) (b7 (qv .B 4) (b7 (qv .B 5) (b7 (g9 P2 bh d6 (qv .B 2)) b9)))))) b9))) ZQ ZZ) (d5 (h9 (qcD (dU Y) (bD Y) (b7 (qv .B 6) (b7 (l9 (h7 (qcD (aU Y) (aK Y) (b7 (qv .B 3) (b7 (qv .B 5) (b7 (bq O8 (br (g:=G8) (λ_=>rfl) (λ_ _=>.int)) (qv .B 2)) b9)))))) b9))))))))
def iG:Def (hk w) mg "times_for" (top 31) Qs 188 (FD "times_for" 31 C8 187):=dk Y ZJ λ_ _ _ _ _ _=>us4 λ_ _ _ _=>rfl
def oC:FnOk P w (hk w) mg base CX0 1 188 (FD "times_for" 31 C8 187) Qs (spM (hk w) 4 .F W2):=
 okF (iG Y) oA (.inl rfl) rfl rfl λI=>(d5 (h9 (n9 (fb rfl) (iN (g:=C7)) ZQ (bl Y).max_ cj (b7 (l9 (h7 (g9 Fx (FF (c:=true)) (h7 (B0 (m5 b9))) (h7 (n4 (Vw 31 Qs QL) rfl (A7 (qv .B 2)) (λ_ _ _ _=>(@e8 _ _ 4 _ (by decide +kernel:(QL:VJ).Nodup) rfl (Or.inl rfl) (.inr rfl))) i5 (m7 (show 4<=4 by decide)) (λ_ _ _ _=>n6) (λ_ _ _ _=>(bq O8 (br (g:=G8) (λ_=>rfl) (λ_ _=>.int)) (g9 gy Vt (g9 P2 bh (f6 (d8 (qv .B 0) (qv .B 4))) (f6 (d8 (qv .B 3) (qv .B 4)))) (f6 (d8 (qv .B 1) (qv .B 4))))))))))) b9))))
def vw:Def (hk w) mg "climb" (top 30) QM 183 (FD "climb" 30 C8 182):=dk Y ZJ λ_ _ _ _ _ _=>us4 λ_ _ _ _=>rfl
def Bj:FnOk P w (hk w) mg base CX0 6 183 (FD "climb" 30 C8 182) QM (spM (hk w) 4 .F ce):=
 okF (vw Y) J1 (.inl rfl) rfl rfl λI=>(c9 (i7 (i:=4) J1.nd rfl ZZ (D6 B7 (B6 (c:=true)) ZQ (bl Y).tuple_ r9 (b7 (h7 (n4 (Vw 30 ["moor","tree","number","height","wanted","blocks","at","cap","elder","places","row","times"] QN) rfl (A7 (f6 (d8 (f6 (d8 (qv .B 1) (qv .B 2))) d6))) (λ_ _ _ _=>(@e8 _ _ 12 _ (by decide +kernel:(QN:VJ).Nodup) rfl (Or.inl rfl) (.inr rfl))) i5 (m7 (show 12<=12 by decide)) (λ_ _ _ _=>n6) (λ_ _ _ _=>(ji (i6 S9 T6 (qv .B 12) v7) (qv .V 3) (qv .V 12))))) b9)) ZQ ZZ) (c9 (i7 (i:=5) J1.nd rfl ZZ (B0 b9) ZQ ZZ) (c9 (A4 qD6 rfl (P1 (jj (B8 (@qK _ _ _ _ _ _ true _ _ _ _ _ (h7 (qcD (Z2 Y) (X7 Y) (b7 (qv .B 1) (b7 (qv .B 2) b9)))) mw (mq (bq O8 (br (g:=G8) (λ_=>rfl) (λ_ _=>.int)) d6)) ZQ)))) (@e8 _ _ 6 _ J1.nd rfl ZZ ZZ) i5 (c9 (i7 (i:=7) J1.nd rfl ZZ (qcD (il Y) (eQ Y) (b7 (qv .B 0) (b7 (qv .B 1) (b7 (qv .B 6) b9)))) ZQ ZZ) (c9 (A4 qD6 rfl (@zq _ _ _ _ _ _ _ _ ZQ (bl Y).reversed_ (b7 (jj (B8 (qcD (qS Y) (kF Y) (b7 (qv .B 0) (b7 (qv .B 1) (b7 (qv .B 6) b9)))))) b9) ZQ ZQ) (@B4 _ (hk w) _ _ _ _ 2 rfl (k7 (@e8 _ _ 8 _ J1.nd rfl ZZ ZZ) (k7 (@e8 _ _ 9 _ J1.nd rfl ZZ ZZ) B3)) ZQ ZQ ZQ) (F5 (.inr rfl) (k9 (.inr rfl) i5 (k9 (.inr rfl) i5 B5))) (c9 (i7 (i:=10) J1.nd rfl ZZ (qcD (kQ Y) (eT Y) (b7 (qv .B 1) (b7 (qv .B 8) (b7 (qv .B 6) b9)))) ZQ ZZ) (c9 (i7 (i:=11) J1.nd rfl ZZ (qcD (oC Y) (iG Y) (b7 (qv .B 7) (b7 (l9 (h7 (qcD (mK Y) (jG Y) (b7 (qv .B 0) (b7 (qv .B 10) b9))))) (b7 (qv .B 9) (b7 (qv .B 4) b9))))) ZQ ZZ) (d5 (r6 (i6 K0 xGt (qv .B 11) d6) (c9 (fx (fx (@V9 _ _ _ _ _ _ _ 5 _ _ _ _ rfl ZZ (B8 (F2 (b7 (qv .V 10) (b7 (qv .V 11) b9)))) ZY ZY ZQ ZQ ZQ ZQ ZQ))) (d5 (i7 (i:=4) J1.nd rfl ZZ (qcD (bR Y) (Y4 Y) (b7 (qv .B 0) (b7 (qv .B 10) (b7 (qv .B 11) (b7 (qv .B 4) b9))))) ZQ ZZ))) o9))))) (c9 (@V9 _ _ _ _ _ _ _ 5 _ _ _ _ rfl ZZ (B8 (F2 (b7 (B8 (B0 (b7 (S6 (d8 (f6 (d8 (qv .B 1) (qv .B 6))) d6)) b9))) (m5 b9)))) ZY ZY ZQ ZQ ZQ ZQ ZQ) (d5 (i7 (i:=4) J1.nd rfl ZZ (qcD (bR Y) (Y4 Y) (b7 (qv .B 0) (b7 (l9 (h7 (B0 (b7 (S6 (d8 (f6 (d8 (qv .B 1) (qv .B 6))) d6)) b9)))) (m5 (b7 (qv .B 4) b9))))) ZQ ZZ)))))) (c9 (@zr _ _ _ _ _ 5 _ _ _ _ rfl ZZ ZQ ZY ZY ZQ ZQ ZQ) (d5 (@F3 _ _ _ _ _ 5 _ _ (.inl rfl) ZQ ZZ ZY ZY))))))
def zN:Def (hk w) mg "peak" (top 33) ["moor","place","most"] 200 (FD "peak" 33 C8 199):=dk Y ZJ λ_ _ _ _ _ _=>us3 λ_ _ _=>rfl
def FA:FnOk P w (hk w) mg base CX0 7 200 (FD "peak" 33 C8 199) ["moor","place","most"] (spM (hk w) 3 .F eL):=
 okF (zN Y) lP (.inl rfl) rfl rfl λI=>(c9 (i7 (i:=3) lP.nd rfl ZZ (qcD (Bi Y) (vt Y) (b7 (qv .B 0) (b7 (qv .B 2) b9))) ZQ ZZ) (c9 (r6 (i6 S9 T6 (qv .B 3) v7) (d5 (h9 (F2 (b7 P7 b9)))) o9) (c9 (R3 (i:=4) (Vw 33 ["moor","place","most","caps","numbers"] QO) rfl (A7 (qv .B 3)) (λ_ _ _ _=>(@e8 _ _ 5 _ (by decide +kernel:(QO:VJ).Nodup) rfl (Or.inl rfl) (.inr rfl))) i5 (m7 (show 5<=5 by decide)) (λ_ _ _ _=>n6) (λ_ _ _ _=>(S6 (d8 (qv .B 5) (qv .B 1)))) lP.nd rfl ZZ) (c9 (r6 (i6 (IW (aD I)) (IZ (neg:=false)) v7 (qv .B 4)) (d5 (h9 (F2 (b7 P7 b9)))) o9) (d5 (h9 (F2 (b7 P7 (b7 (n9 (fb rfl) (iN (g:=C7)) ZQ (bl Y).max_ cj (b7 (qv .B 4) b9)) b9)))))))))
def rM:Def (hk w) mg "unit" (top 35) Qt 205 (FD "unit" 35 yg 204):=dk Y ZJ λ_ _ _ _ _ _=>us2 λ_ _=>rfl
def uv:FnOk P w (hk w) mg base CX0 1 205 (FD "unit" 35 yg 204) Qt (spM (hk w) 2 .F iD):=
 okF (rM Y) DX (.inl rfl) rfl rfl λI=>(d5 (h9 (D6 B7 (B6 (c:=true)) ZQ (bl Y).tuple_ r9 (b7 (h7 (n4 (Vw 35 Qt ["place","many","at"]) rfl (x6 ZQ (bl Y).range_ (b7 (qv .B 1) b9)) (λ_ _ _ _=>(@e8 _ _ 2 _ (by decide +kernel:(["place","many","at"]:VJ).Nodup) rfl (Or.inl rfl) (.inr rfl))) i5 (m7 (show 2<=2 by decide)) (λ_ _ _ _=>n6) (λ_ _ _ _=>(ji (i6 (W7 (aD I)) (T7 (neg:=false)) (qv .B 2) (qv .B 0)) d6 d6)))) b9))))
def eU:Def (hk w) mg "first_table" (top 38) Qg 215 (FD "first_table" 38 A0 214):=dk Y ZJ λ_ _ _ _ _ _=>us3 λ_ _ _=>rfl
def kR:FnOk P w (hk w) mg base CX0 2 215 (FD "first_table" 38 A0 214) Qg (spM (hk w) 3 .F Q0):=
 okF (eU Y) Y0 (.inl rfl) rfl rfl λI=>(c9 (i7 (i:=3) Y0.nd rfl ZZ (n4 (Vw 38 Qu QP) rfl (A7 (qv .B 0)) (λ_ _ _ _=>(@e8 _ _ 5 _ (by decide +kernel:(QP:VJ).Nodup) rfl (Or.inl rfl) (.inr rfl))) i5 (m7 (show 5<=5 by decide)) (λ_ _ _ _=>n6) (λ_ _ _ _=>(B8 (qcD (gA Y) (fH Y) (b7 (qv .B 5) b9))))) ZQ ZZ) (c9 (mn (i:=4) (show G0 (c8 (top 38)) _ Qu QQ "at" from ⟨rfl,⟨λ_ _=>rfl,λ_=>rfl⟩,ZU,ZQ,ZU,ZU,ZU,ZY,ZU,ZU⟩) rfl (x6 ZQ (bl Y).range_ (b7 (qv .B 2) b9)) (λ_ _ _ _=>(@e8 _ _ 5 _ (by decide +kernel:(QQ:VJ).Nodup) rfl (Or.inr rfl) (.inl (by first|rfl|show qT1 _)))) i5 (m7 (show 5<=5 by decide)) (λ_ _ _ _=>n6) (λ_ _ _ _=>(B8 (g9 pp px (l9 (h7 (D6 B7 (B6 (c:=true)) ZQ (bl Y).tuple_ r9 (b7 (h7 (n4 (by show kJ ⟨rfl,ZU,ZU,ZU,ZU,ZY,ZU,ZU⟩) rfl (A7 (qv .B 3)) (λ_ _ _ _=>(@e8 _ _ 6 _ (by decide +kernel:(["moves","place","many","steps","table","at","step"]:VJ).Nodup) rfl (Or.inl rfl) (.inr rfl))) i5 (m7 (show 6<=6 by decide)) (λ_ _ _ _=>n6) (λ_ _ _ _=>(bq O8 (br (g:=G8) (λ_=>rfl) (λ_ _=>.int)) (f6 (d8 (qv .B 6) (qv .B 5))))))) b9)))) (l9 (h7 (qcD (uv Y) (rM Y) (b7 (qv .B 5) (b7 (qv .B 2) b9)))))))) Y0.nd rfl ZZ) (c9 (@V9 _ _ _ _ _ _ _ 4 _ _ _ _ rfl ZZ (B8 (g9 pp px (l9 (h7 (D6 B7 (B6 (c:=true)) ZQ (bl Y).tuple_ r9 (b7 (h7 (n4 (Vw 38 Qu QR) rfl (A7 (qv .B 3)) (λ_ _ _ _=>(@e8 _ _ 5 _ (by decide +kernel:(QR:VJ).Nodup) rfl (Or.inl rfl) (.inr rfl))) i5 (m7 (show 5<=5 by decide)) (λ_ _ _ _=>n6) (λ_ _ _ _=>(S6 (d8 (qv .B 5) (qv .B 1)))))) b9)))) (l9 (h7 (g9 pk pq (h7 (F2 (m5 b9))) (qv .C 2)))))) ZY ZY ZQ ZQ ZQ ZQ ZQ) (d5 (@F3 _ _ _ _ _ 4 _ _ (.inl rfl) ZQ ZZ ZY ZY)))))
def jL:Def (hk w) mg "coming" (top 39) ["table"] 222 (FD "coming" 39 A0 221):=dk Y ZJ λ_ _ _ _ _ _=>us1 λ_=>rfl
def mO:FnOk P w (hk w) mg base CX0 1 222 (FD "coming" 39 A0 221) ["table"] (spM (hk w) 1 .F aH):=
 okF (jL Y) gq (.inl rfl) rfl rfl λI=>(c9 (A4 qD6 rfl (@ue _ _ _ _ _ _ _ _ _ _ ZQ (bl Y).enumerate_ (b7 (d8 (qv .B 0) (bq O8 (br (g:=G8) (λ_=>rfl) (λ_ _=>.int)) d6)) b9) ZQ ZQ) (@B4 _ (hk w) _ _ _ _ 2 rfl (k7 (@e8 _ _ 1 _ gq.nd rfl ZZ ZZ) (k7 (@e8 _ _ 2 _ gq.nd rfl ZZ ZZ) B3)) ZQ ZQ ZQ) (F5 (.inr rfl) (k9 (.inr rfl) i5 (k9 (.inr rfl) i5 B5))) (d5 (r6 (i6 K0 xGt (qv .B 2) d6) (d5 (@F3 _ _ _ _ _ 1 _ _ (.inl rfl) ZQ ZZ ZY ZY)) o9))) (d5 (h9 v7)))
def nM:Def (hk w) mg "leaving" (top 40) QS 227 (FD "leaving" 40 A0 226):=dk Y ZJ λ_ _ _ _ _ _=>us3 λ_ _ _=>rfl
def ux:FnOk P w (hk w) mg base CX0 3 227 (FD "leaving" 40 A0 226) QS (spM (hk w) 3 .F eM):=
 okL (nM Y) jV (.inl rfl) rfl rfl λI=>(c9 (R3 (i:=3) (Vw 40 ["table","held","column","lines"] QT) rfl (x6 ZQ (bl Y).range_ (b7 (n9 t5 t4 ZQ (bl Y).len_ qC4 (b7 (qv .B 1) b9)) b9)) (λ_ _ _ _=>(@e8 _ _ 4 _ (by decide +kernel:(QT:VJ).Nodup) rfl (Or.inl rfl) (.inr rfl))) i5 (m7 (show 4<=4 by decide)) (λ_ _ _ _=>(bM (i6 K0 xGt (f6 (d8 (f6 (d8 (qv .B 0) (qv .B 4))) (qv .B 2))) d6))) (λ_ _ _ _=>(qv .V 4)) jV.nd rfl ZZ) (d5 (h9 (ES (j:=1) (c:=226) Jf ZJ ZQ ZQ ZQ ZQ ZQ ZQ rfl (by show I) ZQ (bl Y).min_ (b7 (qv .B 3) b9)))))
def nQ:Def (hk w) mg "cleared" (top 42) Qv 237 (FD "cleared" 42 A0 236):=dk Y ZJ λ_ _ _ _ _ _=>us4 λ_ _ _ _=>rfl
def uA:FnOk P w (hk w) mg base CX0 1 237 (FD "cleared" 42 A0 236) Qv (spM (hk w) 4 .F eN):=
 okF (nQ Y) tP (.inl rfl) rfl rfl λI=>(d5 (h9 (D6 B7 (B6 (c:=true)) ZQ (bl Y).tuple_ r9 (b7 (h7 (n4 (Vw 42 Qv Qw) rfl (aw ZQ (bl Y).zip_ (b7 (qv .B 0) (b7 (qv .B 1) b9))) (λ_ _ _ _=>(@B4 _ (hk w) _ _ _ _ 2 rfl (k7 (@e8 _ _ 4 _ (by decide +kernel:(Qw:VJ).Nodup) rfl (Or.inl rfl) (.inr rfl)) (k7 (@e8 _ _ 5 _ (by decide +kernel:(Qw:VJ).Nodup) rfl (Or.inl rfl) (.inr rfl)) B3)) ZQ ZQ ZQ)) (F5 (.inr rfl) (k9 (.inr rfl) i5 (k9 (.inr rfl) i5 B5))) (X5 (z8 (show 4<=4 by decide) (z8 (show 4<=5 by decide) X6))) (λ_ _ _ _=>n6) (λ_ _ _ _=>(g9 gy Vt (g9 P2 bh (g9 w9 Vs (qv .B 4) (f6 (d8 (qv .B 1) (qv .B 2)))) (g9 w9 Vs (f6 (d8 (qv .B 0) (qv .B 2))) (qv .B 5))) (qv .B 3))))) b9))))
def nL:Def (hk w) mg "pivoted" (top 41) QU 232 (FD "pivoted" 41 A0 231):=dk Y ZJ λ_ _ _ _ _ _=>us4 λ_ _ _ _=>rfl
def uw:FnOk P w (hk w) mg base CX0 2 232 (FD "pivoted" 41 A0 231) QU (spM (hk w) 4 .F aZ):=
 okF (nL Y) jU (.inl rfl) rfl rfl λI=>(c9 (@ie _ _ _ _ _ _ _ 4 _ _ jU.nd rfl ZZ (d8 (qv .B 0) (qv .B 1)) ZQ ZZ) (d5 (h9 (n4 (Vw 41 ["table","line","column","scale","by"] Qx) rfl (@EY _ _ _ _ _ _ _ _ _ _ ZQ (bl Y).enumerate_ (b7 (qv .B 0) b9) ZQ ZQ) (λ_ _ _ _=>(@B4 _ (hk w) _ _ _ _ 2 rfl (k7 (@e8 _ _ 5 _ (by decide +kernel:(Qx:VJ).Nodup) rfl (Or.inl rfl) (.inr rfl)) (k7 (@e8 _ _ 6 _ (by decide +kernel:(Qx:VJ).Nodup) rfl (Or.inl rfl) (.inr rfl)) B3)) ZQ ZQ ZQ)) (F5 (.inr rfl) (k9 (.inr rfl) i5 (k9 (.inr rfl) i5 B5))) (X5 (z8 (show 5<=5 by decide) (z8 (show 5<=6 by decide) X6))) (λ_ _ _ _=>n6) (λ_ _ _ _=>(ji (i6 (W7 (aD I)) (T7 (neg:=false)) (qv .B 5) (qv .B 1)) (qv .V 6) (B8 (qcD (uA Y) (nQ Y) (b7 (qv .B 6) (b7 (qv .B 4) (b7 (qv .B 2) (b7 (qv .B 3) b9))))))))))))
def Y6:Def (hk w) mg "greatest_divisor" (top 46) ["one","other"] 261 (FD "greatest_divisor" 46 A0 260):=dk Y ZJ λ_ _ _ _ _ _=>us2 λ_ _=>rfl
def dW:FnOk P w (hk w) mg base CX0 1 261 (FD "greatest_divisor" 46 A0 260) ["one","other"] (spM (hk w) 2 .F F7):=
 okF (Y6 Y) E8 (.inl rfl) rfl rfl λI=>(c9 (fv qD6 (i6 ij dY (qv .B 1) d6) (c9 (y6 (i:=2) E8.nd rfl ZZ (g9 A1 Vu (qv .B 0) (qv .B 1)) ZQ ZZ) (c9 (y6 (i:=0) E8.nd rfl ZZ (qv .V 1) ZQ ZZ) (d5 (y6 (i:=1) E8.nd rfl ZZ (qv .V 2) ZQ ZZ))))) (d5 (@F3 _ _ _ _ _ 0 _ _ (.inl rfl) ZQ ZZ ZY ZY)))
def O3:Def (hk w) mg "in_least_numbers" (top 45) ["numbers"] 254 (FD "in_least_numbers" 45 A0 253):=dk Y ZJ λ_ _ _ _ _ _=>us1 λ_=>rfl
def W8:FnOk P w (hk w) mg base CX0 2 254 (FD "in_least_numbers" 45 A0 253) ["numbers"] (spM (hk w) 1 .F F6):=
 okF (O3 Y) E7 (.inl rfl) rfl rfl λI=>(c9 (y6 (i:=1) E7.nd rfl ZZ d6 ZQ ZZ) (c9 (A4 qD6 rfl (P1 (qv .U 0)) (@e8 _ _ 2 _ E7.nd rfl ZZ ZZ) i5 (d5 (i7 (i:=1) E7.nd rfl ZZ (qcD (dW Y) (Y6 Y) (b7 (qv .B 1) (b7 (qv .B 2) b9))) ZQ ZZ))) (d5 (h9 (D6 B7 (B6 (c:=true)) ZQ (bl Y).tuple_ r9 (b7 (h7 (n4 (Vw 45 ["numbers","shared","number"] QV) rfl (A7 (qv .B 0)) (λ_ _ _ _=>(@e8 _ _ 3 _ (by decide +kernel:(QV:VJ).Nodup) rfl (Or.inl rfl) (.inr rfl))) i5 (m7 (show 3<=3 by decide)) (λ_ _ _ _=>n6) (λ_ _ _ _=>(g9 gy Vt (qv .B 3) (qv .B 1))))) b9))))))
def fZ:Def (hk w) mg "weights_of" (top 44) QW 249 (FD "weights_of" 44 A0 248):=dk Y ZJ λ_ _ _ _ _ _=>us4 λ_ _ _ _=>rfl
def mJ:FnOk P w (hk w) mg base CX0 3 249 (FD "weights_of" 44 A0 248) QW (spM (hk w) 4 .F aE):=
 okF (fZ Y) dL (.inl rfl) rfl rfl λI=>(c9 (R3 (i:=4) (Vw 44 ["table","place","scale","many_moves","losses"] QX) rfl (A7 (l9 (h7 (@IJ _ _ _ _ _ _ _ _ _ _ _ (f6 (d8 (qv .B 0) (bq O8 (br (g:=G8) (λ_=>rfl) (λ_ _=>.int)) d6))) (mq (qv .B 3)) mw ZQ)))) (λ_ _ _ _=>(@e8 _ _ 5 _ (by decide +kernel:(QX:VJ).Nodup) rfl (Or.inl rfl) (.inr rfl))) i5 (m7 (show 5<=5 by decide)) (λ_ _ _ _=>n6) (λ_ _ _ _=>(bq O8 (br (g:=G8) (λ_=>rfl) (λ_ _=>.int)) (qv .B 5))) dL.nd rfl ZZ) (d5 (h9 (qcD (W8 Y) (O3 Y) (b7 (l9 (h7 (qcD (aU Y) (aK Y) (b7 (qv .B 4) (b7 (l9 (h7 (qcD (uv Y) (rM Y) (b7 (qv .B 1) (b7 (n9 t5 t4 ZQ (bl Y).len_ qC4 (b7 (qv .B 4) b9)) b9))))) (b7 (qv .B 2) b9)))))) b9)))))
def qi:Def (hk w) mg "bag_of" (top 43) QY 244 (FD "bag_of" 43 A0 243):=dk Y ZJ λ_ _ _ _ _ _=>us5 λ_ _ _ _ _=>rfl
def xD:FnOk P w (hk w) mg base CX0 3 244 (FD "bag_of" 43 A0 243) QY (spM (hk w) 5 .F gL):=
 okF (qi Y) cJ (.inl rfl) rfl rfl λI=>(c9 (i7 (i:=5) cJ.nd rfl ZZ (g9 mI (mR (c:=true)) (h7 (B0 (m5 b9))) (n9 t5 t4 ZQ (bl Y).len_ qC4 (b7 (f6 (d8 (qv .B 0) d6)) b9))) ZQ ZZ) (c9 (@ig _ _ _ _ _ _ _ _ 5 _ _ _ _ rfl ZZ (qv .B 2) (qv .V 3) ZY ZY (@dS _ _ _ _ _ _ _ (@pv _ 5 _ _ ZQ ZZ ZY ZY) (qv .B 2) set_list (by intro _;rfl)) ZQ ZQ) (c9 (A4 qD6 rfl (@ue _ _ _ _ _ _ _ _ _ _ ZQ (bl Y).enumerate_ (b7 (qv .U 1) b9) ZQ ZQ) (@B4 _ (hk w) _ _ _ _ 2 rfl (k7 (@e8 _ _ 6 _ cJ.nd rfl ZZ ZZ) (k7 (@e8 _ _ 7 _ cJ.nd rfl ZZ ZZ) B3)) ZQ ZQ ZQ) (F5 (.inr rfl) (k9 (.inr rfl) i5 (k9 (.inr rfl) i5 B5))) (d5 (@ig _ _ _ _ _ _ _ _ 5 _ _ _ _ rfl ZZ (qv .B 7) (bq O8 (br (g:=G8) (λ_=>rfl) (λ_ _=>.int)) (f6 (d8 (f6 (d8 (qv .B 0) (qv .B 6))) (qv .B 2)))) ZY ZY (@dS _ _ _ _ _ _ _ (@pv _ 5 _ _ ZQ ZZ ZY ZY) (qv .B 7) set_list (by intro _;rfl)) ZQ ZQ))) (d5 (h9 (qcD (W8 Y) (O3 Y) (b7 (l9 (h7 (@qK _ _ _ _ _ _ true _ _ _ _ _ (qv .C 5) mw (mq (qv .B 4)) ZQ))) b9)))))))
def nR:Def (hk w) mg "ceiling" (top 37) Qg 210 (FD "ceiling" 37 A0 209):=dk Y ZJ λ_ _ _ _ _ _=>us3 λ_ _ _=>rfl
def uB:FnOk P w (hk w) mg base CX0 4 210 (FD "ceiling" 37 A0 209) Qg (spM (hk w) 3 .F eO):=
 okF (nR Y) E9 (.inl rfl) rfl rfl λI=>(c9 (i7 (i:=3) E9.nd rfl ZZ (qcD (kR Y) (eU Y) (b7 (qv .B 0) (b7 (qv .B 1) (b7 (qv .B 2) b9)))) ZQ ZZ) (c9 (R3 (i:=4) (Vw 37 ["moves","place","many","table","held","scale","column","line"] QZ) rfl (x6 ZQ (bl Y).range_ (b7 (qv .B 2) b9)) (λ_ _ _ _=>(@e8 _ _ 8 _ (by decide +kernel:(QZ:VJ).Nodup) rfl (Or.inl rfl) (.inr rfl))) i5 (m7 (show 8<=8 by decide)) (λ_ _ _ _=>n6) (λ_ _ _ _=>(g9 x4 D9 (n9 t5 t4 ZQ (bl Y).len_ qC4 (b7 (qv .B 0) b9)) (qv .B 8))) E9.nd rfl ZZ) (c9 (y6 (i:=5) E9.nd rfl ZZ d6 ZQ ZZ) (c9 (i7 (i:=6) E9.nd rfl ZZ (qcD (mO Y) (jL Y) (b7 (qv .B 3) b9)) ZQ ZZ) (c9 (fv qD6 (i6 ac ad (qv .B 6) v7) (c9 (i7 (i:=7) E9.nd rfl ZZ (qcD (ux Y) (nM Y) (b7 (qv .B 3) (b7 (qv .B 4) (b7 (qv .B 6) b9)))) ZQ ZZ) (c9 (r6 (i6 S9 T6 (qv .B 7) v7) (d5 (h9 (F2 (b7 P7 (b7 (B8 (qcD (xD Y) (qi Y) (b7 (qv .B 3) (b7 (qv .B 4) (b7 (qv .B 6) (b7 (qv .B 5) (b7 (n9 t5 t4 ZQ (bl Y).len_ qC4 (b7 (qv .B 0) b9)) b9))))))) b9))))) o9) (c9 (i7 (i:=3) E9.nd rfl ZZ (qcD (uw Y) (nL Y) (b7 (qv .B 3) (b7 (qv .B 7) (b7 (qv .B 6) (b7 (qv .B 5) b9))))) ZQ ZZ) (c9 (fx (@ig _ _ _ _ _ _ _ _ 4 _ _ _ _ rfl ZZ (qv .B 7) (qv .V 6) ZY ZY (@dS _ _ _ _ _ _ _ (@pv _ 4 _ _ ZQ ZZ ZY ZY) (qv .B 7) set_list (by intro _;rfl)) ZQ ZQ)) (c9 (y6 (i:=5) E9.nd rfl ZZ (cK (xp (cK (qv .C 3) (qv .C 7))) (qv .C 6)) ZQ ZZ) (d5 (i7 (i:=6) E9.nd rfl ZZ (qcD (mO Y) (jL Y) (b7 (qv .B 3) b9)) ZQ ZZ)))))))) (d5 (h9 (F2 (b7 P7 (b7 (B8 (qcD (mJ Y) (fZ Y) (b7 (qv .B 3) (b7 (qv .B 1) (b7 (qv .B 5) (b7 (n9 t5 t4 ZQ (bl Y).len_ qC4 (b7 (qv .B 0) b9)) b9)))))) b9))))))))))
def u9:Def (hk w) mg "_law_cell" (top 48) ["_law_script","_law_k"] 268 (FD "_law_cell" 48 t0 267):=dk Y ZJ λ_ _ _ _ _ _=>us2 λ_ _=>rfl
def t7:FnOk P w (hk w) mg base CX0 1 268 (FD "_law_cell" 48 t0 267) ["_law_script","_law_k"] (spM (hk w) 2 .F p9):=
 okF (u9 Y) bp (.inl rfl) rfl rfl λI=>(c9 (r6 (i6 cO xLt (qv .B 1) (n9 t5 t4 ZQ (bl Y).len_ qC4 (b7 (qv .B 0) b9))) (d5 (h9 (Fa (d8 (qv .B 0) (qv .B 1))))) o9) (c9 (y6 (i:=2) bp.nd rfl ZZ (g9 x4 D9 (g9 w9 Vs d6 (qv .B 1)) d6) ZQ ZZ) (c9 (r6 (i6 K0 xGt (n9 t5 t4 ZQ (bl Y).len_ qC4 (b7 (qv .B 0) b9)) d6) (d5 (y6 (i:=2) bp.nd rfl ZZ (g9 x4 D9 (g9 x4 D9 (g9 w9 Vs (f6 (d8 (qv .B 0) (g9 A1 Vu (g9 w9 Vs (qv .B 1) d6) (n9 t5 t4 ZQ (bl Y).len_ qC4 (b7 (qv .B 0) b9))))) d6) (g9 w9 Vs (g9 w9 Vs (qv .B 1) (qv .B 1)) d6)) d6) ZQ ZZ)) o9) (d5 (h9 (g9 A1 Vu (g9 w9 Vs (qv .B 2) (qv .B 2)) d6))))))
def iI:Def (hk w) mg "_law_move" (top 49) JY 273 (FD "_law_move" 49 t0 272):=dk Y ZJ λ_ _ _ _ _ _=>us5 λ_ _ _ _ _=>rfl
def oE:FnOk P w (hk w) mg base CX0 2 273 (FD "_law_move" 49 t0 272) JY (spM (hk w) 5 .F bB):=
 okF (iI Y) D3 (.inl rfl) rfl rfl λI=>(c9 (i7 (i:=5) D3.nd rfl ZZ (B0 b9) ZQ ZZ) (c9 (i7 (i:=6) D3.nd rfl ZZ (B0 b9) ZQ ZZ) (c9 (A4 qD6 rfl (x6 ZQ (bl Y).range_ (b7 (qv .B 2) b9)) (@e8 _ _ 7 _ D3.nd rfl ZZ ZZ) i5 (c9 (i7 (i:=8) D3.nd rfl ZZ (qcD (t7 Y) (u9 Y) (b7 (qv .B 0) (b7 (g9 x4 D9 (qv .B 1) (qv .B 7)) b9))) ZQ ZZ) (c9 (@V9 _ _ _ _ _ _ _ 5 _ _ _ _ rfl ZZ (cK (h7 EV) (g9 A1 Vu (qv .B 8) d6)) ZY ZY ZQ ZQ ZQ ZQ ZQ) (d5 (@V9 _ _ _ _ _ _ _ 6 _ _ _ _ rfl ZZ (g9 w9 Vs (f6 (d8 (l9 (h7 EU)) (g9 A1 Vu (g9 bQ Vv (qv .B 8) d6) d6))) (qv .B 4)) ZY ZY ZQ ZQ ZQ ZQ ZQ))))) (c9 (r6 (C6 (qv .B 3)) (c9 (y6 (i:=9) D3.nd rfl ZZ (g9 A1 Vu (g9 bQ Vv (l9 (h7 (qcD (t7 Y) (u9 Y) (b7 (qv .B 0) (b7 (qv .B 1) b9))))) d6) (qv .B 2)) ZQ ZZ) (c9 (R3 (i:=5) (Vw 49 JZ Qh) rfl (x6 ZQ (bl Y).range_ (b7 (qv .B 2) b9)) (λ_ _ _ _=>(@e8 _ _ 10 _ (by decide +kernel:(Qh:VJ).Nodup) rfl (Or.inl rfl) (.inr rfl))) i5 (m7 (show 10<=10 by decide)) (λ_ _ _ _=>n6) (λ_ _ _ _=>(D6 ff rX ZQ (bl Y).int_ iL (b7 (L3 (W7 (aD I)) (T7 (neg:=false)) (qv .B 10) (qv .B 9)) b9))) D3.nd rfl ZZ) (d5 (R3 (i:=6) (Vw 49 JZ Qh) rfl (x6 ZQ (bl Y).range_ (b7 (qv .B 2) b9)) (λ_ _ _ _=>(@e8 _ _ 10 _ (by decide +kernel:(Qh:VJ).Nodup) rfl (Or.inl rfl) (.inr rfl))) i5 (m7 (show 10<=10 by decide)) (λ_ _ _ _=>n6) (λ_ _ _ _=>(g9 w9 Vs (g9 w9 Vs (D6 ff rX ZQ (bl Y).int_ iL (b7 (L3 T0 M0 (qv .B 10) (g9 A1 Vu (g9 x4 D9 (qv .B 9) d6) (qv .B 2))) b9)) (g9 x4 D9 d6 (D6 ff rX ZQ (bl Y).int_ iL (b7 (L3 T0 M0 (qv .B 9) d6) b9)))) (qv .B 4))) D3.nd rfl ZZ)))) o9) (d5 (h9 (F2 (b7 (B8 (D6 B7 (B6 (c:=true)) ZQ (bl Y).tuple_ r9 (b7 (qv .C 5) b9))) (b7 (B8 (D6 B7 (B6 (c:=true)) ZQ (bl Y).tuple_ r9 (b7 (qv .C 6) b9))) b9)))))))))
def U4:Def (hk w) mg "_law_covers" (top 50) Va 280 (FD "_law_covers" 50 t0 279):=dk Y ZJ λ_ _ _ _ _ _=>us2 λ_ _=>rfl
def Y1:FnOk P w (hk w) mg base CX0 1 280 (FD "_law_covers" 50 t0 279) Va (spM (hk w) 2 .F E2):=
 okF (U4 Y) dm (.inl rfl) rfl rfl λI=>(c9 (A4 qD6 rfl (x6 ZQ (bl Y).range_ (b7 (n9 t5 t4 ZQ (bl Y).len_ qC4 (b7 (qv .B 0) b9)) b9)) (@e8 _ _ 2 _ dm.nd rfl ZZ ZZ) i5 (d5 (r6 (i6 cO xLt (f6 (d8 (qv .B 0) (qv .B 2))) (f6 (d8 (qv .B 1) (qv .B 2)))) (d5 (h9 S7)) o9))) (d5 (h9 S7)))
def eY:Def (hk w) mg "_law_behind" (top 51) Qy 285 (FD "_law_behind" 51 t0 284):=dk Y ZJ λ_ _ _ _ _ _=>us2 λ_ _=>rfl
def kX:FnOk P w (hk w) mg base CX0 1 285 (FD "_law_behind" 51 t0 284) Qy (spM (hk w) 2 .F Y3):=
 okF (eY Y) kP (.inl rfl) rfl rfl λI=>(d5 (h9 (D6 B7 (B6 (c:=true)) ZQ (bl Y).tuple_ r9 (b7 (h7 (n4 (Vw 51 Qy Vb) rfl (x6 ZQ (bl Y).range_ (b7 (n9 t5 t4 ZQ (bl Y).len_ qC4 (b7 (qv .B 0) b9)) b9)) (λ_ _ _ _=>(@e8 _ _ 2 _ (by decide +kernel:(Vb:VJ).Nodup) rfl (Or.inl rfl) (.inr rfl))) i5 (m7 (show 2<=2 by decide)) (λ_ _ _ _=>n6) (λ_ _ _ _=>(g9 x4 D9 (g9 P2 bh (f6 (d8 (qv .B 0) (qv .B 2))) (f6 (d8 (f6 (d8 (qv .B 1) d6)) (qv .B 2)))) (f6 (d8 (f6 (d8 (qv .B 1) d6)) (qv .B 2))))))) b9))))
def gc:Def (hk w) mg "_law_drawn" (top 52) Vc 290 (FD "_law_drawn" 52 t0 289):=dk Y ZJ λ_ _ _ _ _ _=>us3 λ_ _ _=>rfl
def mP:FnOk P w (hk w) mg base CX0 2 290 (FD "_law_drawn" 52 t0 289) Vc (spM (hk w) 3 .F aJ):=
 okF (gc Y) S3 (.inl rfl) rfl rfl λI=>(c9 (i7 (i:=3) S3.nd rfl ZZ (B0 (b7 (qv .V 1) b9)) ZQ ZZ) (c9 (A4 qD6 rfl (x6 ZQ (bl Y).range_ (b7 (n9 (vH rfl) (b_2 (g:=rD)) ZQ (bl Y).min_ vN (m5 (b7 (g9 x4 D9 d6 (n9 t5 t4 ZQ (bl Y).len_ qC4 (b7 (qv .B 0) b9))) b9))) b9)) (@e8 _ _ 4 _ S3.nd rfl ZZ ZZ) i5 (c9 (R3 (i:=5) (Vw 52 ["_law_script","_law_begin","_law_moves","_law_stands","_law_k","_law_goers"] Vd) rfl (A7 (qv .B 2)) (λ_ _ _ _=>(@e8 _ _ 6 _ (by decide +kernel:(Vd:VJ).Nodup) rfl (Or.inl rfl) (.inr rfl))) i5 (m7 (show 6<=6 by decide)) (λ_ _ _ _=>(bM (C6 (l9 (h7 (qcD (Y1 Y) (U4 Y) (b7 (f6 (d8 (qv .B 3) (bq O8 (br (g:=G8) (λ_=>rfl) (λ_ _=>.int)) d6))) (b7 (f6 (d8 (qv .B 6) d6)) b9)))))))) (λ_ _ _ _=>(qv .V 6)) S3.nd rfl ZZ) (c9 (r6 (i6 (W7 (aD I)) (T7 (neg:=false)) (qv .B 5) (l9 (h7 (B0 b9)))) (d5 (@F3 _ _ _ _ _ 3 _ _ (.inl rfl) ZQ ZZ ZY ZY)) o9) (d5 (@V9 _ _ _ _ _ _ _ 3 _ _ _ _ rfl ZZ (B8 (qcD (kX Y) (eY Y) (b7 (f6 (d8 (qv .B 3) (bq O8 (br (g:=G8) (λ_=>rfl) (λ_ _=>.int)) d6))) (b7 (f6 (d8 (qv .B 5) (g9 A1 Vu (g9 bQ Vv (l9 (h7 (qcD (t7 Y) (u9 Y) (b7 (qv .B 0) (b7 (qv .B 4) b9))))) d6) (n9 t5 t4 ZQ (bl Y).len_ qC4 (b7 (qv .B 5) b9))))) b9)))) ZY ZY ZQ ZQ ZQ ZQ ZQ))))) (d5 (@F3 _ _ _ _ _ 3 _ _ (.inl rfl) ZQ ZZ ZY ZY))))
def iH:Def (hk w) mg "_law_need" (top 53) Ve 297 (FD "_law_need" 53 t0 296):=dk Y ZJ λ_ _ _ _ _ _=>us3 λ_ _ _=>rfl
def oD:FnOk P w (hk w) mg base CX0 1 297 (FD "_law_need" 53 t0 296) Ve (spM (hk w) 3 .F bz):=
 okF (iH Y) O9 (.inl rfl) rfl rfl λI=>(c9 (i7 (i:=3) O9.nd rfl ZZ (g9 mI (mR (c:=true)) (h7 (B0 (m5 b9))) (qv .C 2)) ZQ ZZ) (c9 (i7 (i:=4) O9.nd rfl ZZ (g9 mI (mR (c:=true)) (h7 (B0 (m5 b9))) (qv .C 2)) ZQ ZZ) (c9 (A4 qD6 rfl (P1 (qv .U 0)) (@e8 _ _ 5 _ O9.nd rfl ZZ ZZ) i5 (d5 (A4 qD6 rfl (x6 ZQ (bl Y).range_ (b7 (qv .B 2) b9)) (@e8 _ _ 6 _ O9.nd rfl ZZ ZZ) i5 (c9 (@ig _ _ _ _ _ _ _ _ 3 _ _ _ _ rfl ZZ (qv .B 6) (n9 (fc rfl) (b_2 (g:=eK)) ZQ (bl Y).max_ cj (b7 (f6 (d8 (qv .B 3) (qv .B 6))) (b7 (g9 P2 bh (f6 (d8 (f6 (d8 (f6 (d8 (qv .B 1) (qv .B 5))) d6)) (qv .B 6))) (f6 (d8 (qv .B 4) (qv .B 6)))) b9))) ZY ZY (@dS _ _ _ _ _ _ _ (@pv _ 3 _ _ ZQ ZZ ZY ZY) (qv .B 6) set_list (by intro _;rfl)) ZQ ZQ) (d5 (@ig _ _ _ _ _ _ _ _ 4 _ _ _ _ rfl ZZ (qv .B 6) (g9 P2 bh (g9 x4 D9 (f6 (d8 (qv .B 4) (qv .B 6))) (f6 (d8 (f6 (d8 (f6 (d8 (qv .B 1) (qv .B 5))) d6)) (qv .B 6)))) (f6 (d8 (f6 (d8 (f6 (d8 (qv .B 1) (qv .B 5))) d6)) (qv .B 6)))) ZY ZY (@dS _ _ _ _ _ _ _ (@pv _ 4 _ _ ZQ ZZ ZY ZY) (qv .B 6) set_list (by intro _;rfl)) ZQ ZQ)))))) (d5 (fx (fx (h9 (F2 (b7 (qv .V 3) (b7 (qv .V 4) b9))))))))))
def eX:Def (hk w) mg "_law_blocks" (top 54) Vf 302 (FD "_law_blocks" 54 t0 301):=dk Y ZJ λ_ _ _ _ _ _=>us3 λ_ _ _=>rfl
def kT:FnOk P w (hk w) mg base CX0 2 302 (FD "_law_blocks" 54 t0 301) Vf (spM (hk w) 3 .F E3):=
 okF (eX Y) A2 (.inl rfl) rfl rfl λI=>(c9 (r6 (PW.pt (N4 (C0 (C6 (n9 aM iM ZQ (bl Y).isinstance_ qI2 (b7 (qv .B 0) (b7 (@mm _ _ _ _ _ _ _ ZQ (bl Y).list_ qk ZY ZY) b9))))) (P0 (i6 K0 xGt (n9 t5 t4 ZQ (bl Y).len_ qC4 (b7 (qv .B 0) b9)) d6)))) (d5 (h9 v7)) o9) (c9 (A4 qD6 rfl (P1 (qv .U 0)) (@e8 _ _ 3 _ A2.nd rfl ZZ ZZ) i5 (c9 (r6 (PW.pt (N4 (C0 (C6 (n9 aM iM ZQ (bl Y).isinstance_ qI2 (b7 (qv .B 3) (b7 (@mm _ _ _ _ _ _ _ ZQ (bl Y).tuple_ r9 ZY ZY) b9))))) (N4 (i6 ij dY (n9 t5 t4 ZQ (bl Y).len_ qC4 (b7 (qv .B 3) b9)) d6) (P0 (i6 K0 xGt (n9 t5 t4 ZQ (bl Y).len_ qC4 (b7 (f6 (d8 (qv .B 3) d6)) b9)) d6))))) (d5 (h9 v7)) o9) (c9 (@zw _ _ _ _ _ _ _ _ _ _ _ (qv .U 3) (@B4 _ (hk w) _ _ _ _ 2 rfl (k7 (@e8 _ _ 4 _ A2.nd rfl ZZ ZZ) (k7 (@e8 _ _ 5 _ A2.nd rfl ZZ ZZ) B3)) ZQ ZQ ZQ) (F5 (.inr rfl) (k9 (.inr rfl) i5 (k9 (.inr rfl) i5 B5))) ZQ ZQ ZQ) (c9 (r6 (PW.pt (N4 (i6 cO xLt (qv .B 5) d6) (P0 (i6 K0 xGt (n9 t5 t4 ZQ (bl Y).len_ qC4 (b7 (l9 (h7 (n4 (Vw 54 Qz Vg) rfl (A7 (qv .B 4)) (λ_ _ _ _=>(@e8 _ _ 9 _ (by decide +kernel:(Vg:VJ).Nodup) rfl (Or.inl rfl) (.inr rfl))) i5 (m7 (show 9<=9 by decide)) (λ_ _ _ _=>(bM (C0 (@xo _ _ _ _ _ _ _ _ _ _ _ _ _ _ _ _ _ zz xLe cO xLt d6 (qv .B 9) (n9 t5 t4 ZQ (bl Y).len_ qC4 (b7 (qv .B 2) b9)) (by with_unfolding_all rfl))))) (λ_ _ _ _=>(qv .V 9))))) b9)) d6)))) (d5 (h9 v7)) o9) (d5 (r6 (i6 K0 xGt (qv .B 5) d6) (c9 (@zw _ _ _ _ _ _ _ _ _ _ _ (jj (B8 (qcD (oD Y) (iH Y) (b7 (qv .B 4) (b7 (qv .B 2) (b7 (n9 t5 t4 ZQ (bl Y).len_ qC4 (b7 (qv .B 1) b9)) b9)))))) (@B4 _ (hk w) _ _ _ _ 2 rfl (k7 (@e8 _ _ 6 _ A2.nd rfl ZZ ZZ) (k7 (@e8 _ _ 7 _ A2.nd rfl ZZ ZZ) B3)) ZQ ZQ ZQ) (F5 (.inr rfl) (k9 (.inr rfl) i5 (k9 (.inr rfl) i5 B5))) ZQ ZQ ZQ) (c9 (R3 (i:=8) (Vw 54 Qz Qi) rfl (x6 ZQ (bl Y).range_ (b7 (n9 t5 t4 ZQ (bl Y).len_ qC4 (b7 (qv .B 1) b9)) b9)) (λ_ _ _ _=>(@e8 _ _ 9 _ (by decide +kernel:(Qi:VJ).Nodup) rfl (Or.inl rfl) (.inr rfl))) i5 (m7 (show 9<=9 by decide)) (λ_ _ _ _=>n6) (λ_ _ _ _=>(g9 x4 D9 (f6 (d8 (qv .B 1) (qv .B 9))) (g9 w9 Vs (g9 P2 bh (qv .B 5) d6) (f6 (d8 (qv .B 7) (qv .B 9)))))) A2.nd rfl ZZ) (c9 (r6 (PW.pt (N4 (C0 (C6 (l9 (h7 (qcD (Y1 Y) (U4 Y) (b7 (qv .B 1) (b7 (qv .B 6) b9))))))) (P0 (C0 (C6 (l9 (h7 (qcD (Y1 Y) (U4 Y) (b7 (qv .B 8) (b7 (qv .B 6) b9)))))))))) (d5 (h9 v7)) o9) (d5 (i7 (i:=1) A2.nd rfl ZZ (D6 B7 (B6 (c:=true)) ZQ (bl Y).tuple_ r9 (b7 (h7 (n4 (Vw 54 Qz Qi) rfl (x6 ZQ (bl Y).range_ (b7 (n9 t5 t4 ZQ (bl Y).len_ qC4 (b7 (qv .B 1) b9)) b9)) (λ_ _ _ _=>(@e8 _ _ 9 _ (by decide +kernel:(Qi:VJ).Nodup) rfl (Or.inl rfl) (.inr rfl))) i5 (m7 (show 9<=9 by decide)) (λ_ _ _ _=>n6) (λ_ _ _ _=>(g9 x4 D9 (f6 (d8 (qv .B 1) (qv .B 9))) (g9 w9 Vs (qv .B 5) (f6 (d8 (qv .B 7) (qv .B 9)))))))) b9)) ZQ ZZ))))) o9)))))) (d5 (@F3 _ _ _ _ _ 1 _ _ (.inl rfl) ZQ ZZ ZY ZY))))
def P5:Def (hk w) mg "_law_weigh" (top 55) QB 307 (FD "_law_weigh" 55 t0 306):=dk Y ZJ λ_ _ _ _ _ _=>us2 λ_ _=>rfl
def T4:FnOk P w (hk w) mg base CX0 1 307 (FD "_law_weigh" 55 t0 306) QB (spM (hk w) 2 .F D7):=
 okF (P5 Y) lU (.inl rfl) rfl rfl λI=>(d5 (h9 (n9 (kL rfl) (vV (g:=jD)) ZQ (bl Y).sum_ vL (b7 (l9 (h7 (n4 (Vw 55 QB Vh) rfl (x6 ZQ (bl Y).range_ (b7 (n9 t5 t4 ZQ (bl Y).len_ qC4 (b7 (qv .B 1) b9)) b9)) (λ_ _ _ _=>(@e8 _ _ 2 _ (by decide +kernel:(Vh:VJ).Nodup) rfl (Or.inl rfl) (.inr rfl))) i5 (m7 (show 2<=2 by decide)) (λ_ _ _ _=>n6) (λ_ _ _ _=>(g9 w9 Vs (f6 (d8 (qv .B 0) (qv .B 2))) (f6 (d8 (qv .B 1) (qv .B 2)))))))) b9))))
def bE:Def (hk w) mg "_law_whole" (top 56) QC 312 (FD "_law_whole" 56 t0 311):=dk Y ZJ λ_ _ _ _ _ _=>us2 λ_ _=>rfl
def dX:FnOk P w (hk w) mg base CX0 1 312 (FD "_law_whole" 56 t0 311) QC (spM (hk w) 2 .F U2):=
 okF (bE Y) lT (.inl rfl) rfl rfl λI=>(c9 (r6 (PW.pt (N4 (C0 (C6 (n9 aM iM ZQ (bl Y).isinstance_ qI2 (b7 (qv .B 0) (b7 (@mm _ _ _ _ _ _ _ ZQ (bl Y).tuple_ r9 ZY ZY) b9))))) (P0 (i6 ij dY (n9 t5 t4 ZQ (bl Y).len_ qC4 (b7 (qv .B 0) b9)) (qv .B 1))))) (d5 (h9 S7)) o9) (d5 (h9 (L3 T0 M0 (n9 t5 t4 ZQ (bl Y).len_ qC4 (b7 (l9 (h7 (n4 (Vw 56 QC Vi) rfl (A7 (qv .B 0)) (λ_ _ _ _=>(@e8 _ _ 2 _ (by decide +kernel:(Vi:VJ).Nodup) rfl (Or.inl rfl) (.inr rfl))) i5 (m7 (show 2<=2 by decide)) (λ_ _ _ _=>(bM (PW.pt (N4 (C0 (C6 (n9 aM iM ZQ (bl Y).isinstance_ qI2 (b7 (qv .B 2) (b7 (@mm _ _ _ _ _ _ _ ZQ (bl Y).int_ iL ZY ZY) b9))))) (N4 (C6 (n9 aM iM ZQ (bl Y).isinstance_ qI2 (b7 (qv .B 2) (b7 (@mm _ _ _ _ _ _ _ ZQ (bl Y).bool_ CP ZY ZY) b9)))) (P0 (i6 cO xLt (qv .B 2) d6))))))) (λ_ _ _ _=>(qv .V 2))))) b9)) d6))))
def dA:Def (hk w) mg "_law_falling" (top 57) Vj 319 (FD "_law_falling" 57 t0 318):=dk Y ZJ λ_ _ _ _ _ _=>us4 λ_ _ _ _=>rfl
def jm:FnOk P w (hk w) mg base CX0 2 319 (FD "_law_falling" 57 t0 318) Vj (spM (hk w) 4 .F N9):=
 okF (dA Y) bK (.inl rfl) rfl rfl λI=>(c9 (r6 (PW.pt (N4 (C0 (C6 (l9 (h7 (qcD (dX Y) (bE Y) (b7 (qv .B 0) (b7 (qv .B 3) b9))))))) (P0 (i6 cO xLt (f6 (d8 (qv .B 0) (qv .B 1))) d6)))) (d5 (h9 S7)) o9) (c9 (A4 qD6 rfl (P1 (qv .U 2)) (@e8 _ _ 4 _ bK.nd rfl ZZ ZZ) i5 (d5 (r6 (i6 K0 xGt (l9 (h7 (qcD (T4 Y) (P5 Y) (b7 (qv .B 0) (b7 (f6 (d8 (qv .B 4) d6)) b9))))) (l9 (h7 (qcD (T4 Y) (P5 Y) (b7 (qv .B 0) (b7 (f6 (d8 (qv .B 4) d6)) b9)))))) (d5 (h9 S7)) o9))) (d5 (h9 S7))))
def kG:Def (hk w) mg "_law_bag" (top 58) Vk 324 (FD "_law_bag" 58 t0 323):=dk Y ZJ λ_ _ _ _ _ _=>us4 λ_ _ _ _=>rfl
def qT:FnOk P w (hk w) mg base CX0 2 324 (FD "_law_bag" 58 t0 323) Vk (spM (hk w) 4 .F cY):=
 okF (kG Y) ia (.inl rfl) rfl rfl λI=>(c9 (r6 (C0 (C6 (l9 (h7 (qcD (dX Y) (bE Y) (b7 (qv .B 0) (b7 (n9 t5 t4 ZQ (bl Y).len_ qC4 (b7 (qv .B 2) b9)) b9))))))) (d5 (h9 S7)) o9) (c9 (mn (i:=4) (show G0 (c8 (top 58)) _ ["_law_bag_here","_law_place","_law_moves","_law_many","_law_gain"] Vl "_law_p" from ⟨rfl,⟨λ_ _=>rfl,λ_=>rfl⟩,ZU,ZQ,ZU,ZU,ZU,ZY,ZU,ZU⟩) rfl (x6 ZQ (bl Y).range_ (b7 (qv .B 3) b9)) (λ_ _ _ _=>(@e8 _ _ 5 _ (by decide +kernel:(Vl:VJ).Nodup) rfl (Or.inr rfl) (.inl (by first|rfl|show qT1 _)))) i5 (m7 (show 5<=5 by decide)) (λ_ _ _ _=>n6) (λ_ _ _ _=>(n9 (kL rfl) (vV (g:=jD)) ZQ (bl Y).sum_ vL (b7 (l9 (h7 (n4 (by show kJ ⟨rfl,ZU,ZU,ZU,ZU,ZY,ZU,ZU⟩) rfl (x6 ZQ (bl Y).range_ (b7 (n9 t5 t4 ZQ (bl Y).len_ qC4 (b7 (qv .B 2) b9)) b9)) (λ_ _ _ _=>(@e8 _ _ 6 _ (by decide +kernel:(["_law_bag_here","_law_place","_law_moves","_law_many","_law_gain","_law_p","_law_k"]:VJ).Nodup) rfl (Or.inl rfl) (.inr rfl))) i5 (m7 (show 6<=6 by decide)) (λ_ _ _ _=>n6) (λ_ _ _ _=>(g9 w9 Vs (f6 (d8 (qv .B 0) (qv .B 6))) (g9 P2 bh (f6 (d8 (f6 (d8 (f6 (d8 (qv .B 2) (qv .B 6))) d6)) (qv .B 5))) (f6 (d8 (f6 (d8 (f6 (d8 (qv .B 2) (qv .B 6))) d6)) (qv .B 5))))))))) b9))) ia.nd rfl ZZ) (d5 (h9 (lg (L3 zA xGe (n9 (vG rfl) (iN (g:=aB)) ZQ (bl Y).min_ vN (b7 (qv .B 4) b9)) d6) (qL (L3 K0 xGt (f6 (d8 (qv .B 4) (qv .B 1))) d6)))))))
def Y5:Def (hk w) mg "_law_climbed" (top 59) Vm 331 (FD "_law_climbed" 59 t0 330):=dk Y ZJ λ_ _ _ _ _ _=>us5 λ_ _ _ _ _=>rfl
def bT:FnOk P w (hk w) mg base CX0 7 331 (FD "_law_climbed" 59 t0 330) Vm (spM (hk w) 5 .F O0):=
 okF (Y5 Y) N3 (.inl rfl) rfl rfl λI=>(c9 (i7 (i:=5) N3.nd rfl ZZ (qcD (mN Y) (jI Y) (b7 (qv .B 0) (b7 (qv .B 1) b9))) ZQ ZZ) (c9 (A4 qD6 rfl (x6 ZQ (bl Y).range_ (b7 (n9 t5 t4 ZQ (bl Y).len_ qC4 (b7 (qv .B 5) b9)) b9)) (@e8 _ _ 6 _ N3.nd rfl ZZ ZZ) i5 (c9 (y6 (i:=7) N3.nd rfl ZZ (cK (xp (cK (xp (cK (qv .C 5) (qv .C 6))) d6)) (qv .C 2)) ZQ ZZ) (d5 (r6 (PW.pt (N4 (PW.pt (ic (i6 S9 T6 (qv .B 3) v7) (fw (i6 S9 T6 (qv .B 7) v7)))) (P0 (PW.pt (ic (i6 ac ad (qv .B 3) v7) (fw (i6 (W7 (aD I)) (T7 (neg:=false)) (qv .B 7) (qv .B 3)))))))) (d5 (h9 (qcD (kT Y) (eX Y) (b7 (l9 (h7 (qcD (Bj Y) (vw Y) (b7 (qv .B 0) (b7 (qv .B 5) (b7 (qv .B 6) (b7 (qv .B 4) b9))))))) (b7 (f6 (d8 (qv .B 0) d6)) (b7 (f6 (d8 (qv .B 0) d6)) b9)))))) o9)))) (d5 (h9 v7))))
def bf:Def (hk w) mg "_law_peak_true" (top 60) Vn 336 (FD "_law_peak_true" 60 t0 335):=dk Y ZJ λ_ _ _ _ _ _=>us6 λ_ _ _ _ _ _=>rfl
def gB:FnOk P w (hk w) mg base CX0 8 336 (FD "_law_peak_true" 60 t0 335) Vn (spM (hk w) 6 .F Q8):=
 okF (bf Y) Q4 (.inl rfl) rfl rfl λI=>(c9 (r6 (i6 T0 M0 (f6 (d8 (qv .B 0) d6)) P7) (c9 (i7 (i:=6) Q4.nd rfl ZZ (qcD (bT Y) (Y5 Y) (b7 (qv .B 1) (b7 (qv .B 2) (b7 (qv .B 3) (b7 v7 (b7 (qv .B 4) b9)))))) ZQ ZZ) (d5 (h9 (lg (L3 ac ad (qv .B 6) v7) (qL (L3 zA xGe (f6 (d8 (qv .B 6) (qv .B 3))) (qv .B 4))))))) o9) (c9 (r6 (i6 ij dY (f6 (d8 (qv .B 0) d6)) P7) (d5 (h9 (L3 (W7 (aD I)) (T7 (neg:=false)) (qv .B 0) (f6 (EO (b7 P7 b9)))))) o9) (c9 (i7 (i:=6) Q4.nd rfl ZZ (qcD (bT Y) (Y5 Y) (b7 (qv .B 1) (b7 (qv .B 2) (b7 (qv .B 3) (b7 (f6 (d8 (qv .B 0) d6)) (b7 (qv .B 4) b9)))))) ZQ ZZ) (d5 (h9 (lg (L3 ac ad (qv .B 6) v7) (lg (L3 (W7 (aD I)) (T7 (neg:=false)) (f6 (d8 (qv .B 6) (qv .B 3))) (f6 (d8 (qv .B 0) d6))) (qL (L3 zz xLe (n9 (fb rfl) (iN (g:=C7)) ZQ (bl Y).max_ cj (b7 (l9 (h7 (n4 (Vw 60 ["_law_found","_law_land","_law_most","_law_place","_law_height","_law_drawn_here","_law_there"] Vo) rfl (A7 (qv .B 5)) (λ_ _ _ _=>(@e8 _ _ 7 _ (by decide +kernel:(Vo:VJ).Nodup) rfl (Or.inl rfl) (.inr rfl))) i5 (m7 (show 7<=7 by decide)) (λ_ _ _ _=>n6) (λ_ _ _ _=>(S6 (d8 (qv .B 7) (qv .B 3))))))) b9)) (f6 (d8 (qv .B 0) d6)))))))))))
def Hu:Def (hk w) mg "law" (top 61) QD 341 (FD "law" 61 t0 340):=dk Y ZJ λ_ _ _ _ _ _=>us1 λ_=>rfl
def IY:FnOk P w (hk w) mg base CX0 9 341 (FD "law" 61 t0 340) QD (spM (hk w) 1 .F lm):=
 okF (Hu Y) G9 (.inl rfl) rfl rfl λI=>(c9 (y6 (i:=1) G9.nd rfl ZZ (g9 x4 D9 d6 (g9 A1 Vu (l9 (h7 (qcD (t7 Y) (u9 Y) (b7 (qv .B 0) (m5 b9))))) d6)) ZQ ZZ) (c9 (y6 (i:=2) G9.nd rfl ZZ (g9 x4 D9 d6 (g9 A1 Vu (l9 (h7 (qcD (t7 Y) (u9 Y) (b7 (qv .B 0) (m5 b9))))) d6)) ZQ ZZ) (c9 (y6 (i:=3) G9.nd rfl ZZ (L3 T0 M0 (g9 A1 Vu (l9 (h7 (qcD (t7 Y) (u9 Y) (b7 (qv .B 0) (m5 b9))))) d6) d6) ZQ ZZ) (c9 (y6 (i:=4) G9.nd rfl ZZ d6 ZQ ZZ) (c9 (r6 (i6 T0 M0 (g9 A1 Vu (l9 (h7 (qcD (t7 Y) (u9 Y) (b7 (qv .B 0) (m5 b9))))) d6) d6) (d5 (y6 (i:=4) G9.nd rfl ZZ (g9 x4 D9 d6 (g9 A1 Vu (g9 bQ Vv (l9 (h7 (qcD (t7 Y) (u9 Y) (b7 (qv .B 0) (m5 b9))))) d6) (g9 uu (o7 (C:=dj) (g:=nE) (λ_ _=>rfl) (λ_ _ _=>.int)) d6 d6))) ZQ ZZ)) o9) (c9 (i7 (i:=5) G9.nd rfl ZZ (B0 b9) ZQ ZZ) (c9 (A4 qD6 rfl (x6 ZQ (bl Y).range_ (b7 (g9 x4 D9 d6 (g9 A1 Vu (l9 (h7 (qcD (t7 Y) (u9 Y) (b7 (qv .B 0) (m5 b9))))) d6)) b9)) (@e8 _ _ 6 _ G9.nd rfl ZZ ZZ) i5 (d5 (@V9 _ _ _ _ _ _ _ 5 _ _ _ _ rfl ZZ (B8 (qcD (oE Y) (iI Y) (b7 (qv .B 0) (b7 (g9 x4 D9 d6 (g9 w9 Vs (qv .B 1) (qv .B 6))) (b7 (qv .B 1) (b7 (qv .B 3) (b7 (qv .B 4) b9))))))) ZY ZY ZQ ZQ ZQ ZQ ZQ))) (c9 (i7 (i:=7) G9.nd rfl ZZ (D6 B7 (B6 (c:=true)) ZQ (bl Y).tuple_ r9 (b7 (h7 (n4 (Vw 61 Vp Vq) rfl (x6 ZQ (bl Y).range_ (b7 (qv .B 1) b9)) (λ_ _ _ _=>(@e8 _ _ 15 _ (by decide +kernel:(Vq:VJ).Nodup) rfl (Or.inl rfl) (.inr rfl))) i5 (m7 (show 15<=15 by decide)) (λ_ _ _ _=>n6) (λ_ _ _ _=>(g9 w9 Vs (g9 A1 Vu (l9 (h7 (qcD (t7 Y) (u9 Y) (b7 (qv .B 0) (b7 (g9 x4 D9 d6 (qv .B 15)) b9))))) d6) (qv .B 4))))) b9)) ZQ ZZ) (c9 (y6 (i:=8) G9.nd rfl ZZ (g9 A1 Vu (l9 (h7 (qcD (t7 Y) (u9 Y) (b7 (qv .B 0) (m5 b9))))) (qv .B 1)) ZQ ZZ) (c9 (y6 (i:=9) G9.nd rfl ZZ (cK (h7 (B0 (b7 (g9 A1 Vu (l9 (h7 (qcD (t7 Y) (u9 Y) (b7 (qv .B 0) (m5 b9))))) d6) (b7 (g9 A1 Vu (l9 (h7 (qcD (t7 Y) (u9 Y) (b7 (qv .B 0) (m5 b9))))) (g9 uu (o7 (C:=dj) (g:=nE) (λ_ _=>rfl) (λ_ _ _=>.int)) d6 d6)) b9)))) (g9 A1 Vu (g9 bQ Vv (l9 (h7 (qcD (t7 Y) (u9 Y) (b7 (qv .B 0) (m5 b9))))) d6) d6)) ZQ ZZ) (c9 (i7 (i:=10) G9.nd rfl ZZ (F2 (b7 (qv .V 7) (b7 (B8 (D6 B7 (B6 (c:=true)) ZQ (bl Y).tuple_ r9 (b7 (qv .C 5) b9))) b9))) ZQ ZZ) (c9 (i7 (i:=11) G9.nd rfl ZZ (qcD (mP Y) (gc Y) (b7 (qv .B 0) (b7 (qv .B 7) (b7 (qv .B 5) b9)))) ZQ ZZ) (c9 (i7 (i:=12) G9.nd rfl ZZ (qcD (FA Y) (zN Y) (b7 (qv .B 10) (b7 (qv .B 8) (b7 (qv .B 2) b9)))) ZQ ZZ) (c9 (r6 (C0 (C6 (l9 (h7 (qcD (gB Y) (bf Y) (b7 (qv .B 12) (b7 (qv .B 10) (b7 (qv .B 2) (b7 (qv .B 8) (b7 (qv .B 9) (b7 (qv .B 11) b9))))))))))) (d5 (h9 S7)) o9) (c9 (i7 (i:=13) G9.nd rfl ZZ (qcD (uB Y) (nR Y) (b7 (f6 (d8 (qv .B 10) d6)) (b7 (qv .B 8) (b7 (qv .B 1) b9)))) ZQ ZZ) (c9 (r6 (i6 T0 M0 (f6 (d8 (qv .B 13) d6)) P7) (d5 (h9 (qcD (qT Y) (kG Y) (b7 (f6 (d8 (qv .B 13) d6)) (b7 (qv .B 8) (b7 (qv .B 5) (b7 (qv .B 1) b9))))))) o9) (c9 (r6 (PW.pt (N4 (i6 ij dY (f6 (d8 (qv .B 13) d6)) P7) (N4 (C0 (C6 (l9 (h7 (qcD (jm Y) (dA Y) (b7 (f6 (d8 (qv .B 13) d6)) (b7 (qv .B 8) (b7 (qv .B 5) (b7 (qv .B 1) b9))))))))) (P0 (i6 T0 M0 (f6 (d8 (qv .B 12) d6)) P7))))) (d5 (h9 S7)) o9) (c9 (i7 (i:=14) G9.nd rfl ZZ (qcD (T4 Y) (P5 Y) (b7 (f6 (d8 (qv .B 13) d6)) (b7 (qv .B 7) b9))) ZQ ZZ) (c9 (r6 (PW.pt (ic (i6 T0 M0 (f6 (d8 (qv .B 12) d6)) P7) (fw (i6 K0 xGt (g9 w9 Vs (f6 (d8 (qv .B 12) d6)) (f6 (d8 (f6 (d8 (qv .B 13) d6)) (qv .B 8)))) (qv .B 14))))) (d5 (h9 S7)) o9) (d5 (h9 (L3 T0 M0 (n9 t5 t4 ZQ (bl Y).len_ qC4 (b7 (l9 (h7 (n4 (Vw 61 Vp Vr) rfl (A7 (qv .B 11)) (λ_ _ _ _=>(@e8 _ _ 15 _ (by decide +kernel:(Vr:VJ).Nodup) rfl (Or.inl rfl) (.inr rfl))) i5 (m7 (show 15<=15 by decide)) (λ_ _ _ _=>(bM (i6 K0 xGt (l9 (h7 (qcD (T4 Y) (P5 Y) (b7 (f6 (d8 (qv .B 13) d6)) (b7 (qv .B 15) b9))))) (qv .B 14)))) (λ_ _ _ _=>(qv .V 15))))) b9)) d6))))))))))))))))))))))
end
def spLaw (K:Frag):Sp:=λvs H Q _=>∃(a:Addr)(ns:Zz),vs = [.ref a]/\SqL K H a (ns.map V.int)/\ns.length<=63/\(∀x∈ns,Builtin.Int.intBits x<=1048576)/\∀H',Q (.bl true) H'
def all_ {l:PySem.W.OpenLaw}(Y:En w mg) (I:∀ns:List Int,ns.length<=63->(∀x∈ns,Builtin.Int.intBits x<=1048576)->lm [.scr (ns.map W.int)]=.ok (.bl true)) (e:mg "law" = some (.ref fa)):∃fd:FuncData,(∀(s:Shared) (v:Value),BindsTo s fd ⟨[v],[]⟩ [("_law_script",v)])/\∀base:Heap,(hk w).In base->base.Ns mainGlobals mg->FnOk l.prog w (hk w) mg base CX0 9 fa fd QD (spLaw (hk w)):=by
 cases e.symm.trans (Hu Y).m;show ⟨FD "law" 61 t0 340,λs v=>.of_eq rfl,λbase _ _=>BS (IY Y) I⟩
end K95
open PySem PySem.W PyProof.Rows
namespace K95
end K95
set_option maxHeartbeats 0 in
theorem PySem.Challenge.cw_tokenmoor_k95_whole_heights_of_places_holds : PySem.Challenge.rw_tokenmoor_k95_whole_heights_of_places.Holds := by
 w_on;o_law
 refine holds_open (q:=K95.view) (loose:=[]) (Xt:=λs=>xlAt K95.view [] s&&recOk [] s) (XP:=XL K95.view [])
  (Yf:=K95.hook.obs) (Ya:=K95.hook.val) (YP:=K95.hook.says) (N:=4048) K95.hl0 K95.hook.of K95.hook.keeps
  (λs e=>xl_of s (Bool.and_eq_true_iff.mp e).1) XL.keeps (by rfl) (by rfl) (by rfl)
  (λs e=>recFacts_of (Bool.and_eq_true_iff.mp e).2) (by rfl) (by first|assumption|decide +kernel)
  (by decide +kernel) ⟨rfl,rfl,rfl,rfl,rfl,by decide +kernel⟩ ?hw ?hc
 (case hw=>w_witness2)
 refine L2.walk_ofKB (l:=PySem.Challenge.rw_tokenmoor_k95_whole_heights_of_places) (n:=63) (k:=9) (x := "_law_script") (CX:=L2.CX0) (sp:=K95.spLaw) rfl (by decide) rfl ⟨rfl,by decide,by decide⟩ (λw h Y=>PySem.W.km_in_of Y) (λw h Y p hp=>by
  obtain rfl:p=((224,173,26, "leaving.<locals>.<lambda>"):PySem.Addr×Nat×Nat×PySem.Str):=by simpa [L2.lamT]using hp
  exact ⟨PySem.W.km_tabs_of Y 224 (by simp),L2.codeTab (PySem.W.codeHd_of_K (c:=226) (PySem.W.km_in_of Y) (by kernel_rfl)),by kernel_rfl,by unfold L2.lamT;rfl⟩)
  (λw mg fa h X G e=>K95.all_ ⟨h,X,G⟩ K95.law_pure e)
  (λK H a ns hl hb hO hS=>⟨a,ns,rfl,hS,hl,hb,λ_=>rfl⟩) λ_ _ _ _ z=>z
