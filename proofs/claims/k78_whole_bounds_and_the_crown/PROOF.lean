import PyProof.Rows.All
import Wide.All
import OpenK.AllK
import Wide.FinOn
import Lean
import PyProof.EqAt
import PyProof.EqKinds
import PyProof.TupleCall
import PyProof.ZipIter
import PyProof.TupleIter
import PyProof.WalksMore
import PyProof.EnumMake
import PyProof.Draws
import PyProof.P3In
import KE.KSortTup
import PyProof.Rows.SortWalk
import KE.KMinKey
import KE.KLam
import KE.KNestM
import KE.IntBitsLaws
import KE.KRevIter
import PyProof.TupleOfGen
import PySem.Challenge.RW_tokenmoor_k78_whole_bounds_and_the_crown
open PySem.W (Frag)
set_option Elab.async false
set_option linter.all false
def ox {p:Prop}(h:p:=by omega):p:=h
def Qo {p:Prop}(h:p:=by rfl):p:=h
def Qq {p:Prop}(h:p:=by trivial):p:=h
def Qz {p:Prop}(h:p:=by decide):p:=h
def Qy {p:Prop}(h:p:=by simp):p:=h
def qO6:=@PySem.wpAny_pure
def qO7:=@decide_eq_false
def qO8:=@decide_eq_true
def qO9:=@of_decide_eq_true
def qP0:=@if_true
def qP1:=@if_false
def qP2:=@PySem.wpAny_holding
def qP3:=@PySem.sizeLine_eq
def qP4:=@PySem.wpAny_field
def qP5:=@PySem.wpAny_newObj_type
def qP6:=@PySem.wpAny_Call_Name_kw
def qP7:=@PySem.wpAny_mono
def qP8:=@PySem.wpAny_seqItems
def qP9:=@PySem.wpAny_callSpecial?_slot
def qQ0:=@PySem.wpAny_truthy_bool
def qQ1:=@PySem.wpAny_call_entry
def qQ2:=@of_decide_eq_false
def qQ3:=@PySem.wpAny_passesOwn
def qQ4:=@PySem.wpAny_standAt
def qQ5:=@PySem.wpAny_pyIter_list
def qQ6:=@PySem.wpAny_setField_rec
def qQ7:=@PySem.wpAny_updateSeq
def qQ8:=@decide_eq_true_iff
def qQ9:=@PySem.wpAny_letGo
def qR0:=@or_false
def qR1:=@decide_eq_true_eq
def qR2:=@PySem.call_meets
def qR3:=@beq_self_eq_true
def qR4:=@PySem.wpAny_loadPart'
def qR5:=@Classical.byContradiction
def qR6:=@List.mem_of_find?_eq_some
def qR7:=@List.getElem?_take_of_lt
def qR8:=@PySem.F.args_tuple_add_2
def qR9:=@List.pairwise_cons
def qS0:=@PySem.wpAny_pyIter_tuple
def qS1:=@PySem.wpAny_comprehension_free
def qS2:=@List.Pairwise.imp_of_mem
def qS3:=@PySem.wpAny_rule
def qS4:=@PySem.wpAny_newTuple
def qS5:=@PySem.F.entry_tuple_add
def qS6:=@PySem.F.plainAttrs_list
def qS7:=@List.getElem?_cons_succ
def qS8:=@List.pairwise_singleton
def qS9:=@List.mem_singleton_self
def qT0:=@PySem.F.slot_tuple_add
def qT1:=@PySem.Calls.callWith_builtin
def qT2:=@List.range_succ_eq_map
def qT3:=@PySem.wpAny_newList
def qT4:=@PySem.plainId_quiet
def qT5:=@List.mem_reverse
def qT6:=@List.length_replicate
def qT7:=@PySem.builtinLookup_eq_fast
def qT8:=@List.countP_mono_left
def qT9:=@List.pairwise_reverse
def qU0:=@PySem.wpAny_loadName_local
def qU1:=@PySem.wpAny_execs_nil
def qU2:=@List.nodup_cons
def qU3:=@PySem.F.slot_int_rmul
def qU4:=@PySem.F.slot_zip_next
def qU5:=@Nat.zero_add
def qU6:=@List.getElem?_mapIdx
def qU7:=@Bool.or_true
def qU8:=@List.pairwise_append
def qU9:=@Int.mul_ediv_cancel'
def qV0:=@Bool.and_eq_true_iff
def qV2:=@Int.mul_le_mul
def qV4:=@Int.emod_lt_of_pos
def qV6:=@List.take_add_one
def qV7:=@bne_self_eq_false
def qV8:=@Nat.add_sub_assoc
def qV9:=@Bool.not_eq_true'
def qW0:=@List.all_eq_false
def qW3:=@Int.not_lt
def qW4:=@Nat.not_lt
def qA0:=@List.getD_eq_getElem?_getD
def qA1:=@PySem.wpAny_bind
def qA2:=@if_pos
def qA3:=@List.getElem?_eq_getElem
def qA4:=@if_neg
def qA5:=@PySem.Heap.get?_push_of_some
def qA6:=@List.length_map
def qA7:=@List.getElem?_map
def qA8:=@List.mem_cons_of_mem
def qA9:=@Bool.false_ne_true
def qB0:=@List.getElem?_eq_some_iff
def qB1:=@List.mem_map
def qB2:=@List.mem_cons_self
def qB3:=@List.mem_cons
def qB4:=@PySem.Heap.lt_size
def qB5:=@Nat.le_refl
def qB6:=@Nat.lt_of_lt_of_le
def qB7:=@List.getElem?_set_ne
def qB8:=@List.size_toArray
def qB9:=@List.map_map
def qC0:=@List.length_reverse
def qC1:=@List.map_cons
def qC2:=@PySem.Heap.get?_push_size
def qC3:=@List.map_append
def qC4:=@List.mem_singleton
def qC5:=@List.length_cons
def qC6:=@List.length_append
def qC7:=@List.mem_append_right
def qC8:=@Nat.ne_of_lt
def qC9:=@Int.mul_comm
def qD0:=@Int.mul_assoc
def qD1:=@Nat.zero_le
def qD2:=@Nat.lt_succ_self
def qD3:=@List.mem_of_getElem?
def qD4:=@Bool.false_eq_true
def qD5:=@List.getElem?_set
def qD6:=@List.getElem?_append_left
def qD7:=@Nat.le_trans
def qD8:=@PySem.PassesOwn.never
def qD9:=@Int.toNat_natCast
def qE0:=@List.mem_append
def qE1:=@List.not_mem_nil
def qE2:=@Nat.lt_irrefl
def qE3:=@List.all_eq_true
def qE4:=@List.replicate_succ
def qE5:=@Nat.not_lt_zero
def qE6:=@List.mem_append_left
def qE7:=@List.mem_iff_getElem
def qE8:=@PySem.boot_len
def qE9:=@Nat.lt_succ_of_lt
def qF0:=@List.getElem_mem
def qF1:=@List.map_congr_left
def qF2:=@List.getElem?_range
def qF3:=@Int.le_refl
def qF4:=@List.length_set
def qF5:=@List.length_range
def qF6:=@Array.getD_eq_getD_getElem?
def qF7:=@List.length_singleton
def qF8:=@List.lookup_cons
def qF9:=@Option.map_eq_some_iff
def qG0:=@List.ext_getElem
def qG1:=@Int.le_trans
def qG2:=@List.getElem?_set_self
def qG3:=@List.append_nil
def qG4:=@Bool.and_eq_true
def qG5:=@List.flatten_cons
def qG6:=@List.getElem?_append_right
def qG7:=@Int.mul_le_mul_of_nonneg_right
def qG8:=@List.pairwise_iff_getElem
def qG9:=@List.eq_nil_of_length_eq_zero
def qH0:=@PySem.mem_of_lookup
def qH1:=@Option.some.injEq
def qH2:=@List.getElem?_eq_none
def qH3:=@Nat.succ_add_eq_add_succ
def qH4:=@PySem.AutoSeq1.wpAny_loadPart'
def qH5:=@List.mem_range
def qH6:=@Int.mul_nonneg
def qH7:=@PySem.W.kia_one
def qH8:=@PyProof.Rows.callWith_type1
def qH9:=@List.length_take
def qI0:=@Int.mul_zero
def qI1:=@List.any_eq_false
def qI2:=@List.mem_filter
def qI3:=@List.any_eq_true
def qI4:=@PySem.Heap.size_push
def qI5:=@List.getElem?_replicate
def qI6:=@List.reverse_cons
def qI7:=@List.pairwise_map
def qI8:=@List.filterMap_cons
def qI9:=@List.getElem_of_mem
def qJ0:=@Nat.le_of_succ_le_succ
def qJ1:=@PySem.F.plain_min_loop
def qJ2:=@PyProof.Rows.slot_tuple_getitem
def qJ3:=@Nat.ne_of_gt
def qJ4:=@List.map_nil
def qJ5:=@Int.zero_mul
def qJ6:=@Nat.le_of_succ_le
def qJ7:=@Nat.le_of_lt_succ
def qJ8:=@Int.mul_le_mul_of_nonneg_left
def qJ9:=@PySem.Heap.SameBut.update
def qK0:=@List.take_length
def qK1:=@Int.one_mul
def qK2:=@List.zip_cons_cons
def qK3:=@Bool.eq_iff_iff
def qK4:=@PySem.Heap.get?_update_self
def qK5:=@List.forIn_cons
def qK6:=@List.getElem?_zipWith
def qK7:=@List.length_filter_le
def qK8:=@PySem.F.slot_tuple_iterator_next
def qK9:=@Array.perm_iff_toList_perm
def qL0:=@List.append_assoc
def qL1:=@Int.add_mul
def qL2:=@List.map_reverse
def qL3:=@Bool.and_self
def qL4:=@List.find?_cons
def qL5:=@PySem.Heap.get?_update_other
def qL6:=@Int.mul_sub
def qL7:=@Int.neg_mul
def qL8:=@List.ext_getElem?
def qL9:=@List.reverse_perm
def qM0:=@Bool.false_and
def qM1:=@List.forIn_nil
def qM2:=@Nat.min_le_right
def qM3:=@List.length_drop
def qM4:=@Nat.succ_le_succ
def qM5:=@Nat.le_add_right
def qM6:=@Nat.le_succ
def qM7:=@Int.mul_neg
def qM8:=@Array.length_toList
def qM9:=@Int.toNat_of_nonneg
def qN0:=@Nat.add_sub_cancel'
def qN1:=@PySem.Heap.get?_update_ne
def qN2:=@List.length_nil
def qN3:=@Option.map_some
def qN4:=@Nat.min_le_left
def qN5:=@Nat.le_antisymm
def qN6:=@Nat.le_of_lt
def qN7:=@Nat.lt_of_le_of_lt
def qN8:=@Nat.lt_or_eq_of_le
def qN9:=@Int.le_of_lt
def qO0:=@List.length_mapIdx
def qO1:=@Nat.lt_of_succ_lt
def qO2:=@Nat.lt_trichotomy
def qO3:=@List.getElem_take
def qO4:=@List.any_cons
def qO5:=@List.cons_append
set_option maxRecDepth 100000
theorem Z1 (a:p)(b:q):p/\q:=⟨a,b⟩
noncomputable section
namespace L2
open PySem PySem.Spec PyProof.Rows
def Q9 (s:Stmt):Arguments:=match s with
 | .FunctionDef _ a _ _ _ _ _ _ _ _=>a
 |_=>{ posonlyargs:=[],args:=[],vararg:=none,kwonlyargs:=[],kw_defaults:=[],kwarg:=none,defaults:=[] }
def C7 (s:Stmt):List Stmt:=match s with
 | .FunctionDef _ _ b _ _ _ _ _ _ _=>b
 |_=>[]
def c6 (s:Stmt):Scope:=match s with
 | .FunctionDef _ _ _ _ _ _ sc _ _ _=>sc
 |_=>{ kind:=.function,names:=[],isGenerator:=false,isCoroutine:=false }
end L2
namespace K78
open PySem L2 PySem.W PyProof.Rows
def top (i:Nat):Stmt:=PySem.Challenge.pw_tokenmoor_k78_whole_bounds_and_the_crown.main.body.getD i (.Pass ⟨0,0,0,0⟩)
abbrev hxS (s:String)(t:Nat):Value:=.str (Str.ofString s) t
abbrev hxI (i:Int):Value:=.int i 0
abbrev hxO (c:String)(d:Data):Obj:=⟨.type c,none,d,#[]⟩
abbrev hxE (P:Params)(s:String)(t:Nat)(v:Value):DictEntry:=⟨PyData.keyHash P (Str.ofString s),.str (Str.ofString s) t,v⟩
abbrev hxF (n q:String)(st:Stmt)(I kV doc pm:Value)(an:Option Addr)(cd ct:Value):Data:=.func (PySem.W.fnOf (Str.ofString n) (Str.ofString q) (Q9 st) (C7 st) (c6 st) I kV doc pm an cd ct)
abbrev hxG (n:String)(i:Nat)(pm:Value)(c:Nat):Obj:=hxO "function" (hxF n n (top i) .none .none .none pm none (.ref c) .none)
abbrev hxD (n:String)(t:Nat) (l a:Int)(r8:Nat)(O:Nat)(a3 a0:Value)(I:Nat) (a4:Int)(a5:Nat):Data:=.fields #[.str (Str.ofString n) t,.str (Str.ofString n) (t+1),.str (Str.ofString "/claim/cut.py") (t+2),hxI l,hxI a,hxI 0,hxI 0,hxI 3,.ref r8,.bool true,hxI 181,.ref O,.none,a3,a0,.ref I,hxI a4,hxI l,.str (Str.ofString "/claim/cut.py") a5]
abbrev v8:Value:=hxS "law_tokenmoor_k78_whole_bounds_and_the_crown" 530
abbrev xc:Value:=hxS "tokenmoor.balances" 272
abbrev t7:Value:=hxS "tokenmoor.ceilings" 280
abbrev iC:Value:=hxS "tokenmoor.climbs" 456
abbrev t6:Value:=hxS "tokenmoor.crowns" 367
abbrev F7:Value:=hxS "tokenmoor.floods" 472
abbrev U7:Value:=hxS "tokenmoor.moors" 232
abbrev xb:Value:=hxS "tokenmoor.walks" 264
@[irreducible] def tZ:Params->Frag:=λP=>
 (nat_lit 2,⟨.none,none,(.dict #[] 0),#[]⟩) ::
 (nat_lit 3,hxO "dict" (.dict #[hxE P "__name__" 165 (hxS "law_tokenmoor_k78_whole_bounds_and_the_crown" 530),hxE P "__doc__" 166 .none,hxE P "__package__" 167 .none,hxE P "__loader__" 168 (.builtin "__main__.__loader__#opaque"),hxE P "__spec__" 169 .none,hxE P "__annotations__" 170 (.ref 6),hxE P "__builtins__" 171 (.ref 4),hxE P "__file__" 173 (hxS "/claim/cut.py" 172),hxE P "__cached__" 174 .none,hxE P "MoorError" 206 (.ref 24),hxE P "Stuck" 231 (.ref 44),hxE P "covers" 243 (.ref 53),hxE P "able" 251 (.ref 60),hxE P "after" 257 (.ref 65),hxE P "change" 263 (.ref 70),hxE P "shifted" 271 (.ref 75),hxE P "unit" 279 (.ref 80),hxE P "ceiling" 287 (.ref 85),hxE P "first_table" 293 (.ref 90),hxE P "coming" 302 (.ref 97),hxE P "leaving" 308 (.ref 102),hxE P "pivoted" 314 (.ref 107),hxE P "cleared" 320 (.ref 112),hxE P "bag_of" 334 (.ref 119),hxE P "weights_of" 340 (.ref 124),hxE P "in_least_numbers" 346 (.ref 129),hxE P "greatest_divisor" 355 (.ref 136),hxE P "level" 366 (.ref 143),hxE P "under" 378 (.ref 150),hxE P "under_any" 387 (.ref 157),hxE P "cap_able" 395 (.ref 164),hxE P "cap_after" 401 (.ref 169),hxE P "raised" 407 (.ref 174),hxE P "tops" 416 (.ref 181),hxE P "sort_key" 422 (.ref 186),hxE P "growth" 433 (.ref 193),hxE P "grow" 439 (.ref 198),hxE P "way_back" 449 (.ref 205),hxE P "crown" 455 (.ref 210),hxE P "way" 465 (.ref 217),hxE P "row_between" 471 (.ref 222),hxE P "flood" 487 (.ref 229),hxE P "stands_behind" 493 (.ref 234),hxE P "stands_in" 499 (.ref 239),hxE P "row_to" 507 (.ref 246),hxE P "bounded" 519 (.ref 253),hxE P "first_lift" 529 (.ref 260),hxE P "_law_cell_at" 539 (.ref 267),hxE P "_law_draw" 548 (.ref 274),hxE P "_law_numbers" 562 (.ref 281),hxE P "_law_scale" 570 (.ref 288),hxE P "_law_moor" 576 (.ref 293),hxE P "_law_covers" 582 (.ref 298),hxE P "_law_tops" 588 (.ref 303),hxE P "_law_grown_places" 594 (.ref 308),hxE P "_law_agree" 600 (.ref 313),hxE P "law" 612 (.ref 320)] 57)) ::
 (nat_lit 15,hxO "tuple" (.seq #[(.type "ValueError")] 0)) ::
 (nat_lit 22,hxO "tuple" (.seq #[] 0)) ::
 (nat_lit 23,hxO "dict" (.dict #[hxE P "__module__" 196 (hxS "tokenmoor.errors" 187),hxE P "__firstlineno__" 200 (.int 2 199),hxE P "__static_attributes__" 201 (.ref 22),hxE P "__weakref__" 203 (.ref 25),hxE P "__doc__" 204 .none] 3)) ::
 (nat_lit 25,hxO "getset_descriptor" (.fields #[(hxS "__weakref__" 202),(.ref 24),(.builtin "ExceptionGroup.__weakref__"),.none])) ::
 (nat_lit 28,hxO "tuple" (.seq #[(.ref 24)] 0)) ::
 (nat_lit 40,hxO "code" (.fields #[(hxS "__init__" 219),(hxS "Stuck.__init__" 220),(hxS "/claim/cut.py" 221),(hxI 6),(hxI 2),(hxI 0),(hxI 0),(hxI 3),(.ref 35),(.bool true),(hxI 181),(.ref 36),.none,(.ref 37),(.ref 38),(.ref 39),(hxI 224),(hxI 6),(hxS "/claim/cut.py" 225)])) ::
 (nat_lit 42,hxO "tuple" (.seq #[(hxS "at" 227)] 0)) ::
 (nat_lit 43,hxO "dict" (.dict #[hxE P "__module__" 214 (hxS "tokenmoor.errors" 187),hxE P "__firstlineno__" 218 (.int 4 217),hxE P "__init__" 226 (.ref 41),hxE P "__static_attributes__" 228 (.ref 42),hxE P "__doc__" 229 .none] 2)) ::
 (nat_lit 52,hxO "code" (hxD "covers" 234 9 2 47 48 (.ref 49) (.ref 50) 51 241 242)) ::
 (nat_lit 53,hxG "covers" 4 U7 52) ::
 (nat_lit 59,hxO "code" (hxD "able" 244 14 2 54 55 (.ref 56) (.ref 57) 58 249 250)) ::
 (nat_lit 60,hxG "able" 5 U7 59) ::
 (nat_lit 64,hxO "code" (hxD "after" 252 16 2 61 62 .none .none 63 255 256)) ::
 (nat_lit 65,hxG "after" 6 U7 64) ::
 (nat_lit 69,hxO "code" (hxD "change" 258 20 1 66 67 .none .none 68 261 262)) ::
 (nat_lit 70,hxG "change" 7 U7 69) ::
 (nat_lit 74,hxO "code" (hxD "shifted" 266 23 3 71 72 .none .none 73 269 270)) ::
 (nat_lit 75,hxG "shifted" 9 xb 74) ::
 (nat_lit 79,hxO "code" (hxD "unit" 274 26 2 76 77 .none .none 78 277 278)) ::
 (nat_lit 80,hxG "unit" 11 xc 79) ::
 (nat_lit 84,hxO "code" (hxD "ceiling" 282 29 3 81 82 .none .none 83 285 286)) ::
 (nat_lit 85,hxG "ceiling" 13 t7 84) ::
 (nat_lit 89,hxO "code" (hxD "first_table" 288 43 3 86 87 .none .none 88 291 292)) ::
 (nat_lit 90,hxG "first_table" 14 t7 89) ::
 (nat_lit 96,hxO "code" (hxD "coming" 294 48 1 91 92 (.ref 93) (.ref 94) 95 300 301)) ::
 (nat_lit 97,hxG "coming" 15 t7 96) ::
 (nat_lit 101,hxO "code" (hxD "leaving" 303 53 3 98 99 .none .none 100 306 307)) ::
 (nat_lit 102,hxG "leaving" 16 t7 101) ::
 (nat_lit 106,hxO "code" (hxD "pivoted" 309 56 4 103 104 .none .none 105 312 313)) ::
 (nat_lit 107,hxG "pivoted" 17 t7 106) ::
 (nat_lit 111,hxO "code" (hxD "cleared" 315 59 4 108 109 .none .none 110 318 319)) ::
 (nat_lit 112,hxG "cleared" 18 t7 111) ::
 (nat_lit 118,hxO "code" (hxD "bag_of" 321 61 5 113 114 (.ref 115) (.ref 116) 117 332 333)) ::
 (nat_lit 119,hxG "bag_of" 19 t7 118) ::
 (nat_lit 123,hxO "code" (hxD "weights_of" 335 67 4 120 121 .none .none 122 338 339)) ::
 (nat_lit 124,hxG "weights_of" 20 t7 123) ::
 (nat_lit 128,hxO "code" (hxD "in_least_numbers" 341 70 1 125 126 .none .none 127 344 345)) ::
 (nat_lit 129,hxG "in_least_numbers" 21 t7 128) ::
 (nat_lit 135,hxO "code" (hxD "greatest_divisor" 347 75 2 130 131 (.ref 132) (.ref 133) 134 353 354)) ::
 (nat_lit 136,hxG "greatest_divisor" 22 t7 135) ::
 (nat_lit 142,hxO "code" (hxD "level" 356 81 2 137 138 (.ref 139) (.ref 140) 141 364 365)) ::
 (nat_lit 143,hxG "level" 23 t7 142) ::
 (nat_lit 149,hxO "code" (hxD "under" 369 90 2 144 145 (.ref 146) (.ref 147) 148 376 377)) ::
 (nat_lit 150,hxG "under" 25 t6 149) ::
 (nat_lit 156,hxO "code" (hxD "under_any" 379 95 2 151 152 (.ref 153) (.ref 154) 155 385 386)) ::
 (nat_lit 157,hxG "under_any" 26 t6 156) ::
 (nat_lit 163,hxO "code" (hxD "cap_able" 388 100 2 158 159 (.ref 160) (.ref 161) 162 393 394)) ::
 (nat_lit 164,hxG "cap_able" 27 t6 163) ::
 (nat_lit 168,hxO "code" (hxD "cap_after" 396 102 2 165 166 .none .none 167 399 400)) ::
 (nat_lit 169,hxG "cap_after" 28 t6 168) ::
 (nat_lit 173,hxO "code" (hxD "raised" 402 106 2 170 171 .none .none 172 405 406)) ::
 (nat_lit 174,hxG "raised" 29 t6 173) ::
 (nat_lit 180,hxO "code" (hxD "tops" 408 110 1 175 176 (.ref 177) (.ref 178) 179 414 415)) ::
 (nat_lit 181,hxG "tops" 30 t6 180) ::
 (nat_lit 185,hxO "code" (hxD "sort_key" 417 117 1 182 183 .none .none 184 420 421)) ::
 (nat_lit 186,hxG "sort_key" 31 t6 185) ::
 (nat_lit 192,hxO "code" (hxD "growth" 423 119 2 187 188 (.ref 189) (.ref 190) 191 431 432)) ::
 (nat_lit 193,hxG "growth" 32 t6 192) ::
 (nat_lit 197,hxO "code" (hxD "grow" 434 129 4 194 195 .none .none 196 437 438)) ::
 (nat_lit 198,hxG "grow" 33 t6 197) ::
 (nat_lit 204,hxO "code" (hxD "way_back" 440 138 2 199 200 (.ref 201) (.ref 202) 203 447 448)) ::
 (nat_lit 205,hxG "way_back" 34 t6 204) ::
 (nat_lit 209,hxO "code" (hxD "crown" 450 145 2 206 207 .none .none 208 453 454)) ::
 (nat_lit 210,hxG "crown" 35 t6 209) ::
 (nat_lit 216,hxO "code" (hxD "way" 458 151 2 211 212 (.ref 213) (.ref 214) 215 463 464)) ::
 (nat_lit 217,hxG "way" 37 iC 216) ::
 (nat_lit 221,hxO "code" (hxD "row_between" 466 153 3 218 219 .none .none 220 469 470)) ::
 (nat_lit 222,hxG "row_between" 38 iC 221) ::
 (nat_lit 228,hxO "code" (hxD "flood" 474 157 2 223 224 (.ref 225) (.ref 226) 227 485 486)) ::
 (nat_lit 229,hxG "flood" 40 F7 228) ::
 (nat_lit 233,hxO "code" (hxD "stands_behind" 488 172 2 230 231 .none .none 232 491 492)) ::
 (nat_lit 234,hxG "stands_behind" 41 F7 233) ::
 (nat_lit 238,hxO "code" (hxD "stands_in" 494 174 1 235 236 .none .none 237 497 498)) ::
 (nat_lit 239,hxG "stands_in" 42 F7 238) ::
 (nat_lit 245,hxO "code" (hxD "row_to" 500 176 2 240 241 (.ref 242) (.ref 243) 244 505 506)) ::
 (nat_lit 246,hxG "row_to" 43 F7 245) ::
 (nat_lit 252,hxO "code" (hxD "bounded" 508 178 2 247 248 (.ref 249) (.ref 250) 251 517 518)) ::
 (nat_lit 253,hxG "bounded" 44 F7 252) ::
 (nat_lit 259,hxO "code" (hxD "first_lift" 520 188 1 254 255 (.ref 256) (.ref 257) 258 527 528)) ::
 (nat_lit 260,hxG "first_lift" 45 F7 259) ::
 (nat_lit 266,hxO "code" (hxD "_law_cell_at" 532 195 2 261 262 (.ref 263) (.ref 264) 265 537 538)) ::
 (nat_lit 267,hxG "_law_cell_at" 47 v8 266) ::
 (nat_lit 273,hxO "code" (hxD "_law_draw" 540 199 3 268 269 (.ref 270) (.ref 271) 272 546 547)) ::
 (nat_lit 274,hxG "_law_draw" 48 v8 273) ::
 (nat_lit 280,hxO "code" (hxD "_law_numbers" 549 201 5 275 276 (.ref 277) (.ref 278) 279 560 561)) ::
 (nat_lit 281,hxG "_law_numbers" 49 v8 280) ::
 (nat_lit 287,hxO "code" (hxD "_law_scale" 563 211 1 282 283 (.ref 284) (.ref 285) 286 568 569)) ::
 (nat_lit 288,hxG "_law_scale" 50 v8 287) ::
 (nat_lit 292,hxO "code" (hxD "_law_moor" 571 218 1 289 290 .none .none 291 574 575)) ::
 (nat_lit 293,hxG "_law_moor" 51 v8 292) ::
 (nat_lit 297,hxO "code" (hxD "_law_covers" 577 233 2 294 295 .none .none 296 580 581)) ::
 (nat_lit 298,hxG "_law_covers" 52 v8 297) ::
 (nat_lit 302,hxO "code" (hxD "_law_tops" 583 235 1 299 300 .none .none 301 586 587)) ::
 (nat_lit 303,hxG "_law_tops" 53 v8 302) ::
 (nat_lit 307,hxO "code" (hxD "_law_grown_places" 589 241 3 304 305 .none .none 306 592 593)) ::
 (nat_lit 308,hxG "_law_grown_places" 54 v8 307) ::
 (nat_lit 312,hxO "code" (hxD "_law_agree" 595 247 3 309 310 .none .none 311 598 599)) ::
 (nat_lit 313,hxG "_law_agree" 55 v8 312) ::
 (nat_lit 319,hxO "code" (hxD "law" 601 260 1 314 315 (.ref 316) (.ref 317) 318 610 611)) ::
 (nat_lit 320,hxG "law" 56 v8 319) ::
 []
def hxas:List Addr:=[2,3,15,22,23,25,28,40,42,43,52,53,59,60,64,65,69,70,74,75,79,80,84,85,89,90,96,97,101,102,106,107,111,112,118,119,123,124,128,129,135,136,142,143,149,150,156,157,163,164,168,169,173,174,180,181,185,186,192,193,197,198,204,205,209,210,216,217,221,222,228,229,233,234,238,239,245,246,252,253,259,260,266,267,273,274,280,281,287,288,292,293,297,298,302,303,307,308,312,313,319,320]
def view:Program:={ PySem.Challenge.pw_tokenmoor_k78_whole_bounds_and_the_crown with main:={ PySem.Challenge.pw_tokenmoor_k78_whole_bounds_and_the_crown.main with body:=[1,2,4,5,6,7,9,11,13,14,15,16,17,18,19,20,21,22,23,25,26,27,28,29,30,31,32,33,34,35,37,38,40,41,42,43,44,45,47,48,49,50,51,52,53,54,55,56].map top } }
def hook:PySem.W.Hook:=PySem.W.kmHook tZ hxas (λ_=>by kernel_rfl) [99]
theorem hl0:LeftO PySem.Challenge.rw_tokenmoor_k78_whole_bounds_and_the_crown.prog view [] (λs=>xlAt view [] s&&recOk [] s) hook.obs hook.val 3808:=by
  intro w;kernel_rfl
end K78
local macro_rules | `(tactic| omega)=>`(tactic| first | with_reducible assumption | decide | lia)
set_option genSizeOf false
set_option genSizeOfSpec false
namespace L2
open PySem PySem.Spec PyProof.Rows
abbrev Key:=Sum Int Str
def dv:Key->Value->Bool
 | .inl k,v=>Value.isInt k v
 | .inr x,v=>Value.isStrOf x v
def keyH (w:World):Key->Int
 | .inl k=>hashInt k
 | .inr x=>hashStr w x
def A1:∀{k:Key}{v:Value},dv k v=true->(∃i t,k=Sum.inl i/\v=Value.int i t)\/(∃x t,k=Sum.inr x/\v=Value.str x t)
 | .inl i,v,h=>by
  obtain ⟨t,e⟩:=Value.isInt_shape (k:=i) (v:=v) h;exact .inl ⟨i,t,rfl,e⟩
 | .inr x,v,h=>by
  obtain ⟨t,e⟩:=Value.isStrOf_shape (x:=x) (v:=v) h;exact .inr ⟨x,t,rfl,e⟩
def tL (i:Int)(t:Tok):dv (.inl i) (.int i t)=true:=by simp [dv,Value.isInt]
def tK (x:Str)(t:Tok):dv (.inr x) (.str x t)=true:=by simp [dv,Value.isStrOf]
def EI (a b:Int):decide ((Sum.inl a:Key)=Sum.inl b)=(a == b):=by
 by_cases e:a=b
 ·subst e;simp
 ·have h:¬ (Sum.inl a:Key)=Sum.inl b:=λq=>e (Sum.inl.inj q);rw[qO7 h];exact (beq_eq_false_iff_ne.mpr e).symm
def EF (a b:Str):decide ((Sum.inr a:Key)=Sum.inr b)=decide (a=b):=by
 by_cases e:a=b
 ·subst e;simp
 ·have h:¬ (Sum.inr a:Key)=Sum.inr b:=λq=>e (Sum.inr.inj q);rw[qO7 h,qO7 e]
def EH (a:Int)(b:Str):decide ((Sum.inl a:Key)=Sum.inr b)=false:=qO7 (λq=>nomatch q)
def EG (a:Str) (b:Int):decide ((Sum.inr a:Key)=Sum.inl b)=false:=qO7 (λq=>nomatch q)
def z8 (prog:Program) (w:World):PySem.KeyKind prog w Key where
 is:=dv
 hash:=keyH w
 inj:=λv a b ha O=>by
  rcases A1 ha with ⟨i,t,rfl,rfl⟩|⟨x,t,rfl,rfl⟩
  ·rcases A1 O with ⟨j,u,rfl,e⟩|⟨y,u,rfl,e⟩
   ·injection e with e1 _;rw[e1]
   ·exact nomatch e
  ·rcases A1 O with ⟨j,u,rfl,e⟩|⟨y,u,rfl,e⟩
   ·exact nomatch e
   ·injection e with e1 _;rw[e1]
 byValue:=λk v h=>by
  rcases A1 h with ⟨i,t,rfl,rfl⟩|⟨x,t,rfl,rfl⟩ <;> rfl
 pyHash:=λI h=>by
  rcases A1 I with ⟨i,t,rfl,rfl⟩|⟨x,t,rfl,rfl⟩
  ·exact wpAny_pyHash_int h
  ·exact wpAny_pyHash_str h
 eqBool:=λhu I h=>by
  rcases A1 hu with ⟨i,t,rfl,rfl⟩|⟨x,t,rfl,rfl⟩
  ·rcases A1 I with ⟨j,u,rfl,rfl⟩|⟨y,u,rfl,rfl⟩
   ·rw[EI]at h;exact wpAny_eqBool_int h
   ·rw[EH]at h;exact SeqAt.EqAt.int_str i t y u _ _ _ _ h
  ·rcases A1 I with ⟨j,u,rfl,rfl⟩|⟨y,u,rfl,rfl⟩
   ·rw[EG]at h;exact SeqAt.EqAt.str_int x t j u _ _ _ _ h
   ·rw[EF]at h;exact wpAny_eqBool_str h
 «strs»:=λk x t v h=>by
  rcases A1 h with ⟨i,u,rfl,e⟩|⟨y,u,rfl,e⟩
  ·exact nomatch e
  ·injection e with e1 _
   subst e1;cases v <;> rfl
def nq (prog:Program)(w:World) (i:Int)(t:Tok):(z8 prog w).is (.inl i) (.int i t)=true:=tL i t
def no (prog:Program)(w:World)(x:Str)(t:Tok):(z8 prog w).is (.inr x) (.str x t)=true:=tK x t
inductive V where
 |non|bl (b:Bool)|int (i:Int)|str (x:Str)|byt (b:Array UInt8)|flt (b:UInt64)|ref (a:Addr)|ty (n:String)
 deriving DecidableEq
def RelV:V->Value->Prop
 | .non,u=>u=Value.none
 | .bl b,u=>u=Value.bool b
 | .int i,u=>∃t,u=Value.int i t
 | .str x,u=>∃t,u=Value.str x t
 | .byt b,u=>∃t,u=Value.bytes b t
 | .flt b,u=>∃t,u=Value.float b t
 | .ref a,u=>u=Value.ref a
 | .ty n,u=>u=Value.type n
abbrev Vals:List V->List Value->Prop:=Paired RelV
def Vals.length (r:Vals xs us):xs.length=us.length:=Paired.length r
def Vals.get:∀{xs:List V}{us:List Value}{i:Nat}{x:V},Vals xs us->xs[i]?=some x->∃u,us[i]?=some u/\RelV x u:=by
 intro xs us i x a
 induction a generalizing i with
 |nil=>intro e;cases e
 | cons r t I=>
  intro e;cases i with
  |zero=>cases e;exact ⟨_,rfl,r⟩
  |succ i=>exact I e
def Vals.set (r:RelV x u):∀{xs:List V}{us:List Value}(i:Nat),Vals xs us->Vals (xs.set i x) (us.set i u):=by
 intro xs us i h
 induction h generalizing i with
 |nil=>exact .nil
 | cons q t I=>
  cases i with
  |zero=>exact .cons r t
  |succ i=>exact .cons q (I i)
def Vals.append:∀{xs ys:List V}{us ws:List Value},Vals xs us->Vals ys ws->Vals (xs++ys) (us++ws):=by
 intro xs ys us ws a s
 induction a with
 |nil=>exact s
 |cons r t I=>exact .cons r I
def Vals.take:∀{xs:List V}{us:List Value}(n:Nat),Vals xs us->Vals (xs.take n) (us.take n):=by
 intro xs us n h
 induction h generalizing n with
 |nil=>cases n <;> exact .nil
 | cons r t I=>
  cases n with
  |zero=>exact .nil
  |succ n=>exact .cons r (I n)
def Vals.drop:∀{xs:List V}{us:List Value}(n:Nat),Vals xs us->Vals (xs.drop n) (us.drop n)
 |_,_,0,r=>r
 |_,_,_+1,.nil=>.nil
 |_,_,n+1,.cons _ t=>Vals.drop n t
def RelO:Option V->Option Value->Prop
 |some v,some u=>RelV v u
 |none,none=>True
 |_,_=>False
def KV {κ:Type}:List (κ×V)->List (κ×Value)->Prop:=Paired λ(p:κ×V)(q:κ×Value)=>p.1=q.1/\RelV p.2 q.2
def kV:Key->V
 | .inl i=>.int i
 | .inr x=>.str x
inductive HO where
 |lst (xs:List V)
 |tup (xs:List V)
 |dK (kvs:List (Key×V))|dT (kvs:List (List Key×V))
 |set (S:Int->Bool) (n:Nat)
 |ins (C dx:Addr) (fs:List (Str×V))
 |own (x:Addr)
 |xd (fs:List (Str×V))
 |met (f x:Addr)
 |rng (lo hi:Int)
 |frz (o:Obj) (u:HO)
 |tbl (k:Nat×Nat×Str)
 |ext (φ:Heap->Prop)
abbrev Hp:=Addr->Option HO
@[irreducible] def lamT:List (Addr×Nat×Nat×Str):=[(99,55,26, "leaving.<locals>.<lambda>")]
def BV (q:Str)(oc:Obj):Prop:=∃vs t,oc.data=.fields vs/\vs[1]?=some (.str q t)
def upd (H:Hp)(a:Addr)(o:HO):Hp:=λb=>if b=a then some o else H b
def i9:upd H a o a=some o:=by unfold upd;rw[qA2 rfl]
def c8 (h:b≠a):upd H a o b=H b:=by unfold upd;rw[qA4 h]
def yt {H:Hp}(h:H a=some o) (h':H b=some u) (d:o≠u):a≠b:=by
 intro e;subst e;rw[h]at h';exact d (Option.some.inj h')
def f7 {H:Hp}(h:H a=some o) (h':H b=none):a≠b:=by
 intro e;subst e;rw[h]at h';cases h'
section
variable (P:Program)(w:World)
def ObjOk (H:Hp) (h:Heap) (a:Addr):HO->Prop
 | .lst xs=>xs.length<=sizeLine/\∃(its:List Value) (n:Nat),Vals xs its/\h.get? a=some { cls:=.type "list",data:=.seq its.toArray n }
 | .tup xs=>xs.length<=sizeLine/\∃its:List Value,Vals xs its/\IsTup h a its.toArray
 | .dK kvs=>kvs.length<=sizeLine/\(a == sysModules)=false/\∃vs,KV kvs vs/\h.DictOf (z8 P w) a vs
 | .dT kvs=>kvs.length<=sizeLine/\(a == sysModules)=false/\∃xs:List (List Key×Addr×Value),
   Paired (λ(p:List Key×V) (q:List Key×Addr×Value)=>p.1=q.1/\H q.2.1=some (.tup (p.1.map kV))/\RelV p.2 q.2.2) kvs xs /\
   ∃o es ep,h.get? a=some o/\o.ExactDict/\o.data=.dict es ep/\es.toList=xs.map (entryOfKey (tupleKind (z8 P w)))/\(xs.map (·.1)).Nodup
 | .set S n=>h.SetOf (intKind P w) a S n
 | .ins C dx fs=>H dx=some (.own a)/\fs.length<=1000/\dx≠a/\h.get? a=some (PySem.W.instObj C dx) /\
   ∃mA,h.Ns1 dx mA/\(∀f,RelO (fs.lookup f) (mA f))/\PySem.Within mA (fs.map (·.1))
 | .own _=>∃o,h.get? a=some o
 | .xd fs=>∃mA,h.Ns1 a mA/\∀f,RelO (fs.lookup f) (mA f)
 | .rng lo hi=>∃t u v,h.get? a=some { cls:=.type "range",data:=.fields #[.int lo t,.int hi u,.int 1 v] }
 | .frz o u=>h.get? a=some o/\ObjOk H h a u
 | .tbl k=>∃ps:Array Value,h.get? a=some { cls:=.none,data:=.fields ps }/\(ps=#[]\/∃I oc,ps=#[rawInt k.1,rawInt k.2.1,.ref I]/\H I=some (.own a)/\I≠a/\h.get? I=some oc/\BV k.2.2 oc)
 | .met f x=>h.get? a=some (PySem.W.methodObj (.ref f) (.ref x))
 | .ext φ=>φ h/\(∃o,h.get? a=some o)/\∀h1 O:Heap,φ h1->(∀o,h1.get? a=some o->O.get? a=some o)->φ O
def HOk (H:Hp)(h:Heap):Prop:=∀a o,H a=some o->ObjOk P w H h a o
end
def ObjOk.lt (x:ObjOk P w H h a o):a<h.objs.size:=by
 cases o with
 |lst xs=>obtain ⟨_,_,_,_,e⟩:=x;exact qB4 e
 |tup xs=>obtain ⟨_,_,_,p⟩:=x;exact p.lt
 |dK kvs=>obtain ⟨_,_,_,_,o,_,_,e,_⟩:=x;exact qB4 e
 |dT kvs=>obtain ⟨_,_,_,_,o,_,_,e,_⟩:=x;exact qB4 e
 |set S n=>obtain ⟨o,_,_,_,e,_⟩:=x;exact qB4 e
 |ins C dx fs=>obtain ⟨_,_,_,e,_⟩:=x;exact qB4 e
 |own y=>obtain ⟨_,e⟩:=x;exact qB4 e
 |xd fs=>obtain ⟨_,⟨_,_,_,e,_⟩,_⟩:=x;exact qB4 e
 |rng lo hi=>obtain ⟨_,_,_,e⟩:=x;exact qB4 e
 |frz I u=>obtain ⟨e,_⟩:=x;exact qB4 e
 |tbl k=>obtain ⟨_,e,_⟩:=x;exact qB4 e
 |met f y=>exact qB4 (show h.get? a=some _ from x)
 |ext φ=>obtain ⟨_,⟨_,e⟩,_⟩:=x;exact qB4 e
def Paired.mapP:∀{I:List α}{O:List β},Paired F I O->(∀a b,F a b->G a b)->Paired G I O:=by
 intro I O h f
 induction h with
 |nil=>exact .nil
 |cons r t ih=>exact .cons (f _ _ r) ih
def ObjOk.stay (x:ObjOk P w H h a o) (k:∀b u,(b=a\/H b=some (.own a))->h.get? b=some u->h'.get? b=some u) (ho:∀b,H b=some (.own a)->H' b=some (.own a)) (ht:∀b xs,H b=some (.tup xs)->H' b=some (.tup xs)):ObjOk P w H' h' a o:=by
 induction o with
 |lst xs=>obtain ⟨z,its,n,r,e⟩:=x;exact ⟨z,its,n,r,k _ _ (.inl rfl) e⟩
 |tup xs=>obtain ⟨z,its,r,I,e,c⟩:=x;exact ⟨z,its,r,I,k _ _ (.inl rfl) e,c⟩
 |dK kvs=>obtain ⟨z,y,vs,r,I,es,O,e,c⟩:=x;exact ⟨z,y,vs,r,I,es,O,k _ _ (.inl rfl) e,c⟩
 | dT kvs=>
  obtain ⟨z,y,xs,r,I,es,O,e,c⟩:=x;exact ⟨z,y,xs,Paired.mapP r λp q z=>⟨z.1,ht _ _ z.2.1,z.2.2⟩,I,es,O,k _ _ (.inl rfl) e,c⟩
 |set S n=>obtain ⟨I,es,O,t,e,c⟩:=x;exact ⟨I,es,O,t,k _ _ (.inl rfl) e,c⟩
 | ins C dx fs=>
  obtain ⟨d,z,ne,e,mA,⟨od,es,O,e2,c⟩,r⟩:=x;exact ⟨ho _ d,z,ne,k _ _ (.inl rfl) e,mA,⟨od,es,O,k _ _ (.inr d) e2,c⟩,r⟩
 |own y=>obtain ⟨I,e⟩:=x;exact ⟨I,k _ _ (.inl rfl) e⟩
 |xd fs=>obtain ⟨mA,⟨od,es,O,e,c⟩,r⟩:=x;exact ⟨mA,⟨od,es,O,k _ _ (.inl rfl) e,c⟩,r⟩
 |rng lo hi=>obtain ⟨t,u,v,e⟩:=x;exact ⟨t,u,v,k _ _ (.inl rfl) e⟩
 |frz I u ih=>obtain ⟨e,q⟩:=x;exact ⟨k _ _ (.inl rfl) e,ih q⟩
 | tbl q=>
  obtain ⟨ps,e,r⟩:=x;exact ⟨ps,k a _ (.inl rfl) e,r.imp id λa0=>by obtain ⟨c',oc,e1,e2,ne,e3,e4⟩:=a0;exact ⟨c',oc,e1,ho _ e2,ne,k c' _ (.inr e2) e3,e4⟩⟩
 | met f y=>
  have e:h.get? a=some (PySem.W.methodObj (.ref f) (.ref y)):=x
  show h'.get? a=some (PySem.W.methodObj (.ref f) (.ref y));exact k a _ (.inl rfl) e
 |ext φ=>obtain ⟨p,⟨o,e⟩,st⟩:=x;exact ⟨st _ _ p λo q=>k _ _ (.inl rfl) q,⟨o,k _ _ (.inl rfl) e⟩,st⟩
def HOk.lt (x:HOk P w H h)(e:H a=some o):a<h.objs.size:=(x a o e).lt
def HOk.fresh {a:Addr}(x:HOk P w H h) (e:h.objs.size<=a):H a=none:=by
 cases q:H a with
 |none=>rfl
 |some u=>exact absurd (qB6 (x.lt q) e) (qE2 _)
def HOk.kept (x:HOk P w H h) (k:∀b u,h.get? b=some u->h'.get? b=some u):HOk P w H h':=λa o e=>
 (x a o e).stay (λb u _ q=>k b u q) (λ_ q=>q) λ_ _ q=>q
def HOk.laid {a:Addr}(x:HOk P w H h) (k:∀b u,h.get? b=some u->h'.get? b=some u) (hp:h.objs.size<=a) (I:ObjOk P w (upd H a o) h' a o):HOk P w (upd H a o) h':=λb u e=>by
 have hn:=x.fresh hp;by_cases O:b=a
 ·subst O;rw[i9]at e;cases e;exact I
 ·rw [c8 O]at e
  exact (x b u e).stay (λc v _ q=>k c v q) (λc q=>by rw[c8 (f7 q hn)];exact q) λc xs q=>by rw[c8 (f7 q hn)];exact q
def Rd (H:Hp)(a:Addr)(u:HO):Prop:=H a=some u\/∃o,H a=some (.frz o u)
def Rd.ok (r:Rd H a u) (x:HOk P w H h):ObjOk P w H h a u:=by
 rcases r with r|⟨o,r⟩
 ·exact x a u r
 ·obtain ⟨_,q⟩:=x a _ r;exact q
def Mut:Option HO->Prop
 |some (.lst _)=>True
 |some (.dK _)=>True
 |some (.dT _)=>True
 |some (.set _ _)=>True
 |some (.ins _ _ _)=>True
 |some (.ext _)=>True
 |_=>False
def HOk.write (ok:HOk P w H h) (mu:Mut (H x)) (he:e=x\/H e=some (.own x)) (k:∀b u,b≠e->h.get? b=some u->h'.get? b=some u) (a3:∃u,h'.get? e=some u) (a4:ObjOk P w (upd H x o') h' x o'):HOk P w (upd H x o') h':=λb u q=>by
 have O:∀c y,H c=some (.own y)->c≠x:=λc y r z=>by subst z;rw[r]at mu;exact mu
 have a0:∀c xs,H c=some (.tup xs)->c≠x:=λc xs r z=>by subst z;rw[r]at mu;exact mu
 by_cases hb:b=x
 ·subst hb;rw[i9]at q;cases q;exact a4
 ·rw [c8 hb]at q
  by_cases I:b=e
  ·have q':H b=some (.own x):=by
    rcases he with z|z
    ·exact absurd (I.trans z) hb
    ·rw[I];exact z
   rw[q]at q';cases q';obtain ⟨v,hv⟩:=a3;exact ⟨v,by rw[I];exact hv⟩
  ·refine (ok b u q).stay (λc v hc r=>k c v ?_ r) (λc r=>by rw[c8 (O c b r)];exact r) λc xs r=>by rw[c8 (a0 c xs r)];exact r
   rcases hc with rfl|hc
   ·exact I
   ·rintro rfl;rcases he with z|z
    ·exact O c b hc z
    ·rw[hc]at z;cases z;exact hb rfl
structure Un (fs ex:List Addr) (H H':Hp) (h h':Heap):Prop where
 keep:∀b o,h.get? b=some o->H b=none->b∉fs->b∉ex->h'.get? b=some o
 slot:∀b o,h.get? b=some o->H b=none->b∈fs->b∉ex->∃sl,h'.get? b=some { o with slots:=sl }
 free:∀b o,h.get? b=some o->H b=none->b∉ex->H' b=none
 there:∀b o,h.get? b=some o->b∉ex->∃o',h'.get? b=some o'
 tups:∀b xs,H b=some (.tup xs)->H' b=some (.tup xs)
 frzs:∀b o u,H b=some (.frz o u)->H' b=some (.frz o u)
 tbls:∀b k,H b=some (.tbl k)->H' b=some (.tbl k)
def Un.any (u:Un fs ex H H1 h h1) (q:h.get? b=some ob) (n:H b=none) (I:b∉ex):∃sl,h1.get? b=some { ob with slots:=sl }:=by
 by_cases O:b∈fs
 ·exact u.slot b ob q n O I
 ·exact ⟨ob.slots,u.keep b ob q n O I⟩
def Un.kept (k:∀b u,h.get? b=some u->h'.get? b=some u):Un fs ex H H h h':=
 ⟨λb I q _ _ _=>k b I q,λb I q _ _ _=>⟨I.slots,k b I q⟩,λ_ _ _ n _=>n,λb I q _=>⟨I,k b I q⟩,λ_ _ q=>q,λ_ _ _ q=>q,λ_ _ q=>q⟩
def Un.refl:Un fs ex H H h h:=Un.kept λ_ _ q=>q
def Un.laid (k:∀b u,h.get? b=some u->h'.get? b=some u) (I:h.objs.size<=a) (hn:H a=none):Un fs ex H (upd H a o) h h' where
 keep:=λb u q _ _ _=>k b u q
 slot:=λb u q _ _ _=>⟨u.slots,k b u q⟩
 free:=λb u q n _=>by rw[c8 (qC8 (qB6 (qB4 q) I))];exact n
 there:=λb u q _=>⟨u,k b u q⟩
 tups:=λb xs q=>by rw[c8 (f7 q hn)];exact q
 frzs:=λb u xs q=>by rw[c8 (f7 q hn)];exact q
 tbls:=λb k q=>by rw[c8 (f7 q hn)];exact q
def Un.write (O:Mut (H x)) (he:e=x\/H e=some (.own x)) (k:∀b u,b≠e->h.get? b=some u->h'.get? b=some u) (a0:∃u,h'.get? e=some u):Un fs ex H (upd H x o) h h':=by
 have hx:∀b,H b=none->b≠x:=λb n z=>by subst z;rw[n]at O;exact O
 have hb:∀b,H b=none->b≠e:=λb n z=>by
  subst z;rcases he with r|r
  ·exact hx b n r
  ·rw[n]at r;cases r
 have hm:∀b u,H b=some u->¬ Mut (some u)->b≠x:=λb u q nm z=>by subst z;rw[q]at O;exact nm O
 refine ⟨λb u q n _ _=>k b u (hb b n) q,λb u q n _ _=>⟨u.slots,k b u (hb b n) q⟩,λb u q n _=>by rw[c8 (hx b n)];exact n,λb u q _=>?_,
  λb xs q=>by rw[c8 (hm b _ q λz=>z)];exact q,λb u xs q=>by rw[c8 (hm b _ q λz=>z)];exact q,λb k q=>by rw[c8 (hm b _ q λz=>z)];exact q⟩
 by_cases I:b=e
 ·subst I;exact a0
 ·exact ⟨u,k b u I q⟩
def trk (h:Heap)(H:Hp):List Addr:=(List.range h.objs.size).filter λa=>(H a).isSome
def bu (h:Heap)(H:Hp):Heap:=PySem.W.hideAll h (trk h H)
def ua (h:Heap)(H:Hp):(bu h H).objs.size=h.objs.size:=PySem.W.hideAll_size _ _
def xg (e:h.get? b=some o) (n:H b=none):(bu h H).get? b=some o:=
 PySem.W.hideAll_get _ e λhm=>by
  have q:(H b).isSome=true:=(qI2.mp hm).2;rw[n]at q;simp at q
def Ai (e:(bu h H).get? b=some o):h.get? b=some o/\H b=none:=by
 have I:h.get? b=some o:=PySem.W.of_hideAll (trk h H) e;refine ⟨I,?_⟩;cases q:H b with
 |none=>rfl
 | some x=>
  have hm:b∈trk h H:=qI2.mpr ⟨qH5.mpr (qB4 I),by simp [q]⟩;have z:(bu h H).get? b=none:=PySem.W.hideAll_none (trk h H) hm;rw[z]at e;cases e
def BM (g h:Heap)(L:Addr):List (Addr×Obj):=(List.range h.objs.size).filterMap λa=>if a=L\/(g.get? a).isSome=true then none else (h.get? a).map λo=>(a,o)
def rest (g h:Heap)(L d:Addr):List (Addr×Obj):=(BM g h L).filter λp=>decide (p.1≠d)
structure Mod (K:Frag) (mg:Str->Option Value) (base:Heap):Prop where
 kin:K.In base
 glob:base.Ns mainGlobals mg
 blt:∃mb,base.Ns builtinsNs mb/\∀x:Str,x ≠ "__name__" -> mb x=bootBuiltins x
 nolimit:base.NoLimit
 bmain:∃bm o,mg "__builtins__" = some (.ref bm)/\bm≠builtinsNs/\base.get? bm=some o/\o.cls=.type "module" /\ o.dict=some builtinsNs/\o.data=.plain
structure Cx where
 prog:Program
 w:World
 K:Frag
 mg:Str->Option Value
 base:Heap
 A:Around
 N:List Str
 s₀:Shared
 H₀:Hp
 env:Env
 outer:List Env
 stack:List Env
 ex:List Addr
 fn:Str->Bool
 calm:Bool
 pn:List (Addr×Obj)
 xe:Value->Shared->Prop
def frs (l:List Env):List Addr:=l.filterMap (·.frame)
abbrev Cx.fs (X:Cx):List Addr:=frs X.outer
def Vis (sc:Scope)(x:Str):Prop:=sc.names.lookup x=some .local\/sc.names.lookup x=some .cell\/sc.names.lookup x=some .free
def Loc (sc:Scope)(x:Str):Prop:=sc.names.lookup x=some .local\/sc.names.lookup x=some .cell
def Look (env:Env) (h:Heap) (m:Str->Option Value) (x:Str) (u:Value):Prop:=
 (env.kindOf x=some .local/\m x=some u)\/((env.kindOf x=some .cell\/env.kindOf x=some .free)/\∃c,env.cells.lookup x=some c/\h.IsCell c (some u))
structure Cx.Ok (X:Cx):Prop where
 mod:Mod X.K X.mg X.base
 kind:X.env.scope.kind=.function
 glob:X.env.globals=mainGlobals
 blt:X.env.builtins=builtinsNs
 above:X.s₀.heap.objs.size<=X.env.locals
 inj:∀x y c,X.env.cells.lookup x=some c->X.env.cells.lookup y=some c->x=y
 has:∀x,(X.env.kindOf x=some .cell\/X.env.kindOf x=some .free)->∃c,X.env.cells.lookup x=some c
 cab:∀x c,X.fn x=true->X.env.cells.lookup x=some c->X.s₀.heap.objs.size<=c
 hd:X.calm=true->X.A.handled=none
 frames:X.A.frames=some X.stack
 stk:X.stack=X.outer\/(X.stack=X.env::X.outer/\X.env.frame=some X.env.locals)
 exf:∀b∈X.ex,b≠X.env.locals/\∀x c,X.env.cells.lookup x=some c->c≠b
 bs:∀b o,X.base.get? b=some o->X.s₀.heap.get? b=some o/\X.H₀ b=none
 bsz:X.base.objs.size<=X.s₀.heap.objs.size
 noex:∀b o,X.base.get? b=some o->b∉X.ex
 exfs:∀b∈X.ex,b∉X.fs
 funs:X.s₀.heap.FunFrames X.base X.outer
 frf:∀b∈X.fs,X.H₀ b=none
 tab:∀p∈lamT,X.H₀ p.1=some (.tbl p.2)
structure Inv (X:Cx) (pins:List (Addr×Obj)) (σ:List (Option V)) (H:Hp) (s:Shared):Prop where
 ok:X.Ok
 os:s.os=X.s₀.os
 bare:AllBare s.gens
 base:Un X.fs X.ex X.H₀ H X.s₀.heap s.heap
 loc:∃m,s.heap.Ns X.env.locals m/\∀(i:Nat) (x:Str) (v:V),X.N[i]?=some x->σ[i]?=some (some v)->Vis X.env.scope x->∃u,RelV v u/\Look X.env s.heap m x u
 cell:∀x c,X.env.cells.lookup x=some c->∃v,s.heap.IsCell c v
 free:H X.env.locals=none
 freeC:∀x c,X.env.cells.lookup x=some c->H c=none
 pin:∀p∈X.pn++pins,s.heap.get? p.1=some p.2/\H p.1=none/\p.1≠X.env.locals/\p.1∉X.fs/\∀v,p.2.data≠.cell v
 hok:HOk X.prog X.w H s.heap
 len:σ.length=X.N.length
def Cx.Ok.nofr {X:Cx}(ok:X.Ok) (e:X.base.get? b=some o):b∉X.fs:=λI=>by
 have:=(ok.funs.mem I).1
 rw[e]at this;cases this
def Inv.bs (I:Inv X pins σ H s):∀b o,X.base.get? b=some o->s.heap.get? b=some o/\H b=none:=λb o e=>
 ⟨I.base.keep b o (I.ok.bs b o e).1 (I.ok.bs b o e).2 (I.ok.nofr e) (I.ok.noex b o e),I.base.free b o (I.ok.bs b o e).1 (I.ok.bs b o e).2 (I.ok.noex b o e)⟩
def Inv.tab (I:Inv X pins σ H s):∀p∈lamT,H p.1=some (.tbl p.2):=λp O=>I.base.tbls _ _ (I.ok.tab p O)
def Inv.bk (I:Inv X pins σ H s):∀b o,X.base.get? b=some o->s.heap.get? b=some o:=λb o e=>(I.bs b o e).1
def Inv.mod (I:Inv X pins σ H s):Mod X.K X.mg X.base:=I.ok.mod
def Inv.kIn (I:Inv X pins σ H s):X.K.In s.heap:=I.ok.mod.kin.keeps I.bk
def Inv.nolimit (I:Inv X pins σ H s):s.heap.NoLimit:=I.ok.mod.nolimit.keeps I.bk
def Inv.fr (I:Inv X pins σ H s):∃m,Fr X.base X.env.locals s.heap m:=
 let ⟨m,hn,_⟩:=I.loc
 ⟨m,hn,I.bk,qD7 I.ok.bsz I.ok.above⟩
def Inv.lt (I:Inv X pins σ H s):X.env.locals<s.heap.objs.size:=let ⟨_,hn,_⟩:=I.loc;hn.lt
def Inv.sz (I:Inv X pins σ H s):X.s₀.heap.objs.size<=s.heap.objs.size:=qD7 I.ok.above (qN6 I.lt)
def Inv.nofs (I:Inv X pins σ H s){a:Addr}(h:s.heap.objs.size<=a):a∉X.fs:=λhb=>by
 obtain ⟨_,o,O,_⟩:=I.ok.funs.mem hb;exact absurd (qB6 (qB4 O) (qD7 I.sz h)) (qE2 _)
def Inv.cne (I:Inv X pins σ H s):∀x c,X.env.cells.lookup x=some c->c≠X.env.locals:=λx c e z=>by
 obtain ⟨v,o,ho,hd⟩:=I.cell x c e;obtain ⟨m,⟨o',es,ep,O,a0,_⟩,_⟩:=I.loc;rw[z,O]at ho;cases ho;rw[a0]at hd;cases hd
def Inv.funs (I:Inv X pins σ H s):s.heap.FunFrames X.base X.outer:=by
 have all:∀(l:List Env),(∀b∈frs l,b∈X.fs)->X.s₀.heap.FunFrames X.base l->s.heap.FunFrames X.base l:=by
  intro l
  induction l with
  |nil=>intro _ _;trivial
  | cons env r ih=>
   intro hs hl;obtain ⟨hk,⟨L,o,hf,hn,ho,hd⟩,hr⟩:=hl;have O:L∈X.fs:=hs L (by unfold frs;rw[qI8,hf];exact qB2);obtain ⟨sl,e⟩:=I.base.slot L o ho (I.ok.frf L O) O λz=>I.ok.exfs L z O;exact ⟨hk,⟨L,_,hf,hn,e,hd⟩,ih (λb hb=>hs b (by unfold frs;rw[qI8,hf];exact qA8 _ hb)) hr⟩
 exact all X.outer (λ_ hb=>hb) I.ok.funs
def Inv.stack (I:Inv X pins σ H s):s.heap.FunFrames X.base X.stack:=by
 rcases I.ok.stk with e|⟨e,hf⟩
 ·rw[e];exact I.funs
 ·rw [e]
  obtain ⟨m,hn,_⟩:=I.loc;refine .cons (by rw[I.ok.kind];decide) hf hn ?_ I.funs;exact Heap.get?_none_of_le (qD7 I.ok.bsz I.ok.above)
def Inv.stkSub (I:Inv X pins σ H s):∀b∈frs X.stack,b∈X.env.locals::X.fs:=λb O=>by
 rcases I.ok.stk with e|⟨e,hf⟩
 ·rw[e]at O;exact qA8 _ O
 ·rw [e]at O
  unfold frs at O;rw[qI8,hf]at O;exact O
def Inv.stkFree (I:Inv X pins σ H s):∀b∈frs X.stack,H b=none:=λb O=>by
 rcases qB3.mp (I.stkSub b O) with e|O
 ·rw[e];exact I.free
 ·obtain ⟨_,o,ho,_⟩:=I.ok.funs.mem O;exact I.base.free b o ho (I.ok.frf b O) λz=>I.ok.exfs b z O
def Inv.step {ch:List Addr}(I:Inv X pins σ H s) (a0:∀b∈ch,(b∈X.ex\/X.s₀.heap.objs.size<=b)/\b≠X.env.locals/\(∀x c,X.env.cells.lookup x=some c->c≠b)/\∀p∈X.pn++pins,p.1≠b) (keep:∀b o,b≠X.env.locals->b∉X.fs->b∉ch->s.heap.get? b=some o->H b=none->h'.get? b=some o) (slot:∀b o,b≠X.env.locals->b∈X.fs->b∉ch->s.heap.get? b=some o->H b=none->∃sl,h'.get? b=some { o with slots:=sl }) (free:∀b o,b∉ch->s.heap.get? b=some o->H b=none->H' b=none) (there:∀b o,b∉ch->s.heap.get? b=some o->∃o',h'.get? b=some o') (tups:∀b xs,H b=some (.tup xs)->H' b=some (.tup xs)) (frzs:∀b o u,H b=some (.frz o u)->H' b=some (.frz o u)) (tbls:∀b k,H b=some (.tbl k)->H' b=some (.tbl k)) (ns:∀m,s.heap.Ns X.env.locals m->h'.Ns X.env.locals m) (hok:HOk X.prog X.w H' h') (hg:AllBare g'):
  Inv X pins σ H' { s with heap:=h',gens:=g',drawn:=d',toks:=t' }:=by
 have a5:∀b o,X.s₀.heap.get? b=some o->b≠X.env.locals:=λb o e=>qC8 (qB6 (qB4 e) I.ok.above);have a4:∀b o,X.s₀.heap.get? b=some o->b∉X.ex->b∉ch:=λb o e O hb=>by
  rcases (a0 b hb).1 with z|z
  ·exact O z
  ·exact absurd (qB6 (qB4 e) z) (qE2 _)
 have cellK:∀x c,X.env.cells.lookup x=some c->∀v,s.heap.IsCell c v->h'.IsCell c v:=λx c e v a7=>by
  obtain ⟨o,ho,hd⟩:=a7;have a3:c∉ch:=λz=>(a0 c z).2.2.1 x c e rfl;by_cases hc:c∈X.fs
  ·obtain ⟨sl,q⟩:=slot c o (I.cne x c e) hc a3 ho (I.freeC x c e);exact ⟨_,q,hd⟩
  ·exact ⟨o,keep c o (I.cne x c e) hc a3 ho (I.freeC x c e),hd⟩
 refine ⟨I.ok,I.os,hg,⟨λb o e n hb O=>?_,λb o e n hb O=>?_,λb o e n O=>?_,λb o e O=>?_,λb xs e=>tups b xs (I.base.tups b xs e),λb o xs e=>frzs b o xs (I.base.frzs b o xs e),λb ps e=>?_⟩,?_,λx c e=>?_,?_,λx c e=>?_,λp hp=>?_,hok,I.len⟩
 ·exact keep b o (a5 b o e) hb (a4 b o e O) (I.base.keep b o e n hb O) (I.base.free b o e n O)
 ·obtain ⟨sl,e1⟩:=I.base.slot b o e n hb O;obtain ⟨a6,e2⟩:=slot b _ (a5 b o e) hb (a4 b o e O) e1 (I.base.free b o e n O);exact ⟨a6,e2⟩
 ·obtain ⟨o',e1⟩:=I.base.there b o e O;exact free b o' (a4 b o e O) e1 (I.base.free b o e n O)
 ·obtain ⟨o',e1⟩:=I.base.there b o e O;exact there b o' (a4 b o e O) e1
 ·exact tbls b ps (I.base.tbls b ps e)
 ·obtain ⟨m,hn,hl⟩:=I.loc;refine ⟨m,ns m hn,λi x v e1 e2 e3=>?_⟩;obtain ⟨u,r,l⟩:=hl i x v e1 e2 e3;refine ⟨u,r,?_⟩;rcases l with l|⟨k,c,e,z⟩
  ·exact .inl l
  ·exact .inr ⟨k,c,e,cellK x c e _ z⟩
 ·obtain ⟨v,z⟩:=I.cell x c e;exact ⟨v,cellK x c e v z⟩
 ·obtain ⟨m,⟨o,_,_,ho,_⟩,_⟩:=I.loc;exact free _ o (λz=>(a0 _ z).2.1 rfl) ho I.free
 ·obtain ⟨v,o,ho,hd⟩:=I.cell x c e;exact free c o (λz=>(a0 c z).2.2.1 x c e rfl) ho (I.freeC x c e)
 ·obtain ⟨e,n,ne,nf,d⟩:=I.pin p hp;have a3:p.1∉ch:=λz=>(a0 p.1 z).2.2.2 p hp rfl;exact ⟨keep p.1 p.2 ne nf a3 e n,free p.1 p.2 a3 e n,ne,nf,d⟩
def Inv.un (I:Inv X pins σ H s) (u:Un X.fs [] H H' s.heap h') (hok:HOk X.prog X.w H' h'):Inv X pins σ H' { s with heap:=h',toks:=t' }:=by
 obtain ⟨m,⟨o,es,ep,ho,r⟩,_⟩:=id I.loc;obtain ⟨sl,hL⟩:=u.any ho I.free Qy;exact I.step (g':=s.gens) (d':=s.drawn) (ch:=[]) (λ_ z=>nomatch z) (λb o _ hb _ e n=>u.keep b o e n hb Qy) (λb o _ hb _ e n=>u.slot b o e n hb Qy) (λb o _ e n=>u.free b o e n Qy) (λb o _ e=>u.there b o e Qy) u.tups u.frzs u.tbls (λm' hm=>by
  obtain ⟨o',a0,a3,O,r'⟩:=hm;rw[ho]at O;cases O;exact ⟨_,a0,a3,hL,r'⟩) hok I.bare
def Inv.call (I:Inv X pins σ H s) (u:Un (frs X.stack) ch H H' s.heap h') (hok:HOk X.prog X.w H' h') (hg:AllBare g') (O:∀b∈ch,(b∈X.ex\/X.s₀.heap.objs.size<=b)/\b≠X.env.locals/\(∀x c,X.env.cells.lookup x=some c->c≠b)/\∀p∈X.pn++pins,p.1≠b):
  Inv X pins σ H' { s with heap:=h',gens:=g',drawn:=d',toks:=t' }:=by
 obtain ⟨m,⟨o,es,ep,ho,r⟩,_⟩:=id I.loc;obtain ⟨sl,hL⟩:=u.any ho I.free λz=>(O _ z).2.1 rfl;exact I.step (ch:=ch) O (λb o hL hb hc e n=>u.keep b o e n (λz=>(qB3.mp (I.stkSub b z)).elim hL hb) hc) (λb o _ _ hc e n=>u.any e n hc) (λb o hc e n=>u.free b o e n hc) (λb o hc e=>u.there b o e hc) u.tups u.frzs u.tbls (λm' hm=>by
  obtain ⟨o',a3,a4,a0,r'⟩:=hm;rw[ho]at a0;cases a0;exact ⟨_,a3,a4,hL,r'⟩) hok hg
def Inv.turned (I:Inv X pins σ H s) (k:∀b o,b≠it->s.heap.get? b=some o->h'.get? b=some o) (hn:H it=none) (hL:it≠X.env.locals) (h1:it∈X.ex\/X.s₀.heap.objs.size<=it) (h2:∀x c,X.env.cells.lookup x=some c->c≠it) (h3:∀p∈X.pn++pins,p.1≠it):Inv X pins σ H { s with heap:=h',toks:=t' }:=by
 have O:∀b u,H b=some u->b≠it:=λb u e z=>by rw[z,hn]at e;cases e
 refine I.step (g':=s.gens) (d':=s.drawn) (ch:=[it]) (λb hb=>?_) (λb o _ _ hc e _=>k b o (λz=>hc (by simp [z])) e) (λb o _ _ hc e _=>⟨o.slots,k b o (λz=>hc (by simp [z])) e⟩) (λ_ _ _ _ n=>n)
  (λb o hc e=>⟨o,k b o (λz=>hc (by simp [z])) e⟩) (λ_ _ e=>e) (λ_ _ _ e=>e) (λ_ _ e=>e) (λm hm=>?_) (λb u e=>?_) I.bare
 ·have e:b=it:=by simpa using hb
  subst e;exact ⟨h1,hL,h2,h3⟩
 ·obtain ⟨o,es,ep,ho,r⟩:=hm;exact ⟨o,es,ep,k _ o (Ne.symm hL) ho,r⟩
 ·refine (I.hok b u e).stay (λc v hc q=>k c v ?_ q) (λ_ q=>q) λ_ _ q=>q;rcases hc with z|z
  ·rw[z];exact O b u e
  ·exact O c _ z
def Inv.tok (I:Inv X pins σ H s)(t:Nat):Inv X pins σ H { s with toks:=t }:=I.un (h':=s.heap) (t':=t) Un.refl I.hok
def Inv.kept (I:Inv X pins σ H s)(k:∀b u,s.heap.get? b=some u->h'.get? b=some u):Inv X pins σ H { s with heap:=h',toks:=t' }:=I.un (Un.kept k) (I.hok.kept k)
def Inv.laid {a:Addr}(I:Inv X pins σ H s) (k:∀b u,s.heap.get? b=some u->h'.get? b=some u) (hp:s.heap.objs.size<=a) (O:ObjOk X.prog X.w (upd H a o) h' a o):
  Inv X pins σ (upd H a o) { s with heap:=h',toks:=t' }:=I.un (Un.laid k hp (I.hok.fresh hp)) (I.hok.laid k hp O)
def Inv.write (I:Inv X pins σ H s)(mu:Mut (H x))(he:e=x\/H e=some (.own x))(k:∀b u,b≠e->s.heap.get? b=some u->h'.get? b=some u)(O:∃u,h'.get? e=some u)(a0:ObjOk X.prog X.w (upd H x o) h' x o):Inv X pins σ (upd H x o) { s with heap:=h',toks:=t' }:=I.un (Un.write mu he k O) (I.hok.write mu he k O a0)
def Inv.weak (I:Inv X pins σ H s) (hl:σ'.length=σ.length) (w:∀(i:Nat) v,σ'[i]?=some (some v)->σ[i]?=some (some v)):Inv X pins σ' H s:=
 ⟨I.ok,I.os,I.bare,I.base,let ⟨m,hn,hl'⟩:=I.loc;⟨m,hn,λi x v O e2 e3=>hl' i x v O (w i v e2) e3⟩,I.cell,I.free,I.freeC,I.pin,I.hok,hl.trans I.len⟩
def Inv.pins_of (I:Inv X pins σ H s) (h:∀p∈pins',s.heap.get? p.1=some p.2/\H p.1=none/\p.1≠X.env.locals/\p.1∉X.fs/\∀v,p.2.data≠.cell v):Inv X pins' σ H s:=
 ⟨I.ok,I.os,I.bare,I.base,I.loc,I.cell,I.free,I.freeC,λp O=>(qE0.mp O).elim (λz=>I.pin p (qE6 _ z)) (h p),I.hok,I.len⟩
def lr {N:List Str}(I:N.Nodup){i:Nat}(a:N[i]?=some x) (b:N[j]?=some x):i=j:=by
 obtain ⟨h1,e1⟩:=qB0.mp a;obtain ⟨h2,O⟩:=qB0.mp b;exact (List.getElem_inj I).mp (e1.trans O.symm)
def bT (I:Inv X pins σ H s) (hN:X.N.Nodup) (hi:X.N[i]?=some x) (hx:Loc X.env.scope x) (r:RelV v u) (h:∀s',Inv X pins (σ.set i (some v)) H s'->(∃a,Heap.SameBut a s.heap s'.heap/\(a=X.env.locals\/X.env.cells.lookup x=some a))->Q () s') (hf:X.fn x=true\/X.env.scope.names.lookup x=some .local:=by first|exact .inl rfl|exact .inr rfl|assumption):wpAny M A (storeName X.env x u) Q E s:=by
 obtain ⟨m,hn,hl⟩:=id I.loc;have a6:(X.env.scope.kind == .class||(X.env.scope.kind == .module&&X.env.locals != X.env.globals))=false:=by rw[I.ok.kind];rfl
 have a3:i<σ.length:=by rw[I.len];exact (qB0.mp hi).1
 have cne:=I.cne;have tracked:∀{a:Addr}{h':Heap},(∃o,s.heap.get? a=some o/\H a=none)->Heap.SameBut a s.heap h'->HOk X.prog X.w H h':=λ{a h'} ha O b ob e=>by
  obtain ⟨_,_,a0⟩:=ha;refine (I.hok b ob e).stay (λc w' hc q=>(O.2 c ?_).trans q) (λ_ q=>q) λ_ _ q=>q;rintro rfl;rcases hc with rfl|hc
  ·rw[a0]at e;cases e
  ·rw[a0]at hc;cases hc
 rcases hx with hk|hk
 ·refine wpAny_storeName_local hk hn (λh' b0 O=>?_) a6;obtain ⟨oL,_,_,ab,_⟩:=id hn;refine h _ ⟨I.ok,I.os,I.bare,⟨λb o e n hb hx=>?_,λb o e n hb hx=>?_,I.base.free,λb o e hx=>?_,I.base.tups,I.base.frzs,I.base.tbls⟩,⟨_,b0,λj y v' e1 e2 e3=>?_⟩,λy c e=>?_,I.free,I.freeC,λp hp=>?_,tracked ⟨oL,ab,I.free⟩ O,by simpa using I.len⟩ ⟨_,O,.inl rfl⟩
  ·exact (O.2 b (qC8 (qB6 (qB4 e) I.ok.above))).trans (I.base.keep b o e n hb hx)
  ·obtain ⟨sl,e1⟩:=I.base.slot b o e n hb hx;exact ⟨sl,(O.2 b (qC8 (qB6 (qB4 e) I.ok.above))).trans e1⟩
  ·obtain ⟨o',e1⟩:=I.base.there b o e hx;exact ⟨o',(O.2 b (qC8 (qB6 (qB4 e) I.ok.above))).trans e1⟩
  ·by_cases hj:j=i
   ·subst hj;rw[hi]at e1;cases e1;rw[qG2 a3]at e2;cases e2;exact ⟨u,r,.inl ⟨hk,Qy⟩⟩
   ·rw [qB7 (Ne.symm hj)]at e2
    obtain ⟨u',r',q⟩:=hl j y v' e1 e2 e3;refine ⟨u',r',?_⟩;rcases q with ⟨k,e⟩|⟨k,c,e,z⟩
    ·refine .inl ⟨k,?_⟩
     have:y≠x:=λe=>hj (lr hN e1 (e ▸ hi))
     simp [this,e]
    ·exact .inr ⟨k,c,e,z.sameBut O (cne y c e)⟩
  ·obtain ⟨w',z⟩:=I.cell y c e;exact ⟨w',z.sameBut O (cne y c e)⟩
  ·obtain ⟨e,n,ne,nf,d⟩:=I.pin p hp;exact ⟨(O.2 p.1 ne).trans e,n,ne,nf,d⟩
 ·have a4:X.fn x=true:=by
   rcases hf with z|z
   ·exact z
   ·rw[z]at hk;cases hk
  obtain ⟨c,hc⟩:=I.ok.has x (.inl hk);obtain ⟨w',z⟩:=I.cell x c hc;refine wpAny_storeName_cell I.ok.kind hk hc z (λh' a8 O=>?_);obtain ⟨oc,a9,a7⟩:=id z;refine h { s with heap:=h' } ⟨I.ok,I.os,I.bare,⟨λb o e n hb hx=>?_,λb o e n hb hx=>?_,I.base.free,λb o e hx=>?_,I.base.tups,I.base.frzs,I.base.tbls⟩,⟨m,hn.sameBut O (Ne.symm (cne x c hc)),λj y v' e1 e2 e3=>?_⟩,λy c' e=>?_,I.free,I.freeC,λp hp=>?_,tracked ⟨oc,a9,I.freeC x c hc⟩ O,by simpa using I.len⟩ ⟨c,O,.inr hc⟩
  ·exact (O.2 b (qC8 (qB6 (qB4 e) (I.ok.cab x c a4 hc)))).trans (I.base.keep b o e n hb hx)
  ·obtain ⟨sl,e1⟩:=I.base.slot b o e n hb hx;exact ⟨sl,(O.2 b (qC8 (qB6 (qB4 e) (I.ok.cab x c a4 hc)))).trans e1⟩
  ·obtain ⟨o',e1⟩:=I.base.there b o e hx;exact ⟨o',(O.2 b (qC8 (qB6 (qB4 e) (I.ok.cab x c a4 hc)))).trans e1⟩
  ·by_cases hj:j=i
   ·subst hj;rw[hi]at e1;cases e1;rw[qG2 a3]at e2;cases e2;exact ⟨u,r,.inr ⟨.inl hk,c,hc,a8⟩⟩
   ·rw [qB7 (Ne.symm hj)]at e2
    obtain ⟨u',r',q⟩:=hl j y v' e1 e2 e3;refine ⟨u',r',?_⟩;rcases q with q|⟨k,c',e,z'⟩
    ·exact .inl q
    ·refine .inr ⟨k,c',e,z'.sameBut O ?_⟩;rintro rfl;exact hj (lr hN e1 (I.ok.inj _ _ _ e hc ▸ hi))
  ·by_cases a5:c'=c
   ·subst a5;exact ⟨_,a8⟩
   ·obtain ⟨w2,z2⟩:=I.cell y c' e;exact ⟨w2,z2.sameBut O a5⟩
  ·obtain ⟨e,n,ne,nf,d⟩:=I.pin p hp;refine ⟨(O.2 p.1 ?_).trans e,n,ne,nf,d⟩;intro q;rw[q,a9]at e;have q':oc=p.2:=Option.some.inj e;exact d w' (by rw[<- q'];exact a7)
def eP (I:Inv X pins σ H s) (hN:X.N.Nodup) (hi:X.N[i]?=some x) (O:Loc X.env.scope x) (r:RelV v u) (h:∀s',Inv X pins (σ.set i (some v)) H s'->Q () s') (hf:X.fn x=true\/X.env.scope.names.lookup x=some .local:=by first|exact .inl rfl|exact .inr rfl|assumption):wpAny M A (storeName X.env x u) Q E s:=
 bT I hN hi O r (λs' I' _=>h s' I') hf
def Inv.call' (I:Inv X pins σ H s) (ho:s'.os=s.os) (u:Un (frs X.stack) ch H H' s.heap s'.heap) (hok:HOk X.prog X.w H' s'.heap) (hg:AllBare s'.gens) (O:∀b∈ch,(b∈X.ex\/X.s₀.heap.objs.size<=b)/\b≠X.env.locals/\(∀x c,X.env.cells.lookup x=some c->c≠b)/\∀p∈X.pn++pins,p.1≠b):Inv X pins σ H' s':=by
 obtain ⟨h',g',d',t',o'⟩:=s';have e:o'=s.os:=ho;subst e;exact I.call (g':=g') (t':=t') (d':=d') u hok hg O
abbrev XK:=Value->Option Addr->Hp->Prop
abbrev St:=List (Option V)
abbrev VK:=V->Hp->Prop
abbrev TE:=St->Hp->VK->Prop
abbrev TT:=St->Hp->(Bool->Hp->Prop)->Prop
abbrev TA:=St->Hp->(List V->Hp->Prop)->Prop
structure Ends where
 nx:St->Hp->Prop
 rt:VK
 bk:St->Hp->Prop:=λ_ _=>False
 ct:St->Hp->Prop:=λ_ _=>False
abbrev TS:=Ends->St->Hp->Prop
def EP (X:Cx)(pins:List (Addr×Obj))(σ:St)(Q:VK)(u:Value)(s':Shared):Prop:=∃v H',Inv X pins σ H' s'/\RelV v u/\Q v H'
def TP (X:Cx)(pins:List (Addr×Obj))(σ:St)(Q:Bool->Hp->Prop)(b:Bool)(s':Shared):Prop:=∃H',Inv X pins σ H' s'/\Q b H'
def AP (X:Cx)(pins:List (Addr×Obj))(σ:St)(Q:List V->Hp->Prop)(us:List Value)(s':Shared):Prop:=∃vs H',Inv X pins σ H' s'/\Vals vs us/\Q vs H'
def SP (X:Cx) (pins:List (Addr×Obj)) (D:Ends) (f:Flow) (s':Shared):Prop:=
 match f with
 | .next=>∃I H',Inv X pins I H' s'/\D.nx I H'
 | .brk=>∃I H',Inv X pins I H' s'/\D.bk I H'
 | .cont=>∃I H',Inv X pins I H' s'/\D.ct I H'
 | .ret u=>∃v I H',Inv X pins I H' s'/\RelV v u/\D.rt v H'
def PE (X:Cx) (e:Expr) (t:TE):Prop:=
 ∀(pins:List (Addr×Obj)) (s:Shared) (σ:St) (H:Hp) (Q:VK),Inv X pins σ H s->t σ H Q->wpAny (model X.prog X.w) X.A (eval e X.env) (EP X pins σ Q) X.xe s
def PT (X:Cx) (e:Expr) (t:TT):Prop:=
 ∀(pins:List (Addr×Obj)) (s:Shared) (σ:St) (H:Hp) (Q:Bool->Hp->Prop),Inv X pins σ H s->t σ H Q->wpAny (model X.prog X.w) X.A (isTrue e X.env (eval e X.env)) (TP X pins σ Q) X.xe s
def PW (X:Cx) (e:Expr) (t:TT):Prop:=
 ∀(whole:Sem Value) (pins:List (Addr×Obj)) (s:Shared) (σ:St) (H:Hp) (Q:Bool->Hp->Prop),Inv X pins σ H s->t σ H Q->wpAny (model X.prog X.w) X.A (isTrue e X.env whole) (TP X pins σ Q) X.xe s
def PW.pt (h:PW X e t):PT X e t:=h _
def PA (X:Cx) (es:List Expr) (t:TA):Prop:=
 ∀(pos:Pos) (pins:List (Addr×Obj)) (s:Shared) (σ:St) (H:Hp) (Q:List V->Hp->Prop),Inv X pins σ H s->t σ H Q->wpAny (model X.prog X.w) X.A (spliced (backTo pos (starEach es X.env))) (AP X pins σ Q) X.xe s
def PS (X:Cx) (st:Stmt) (t:TS):Prop:=
 ∀(pins:List (Addr×Obj)) (s:Shared) (σ:St) (H:Hp) (D:Ends),Inv X pins σ H s->t D σ H->wpAny (model X.prog X.w) X.A (exec st X.env) (SP X pins D) X.xe s
def PSs (X:Cx) (st:List Stmt) (t:TS):Prop:=
 ∀(pins:List (Addr×Obj)) (s:Shared) (σ:St) (H:Hp) (D:Ends),Inv X pins σ H s->t D σ H->wpAny (model X.prog X.w) X.A (execs st X.env) (SP X pins D) X.xe s
def thn {t:Sem α}(h:wpAny M A t Q E s)(I:∀a s,Q a s->Q' a s):wpAny M A t Q' E s:=qP7 h I λ_ _ x=>x
def P8 (i:Nat):TE:=λσ H Q=>∃v,σ[i]?=some (some v)/\Q v H
def tC (v:V):TE:=λ_ H Q=>Q v H
def P0 {X:Cx}{i:Nat}{x:Str}{pos:Pos}(hN:X.N[i]?=some x) (hv:Vis X.env.scope x) (hd:(x == ("__debug__" : Str))=false:=by decide) (O:(x == ("__classdict__" : Str))=false:=by decide):PE X (.Name x pos) (P8 i):=by
 intro pins s σ H Q I h;obtain ⟨v,e,h⟩:=h;obtain ⟨m,hn,hl⟩:=I.loc;obtain ⟨u,r,l⟩:=hl i x v hN e hv;have fin:EP X pins σ Q u s:=⟨v,H,I,r,h⟩;rcases l with ⟨hk,hm⟩|⟨hk,c,hc,hcell⟩
 ·exact wpAny_Name (qU0 I.ok.kind hk hn hm fin) hd
 ·rcases hk with hk|hk
  ·exact wpAny_Name (wpAny_loadName_cell I.ok.kind hk hc hcell fin) hd
  ·exact wpAny_Name (wpAny_loadName_free I.ok.kind hk hc hcell fin O) hd
def pe_int {i j pos}:PE X (.Constant (.int i) j pos) (tC (.int i)):=λ_ _ _ H _ I h=>wpAny_Constant_int ⟨.int i,H,I.tok _,⟨_,rfl⟩,h⟩
def pe_bl {b j pos}:PE X (.Constant (.bool b) j pos) (tC (.bl b)):=λ_ _ _ H _ I h=>Constant_bool ⟨.bl b,H,I,rfl,h⟩
def pe_non {j pos}:PE X (.Constant .none j pos) (tC .non):=λ_ _ _ H _ I h=>Constant_none ⟨.non,H,I,rfl,h⟩
def pe_str {x j pos}:PE X (.Constant (.str x) j pos) (tC (.str x)):=λ_ _ _ H _ I h=>Calls.Constant_str ⟨.str x,H,I.tok _,⟨_,rfl⟩,h⟩
def Gl (X:Cx)(x:Str):Prop:=X.env.kindOf x=some .globalImplicit
def oz {X:Cx}{E:Value->Shared->Prop}{pins:List (Addr×Obj)}{s:Shared}{σ:St}{H:Hp}{x:Str}{u:Value}{pos:Pos}{Q:Value->Shared->Prop}(I:Inv X pins σ H s) (O:Gl X x) (hm:X.mg x=some u) (h:Q u s) (hd:(x == ("__debug__" : Str))=false:=by decide):wpAny (model X.prog X.w) X.A (eval (.Name x pos) X.env) Q E s:=
 Calls.Name_function_global I.ok.kind O (Calls.loadGlobal_global (by rw[I.ok.glob];exact I.mod.glob.keeps I.bk) hm h) hd
def L9 {X:Cx}{E:Value->Shared->Prop}{pins:List (Addr×Obj)}{s:Shared}{σ:St}{H:Hp}{x:Str}{u:Value}{pos:Pos}{Q:Value->Shared->Prop}(I:Inv X pins σ H s) (hg:Gl X x) (hm:X.mg x=none) (hv:bootBuiltins x=some u) (h:Q u s) (hn:x ≠ "__name__" := by decide) (hd:(x == ("__debug__" : Str))=false:=by decide):wpAny (model X.prog X.w) X.A (eval (.Name x pos) X.env) Q E s:=by
 obtain ⟨mb,h1,O⟩:=I.mod.blt;exact Calls.Name_function_global I.ok.kind hg (Calls.loadGlobal_builtin (by rw[I.ok.glob];exact I.mod.glob.keeps I.bk) hm (by rw[I.ok.blt];exact h1.keeps I.bk) ((O x hn).trans hv) h) hd
def Aa {X:Cx}{x:Str}{v:V}{u:Value}{pos:Pos}(hg:Gl X x) (hm:X.mg x=none) (O:bootBuiltins x=some u) (r:RelV v u) (hn:x ≠ "__name__" := by decide) (hd:(x == ("__debug__" : Str))=false:=by decide):PE X (.Name x pos) (tC v):=
 λ_ _ _ H _ I h=>L9 I hg hm O ⟨v,H,I,r,h⟩ hn hd
def PC (X:Cx) (op:CmpOp) (a b:Expr) (t:TE):Prop:=
 ∀ (pins:List (Addr×Obj)) (s:Shared) (σ:St) (H:Hp) (Q:VK),Inv X pins σ H s->t σ H Q ->
  wpAny (model X.prog X.w) X.A (eval a X.env) (λv O=>wpAny (model X.prog X.w) X.A (eval b X.env) (λu I=>wpAny (model X.prog X.w) X.A (compareOp op v u) (EP X pins σ Q) X.xe I) X.xe O) X.xe s
def wE (b:Expr) (h:op≠.In) (I:op≠.NotIn):behindInMarks op b=false:=by
 have e1:(op == CmpOp.In)=false:=by cases op <;> first|rfl|exact absurd rfl h
 have O:(op == CmpOp.NotIn)=false:=by cases op <;> first|rfl|exact absurd rfl I
 cases b <;> simp [behindInMarks,e1,O]
def tB (t:TE):TT:=λσ H Q=>t σ H λx H1=>∃c,x=.bl c/\Q c H1
def DR (h:PC X op a b t) (h1:behindInMarks op b=false:=by first|exact wE _ Qz Qz|rfl):PT X (.Compare a [op] [b] pos) (tB t):=by
 intro pins s σ H Q I hw;refine wpAny_isTrue_Compare1 (thn (h pins s σ H _ I hw) λv s1 h1=>thn h1 λu s2 h2=>thn h2 λc s3 O=>?_) h1;obtain ⟨x,H1,I1,r1,q1⟩:=O;obtain ⟨d,rfl,q⟩:=q1;cases r1;exact qQ0 ⟨H1,I1,q⟩
def DP (h:PE X e t) (he:∀whole,isTrue e X.env whole=(do let v <- whole;standAt e.pos;holding [v] (truthy v)):=by intro _;rfl):PT X e (tB t):=by
 intro pins s σ H Q I hw;refine isTrue_plain (thn (h pins s σ H _ I hw) λv s1 O=>?_) (he _);obtain ⟨x,H1,I1,r1,q1⟩:=O;obtain ⟨d,rfl,q⟩:=q1;cases r1;exact qQ0 ⟨H1,I1,q⟩
def Cp (t u:TT):TT:=λσ H Q=>t σ H λc H1=>if c=true then u σ H1 Q else Q false H1
def tOr (t u:TT):TT:=λσ H Q=>t σ H λc H1=>if c=true then Q true H1 else u σ H1 Q
def Ci (t:TT):TT:=λσ H Q=>t σ H λc H1=>Q (!c) H1
def zP (ha:PT X a tA):PW X (.BoolOp .And [a] pos) tA:=by
 intro wh pins s σ H Q I h;refine isTrue_and (thn (ha pins s σ H Q I h) λc s1 e=>?_);cases c with
 |true=>exact isTrue_and_nil e
 |false=>exact e
def DN (ha:PT X a tA):PW X (.BoolOp .Or [a] pos) tA:=by
 intro wh pins s σ H Q I h;refine isTrue_or (thn (ha pins s σ H Q I h) λc s1 e=>?_);cases c with
 |false=>exact isTrue_or_nil e
 |true=>exact e
def DO {rest:List Expr}(ha:PT X a tA) (hb:PW X (.BoolOp .And (b::rest) pos) tB'):PW X (.BoolOp .And (a::b::rest) pos) (Cp tA tB'):=by
 intro wh pins s σ H Q I h;refine isTrue_and (thn (ha pins s σ H _ I h) λc s1 O=>?_);obtain ⟨H1,I1,q1⟩:=O;cases c with
 |true=>exact hb wh pins s1 σ H1 Q I1 q1
 |false=>exact ⟨H1,I1,q1⟩
def HK {rest:List Expr}(ha:PT X a tA) (hb:PW X (.BoolOp .Or (b::rest) pos) tB'):PW X (.BoolOp .Or (a::b::rest) pos) (tOr tA tB'):=by
 intro wh pins s σ H Q I h;refine isTrue_or (thn (ha pins s σ H _ I h) λc s1 O=>?_);obtain ⟨H1,I1,q1⟩:=O;cases c with
 |true=>exact ⟨H1,I1,q1⟩
 |false=>exact hb wh pins s1 σ H1 Q I1 q1
def DQ (ha:PT X a tA):PT X (.UnaryOp .Not a pos) (Ci tA):=by
 intro pins s σ H Q I h;exact isTrue_not (ha pins s σ H (λc H1=>Q (!c) H1) I h)
def yb (ta I:TE):TE:=λσ H Q=>ta σ H λx H1=>∃c,x=.bl c/\if c=true then I σ H1 Q else Q (.bl false) H1
def xY (ta:TE):TE:=λσ H Q=>ta σ H λx H1=>∃c,x=.bl c/\Q (.bl (!c)) H1
def Ea {op}(h:PE X a t):PE X (.BoolOp op [a] pos) t:=λpins s σ H Q I hw=>BoolOp_one (h pins s σ H Q I hw)
def Eg {rest:List Expr}(ha:PE X a ta) (hb:PE X (.BoolOp .And (b::rest) pos) tb):PE X (.BoolOp .And (a::b::rest) pos) (yb ta tb):=by
 intro pins s σ H Q I h;refine BoolOp_and (thn (ha pins s σ H _ I h) λv s1 a0=>?_);obtain ⟨x,H1,I1,r1,O⟩:=a0;obtain ⟨c,rfl,O⟩:=O;cases r1;refine qQ0 ?_;cases c with
 |true=>exact hb pins s1 σ H1 Q I1 O
 |false=>exact ⟨.bl false,H1,I1,rfl,O⟩
def Eb (ha:PE X a ta):PE X (.UnaryOp .Not a pos) (xY ta):=by
 intro pins s σ H Q I h;refine UnaryOp_ (thn (ha pins s σ H _ I h) λv s1 O=>?_);obtain ⟨x,H1,I1,r1,q1⟩:=O;obtain ⟨c,rfl,q1⟩:=q1;cases r1;exact not_of (qQ0 ⟨.bl (!c),H1,I1,rfl,q1⟩)
def tIf (t:TT)(ta I:TE):TE:=λσ H Q=>t σ H λc H1=>if c=true then ta σ H1 Q else I σ H1 Q
def wu (hc:PT X c tA) (ha:PE X a ta) (hb:PE X b tb):PE X (.IfExp c a b pos) (tIf tA ta tb):=by
 intro pins s σ H Q I h;refine wpAny_IfExp (thn (hc pins s σ H _ I h) λd s1 O=>?_);obtain ⟨H1,I1,q1⟩:=O;cases d with
 |true=>exact ha pins s1 σ H1 Q I1 q1
 |false=>exact hb pins s1 σ H1 Q I1 q1
def SqL (K:Frag) (H:Hp) (a:Addr) (xs:List V):Prop:=
 Rd H a (.lst xs) \/
  ∃(o:Obj) (its:Array Value) (n:Nat),K.lookup a=some o/\o.cls=.type "list" /\ o.dict=none/\o.data=.seq its n/\its.size<=sizeLine/\Vals xs its.toList
def SqT (K:Frag) (H:Hp) (a:Addr) (xs:List V):Prop:=
 Rd H a (.tup xs) \/
  ∃(o:Obj) (its:Array Value) (n:Nat),K.lookup a=some o/\o.cls=.type "tuple" /\ o.data=.seq its n/\its.size<=sizeLine/\Vals xs its.toList
def absV:Value->Option V
 | .none=>some .non
 | .bool b=>some (.bl b)
 | .int i _=>some (.int i)
 | .str x _=>some (.str x)
 | .bytes b _=>some (.byt b)
 | .float b _=>some (.flt b)
 | .ref a=>some (.ref a)
 | .type n=>some (.ty n)
 |_=>none
def RelV.abs (r:RelV x u):absV u=some x:=by
 cases x with
 |non=>cases r;rfl
 |bl _=>cases r;rfl
 |int _=>obtain ⟨t,rfl⟩:=r;rfl
 |str _=>obtain ⟨t,rfl⟩:=r;rfl
 |byt _=>obtain ⟨t,rfl⟩:=r;rfl
 |flt _=>obtain ⟨t,rfl⟩:=r;rfl
 |ref _=>cases r;rfl
 |ty _=>cases r;rfl
def RelV.inj (r:RelV x u)(q:RelV y u):x=y:=Option.some.inj (r.abs.symm.trans q.abs)
def Vals.inj:∀{xs ys:List V}{us:List Value},Vals xs us->Vals ys us->xs=ys:=by
 intro xs ys us a
 induction a generalizing ys with
 |nil=>intro b;cases b;rfl
 | cons r t O=>
  intro b;cases b with
  |cons I t'=>rw[r.inj I,O t']
def SqL.of {K:Frag}(h:H a=some (.lst xs)):SqL K H a xs:=.inl (.inl h)
def SqT.of {K:Frag}(h:H a=some (.tup xs)):SqT K H a xs:=.inl (.inl h)
def Inv.list {σ:St}(I:Inv X pins σ H s) (h:SqL X.K H a xs):∃its:List Value,Vals xs its/\PlainL s.heap a its.toArray/\xs.length<=sizeLine:=by
 rcases h with h|⟨o,its,n,hk,hc,hd,hs,hz,r⟩
 ·obtain ⟨z,its,n,r,e⟩:=h.ok I.hok;exact ⟨its,r,⟨_,n,e,rfl,rfl,rfl⟩,z⟩
 ·refine ⟨its.toList,r,⟨o,n,I.kIn a o hk,hc,hd,by simpa using hs⟩,?_⟩;have e:=r.length;simp only [qM8]at e;omega
def Inv.tuple {σ:St}(I:Inv X pins σ H s) (h:SqT X.K H a xs):∃its:List Value,Vals xs its/\IsTup s.heap a its.toArray/\xs.length<=sizeLine:=by
 rcases h with h|⟨o,its,n,hk,hc,hs,hz,r⟩
 ·obtain ⟨z,its,r,p⟩:=h.ok I.hok;exact ⟨its,r,p,z⟩
 ·refine ⟨its.toList,r,⟨o,I.kIn a o hk,hc,n,by simpa using hs⟩,?_⟩;have e:=r.length;simp only [qM8]at e;omega
def Inv.list_inj {σ:St}(I:Inv X pins σ H s) (h:SqL X.K H a xs) (h':SqL X.K H a ys):xs=ys:=by
 obtain ⟨its,r,⟨o,n,e,_,_,d⟩,_⟩:=I.list h;obtain ⟨its',r',⟨o',n',O,_,_,d'⟩,_⟩:=I.list h';rw[e]at O;cases O;rw[d]at d';injection d' with d1 _
 have:its=its':=by simpa using congrArg Array.toList d1
 subst this;exact r.inj r'
def Inv.tuple_inj {σ:St}(I:Inv X pins σ H s) (h:SqT X.K H a xs) (h':SqT X.K H a ys):xs=ys:=by
 obtain ⟨its,r,⟨o,e,_,n,d⟩,_⟩:=I.tuple h;obtain ⟨its',r',⟨o',O,_,n',d'⟩,_⟩:=I.tuple h';rw[e]at O;cases O;rw[d]at d';injection d' with d1 _
 have:its=its':=by simpa using congrArg Array.toList d1
 subst this;exact r.inj r'
abbrev Cx.wish (X:Cx)(E:Value->Shared->Prop):Cx:={ X with xe:=E }
abbrev Cx.nox (X:Cx):Cx:=X.wish λ_ _=>False
def Cx.Ok.wish {X:Cx}(ok:X.Ok) (E:Value->Shared->Prop):(X.wish E).Ok:=
 ⟨ok.mod,ok.kind,ok.glob,ok.blt,ok.above,ok.inj,ok.has,ok.cab,ok.hd,ok.frames,ok.stk,ok.exf,ok.bs,ok.bsz,ok.noex,ok.exfs,ok.funs,ok.frf,ok.tab⟩
def Cx.Ok.unwish {X:Cx}(ok:(X.wish E).Ok):X.Ok:=
 ⟨ok.mod,ok.kind,ok.glob,ok.blt,ok.above,ok.inj,ok.has,ok.cab,ok.hd,ok.frames,ok.stk,ok.exf,ok.bs,ok.bsz,ok.noex,ok.exfs,ok.funs,ok.frf,ok.tab⟩
def Inv.wish {σ:St}(I:Inv X pins σ H s)(E:Value->Shared->Prop):Inv (X.wish E) pins σ H s:=⟨I.ok.wish E,I.os,I.bare,I.base,I.loc,I.cell,I.free,I.freeC,I.pin,I.hok,I.len⟩
def Inv.unwish {σ:St}(I:Inv (X.wish E) pins σ H s):Inv X pins σ H s:=⟨I.ok.unwish,I.os,I.bare,I.base,I.loc,I.cell,I.free,I.freeC,I.pin,I.hok,I.len⟩
def SP.unwish (h:SP (X.wish E) pins D f s'):SP X pins D f s':=by
 cases f with
 |next=>obtain ⟨O,H',I,q⟩:=h;exact ⟨O,H',I.unwish,q⟩
 |brk=>obtain ⟨O,H',I,q⟩:=h;exact ⟨O,H',I.unwish,q⟩
 |cont=>obtain ⟨O,H',I,q⟩:=h;exact ⟨O,H',I.unwish,q⟩
 |ret u=>obtain ⟨v,O,H',I,r,q⟩:=h;exact ⟨v,O,H',I.unwish,r,q⟩
def PSs.nox {st:List Stmt}(h:PSs X.nox st t):PSs X st t:=λpins s σ H D I hw=>
 qP7 (h pins s σ H D (I.wish _) hw) (λ_ _ q=>q.unwish) λ_ _ z=>False.elim z
def tNext:TS:=λD σ H=>D.nx σ H
def vt (t u:TS):TS:=λD σ H=>t { D with nx:=u D } σ H
def pss_nil:PSs X [] tNext:=λ_ _ σ H _ I h=>qU1 ⟨σ,H,I,h⟩
def kM {st:Stmt}{rest:List Stmt}(h1:PS X st t) (h2:PSs X rest u):PSs X (st::rest) (vt t u):=by
 intro pins s σ H D I h;refine wpAny_execs_cons (thn (h1 pins s σ H { D with nx:=u D } I h) λf s1 q=>?_);cases f with
 | next=>
  obtain ⟨O,H',I',q⟩:=q;exact h2 pins s1 O H' D I' q
 |ret v=>exact q
 |brk=>exact q
 |cont=>exact q
def nV {st:Stmt}(O:PS X st t):PSs X [st] t:=by
 intro pins s σ H D I h;refine wpAny_execs_cons (thn (O pins s σ H D I h) λf s1 q=>?_);cases f with
 |next=>exact qU1 q
 |ret v=>exact q
 |brk=>exact q
 |cont=>exact q
def tCont:TS:=λD σ H=>D.ct σ H
def ps_continue:PS X (.Continue pos) tCont:=λ_ _ σ H _ I h=>wpAny_Continue ⟨σ,H,I,h⟩
def Inv.quiet {σ:St}(I:Inv X pins σ H s):interactive X.env=false:=by simp [interactive,I.ok.kind]
def fF (I:TE):TS:=λD σ H=>I σ H λ_ H1=>D.nx σ H1
def dj (he:PE X e te) (hs:swapsWith e none pos.line X.env=pure false:=by rfl):PS X (.Expr e pos) (fF te):=by
 intro pins s σ H D I h;exact wpAny_Expr_any (thn (he pins s σ H _ I h) λv s1 O=>by obtain ⟨x,H1,I1,r1,q1⟩:=O;exact ⟨σ,H1,I1,q1⟩) I.quiet hs
def pi (I:TE):TS:=λD σ H=>I σ H D.rt
def sx (he:PE X e te):PS X (.Return (some e) pos) (pi te):=by
 intro pins s σ H D I h;exact wpAny_Return_some (thn (he pins s σ H _ I h) λv s1 O=>by obtain ⟨x,H1,I1,r1,q1⟩:=O;exact ⟨x,σ,H1,I1,r1,q1⟩)
def tRetN:TS:=λD _ H=>D.rt .non H
def ps_retN:PS X (.Return none pos) tRetN:=λ_ _ σ H _ I h=>wpAny_Return_none ⟨.non,σ,H,I,rfl,h⟩
def vv (c:TT)(t u:TS):TS:=λD σ H=>c σ H λb H1=>if b=true then t D σ H1 else u D σ H1
def yo (hc:PT X c tc) (ha:PSs X a t) (hb:PSs X b u):PS X (.If c a b pos) (vv tc t u):=by
 intro pins s σ H D I h;refine wpAny_If (thn (hc pins s σ H _ I h) λd s1 O=>?_);obtain ⟨H1,I1,q1⟩:=O;cases d with
 |true=>exact ha pins s1 σ H1 D I1 q1
 |false=>exact hb pins s1 σ H1 D I1 q1
def tNever:TS:=λ_ _ _=>False
def ps_never {st:Stmt}:PS X st tNever:=λ_ _ _ _ _ _ h=>h.elim
abbrev TG:=V->St->Hp->(St->Hp->Prop)->Prop
abbrev TGs:=List V->St->Hp->(St->Hp->Prop)->Prop
def PG (X:Cx) (target:Expr) (t:TG):Prop:=
 ∀ (pins:List (Addr×Obj)) (s:Shared) (σ:St) (H:Hp) (v:V) (u:Value) (Q:St->Hp->Prop),Inv X pins σ H s->RelV v u->t v σ H Q ->
  wpAny (model X.prog X.w) X.A (assign target X.env u) (λ_ s'=>∃I H',Inv X pins I H' s'/\Q I H') X.xe s
def PGs (X:Cx) (ts:List Expr) (t:TGs):Prop:=
 ∀ (pins:List (Addr×Obj)) (s:Shared) (σ:St) (H:Hp) (vs:List V) (us:List Value) (Q:St->Hp->Prop),Inv X pins σ H s->Vals vs us->t vs σ H Q ->
  wpAny (model X.prog X.w) X.A (assignInOrder ((assignEach ts X.env).map (·.2)) us) (λ_ s'=>∃I H',Inv X pins I H' s'/\Q I H') X.xe s
abbrev TSet:=V->V->V->Hp->(Hp->Prop)->Prop
def Hw (X:Cx) (t:TSet):Prop:=
 ∀ (pins:List (Addr×Obj)) (s:Shared) (σ:St) (H:Hp) (o i v:V) (O I u:Value) (Q:Hp->Prop),Inv X pins σ H s->RelV o O->RelV i I->RelV v u->t o i v H Q ->
  wpAny (model X.prog X.w) X.A (setItem O I u) (λ_ s'=>∃H',Inv X pins σ H' s'/\Q H') X.xe s
abbrev TIp:=V->V->Hp->VK->Prop
def PIp (X:Cx) (op:Operator) (t:TIp):Prop:=
 ∀ (pins:List (Addr×Obj)) (s:Shared) (σ:St) (H:Hp) (x y:V) (v u:Value) (Q:VK),Inv X pins σ H s->RelV x v->RelV y u->t x y H Q ->
  wpAny (model X.prog X.w) X.A (inplaceOp op v u) (EP X pins σ Q) X.xe s
def K5 (i:Nat):TG:=λv σ H Q=>Q (σ.set i (some v)) H
def e9 {X:Cx}{pos:Pos}{i:Nat}{x:Str}(O:X.N.Nodup) (hi:X.N[i]?=some x) (hx:Loc X.env.scope x) (hf:X.fn x=true\/X.env.scope.names.lookup x=some .local:=by first|exact .inl rfl|exact .inr rfl|assumption):PG X (.Name x pos) (K5 i):=by
 intro pins s σ H v u Q I r h;exact wpAny_assign_Name (eP I O hi hx r (λs' I'=>⟨_,H,I',h⟩) hf)
def gNil:TGs:=λvs σ H Q=>vs = []/\Q σ H
def qi (t:TG)(u:TGs):TGs:=λvs σ H Q=>∃v r,vs=v::r/\t v σ H λI H'=>u r I H' Q
def z6:PGs X [] gNil:=by
 intro pins s σ H vs us Q I r h;obtain ⟨e,h⟩:=h;subst e;cases r;exact assignInOrder_nil ⟨σ,H,I,h⟩
def i3 (h1:PG X e t) (h2:PGs X es u) (hs:(assignEach (e::es) X.env).map (·.2)=assign e X.env::(assignEach es X.env).map (·.2):=by rfl):PGs X (e::es) (qi t u):=by
 intro pins s σ H vs us Q I r h;obtain ⟨v,vr,e1,h⟩:=h;subst e1;cases r with
 | cons r rr=>
  rw[hs];refine assignInOrder_cons (thn (h1 pins s σ H _ _ _ I r h) λ_ s1 O=>?_);obtain ⟨a0,H1,I1,q1⟩:=O;exact h2 pins s1 a0 H1 _ _ Q I1 rr q1
def qh (K:Frag)(n:Nat)(t:TGs):TG:=λv σ H Q=>∃a xs,v=.ref a/\SqT K H a xs/\xs.length=n/\t xs σ H Q
def DZ {X:Cx}{pos:Pos}{es:List Expr}{k:Nat}{t:TGs}{n:Nat}(hc:X.calm=true) (h:PGs X es t) (hn:(assignEach es X.env).length=n:=by rfl) (O:(assignEach es X.env).findIdx? (·.1)=none:=by rfl):PG X (.Tuple es k pos) (qh X.K n t):=by
 intro pins s σ H v u Q I r hw;obtain ⟨a,xs,e1,hq,hl,hw⟩:=hw;subst e1;cases r;obtain ⟨its,rv,ht,hz⟩:=I.tuple hq;refine assign_Tuple_tuple (I.ok.hd hc) ht (by simp [hn,<- hl,rv.length]) O λh' hx=>?_;have I1:Inv X pins σ H { s with heap:=h' }:=I.kept (t':=s.toks) λb o e=>hx b o (qC8 (qB4 e)) e;exact h pins _ σ H xs _ Q I1 (by simpa using rv) hw
def gSub (O ti:TE)(t:TSet):TG:=λv σ H Q=>O σ H λo H1=>ti σ H1 λi H2=>t o i v H2 λI=>Q σ I
def kN {X:Cx}{pos:Pos}{o i:Expr}{to ti:TE}{t:TSet}(ho:PE X o to) (hi:PE X i ti) (hs:Hw X t) (ha:∀v,assign (.Subscript o i pos) X.env v=(do
   let O <- holding [v] (eval o X.env)
   let iv <- holding [v,O] (eval i X.env)
   standAt pos
   holding [v,O,iv] (setItem O iv v)
   release [v,O,iv] []):=by intro _;rfl):PG X (.Subscript o i pos) (gSub to ti t):=by
 intro pins s σ H v u Q I r h;rw[ha];refine qA1 (qP2 (thn (ho pins s σ H _ I h) λO s1 a4=>?_));obtain ⟨x,H1,I1,r1,q1⟩:=a4;refine qA1 (qP2 (thn (hi pins s1 σ H1 _ I1 q1) λiv s2 a3=>?_));obtain ⟨y,H2,I2,r2,q2⟩:=a3;refine qA1 (qQ4 (qA1 (qP2 (thn (hs pins s2 σ H2 x y v O iv u _ I2 r1 r2 r q2) λ_ s3 a0=>?_))));obtain ⟨H3,I3,q3⟩:=a0;exact wpAny_release ⟨σ,H3,I3,q3⟩
def af (I:TE)(g:TG):TS:=λD σ H=>I σ H λx H1=>g x σ H1 D.nx
def sy {X:Cx}{pos:Pos}{tg e:Expr}{te:TE}{g:TG}(he:PE X e te) (hg:PG X tg g) (hs:swapsWithSole [tg] e pos.line X.env=pure false:=by rfl) (hw:swappedStores [tg] e X.env=pure none:=by rfl) (h1:(assignEach [tg] X.env).map (·.2) = [assign tg X.env]:=by rfl):PS X (.Assign [tg] e pos) (af te g):=by
 intro pins s σ H D I h;refine wpAny_Assign_stores (thn (he pins s σ H _ I h) λv s1 O=>?_) hs hw;obtain ⟨x,H1,I1,r1,q1⟩:=O;rw[h1];exact thn (hg pins s1 σ H1 x v _ I1 r1 q1) λ_ s2 q=>q
def fN {X:Cx}{pos:Pos}{i:Nat}{x:Str}{e:Expr}{te:TE}{pos':Pos}(hN:X.N.Nodup) (hi:X.N[i]?=some x) (hx:Loc X.env.scope x) (he:PE X e te) (hs:swapsWith e (some (.Name x pos')) pos.line X.env=pure false:=by rfl) (hf:X.fn x=true\/X.env.scope.names.lookup x=some .local:=by first|exact .inl rfl|exact .inr rfl|assumption):
  PS X (.Assign [.Name x pos'] e pos) (af te (K5 i)):=by
 intro pins s σ H D I h;refine wpAny_Assign_Name (thn (he pins s σ H _ I h) λv s1 O=>?_) hs;obtain ⟨y,H1,I1,r1,q1⟩:=O;exact eP I1 hN hi hx r1 (λs2 I2=>⟨_,H1,I2,q1⟩) hf
def Co (i:Nat)(I:TE)(ti:TIp):TS:=λD σ H=>∃x,σ[i]?=some (some x)/\I σ H λy H1=>ti x y H1 λz H2=>D.nx (σ.set i (some z)) H2
def DT (hN:X.N.Nodup) (hi:X.N[i]?=some x) (hx:Loc X.env.scope x) (he:PE X e te) (ho:PIp X op ti) (hf:X.fn x=true\/X.env.scope.names.lookup x=some .local:=by first|exact .inl rfl|exact .inr rfl|assumption):
  PS X (.AugAssign (.Name x pos') op e pos) (Co i te ti):=by
 intro pins s σ H D I h;obtain ⟨v,e1,h⟩:=h;obtain ⟨m,hn,hl⟩:=I.loc;have a5:Vis X.env.scope x:=by rcases hx with k|k;exact .inl k;exact .inr (.inl k)
 obtain ⟨u,r,l⟩:=hl i x v hi e1 a5;refine wpAny_AugAssign_Name ?_;have go:wpAny (model X.prog X.w) X.A (eval e X.env) (λw a0=>wpAny (model X.prog X.w) X.A (inplaceOp op u w) (λr O=>wpAny (model X.prog X.w) X.A (storeName X.env x r) (λ_=>SP X pins D .next) X.xe O) X.xe a0) X.xe s:=by
  refine thn (he pins s σ H _ I h) λw s1 a3=>?_;obtain ⟨y,H1,I1,r1,q1⟩:=a3;refine thn (ho pins s1 σ H1 v y u w _ I1 r r1 q1) λz s2 a4=>?_;obtain ⟨zv,H2,I2,r2,q2⟩:=a4;exact eP I2 hN hi hx r2 (λs3 I3=>⟨_,H2,I3,q2⟩) hf
 rcases l with ⟨hk,hm⟩|⟨hk,c,hc,hcell⟩
 ·exact qU0 I.ok.kind hk hn hm go
 ·rcases hk with hk|hk
  ·exact wpAny_loadName_cell I.ok.kind hk hc hcell go
  ·rcases hx with k|k
   ·have:X.env.scope.names.lookup x=some .free:=hk
    rw[k]at this;cases this
   ·have:X.env.scope.names.lookup x=some .free:=hk
    rw[k]at this;cases this
def ipI (f:Int->Int->Int):TIp:=λx y H Q=>∃i j,x=.int i/\y=.int j/\Q (.int (f i j)) H
def tU:PIp X .Add (ipI λi j=>i+j):=by
 intro pins s σ H x y v u Q I r1 O h;obtain ⟨i,j,e1,e2,q⟩:=h;subst e1;subst e2;obtain ⟨t,rfl⟩:=r1;obtain ⟨t',rfl⟩:=O;exact iadd_int ⟨.int _,H,I.tok _,⟨_,rfl⟩,q⟩
def rs (c:TT) (tb:TS):TS:=λD σ H=>∃W:Nat->St->Hp->Prop,(∃m,W m σ H)/\∀m σ H,W m σ H ->
 c σ H λb H1=>if b=true then ∃N:St->Hp->Prop,(∀I H',N I H'->∃O,O<m/\W O I H')/\tb { D with nx:=N,ct:=N,bk:=D.nx } σ H1 else D.nx σ H1
def wk (hp:PassesOwn (model X.prog X.w) X.A X.env X.xe) (hc:PT X c tc) (hb:PSs X body tb):PS X (.While c body [] pos) (rs tc tb):=by
 intro pins s σ H D I h;obtain ⟨W,⟨m0,w0⟩,turn⟩:=h;refine wpAny_While (codeAny_whileLoop (λn s'=>∃a4 H',Inv X pins a4 H' s'/\W n a4 H') ?_ m0 ⟨σ,H,I,w0⟩);rintro n s1 ⟨a0,H1,I1,w1⟩;refine qQ3 hp (thn (hc pins s1 a0 H1 _ I1 (turn n a0 H1 w1)) λb s2 a3=>?_);obtain ⟨H2,I2,q2⟩:=a3;cases b with
 | true=>
  obtain ⟨N,hN,q2⟩:=q2;rw[qA2 rfl];refine qQ3 hp (thn (hb pins s2 a0 H2 _ I2 q2) λf s3 q3=>?_);cases f with
  | next=>
   obtain ⟨O,H3,I3,n3⟩:=q3;obtain ⟨m',hm,w3⟩:=hN O H3 n3;exact ⟨m',hm,O,H3,I3,w3⟩
  | cont=>
   obtain ⟨O,H3,I3,n3⟩:=q3;obtain ⟨m',hm,w3⟩:=hN O H3 n3;exact ⟨m',hm,O,H3,I3,w3⟩
  |brk=>exact q3
  |ret v=>exact q3
 | false=>
  rw[qA4 qA9];exact qU1 ⟨a0,H2,I2,q2⟩
structure It where
 go:Nat->Hp->Prop
 yld:Nat->Hp->V->Hp->Prop
 stop:Nat->Hp->Prop
def A7 (X:Cx) (pins:List (Addr×Obj)) (H:Hp) (b:Addr):Prop:=
 H b=none/\b≠X.env.locals/\b∉X.fs/\(b∈X.ex\/X.s₀.heap.objs.size<=b)/\(∀x c,X.env.cells.lookup x=some c->c≠b)/\∀p∈X.pn++pins,p.1≠b
def Inv.fpOk {σ:St}{b:Addr}(I:Inv X pins σ H s) (O:s.heap.objs.size<=b) (hn:H' b=none):A7 X pins H' b:=by
 refine ⟨hn,qJ3 (qB6 I.lt O),I.nofs O,.inr (qD7 I.sz O),λx c e z=>?_,λp hp z=>?_⟩
 ·obtain ⟨v,q⟩:=I.cell x c e;exact absurd (qB6 q.lt (by rw[z];exact O)) (qE2 _)
 ·exact absurd (qB6 (qB4 (I.pin p hp).1) (by rw[z];exact O)) (qE2 _)
structure Turn (P:Program) (w:World) (K:Frag) (tg:Expr) (J:It) (fp:List Addr) (it:Addr) (tn:Nat->Heap->Prop):Prop where
 mem:it∈fp
 obj:∀i h,tn i h->∀b∈fp,∃o,h.get? b=some o/\∀v,o.data≠.cell v
 keep:∀i h h',tn i h->(∀b∈fp,∀o,h.get? b=some o->h'.get? b=some o)->tn i h'
 item:∀(X:Cx),X.prog=P->X.w=w->X.K=K->X.calm=true->∀(i:Nat) (pins:List (Addr×Obj)) (s:Shared) (σ:St) (H:Hp) (E:Value->Shared->Prop),Inv X pins σ H s->(∀b∈fp,A7 X pins H b)->tn i s.heap->J.go i H ->
  wpAny (model P w) X.A (pyNext (.ref it)) (λr s1=>∃u,r=some u /\
   wpAny (model P w) X.A (letOwnedTupleGo tg (.ref it) u) (λ_ s2=>∃x H',Inv X pins σ H' s2/\RelV x u/\J.yld i H x H'/\tn (i+1) s2.heap/\∀b∈fp,H' b=none) E s1) E s
 done:∀(X:Cx),X.prog=P->X.w=w->X.K=K->X.calm=true->∀(i:Nat) (pins:List (Addr×Obj)) (s:Shared) (σ:St) (H:Hp) (E:Value->Shared->Prop),Inv X pins σ H s->(∀b∈fp,A7 X pins H b)->tn i s.heap->J.stop i H ->
  wpAny (model P w) X.A (pyNext (.ref it)) (λr s1=>r=none/\Inv X pins σ H s1) E s
 self:∀(A:Around) (i:Nat) (s:Shared) (Q:Value->Shared->Prop) (E:Value->Shared->Prop),tn i s.heap->Q (.ref it) s->wpAny (model P w) A (pyIter (.ref it)) Q E s
abbrev TI:=St->Hp->(It->Hp->Prop)->Prop
def PIE (X:Cx) (pins:List (Addr×Obj)) (σ:St) (tg:Expr) (R:It->Hp->Prop) (I:Value) (s2:Shared):Prop:=
 ∃(it:Addr) (fp:List Addr) (tn:Nat->Heap->Prop) (J:It) (H':Hp),I=.ref it/\Inv X pins σ H' s2/\Turn X.prog X.w X.K tg J fp it tn/\tn 0 s2.heap/\(∀b∈fp,A7 X pins H' b)/\R J H'
def PI (X:Cx) (tg iter:Expr) (I:TI):Prop:=
 ∀ (pins:List (Addr×Obj)) (s:Shared) (σ:St) (H:Hp) (R:It->Hp->Prop),Inv X pins σ H s->I σ H R ->
  wpAny (model X.prog X.w) X.A (eval iter X.env) (λv s1=>wpAny (model X.prog X.w) X.A (pyIter v) (PIE X pins σ tg R) X.xe s1) X.xe s
def qg (O:s.heap.get? it=some o) (hc:o.cls=.type n) (hd:o.data=.fields vs) (hn:["enumerate","zip","dict_itemiterator","dict_reverseitemiterator","odict_iterator","itertools.zip_longest","itertools.pairwise"].contains n=false) (I:Q () s):wpAny M A (letOwnedTupleGo tg (.ref it) u) Q E s:=by
  unfold letOwnedTupleGo;cases tg <;> first
    |exact qO6 I
    | (cases u <;> first
        |exact qO6 I
        | (refine qA1 (wpAny_load O ?_)
           rw[hc,hd]
           show wpAny M A (if (["enumerate","zip","dict_itemiterator","dict_reverseitemiterator","odict_iterator","itertools.zip_longest","itertools.pairwise"].contains n&&vs[0]? == some (rawInt _))=true then _ else _) Q E s;rw[qA4 (by intro h;rw[hn,qM0]at h;cases h)];exact qO6 I))
def Itl (K:Frag) (a:Addr):It:=
 ⟨λi H=>∃xs x,SqL K H a xs/\xs[i]?=some x,λi H x H'=>H'=H/\∀xs,SqL K H a xs->xs[i]?=some x,λi H=>∃xs,SqL K H a xs/\xs.length<=i⟩
def Itt (K:Frag) (a:Addr):It:=
 ⟨λi H=>∃xs x,SqT K H a xs/\xs[i]?=some x,λi H x H'=>H'=H/\∀xs,SqT K H a xs->xs[i]?=some x,λi H=>∃xs,SqT K H a xs/\xs.length<=i⟩
def Itr (lo:Int)(n:Nat):It:=⟨λi _=>i<n,λi H x H'=>H'=H/\x=.int (lo+i),λi _=>n<=i⟩
def rm {K:Frag}(a it:Addr):Turn P w K tg (Itl K a) [it] it (λi h=>h.IsListIter it a i) where
 mem:=Qy
 obj:=λi h st b O=>by
  have e:b=it:=by simpa using O
  subst e;obtain ⟨o,e,c,d⟩:=st;exact ⟨o,e,λv z=>by rw[d]at z;cases z⟩
 keep:=λi h h' st k=>st.at λo e=>k it Qy o e
 item:=by
  intro X hP hw hK hc i pins s σ H E I hf st hg;subst hP hw hK;obtain ⟨xs,x,hq,hx⟩:=hg;obtain ⟨its,rv,p,hz⟩:=I.list hq;obtain ⟨u,hu,ru⟩:=rv.get hx;obtain ⟨f0,f1,f2,f3,f4,f5⟩:=hf it Qy;refine wpAny_pyNext_list_item st p.isList (x:=u) (by simpa using hu) λh' a0 sb=>?_;have I1:Inv X pins σ H { s with heap:=h' }:=I.turned (t':=s.toks) (λb o O e=>(sb.2 b O).trans e) f0 f1 f3 f4 f5;obtain ⟨o,e,c,d⟩:=id a0;exact ⟨u,rfl,qg (s:={ s with heap:=h' }) e c d Qz ⟨x,H,I1,ru,⟨rfl,λys hy=>by rw[I.list_inj hy hq];exact hx⟩,a0,λb O=>(hf b O).1⟩⟩
 done:=by
  intro X hP hw hK hc i pins s σ H E I hf st hg;subst hP hw hK;obtain ⟨xs,hq,hx⟩:=hg;obtain ⟨its,rv,p,hz⟩:=I.list hq;obtain ⟨f0,f1,f2,f3,f4,f5⟩:=hf it Qy;have hl:=rv.length;exact wpAny_pyNext_list_end (I.ok.hd hc) st p.isList (by simp;omega) λh' eb=>⟨rfl,I.turned (t':=s.toks) (λb o O e=>eb b o O e) f0 f1 f3 f4 f5⟩
 self:=λ_ _ _ _ _ st h=>wpAny_pyIter_listiter st h
def pe {K:Frag}(a it:Addr):Turn P w K tg (Itt K a) [it] it (λi h=>h.IsTupleIter it a i) where
 mem:=Qy
 obj:=λi h st b O=>by
  have e:b=it:=by simpa using O
  subst e;obtain ⟨o,e,c,d⟩:=st;exact ⟨o,e,λv z=>by rw[d]at z;cases z⟩
 keep:=λi h h' st k=>st.at λo e=>k it Qy o e
 item:=by
  intro X hP hw hK hc i pins s σ H E I hf st hg;subst hP hw hK;obtain ⟨xs,x,hq,hx⟩:=hg;obtain ⟨its,rv,p,hz⟩:=I.tuple hq;obtain ⟨u,hu,ru⟩:=rv.get hx;obtain ⟨f0,f1,f2,f3,f4,f5⟩:=hf it Qy;refine wpAny_pyNext_tuple_item st (show s.heap.IsTuple a its.toArray from p) (x:=u) (by simpa using hu) λh' a0 sb=>?_;have I1:Inv X pins σ H { s with heap:=h' }:=I.turned (t':=s.toks) (λb o O e=>(sb.2 b O).trans e) f0 f1 f3 f4 f5;obtain ⟨o,e,c,d⟩:=id a0;exact ⟨u,rfl,qg (s:={ s with heap:=h' }) e c d Qz ⟨x,H,I1,ru,⟨rfl,λys hy=>by rw[I.tuple_inj hy hq];exact hx⟩,a0,λb O=>(hf b O).1⟩⟩
 done:=by
  intro X hP hw hK hc i pins s σ H E I hf st hg;subst hP hw hK;obtain ⟨xs,hq,hx⟩:=hg;obtain ⟨its,rv,p,hz⟩:=I.tuple hq;obtain ⟨f0,f1,f2,f3,f4,f5⟩:=hf it Qy;have hl:=rv.length;exact wpAny_pyNext_tuple_end (I.ok.hd hc) st (show s.heap.IsTuple a its.toArray from p) (by simp;omega) λh' eb=>⟨rfl,I.turned (t':=s.toks) (λb o O e=>eb b o O e) f0 f1 f3 f4 f5⟩
 self:=λ_ _ _ _ _ st h=>wpAny_pyIter_tupleiter st h
def pf {K:Frag}(it:Addr) (lo:Int) (n:Nat):Turn P w K tg (Itr lo n) [it] it (λi h=>IsRangeIter h it (lo+(i:Nat)*1) ((n:Int)-(i:Nat)) 1) where
 mem:=Qy
 obj:=λi h st b O=>by
  have e:b=it:=by simpa using O
  subst e;exact ⟨_,st,λv z=>by
   have z':Data.fields _=Data.cell v:=z;cases z'⟩
 keep:=λi h h' st k=>k it Qy _ st
 item:=by
  intro X hP hw hK hc i pins s σ H E I hf st hg;subst hP hw hK;obtain ⟨f0,f1,f2,f3,f4,f5⟩:=hf it Qy;have W:=Walks.range (prog:=X.prog) (w:=X.w) (I.ok.hd hc) it lo 1 n;refine W.item i s _ _ hg st λv h' tk hv a0 kk=>?_;obtain ⟨t,rfl⟩:=hv;have I1:Inv X pins σ H { s with heap:=h',toks:=tk }:=I.turned (λb o O e=>kk b o (by simpa using O) e) f0 f1 f3 f4 f5;refine ⟨_,rfl,qg (s:={ s with heap:=h',toks:=tk }) (n := "range_iterator") a0 rfl rfl Qz ⟨.int (lo+i),H,I1,⟨t,?_⟩,⟨rfl,rfl⟩,a0,λb O=>(hf b O).1⟩⟩;rw[Int.mul_one]
 done:=by
  intro X hP hw hK hc i pins s σ H E I hf st hg;subst hP hw hK;obtain ⟨f0,f1,f2,f3,f4,f5⟩:=hf it Qy;exact wpAny_pyNext_range_end (I.ok.hd hc) st (by have:n<=i:=hg;omega) λh' eb=>⟨rfl,I.turned (t':=s.toks) (λb o O e=>eb b o O e) f0 f1 f3 f4 f5⟩
 self:=λ_ _ _ _ _ st h=>wpAny_pyIter_rangeiter st h
def vV {σ:St}{lo:Int}(I:Inv X pins σ H s) (h1:-(2^62)<=lo) (h2:lo<2^62) (h3:-(2^62)<=hi) (h4:hi<2^62) (q:R (Itr lo (hi-lo).toNat) H):wpAny (model X.prog X.w) X.A (pyIter (.ref s.heap.objs.size)) (PIE X pins σ tg R) E { s with heap:=s.heap.push { cls:=.type "range",data:=.fields #[.int lo t,.int hi u,.int 1 v] },toks:=tk }:=by
 refine wpAny_pyIter_range (IsRange.new ..) (small_one h1 h2 h3 h4) ?_;have O:Inv X pins σ H { s with heap:=s.heap.push { cls:=.type "range",data:=.fields #[.int lo t,.int hi u,.int 1 v] },toks:=tk }:=I.kept λb o e=>qA5 _ e;refine ⟨(s.heap.push { cls:=.type "range",data:=.fields #[.int lo t,.int hi u,.int 1 v] }).objs.size,[(s.heap.push { cls:=.type "range",data:=.fields #[.int lo t,.int hi u,.int 1 v] }).objs.size],_,_,H,rfl,
  O.kept (t':=tk) λb o e=>qA5 _ e,pf _ lo (hi-lo).toNat,?_,λb hb=>?_,q⟩
 ·have e1:lo+((0:Nat):Int)*1=lo:=Qy;have e2:(((hi-lo).toNat:Nat):Int)-((0:Nat):Int)=Builtin.Range.rangeSize lo hi 1:=by rw[rangeSize_one];split <;> omega
  show IsRangeIter _ _ (lo+((0:Nat):Int)*1) ((((hi-lo).toNat:Nat):Int)-((0:Nat):Int)) 1;rw[e1,e2];exact qC2 _ rfl
 ·have e:b=(s.heap.push { cls:=.type "range",data:=.fields #[.int lo t,.int hi u,.int 1 v] }).objs.size:=by simpa using hb
  subst e;exact O.fpOk (qB5 _) (O.hok.fresh (qB5 _))
def yx (ta:TA):TI:=λσ H R=>ta σ H λvs H1=>∃j:Int,vs = [.int j] /\ -(2^62)<=j/\j<2^62/\R (Itr 0 j.toNat) H1
def sI (hg:Gl X "range") (hm:X.mg "range" = none) (ha:PA X [a] ta) (hs:starEach [a] X.env = [(false,eval a X.env)]:=by rfl):PI X tg (.Call (.Name "range" p) [a] [] pos) (yx ta):=by
 intro pins s σ H R I h;refine Call_ (L9 I hg hm boot_range (qH8 (thn (ha pos pins s σ H _ I h) λus s1 O=>?_) hs rfl));obtain ⟨vs,H1,I1,r1,q1⟩:=O;obtain ⟨j,e,q1,q2,q⟩:=q1;subst e;cases r1 with
 | cons r rr=>
  cases rr;obtain ⟨t,rfl⟩:=r;exact call_range_1 (vV I1 ox ox q1 q2 (by simpa using q))
def Ck (wi:TI) (g:TG) (tb:TS):TS:=λD σ H=>wi σ H λJ H1=>∃W:Nat->Nat->St->Hp->Prop,(∃m,W 0 m σ H1)/\∀i m σ H,W i m σ H ->
 (J.stop i H/\D.nx σ H)\/(J.go i H/\∃N:St->Hp->Prop,(∀I H',N I H'->∃m',m'<m/\W (i+1) m' I H')/\∀x H',J.yld i H x H'->g x σ H' λO H2=>tb { D with nx:=N,ct:=N,bk:=D.nx } O H2)
def aF (fp:List Addr)(h:Heap):List (Addr×Obj):=fp.filterMap λb=>(h.get? b).map λo=>(b,o)
def K4 (I:b∈fp)(e:h.get? b=some o):(b,o)∈aF fp h:=List.mem_filterMap.mpr ⟨b,I,by rw[e];rfl⟩
def sW (hp:p∈aF fp h):p.1∈fp/\h.get? p.1=some p.2:=by
 obtain ⟨b,O,e⟩:=List.mem_filterMap.mp hp;cases q:h.get? b with
 |none=>rw[q]at e;cases e
 | some o=>
  rw[q]at e;have I:(b,o)=p:=Option.some.inj e;subst I;exact ⟨O,q⟩
def Inv.pinned {σ:St}(I:Inv X pins σ H s) (hf:∀b∈fp,A7 X pins H b) (ho:∀b∈fp,∃o,s.heap.get? b=some o/\∀v,o.data≠.cell v):Inv X (pins++aF fp s.heap) σ H s:=
 I.pins_of λp hp=>(qE0.mp hp).elim (λz=>I.pin p (qC7 _ z)) λz=>by
  obtain ⟨hb,e⟩:=sW z;obtain ⟨f0,f1,f2,_⟩:=hf p.1 hb;obtain ⟨o,O,d⟩:=ho p.1 hb;rw[e]at O;cases O;exact ⟨e,f0,f1,f2,d⟩
def Inv.unpinned {σ:St}(I:Inv X (pins++pl) σ H s):Inv X pins σ H s:=I.pins_of λp O=>I.pin p (qC7 _ (qE6 _ O))
def DS (hp:PassesOwn (model X.prog X.w) X.A X.env X.xe) (hc:X.calm=true) (hi:PI X tg iter wi) (hg:PG X tg g) (hb:PSs X body tb) (hs:∀x,foldedSetIterable iter X.env x=pure x:=by intro _;rfl):PS X (.For tg iter body [] pos) (Ck wi g tb):=by
 intro pins s σ H D I h;refine wpAny_For (thn (hi pins s σ H _ I h) λv s1 h1=>thn h1 λb4 s2 h2=>?_) hs;obtain ⟨it,fp,tn,J,H2,e,I2,T,a9,f2,W,⟨m0,w0⟩,turn⟩:=h2;subst e
 -- what stays true of the iterator's objects through the loop
 have stat:∀{H':Hp},(∀b∈fp,H' b=none)->∀b∈fp,A7 X pins H' b:=λhn b hb=>⟨hn b hb,(f2 b hb).2⟩;refine codeAny_forLoop_any (λn s'=>∃i a3 H',Inv X pins a3 H' s'/\tn i s'.heap/\(∀b∈fp,H' b=none)/\W i n a3 H') ?_ m0 ⟨0,σ,H2,I2,a9,λb hb=>(f2 b hb).1,w0⟩;rintro n s3 ⟨i,a0,H3,I3,a7,a8,w3⟩;rcases turn i n a0 H3 w3 with ⟨stop,qn⟩|⟨go,N,hN,step⟩
 ·refine qQ3 hp (thn (T.done X rfl rfl rfl hc i pins s3 a0 H3 X.xe I3 (stat a8) a7 stop) λr s4 ⟨hr,I4⟩=>?_);subst hr;exact qU1 ⟨a0,H3,I4,qn⟩
 ·refine qQ3 hp (thn (T.item X rfl rfl rfl hc i pins s3 a0 H3 X.xe I3 (stat a8) a7 go) λr s4 ⟨u,hr,h4⟩=>?_);subst hr;refine qQ3 hp (thn h4 λ_ s5 a6=>?_);obtain ⟨x,H5,I5,r5,y5,a4,ab⟩:=a6;have b3:=I5.pinned (stat ab) (T.obj _ _ a4);refine qQ3 hp (thn (hg _ s5 a0 H5 x u _ b3 r5 (step x H5 y5)) λ_ s6 a5=>?_);obtain ⟨b0,H6,I6,q6⟩:=a5;refine qQ3 hp (thn (hb _ s6 b0 H6 _ I6 q6) λf s7 q7=>?_);have again:∀{O:St}{H7:Hp},Inv X (pins++aF fp s5.heap) O H7 s7->N O H7->∃m,m<n/\∃i a3 H',Inv X pins a3 H' s7/\tn i s7.heap/\(∀b∈fp,H' b=none)/\W i m a3 H':=λ{O H7} I7 n7=>by
   obtain ⟨m',hm,w7⟩:=hN O H7 n7;refine ⟨m',hm,i+1,O,H7,I7.unpinned,T.keep _ _ _ a4 λb hb o e=>(I7.pin (b,o) (qC7 _ (qC7 _ (K4 hb e)))).1,λb hb=>?_,w7⟩;obtain ⟨o,e,d⟩:=T.obj _ _ a4 b hb;exact (I7.pin (b,o) (qC7 _ (qC7 _ (K4 hb e)))).2.1
  cases f with
  |next=>obtain ⟨O,H7,I7,n7⟩:=q7;exact again I7 n7
  |cont=>obtain ⟨O,H7,I7,n7⟩:=q7;exact again I7 n7
  |brk=>obtain ⟨O,H7,I7,q7⟩:=q7;exact ⟨O,H7,I7.unpinned,q7⟩
  |ret v=>obtain ⟨x7,O,H7,I7,r7,q7⟩:=q7;exact ⟨x7,O,H7,I7.unpinned,r7,q7⟩
abbrev R2:=V->V->Hp->VK->Prop
def OpR (X:Cx) (f:Value->Value->Sem Value) (r:R2):Prop:=
 ∀ (pins:List (Addr×Obj)) (s:Shared) (σ:St) (H:Hp) (x y:V) (v u:Value) (Q:VK),Inv X pins σ H s->RelV x v->RelV y u->r x y H Q ->
  wpAny (model X.prog X.w) X.A (f v u) (EP X pins σ Q) X.xe s
def UnR (X:Cx) (f:Value->Sem Value) (r:V->Hp->VK->Prop):Prop:=
 ∀ (pins:List (Addr×Obj)) (s:Shared) (σ:St) (H:Hp) (x:V) (v:Value) (Q:VK),Inv X pins σ H s->RelV x v->r x H Q ->
  wpAny (model X.prog X.w) X.A (f v) (EP X pins σ Q) X.xe s
def K8 (X:Cx) (f:Value) (r:List V->Hp->VK->Prop):Prop:=
 ∀ (pins:List (Addr×Obj)) (s:Shared) (σ:St) (H:Hp) (xs:List V) (us:List Value) (Q:VK),Inv X pins σ H s->Vals xs us->r xs H Q ->
  wpAny (model X.prog X.w) X.A (call f us) (EP X pins σ Q) X.xe s
def tOp (r:R2)(ta I:TE):TE:=λσ H Q=>ta σ H λx H1=>I σ H1 λy H2=>r x y H2 Q
def tUn (r:V->Hp->VK->Prop)(ta:TE):TE:=λσ H Q=>ta σ H λx H1=>r x H1 Q
def rI (C:Int->Int->Prop)(g:Int->Int->V):R2:=λx y H Q=>∃i j,x=.int i/\y=.int j/\C i j/\Q (g i j) H
def rI0 (g:Int->Int->V):R2:=λx y H Q=>∃i j,x=.int i/\y=.int j/\Q (g i j) H
def rU (g:Int->V):V->Hp->VK->Prop:=λx H Q=>∃i,x=.int i/\Q (g i) H
def xP (ha:PE X a ta) (hb:PE X b tb){σ:St}{R:V->V->Hp->Prop}(I:Inv X pins σ H s) (h:ta σ H λx H1=>tb σ H1 λy H2=>R x y H2){f:Value->Value->Sem Value}(hf:∀v u s2 x y H2,Inv X pins σ H2 s2->RelV x v->RelV y u->R x y H2->wpAny (model X.prog X.w) X.A (f v u) Q X.xe s2):
  wpAny (model X.prog X.w) X.A (eval a X.env) (λv a4=>wpAny (model X.prog X.w) X.A (eval b X.env) (λu O=>wpAny (model X.prog X.w) X.A (f v u) Q X.xe O) X.xe a4) X.xe s:=by
 refine thn (ha pins s σ H _ I h) λv s1 a3=>?_;obtain ⟨x,H1,I1,r1,q1⟩:=a3;refine thn (hb pins s1 σ H1 _ I1 q1) λu s2 a0=>?_;obtain ⟨y,H2,I2,r2,q2⟩:=a0;exact hf v u s2 x y H2 I2 r1 r2 q2
def HS (ho:OpR X (binaryOp op) r) (ha:PE X a ta) (hb:PE X b tb):PE X (.BinOp a op b pos) (tOp r ta tb):=by
 intro pins s σ H Q I h;exact wpAny_BinOp (xP ha hb I h λv u s2 x y H2 I2 O ry q=>ho pins s2 σ H2 x y v u Q I2 O ry q)
def HR (ho:UnR X (unaryOp op) r) (ha:PE X a ta):PE X (.UnaryOp op a pos) (tUn r ta):=by
 intro pins s σ H Q I h;exact UnaryOp_ (thn (ha pins s σ H _ I h) λv s1 O=>by obtain ⟨x,H1,I1,r1,q1⟩:=O;exact ho pins s1 σ H1 x v Q I1 r1 q1)
def opI {g:Int->Int->Int}(rule:∀(i j:Int) (t u:Tok) (s:Shared) (Q:Value->Shared->Prop) (E:Value->Shared->Prop),C i j->Q (.int (g i j) s.toks) { s with toks:=s.toks+1 }->wpAny (model X.prog X.w) X.A (f (.int i t) (.int j u)) Q E s):
  OpR X f (rI C λi j=>.int (g i j)):=by
 intro pins s σ H x y v u Q I O ry h;obtain ⟨i,j,rfl,rfl,hc,q⟩:=h;obtain ⟨t,rfl⟩:=O;obtain ⟨t',rfl⟩:=ry;exact rule i j t t' s _ _ hc ⟨.int (g i j),H,I.tok _,⟨_,rfl⟩,q⟩
def Ek {g:Int->Int->Int}(rule:∀(i j:Int) (t u:Tok) (s:Shared) (Q:Value->Shared->Prop) (E:Value->Shared->Prop),Q (.int (g i j) s.toks) { s with toks:=s.toks+1 }->wpAny (model X.prog X.w) X.A (f (.int i t) (.int j u)) Q E s):
  OpR X f (rI0 λi j=>.int (g i j)):=by
 intro pins s σ H x y v u Q I O ry h;obtain ⟨i,j,rfl,rfl,q⟩:=h;obtain ⟨t,rfl⟩:=O;obtain ⟨t',rfl⟩:=ry;exact rule i j t t' s _ _ ⟨.int (g i j),H,I.tok _,⟨_,rfl⟩,q⟩
def wx {g:Int->Int->Bool}(rule:∀(i j:Int) (t u:Tok) (s:Shared) (Q:Value->Shared->Prop) (E:Value->Shared->Prop),Q (.bool (g i j)) s->wpAny (model X.prog X.w) X.A (f (.int i t) (.int j u)) Q E s):
  OpR X f (rI0 λi j=>.bl (g i j)):=by
 intro pins s σ H x y v u Q I O ry h;obtain ⟨i,j,rfl,rfl,q⟩:=h;obtain ⟨t,rfl⟩:=O;obtain ⟨t',rfl⟩:=ry;exact rule i j t t' s _ _ ⟨.bl (g i j),H,I,rfl,q⟩
def da (i j:Int):Prop:=0<j/\j<1073741824
def Y5 (i j:Int):Prop:=0<=j/\j<=1000000/\i.natAbs<2^64
def CMul (i j:Int):Prop:=(-(2^64)<i/\i<2^64)\/(-(2^64)<j/\j<2^64)
def CMul.ok (h:CMul i j):IntMulOk i j:=by
 rcases h with ⟨h1,h2⟩|⟨h1,h2⟩
 ·exact .of_left (intBits_le_64 h1 h2)
 ·exact .of_right (intBits_le_64 h1 h2)
def y6:OpR X (binaryOp .Add) (rI0 λi j=>.int (i+j)):=Ek λ_ _ _ _ _ _ _ q=>add_int q
def kT:OpR X (binaryOp .Sub) (rI0 λi j=>.int (i-j)):=Ek λ_ _ _ _ _ _ _ q=>sub_int q
def Ac:OpR X (binaryOp .FloorDiv) (rI da λi j=>.int (i/j)):=opI λi j _ _ _ _ _ hc q=>by
 have O:(0:Int)<j:=hc.1;have I:j<1073741824:=hc.2;exact floordiv_int ox (by rw[Int.fdiv_eq_ediv_of_nonneg i ox];exact q) (.inl (PyProof.noPylong_small ox))
def aG:OpR X (binaryOp .Mod) (rI (λ_ j=>0<j) λi j=>.int (i%j)):=opI λi j _ _ _ _ _ hc q=>by
 have I:(0:Int)<j:=hc;exact mod_int' ox (by rw[Int.fmod_eq_emod_of_nonneg i ox];exact q)
def kX:OpR X (binaryOp .Pow) (rI Y5 λi j=>.int (i^j.toNat)):=opI λ_ _ _ _ _ _ _ hc q=>pow_int_small hc.1 hc.2.1 hc.2.2 q
def unI {g:Int->Int}(rule:∀(i:Int) (t:Tok) (s:Shared) (Q:Value->Shared->Prop) (E:Value->Shared->Prop),Q (.int (g i) s.toks) { s with toks:=s.toks+1 }->wpAny (model X.prog X.w) X.A (f (.int i t)) Q E s):
  UnR X f (rU λi=>.int (g i)):=by
 intro pins s σ H x v Q I O h;obtain ⟨i,rfl,q⟩:=h;obtain ⟨t,rfl⟩:=O;exact rule i t s _ _ ⟨.int (g i),H,I.tok _,⟨_,rfl⟩,q⟩
def bQ:UnR X (unaryOp .USub) (rU λi=>.int (-i)):=unI λ_ _ _ _ _ q=>neg_int q
def kq:V->V->Bool
 | .non,.non=>true | .non,.int _=>true | .int _,.non=>true | .non,.bl _=>true | .bl _,.non=>true | .non,.str _=>true | .str _,.non=>true
 | .int _,.int _=>true | .bl _,.bl _=>true | .str _,.str _=>true | .byt _,.byt _=>true
 | .int _,.str _=>true | .str _,.int _=>true | .bl _,.str _=>true | .str _,.bl _=>true
 |_,_=>false
def rEq:R2:=λx y H Q=>kq x y=true/\Q (.bl (decide (x=y))) H
def rNe:R2:=λx y H Q=>kq x y=true/\Q (.bl (!decide (x=y))) H
def oO:decide (V.int i=V.int j)=(i == j):=by
 rw[qK3];simp
def um:decide (V.bl i=V.bl j)=(i == j):=by
 rw[qK3];simp
def oN:decide (V.str i=V.str j)=(i == j):=by
 rw[qK3];simp
def oP:decide (V.byt i=V.byt j)=(i.toList == j.toList):=by
 rw[qK3];cases i;cases j;simp
def k9 {σ:St}(I:Inv X pins σ H s) (q:Q (.bl k) H) (e:k=k'):EP X pins σ Q (.bool k') s:=by
 subst e;exact ⟨.bl k,H,I,rfl,q⟩
def F9:OpR X (compareOp .Eq) rEq:=by
 intro pins s σ H x y v u Q I rx O h;obtain ⟨hs,q⟩:=h;cases x with
 | non=>
  cases rx;cases y with
  |non=>cases O;exact PySem.EqNone.eq_none_none (k9 I q Qy)
  |bl j=>cases O;exact PySem.EqNone.eq_none_bool (k9 I q Qy)
  |int j=>obtain ⟨t',rfl⟩:=O;exact PySem.EqNone.eq_none_int (k9 I q Qy)
  |str j=>obtain ⟨t',rfl⟩:=O;exact PySem.EqNone.eq_none_str (k9 I q Qy)
  |_=>exact absurd (show false=true from hs) qA9
 | bl i=>
  cases rx;cases y with
  |non=>cases O;exact PySem.EqNone.eq_bool_none (k9 I q Qy)
  |bl j=>cases O;exact eq_bool (k9 I q um)
  |str j=>obtain ⟨t',rfl⟩:=O;exact PySem.EqMixed.eq_bool_str (k9 I q Qy)
  |_=>exact absurd (show false=true from hs) qA9
 | int i=>
  obtain ⟨t,rfl⟩:=rx;cases y with
  |non=>cases O;exact PySem.EqNone.eq_int_none (k9 I q Qy)
  |int j=>obtain ⟨t',rfl⟩:=O;exact eq_int (k9 I q oO)
  |str j=>obtain ⟨t',rfl⟩:=O;exact PySem.EqMixed.eq_int_str (k9 I q Qy)
  |_=>exact absurd (show false=true from hs) qA9
 | str i=>
  obtain ⟨t,rfl⟩:=rx;cases y with
  |non=>cases O;exact PySem.EqNone.eq_str_none (k9 I q Qy)
  |bl j=>cases O;exact PySem.EqMixed.eq_str_bool (k9 I q Qy)
  |int j=>obtain ⟨t',rfl⟩:=O;exact PySem.EqMixed.eq_str_int (k9 I q Qy)
  |str j=>obtain ⟨t',rfl⟩:=O;exact eq_str (k9 I q oN)
  |_=>exact absurd (show false=true from hs) qA9
 | byt i=>
  obtain ⟨t,rfl⟩:=rx;cases y with
  |byt j=>obtain ⟨t',rfl⟩:=O;exact PySem.W.eq_bytes (k9 I q oP)
  |_=>exact absurd (show false=true from hs) qA9
 |_=>cases y <;> exact absurd (show false=true from hs) qA9
def HX:OpR X (compareOp .NotEq) rNe:=by
 intro pins s σ H x y v u Q I rx O h;obtain ⟨hs,q⟩:=h;cases x with
 | non=>
  cases rx;cases y with
  |non=>cases O;exact PySem.EqNone.ne_none_none (k9 I q Qy)
  |bl j=>cases O;exact PySem.EqNone.ne_none_bool (k9 I q Qy)
  |int j=>obtain ⟨t',rfl⟩:=O;exact PySem.EqNone.ne_none_int (k9 I q Qy)
  |str j=>obtain ⟨t',rfl⟩:=O;exact PySem.EqNone.ne_none_str (k9 I q Qy)
  |_=>exact absurd (show false=true from hs) qA9
 | bl i=>
  cases rx;cases y with
  |non=>cases O;exact PySem.EqNone.ne_bool_none (k9 I q Qy)
  |bl j=>cases O;exact ne_bool (k9 I q (congrArg not um))
  |str j=>obtain ⟨t',rfl⟩:=O;exact PySem.EqMixed.ne_bool_str (k9 I q Qy)
  |_=>exact absurd (show false=true from hs) qA9
 | int i=>
  obtain ⟨t,rfl⟩:=rx;cases y with
  |non=>cases O;exact PySem.EqNone.ne_int_none (k9 I q Qy)
  |int j=>obtain ⟨t',rfl⟩:=O;exact ne_int (k9 I q (congrArg not oO))
  |str j=>obtain ⟨t',rfl⟩:=O;exact PySem.EqMixed.ne_int_str (k9 I q Qy)
  |_=>exact absurd (show false=true from hs) qA9
 | str i=>
  obtain ⟨t,rfl⟩:=rx;cases y with
  |non=>cases O;exact PySem.EqNone.ne_str_none (k9 I q Qy)
  |bl j=>cases O;exact PySem.EqMixed.ne_str_bool (k9 I q Qy)
  |int j=>obtain ⟨t',rfl⟩:=O;exact PySem.EqMixed.ne_str_int (k9 I q Qy)
  |str j=>obtain ⟨t',rfl⟩:=O;exact ne_str (k9 I q (congrArg not oN))
  |_=>exact absurd (show false=true from hs) qA9
 | byt i=>
  obtain ⟨t,rfl⟩:=rx;cases y with
  |byt j=>obtain ⟨t',rfl⟩:=O;exact PySem.W.ne_bytes (k9 I q (congrArg not oP))
  |_=>exact absurd (show false=true from hs) qA9
 |_=>cases y <;> exact absurd (show false=true from hs) qA9
def pO:OpR X (compareOp .Lt) (rI0 λi j=>.bl (decide (i<j))):=wx λ_ _ _ _ _ _ _ q=>lt_int q
def V4:OpR X (compareOp .Gt) (rI0 λi j=>.bl (decide (j<i))):=wx λ_ _ _ _ _ _ _ q=>gt_int q
def HZ:OpR X (compareOp .GtE) (rI0 λi j=>.bl (decide (j<=i))):=wx λ_ _ _ _ _ _ _ q=>ge_int q
def W9:OpR X (compareOp .Is) (λx y H Q=>y=.non/\Q (.bl (decide (x=.non))) H):=by
 intro pins s σ H x y v u Q I O ry h;obtain ⟨rfl,q⟩:=h;cases ry;refine is_none_gen (k9 I q ?_);cases x <;> first
  | (cases O;rfl)
  | (obtain ⟨t,rfl⟩:=O;rfl)
def dm:OpR X (compareOp .IsNot) (λx y H Q=>y=.non/\Q (.bl (!decide (x=.non))) H):=by
 intro pins s σ H x y v u Q I O ry h;obtain ⟨rfl,q⟩:=h;cases ry;refine isnot_none_gen (k9 I q ?_);cases x <;> first
  | (cases O;rfl)
  | (obtain ⟨t,rfl⟩:=O;rfl)
def lq (b:Expr) (h:op≠.In:=by decide) (I:op≠.NotIn:=by decide):behindInMarks op b=false:=by
 have e1:(op == CmpOp.In)=false:=by cases op <;> first|rfl|exact absurd rfl h
 have O:(op == CmpOp.NotIn)=false:=by cases op <;> first|rfl|exact absurd rfl I
 cases b <;> simp [behindInMarks,e1,O]
def zZ (ho:OpR X (compareOp op) r) (ha:PE X a ta) (hb:PE X b tb) (hm:behindInMarks op b=false):PE X (.Compare a [op] [b] pos) (tOp r ta tb):=by
 intro pins s σ H Q I h;exact wpAny_Compare1 (xP ha hb I h λv u s2 x y H2 I2 O ry q=>ho pins s2 σ H2 x y v u Q I2 O ry q) hm
def xW (t:TE):TT:=λσ H Q=>t σ H λx H'=>∃k,x=.bl k/\Q k H'
def zQ (O:OpR X (compareOp op) r) (ha:PE X a ta) (hb:PE X b tb) (hm:behindInMarks op b=false):PT X (.Compare a [op] [b] pos) (xW (tOp r ta tb)):=by
 intro pins s σ H Q I h;refine wpAny_isTrue_Compare1 (thn (ha pins s σ H _ I h) λv s1 ⟨x,H1,I1,r1,q1⟩=>thn (hb pins s1 σ H1 _ I1 q1) λu s2 ⟨y,H2,I2,r2,q2⟩=>
  thn (O pins s2 σ H2 x y v u _ I2 r1 r2 q2) λc s3 ⟨z,H3,I3,r3,k,e,q3⟩=>?_) hm
 subst e;cases r3;exact qQ0 ⟨H3,I3,q3⟩
def aI:(sizeLine:Nat)<2^63:=by rw[qP3];decide
def vals1 (r:Vals [x] us):∃u,us = [u]/\RelV x u:=by
 cases r with
 |cons I O=>cases O;exact ⟨_,rfl,I⟩
def vals2 (r:Vals [x,y] us):∃u I,us = [u,I]/\RelV x u/\RelV y I:=by
 cases r with
 | cons r1 O=>
  cases O with
  |cons r3 r4=>cases r4;exact ⟨_,_,rfl,r1,r3⟩
structure ObjM (h:Heap) (x dx C:Addr) (mA:Str->Option Value):Prop where
 obj:h.get? x=some (PySem.W.instObj C dx)
 ns:h.Ns1 dx mA
 ne:dx≠x
def tG {h:Heap}(n:h.Ns1 dx mA):∃od,h.get? dx=some od/\∀name,PySem.W.lookIn name od=some (mA name):=by
 obtain ⟨o,es,ep,O,hd,hk,_,hm⟩:=n;refine ⟨o,O,λname=>?_⟩;have e:=hm name;unfold nsFind findBy at e;rw[<- Array.find?_toList]at e;unfold PySem.W.lookIn;rw[hd];dsimp only
 split
 ·rename_i y q
  rw[q]at e;exact congrArg some e
 ·rename_i q
  rw[q]at e;have a:es.toList.any (·.refKey)=false:=by
   rw[qI1];intro y hy;obtain ⟨z,t,I⟩:=hk y (Array.mem_toList_iff.mp hy);simp [DictEntry.refKey,I]
  have a':¬ es.toList.any (·.refKey)=true:=by rw[a];exact qA9
  rw[qA4 a'];exact congrArg some e
def ObjM.look (I:ObjM h x dx C mA):∃od,PySem.W.InstAt h x (PySem.W.instObj C dx) C (some od)/\∀name,PySem.W.lookIn name od=some (mA name):=
 let ⟨od,ho,hl⟩:=tG I.ns
 ⟨od,⟨I.obj,rfl,rfl,ho⟩,hl⟩
def AS (hok:HOk P w H h) (e:H a=some (.ins C dx fs)):∃mA,ObjM h a dx C mA/\(∀f,RelO (fs.lookup f) (mA f))/\PySem.Within mA (fs.map (·.1))/\fs.length<=1000/\H dx=some (.own a):=by
 obtain ⟨d,z,ne,I,mA,n,r,q⟩:=(show ObjOk P w H h a (.ins C dx fs) from hok a _ e);exact ⟨mA,⟨I,n,ne⟩,r,q,z,d⟩
structure Cls (K:Frag) (C:Addr):Prop where
 pg:PySem.W.plainGet K C Str.empty=true
 hd:PySem.W.hasDictIn K C=true
 po:PySem.W.plainOver K C=true
 sa:PySem.W.findIn K (.ref C) "__setattr__" = some (some (.builtin "object.__setattr__"))
def Cls.get {K:Frag}(c:Cls K C)(f:Str):PySem.W.plainGet K C f=true:=c.pg
section
variable {X:Cx}{pins:List (Addr×Obj)}{σ:St}{H:Hp}{s:Shared}{A:Around}{E:Value->Shared->Prop}{Q:Value->Shared->Prop}{c:Value}{b:Bool}
inductive R5 (K:Frag) (H:Hp):V->Value->Prop where
 |non:R5 K H .non (.type "NoneType")
 |bl (x:Bool):R5 K H (.bl x) (.type "bool")
 |int (i:Int):R5 K H (.int i) (.type "int")
 |str (x:Str):R5 K H (.str x) (.type "str")
 |flt (x:UInt64):R5 K H (.flt x) (.type "float")
 |lst {a:Addr}{xs:List V}(e:H a=some (.lst xs)):R5 K H (.ref a) (.type "list")
 |frz {a:Addr}{o:Obj}{xs:List V}(e:H a=some (.frz o (.lst xs))):R5 K H (.ref a) (.type "list")
 |tup {a:Addr}{xs:List V}(e:H a=some (.tup xs)):R5 K H (.ref a) (.type "tuple")
 |dK {a:Addr}{kvs:List (Key×V)}(e:H a=some (.dK kvs)):R5 K H (.ref a) (.type "dict")
 |dT {a:Addr}{kvs:List (List Key×V)}(e:H a=some (.dT kvs)):R5 K H (.ref a) (.type "dict")
 | ins {a C dx:Addr}{fs:List (Str×V)}(e:H a=some (.ins C dx fs)) (cl:Cls K C) (ha:PySem.W.findIn K (.ref C) "__class__" = some (some (.builtin "object.__class__")))
   (hn:PySem.W.specialIn K (.builtin "object.__class__") "__get__" = some (some (.builtin "getset_descriptor.__get__"))) (htk:PySem.W.takesIn K (.builtin "object.__class__")=some true)
   (hm:PySem.W.mroIn K C (.type "object")=some true):R5 K H (.ref a) (.ref C)
def tR (I:Inv X pins σ H s) (rx:RelV x u) (ty:R5 X.K H x t) (e:PySem.W.kitOne X.K t c=some b) (h:∀tk,Q (.bool b) { s with toks:=tk }):
  wpAny (model X.prog X.w) A (call (.builtin "isinstance") [u,c]) Q E s:=by
 cases ty with
 |non=>cases (show u=Value.none from rx);exact qH7 PySem.W.kitx_none I.kIn True.intro e (λz=>nomatch z) h
 |bl y=>cases (show u=Value.bool y from rx);exact qH7 PySem.W.kitx_bool I.kIn True.intro e (λz=>nomatch z) h
 |int i=>obtain ⟨t,q⟩:=(show ∃t,u=Value.int i t from rx);cases q;exact qH7 PySem.W.kitx_int I.kIn True.intro e (λz=>nomatch z) h
 |str y=>obtain ⟨t,q⟩:=(show ∃t,u=Value.str y t from rx);cases q;exact qH7 PySem.W.kitx_str I.kIn True.intro e (λz=>nomatch z) h
 |flt y=>obtain ⟨t,q⟩:=(show ∃t,u=Value.float y t from rx);cases q;exact qH7 PySem.W.kitx_float I.kIn True.intro e (λz=>nomatch z) h
 | @lst a xs ea=>
  cases (show u=Value.ref a from rx);obtain ⟨_,_,n,_,h1⟩:=(show ObjOk X.prog X.w H s.heap a (.lst xs) from I.hok a _ ea);exact qH7 PySem.W.kitx_list I.kIn ⟨_,h1,rfl⟩ e (λz=>nomatch z) h
 | @frz a ob xs ea=>
  cases (show u=Value.ref a from rx);obtain ⟨_,_,_,n,_,h1⟩:=(show ObjOk X.prog X.w H s.heap a (.frz ob (.lst xs)) from I.hok a _ ea);exact qH7 PySem.W.kitx_list I.kIn ⟨_,h1,rfl⟩ e (λz=>nomatch z) h
 | @tup a xs ea=>
  cases (show u=Value.ref a from rx);obtain ⟨_,_,_,p⟩:=(show ObjOk X.prog X.w H s.heap a (.tup xs) from I.hok a _ ea);obtain ⟨o,h1,h2,_⟩:=p;exact qH7 PySem.W.kitx_tuple I.kIn ⟨o,h1,h2⟩ e (λz=>nomatch z) h
 | @dK a kvs ea=>
  cases (show u=Value.ref a from rx);obtain ⟨_,_,vs,_,p⟩:=(show ObjOk X.prog X.w H s.heap a (.dK kvs) from I.hok a _ ea);obtain ⟨o,es,ep,h1,h2,_⟩:=p;exact qH7 PySem.W.kitx_dict I.kIn ⟨o,h1,h2.1⟩ e (λz=>nomatch z) h
 | @dT a kvs ea=>
  cases (show u=Value.ref a from rx);obtain ⟨_,_,xs,_,o,es,ep,h1,h2,_⟩:=(show ObjOk X.prog X.w H s.heap a (.dT kvs) from I.hok a _ ea);exact qH7 PySem.W.kitx_dict I.kIn ⟨o,h1,h2.1⟩ e (λz=>nomatch z) h
 | @ins a C dx fs ea cl ha hn htk hm=>
  cases (show u=Value.ref a from rx);obtain ⟨mA,O,_⟩:=AS I.hok ea;obtain ⟨od,J,_⟩:=O.look;exact qH7 (PySem.W.kitx_own (cl.get _) cl.hd ha hn htk hm) I.kIn J e (λz=>nomatch z) h
end
structure Room (k:Nat) (A:Around):Prop where
 hd:A.handled=none
 dp:A.depth+3*k+5<recursionLimit
 un:A.units+16*k+200<cLine
def Room.mono (r:Room k A)(h:j<=k):Room j A:=⟨r.hd,by have:=r.dp;omega,by have:=r.un;omega⟩
def Room.deeper (r:Room (k+1) A) (env:Env):Room k (A.deeper env):=
 ⟨r.hd,by have:=r.dp;show A.depth+1+3*k+5<_;omega,by have:=r.un;show A.units+3+16*k+200<_;omega⟩
def Room.in1 (r:Room (k+1) A):Room k A.in1:=
 ⟨r.hd,by have:=r.dp;show A.depth+3*k+5<_;omega,by have:=r.un;show A.units+1+16*k+200<_;omega⟩
def Room.depth (r:Room k A):A.depth<recursionLimit:=by have:=r.dp;omega
def Room.units (r:Room k A):A.units+64<cLine:=by have:=r.un;omega
def tNil:TA:=λ_ H Q=>Q [] H
def aT (ta:TE)(I:TA):TA:=λσ H Q=>ta σ H λx H1=>I σ H1 λxs H2=>Q (x::xs) H2
def pa_nil:PA X [] tNil:=λ_ _ _ _ H Q I h=>Calls.spliced_nil ⟨[],H,I,.nil,h⟩
def dl (ha:PE X e te) (hr:PA X es t) (hs:starEach (e::es) X.env=(false,eval e X.env)::starEach es X.env:=by rfl):PA X (e::es) (aT te t):=by
 intro pos pins s σ H Q I h;rw[hs]
 show wpAny _ _ (spliced ((false,eval e X.env)::backTo pos (starEach es X.env))) _ _ s;refine Calls.spliced_cons (thn (ha pins s σ H _ I h) λu s1 O=>?_);obtain ⟨x,H1,I1,r1,q1⟩:=O;exact thn (hr pos pins s1 σ H1 _ I1 q1) λus s2 a0=>by obtain ⟨xs,H2,I2,r2,q2⟩:=a0;exact ⟨x::xs,H2,I2,.cons r1 r2,q2⟩
def vq (t:TA):TE:=λσ H Q=>t σ H λxs H1=>xs.length<=sizeLine/\∀p,H1 p=none->Q (.ref p) (upd H1 p (.tup xs))
def Cj (t:TA):TE:=λσ H Q=>t σ H λxs H1=>xs.length<=sizeLine/\∀p,H1 p=none->Q (.ref p) (upd H1 p (.lst xs))
def sJ {x1}(h:PA X es t):PE X (.Tuple es x1 pos) (vq t):=by
 intro pins s σ H Q I O;refine wpAny_Tuple_spliced (thn (h pos pins s σ H _ I O) λus s1 ⟨xs,H1,I1,r,z,q⟩=>⟨by rw[<- r.length];exact z,?_⟩);have hf:H1 s1.heap.objs.size=none:=I1.hok.fresh (qB5 _);refine ⟨.ref s1.heap.objs.size,upd H1 s1.heap.objs.size (.tup xs),I1.laid (t':=s1.toks) (λb u e=>qA5 _ e) (qB5 _) ?_,rfl,q _ hf⟩;exact ⟨z,us,r,⟨_,qC2 _ rfl,rfl,_,rfl⟩⟩
def Ec (h:PA X es t):PE X (.List es pos) (Cj t):=by
 intro pins s σ H Q I O;refine wpAny_List_spliced (thn (h pos pins s σ H _ I O) λus s1 ⟨xs,H1,I1,r,z,q⟩=>⟨by rw[<- r.length];exact z,?_⟩);have hf:H1 s1.heap.objs.size=none:=I1.hok.fresh (qB5 _);refine ⟨.ref s1.heap.objs.size,upd H1 s1.heap.objs.size (.lst xs),I1.laid (t':=s1.toks) (λb u e=>qA5 _ e) (qB5 _) ?_,rfl,q _ hf⟩;exact ⟨z,us,0,r,qC2 _ rfl⟩
abbrev Sp:=List V->Hp->VK->XK->Prop
abbrev CXT:=List Env->Hp->Shared->XK->Value->Shared->Prop
structure qR (P:Program) (w:World) (K:Frag) (mg:Str->Option Value) (base:Heap) (A:Around) (outer:List Env) (s:Shared) (H:Hp):Prop where
 frames:A.frames=some outer
 mod:Mod K mg base
 bs:∀b o,base.get? b=some o->s.heap.get? b=some o/\H b=none
 bsz:base.objs.size<=s.heap.objs.size
 funs:s.heap.FunFrames base outer
 frf:∀b∈frs outer,H b=none
 hok:HOk P w H s.heap
 bare:AllBare s.gens
 tab:∀p∈lamT,H p.1=some (.tbl p.2)
def CE (outer:List Env) (P:Program) (w:World) (H:Hp) (s:Shared) (Q:VK) (u:Value) (s':Shared):Prop:=
 ∃v H',s'.os=s.os/\AllBare s'.gens/\Un (frs outer) [] H H' s.heap s'.heap/\HOk P w H' s'.heap/\RelV v u/\Q v H'
def CR (CX:CXT) (outer:List Env) (P:Program) (w:World) (H:Hp) (s:Shared) (Q:VK) (E:XK) (r:Result) (s':Shared):Prop:=
 match r with
 | .ok (.ret u)=>CE outer P w H s Q u s'
 | .ok _=>False
 | .error e=>CX outer H s E e s'
structure FnOk (P:Program) (w:World) (K:Frag) (mg:Str->Option Value) (base:Heap) (CX:CXT) (k:Nat) (f:Addr) (fd:FuncData) (ps:List Str) (sp:Sp):Prop where
 len:∀vs H Q E,sp vs H Q E->vs.length=ps.length
 run:∀(A:Around) (outer:List Env) (s:Shared) (H:Hp) (args:Args) (us:List Value) (vs:List V) (Q:VK) (E:XK),Room k A->qR P w K mg base A outer s H->BindsTo s fd args (ps.zip us)->Vals vs us->sp vs H Q E ->
  codeAny (model P w) A (.call (.ref f) args) (CR CX outer P w H s Q E) s
def FnOk.imp {K:Frag}(F:FnOk P w K mg base CX k f fd ps sp) (h:∀vs H Q E,sp' vs H Q E->sp vs H Q E):FnOk P w K mg base CX k f fd ps sp':=
 ⟨λvs H Q E q=>F.len vs H Q E (h _ _ _ _ q),λA outer s H args us vs Q E O he hb I hs=>F.run A outer s H args us vs Q E O he hb I (h _ _ _ _ hs)⟩
def Inv.env0 {σ:St}(I:Inv X pins σ H s):qR X.prog X.w X.K X.mg X.base X.A X.stack s H:=
 ⟨I.ok.frames,I.ok.mod,I.bs,qD7 I.ok.bsz I.sz,I.stack,I.stkFree,I.hok,I.bare,I.tab⟩
def Inv.after {σ:St}(I:Inv X pins σ H s) (h:CE X.stack X.prog X.w H s Q u s'):EP X pins σ Q u s':=by
 obtain ⟨v,H',os,bare,un,hok,r,q⟩:=h;obtain ⟨hh,g,d,t,O⟩:=s';obtain rfl:O=s.os:=os;exact ⟨v,H',I.call (h':=hh) (g':=g) (d':=d) (t':=t) (ch:=[]) un hok bare (λb z=>absurd z Qy),r,q⟩
def pj (sp:Sp)(dvs:List V)(E:XK)(t:TA):TE:=λσ H Q=>t σ H λvs H1=>sp (vs++dvs) H1 Q E
def Binds (K:Frag) (fd:FuncData) (ps:List Str) (ds:List Value):Prop:=
 ∀(s:Shared) (us:List Value),K.In s.heap->(us++ds).length=ps.length->BindsTo s fd ⟨us,[]⟩ (ps.zip (us++ds))
def Binds.all {K:Frag}(h:∀us:List Value,us.length=ps.length->bindArgs fd ⟨us,[]⟩=pure (ps.zip us)):Binds K fd ps []:=λs us _ I=>by
 rw[qG3]at I ⊢;exact .of_eq (h us I)
def mU (CX:CXT)(X:Cx)(E:XK):Prop:=∀(pins:List (Addr×Obj))(σ:St)(H:Hp)(s:Shared)(e:Value)(s':Shared),Inv X pins σ H s->CX X.stack H s E e s'->X.xe e s'
section
variable {X:Cx}{CX:CXT}{k:Nat}{f C:Addr}{fd:FuncData}{ps:List Str}{sp:Sp}{dvs:List V}{ds:List Value}{E:XK}{x m:Str}{p pos apos:Pos}{e o:Expr}{es:List Expr}{ta:TE}{t:TA}
def rY {σ:St}(F:FnOk X.prog X.w X.K X.mg X.base CX k f fd ps sp) (hr:Room k X.A) (hb:Binds X.K fd ps ds) (hd:Vals dvs ds) (hx:mU CX X E) (I:Inv X pins σ H s) (r:Vals vs us) (h:sp (vs++dvs) H Q E):wpAny (model X.prog X.w) X.A (call (.ref f) us) (EP X pins σ Q) X.xe s:=by
 have r2:Vals (vs++dvs) (us++ds):=r.append hd;have hl:(us++ds).length=ps.length:=by rw[<- r2.length];exact F.len _ _ _ _ h
 refine wpAny_call (codeAny_mono (F.run X.A X.stack s H ⟨us,[]⟩ (us++ds) (vs++dvs) Q E hr I.env0 (hb s us I.kIn hl) r2 h) λr s' O=>?_);cases r with
 |error e=>exact hx pins σ H s e s' I O
 | ok fl=>
  cases fl with
  |ret u=>exact I.after O
  |next=>exact False.elim O
  |brk=>exact False.elim O
  |cont=>exact False.elim O
def nZ (F:FnOk X.prog X.w X.K X.mg X.base CX k f fd ps sp) (hr:Room k X.A) (hg:Gl X x) (hm:X.mg x=some (.ref f)) (hk:PySem.W.keepIn X.K (.ref f)=true) (hb:Binds X.K fd ps ds) (hd:Vals dvs ds) (hx:mU CX X E)
  (ha:PA X (e::es) t) (O:(x == ("__debug__" : Str))=false:=by decide) (he:starEach (e::es) X.env=(false,eval e X.env)::starEach es X.env:=by rfl) (a0:(backTo pos (starEach es X.env)).any (·.1)=false:=by rfl) :
  PE X (.Call (.Name x p) (e::es) [] pos) (pj sp dvs E t):=by
 intro pins s σ H Q I h;refine qP6 (oz I hg hm ?_ O);refine PySem.W.callWith_K (h₀:=X.base) I.ok.mod.kin hk (thn (ha pos pins s σ H _ I h) λus s1 ⟨vs,H1,I1,r,q⟩=>⟨I1.kIn,?_⟩) he a0;exact rY F hr hb hd hx I1 r q
structure Mk (K:Frag) (C f:Addr):Prop where
 makes:PySem.W.makesIn K C=true
 init:PySem.W.findIn K (.ref C) "__init__" = some (some (.ref f))
 fn:PySem.W.isFn K (.ref f)=true
 kp:PySem.W.keepIn K (.ref C)=true
end
def PK (X:Cx) (I:List Keyword) (t:TA):Prop:=
 ∀(pos:Pos) (pins:List (Addr×Obj)) (s:Shared) (σ:St) (H:Hp) (Q:List V->Hp->Prop),Inv X pins σ H s->t σ H Q->wpAny (model X.prog X.w) X.A (evalAll ((backToKw pos (keywordEach I X.env)).map (·.2))) (AP X pins σ Q) X.xe s
def DX:PK X [] tNil:=λ_ _ _ _ H Q I h=>wpAny_evalAll_nil ⟨[],H,I,.nil,h⟩
def nX (ha:PE X e te) (hr:PK X kws t):PK X (⟨nm,e,kpos⟩::kws) (aT te t):=by
 intro pos pins s σ H Q I h
 show wpAny _ _ (evalAll ((do let v <- eval e X.env;standAt pos;pure v)::(backToKw pos (keywordEach kws X.env)).map (·.2))) _ _ s;refine wpAny_evalAll_cons (qA1 (thn (ha pins s σ H _ I h) λu s1 ⟨x,H1,I1,r1,q1⟩=>qA1 (qQ4 (qO6 ?_))));exact thn (hr pos pins s1 σ H1 _ I1 q1) λus s2 O=>by obtain ⟨xs,H2,I2,r2,q2⟩:=O;exact ⟨x::xs,H2,I2,.cons r1 r2,q2⟩
structure f8 (N P:List Str) (sc:Scope):Prop where
 kind:sc.kind=.function
 co:sc.isCoroutine=false
 gen:sc.isGenerator=false
 nd:N.Nodup
 pre:N.take P.length=P
 par:∀x∈P,sc.names.lookup x=some .local\/sc.names.lookup x=some .cell
 nofree:∀y∈sc.names,y.2≠.free
def uK {kindOf:Str->Option NameKind}:∀{binds:List (Str×Value)}{m:Str->Option Value},(∀v,(x,v)∉binds)->bindL kindOf binds m x=m x:=by
 intro binds
 induction binds with
 |nil=>intro m _;rfl
 | cons p r I=>
  intro m h;unfold bindL;rw[I λw hw=>h w (qA8 _ hw)]
  split
  ·have:x≠p.1:=by rintro rfl;exact h p.2 qB2
   simp [this]
  ·rfl
def uM {kindOf:Str->Option NameKind}:∀{binds:List (Str×Value)}{m:Str->Option Value},(∀v,(x,v)∉binds)->bindC kindOf binds m x=m x:=by
 intro binds
 induction binds with
 |nil=>intro m _;rfl
 | cons p r I=>
  intro m h;unfold bindC;rw[I λw hw=>h w (qA8 _ hw)]
  split
  ·rfl
  ·have:x≠p.1:=by rintro rfl;exact h p.2 qB2
   simp [this]
def uL {kindOf:Str->Option NameKind}:∀{P:List Str}{vs:List Value}{i:Nat}{m:Str->Option Value},P.Nodup->P[i]?=some x->vs[i]?=some v->kindOf x=some .local ->
  bindL kindOf (P.zip vs) m x=some v:=by
 intro P
 induction P with
 |nil=>intro vs i m _ h _ _;cases h
 | cons p P ih=>
  intro vs i m nd O I hk;cases vs with
  |nil=>cases I
  | cons w vs=>
   show bindL kindOf ((p,w)::P.zip vs) m x=_;unfold bindL;cases i with
   | zero=>
    cases O;cases I;rw[uK λv hv=>(qU2.mp nd).1 (List.of_mem_zip hv).1,qA2 hk];simp
   |succ i=>exact ih (qU2.mp nd).2 O I hk
def uN {kindOf:Str->Option NameKind}:∀{P:List Str}{vs:List Value}{i:Nat}{m:Str->Option Value},P.Nodup->P[i]?=some x->vs[i]?=some v->kindOf x≠some .local ->
  bindC kindOf (P.zip vs) m x=some v:=by
 intro P
 induction P with
 |nil=>intro vs i m _ h _ _;cases h
 | cons p P ih=>
  intro vs i m nd O I hk;cases vs with
  |nil=>cases I
  | cons w vs=>
   show bindC kindOf ((p,w)::P.zip vs) m x=_;unfold bindC;cases i with
   | zero=>
    cases O;cases I;rw[uM λv hv=>(qU2.mp nd).1 (List.of_mem_zip hv).1,qA4 hk];simp
   |succ i=>exact ih (qU2.mp nd).2 O I hk
def start (N:List Str)(vs:List V):St:=vs.map some++List.replicate (N.length-vs.length) none
def ar (CX:CXT) (P:Program) (w:World) (K:Frag) (mg:Str->Option Value) (base:Heap) (N:List Str) (qual:Str) (scope:Scope) (f:Addr) (cd:Value) (A:Around) (outer:List Env) (s:Shared) (H:Hp) (E:XK):Cx where
 prog:=P
 w:=w
 K:=K
 mg:=mg
 base:=base
 A:=A.deeper (envOfC qual scope s.heap.objs.size f cd)
 N:=N
 s₀:=s
 H₀:=H
 env:=envOfC qual scope s.heap.objs.size f cd
 outer:=outer
 stack:=envOfC qual scope s.heap.objs.size f cd::outer
 ex:=[]
 calm:=true
 fn:=λ_=>true
 pn:=[]
 xe:=λe s'=>wpAny (model P w) (A.deeper (envOfC qual scope s.heap.objs.size f cd)) (leaving (envOfC qual scope s.heap.objs.size f cd) e) (λ_ I=>CX outer H s E e I) (λO I=>CX outer H s E O I) s'
def mE {sc:Scope}(h:sc.names.lookup x=some .cell):∃c,(cellsFrom n sc.names []).lookup x=some c:=by
 have q:=PySem.W.cellsFrom_some sc.names n [] (.inl h);exact Option.isSome_iff_exists.mp q
def tV {K:Frag}(S:f8 N ps scope) (hd:A.handled=none) (O:qR P w K mg base A outer s H) (hl:vs.length=ps.length) (r:Vals vs us) (x:InCallC s s.heap.objs.size (bindL (envOfC qual scope s.heap.objs.size f cd).kindOf (ps.zip us) λ_=>none) (cellsFrom (s.heap.objs.size+1) scope.names []) (bindC (envOfC qual scope s.heap.objs.size f cd).kindOf (ps.zip us) λ_=>none) s1):
  Inv (ar CX P w K mg base N qual scope f cd A outer s H E) [] (start N vs) H s1:=by
 have a4:ps.length<=N.length:=by have:=congrArg List.length S.pre;rw[qH9]at this;omega
 obtain ⟨h1,tk,rfl,hk⟩:=x.done;have a0:∀b:Addr,b∉(ar CX P w K mg base N qual scope f cd A outer s H E).ex:=λb z=>absurd (show b∈([]:List Addr) from z) Qy;refine ⟨⟨O.mod,S.kind,rfl,rfl,qB5 _,λy z c h1 I=>?_,λy hy=>?_,λy c _ h=>?_,λ_=>hd,Around.frames_deeper O.frames,.inr ⟨rfl,rfl⟩,λb z=>absurd z (a0 b),O.bs,O.bsz,λb _ _=>a0 b,λb z=>absurd z (a0 b),O.funs,O.frf,O.tab⟩,
  rfl,O.bare,Un.kept hk,⟨_,x.toInCall.ns,λi y v h1 I h3=>?_⟩,λy c h=>⟨_,x.cell y c h⟩,O.hok.fresh (qB5 _),λy c h=>?_,λp hp=>absurd (show p∈([]:List (Addr×Obj)) from hp) Qy,O.hok.kept hk,?_⟩
 ·exact name_of_addr x.apart (qH0 h1) (qH0 I)
 ·have hy:scope.names.lookup y=some .cell\/scope.names.lookup y=some .free:=hy;rcases hy with hy|hy
  ·exact mE hy
  ·exact absurd rfl (S.nofree _ (qH0 hy))
 ·exact qN6 (x.above y c (qH0 h))
 ·have hi:i<vs.length:=by
   unfold start at I;by_cases hi:i<vs.length
   ·exact hi
   ·rw [qG6 (by simpa using hi)]at I
    rw[qI5]at I
    split at I <;> cases I
  have ha:vs[i]?=some v:=by
   unfold start at I;rw[qD6 (by simpa using hi),qA7]at I;cases e:vs[i]? with
   |none=>rw[e]at I;cases I
   |some a=>rw[e]at I;cases I;rfl
  obtain ⟨u,hu,rv⟩:=r.get ha;have hp:ps[i]?=some y:=by
   rw[<- S.pre,qR7 ox];exact h1
  have a3:ps.Nodup:=by rw[<- S.pre];exact S.nd.sublist (List.take_sublist _ _)
  refine ⟨u,rv,?_⟩;rcases S.par y (qD3 hp) with k|k
  ·exact .inl ⟨k,uL a3 hp hu k⟩
  ·obtain ⟨c,e⟩:=mE (n:=s.heap.objs.size+1) k;refine .inr ⟨.inl k,c,e,?_⟩;have q:=x.cell y c e;rw[uN a3 hp hu (by show scope.names.lookup y≠_;rw[k];decide)]at q;exact q
 ·exact O.hok.fresh (qN6 (x.above y c (qH0 h)))
 ·unfold start
  show _=N.length;rw[qC6,qA6,qT6];omega
def yz {K:Frag}{kV:Value}(lk:K.lookup f=some ⟨oc,od,.func (PySem.W.fnOf name qual params body scope dV kV doc pm an cdv ct),osl⟩) (a6:PySem.W.codeIn K cdv qual=true) (S:f8 N ps scope) (len:∀vs H Q E,sp vs H Q E->vs.length=ps.length) (a0:∀(A:Around) (outer:List Env) (s:Shared) (H:Hp) (vs:List V) (Q:VK) (E:XK),Room k (A.deeper (envOfC qual scope s.heap.objs.size f cdv))->sp vs H Q E ->
   ∃t,PSs (ar CX P w K mg base N qual scope f cdv A outer s H E) body t/\t { nx:=λ_ H'=>Q .non H',rt:=Q } (start N vs) H):
  FnOk P w K mg base CX (k+1) f (PySem.W.fnOf name qual params body scope dV kV doc pm an cdv ct) ps sp:=by
 refine ⟨len,λA outer s H args us vs Q E hr e0 hb r a4=>?_⟩;have hl:=len _ _ _ _ a4;have KX:K.In s.heap:=e0.mod.kin.keeps λb o e=>(e0.bs b o e).1;have lim:s.heap.NoLimit:=e0.mod.nolimit.keeps λb o e=>(e0.bs b o e).1;have a3:∀y∈ps.zip us,scope.names.lookup y.1=some .local\/(scope.names.lookup y.1=some .cell/\((cellsFrom (s.heap.objs.size+1) scope.names []).lookup y.1).isSome=true):=λa5 hy=>by
  obtain ⟨n,v⟩:=a5;rcases S.par n (List.of_mem_zip hy).1 with q|q
  ·exact .inl q
  ·exact .inr ⟨q,PySem.W.cellsFrom_some _ _ _ (.inl q)⟩
 refine codeAny_call_function hr.depth (KX _ _ lk) rfl S.co S.gen rfl (PySem.W.codeRec_of KX a6) (hb _ _ _ _ ?_);refine wpAny_newFunctionEnv_cells S.kind a3 λenv he s1 x=>?_;subst he;refine ⟨lim.keeps x.toInCall.keep,codeAny_func ?_⟩;obtain ⟨t,ht,hq⟩:=a0 A outer s H vs Q E (hr.deeper _) a4;have I:Inv (ar CX P w K mg base N qual scope f cdv A outer s H E) [] (start N vs) H s1:=tV S hr.hd e0 hl r x;refine qP7 (ht [] s1 (start N vs) H _ I hq) (λfl s' hs=>?_) λe s' hs=>hs;have fin:∀{O:St}{H':Hp}{v:V}{u:Value},Inv (ar CX P w K mg base N qual scope f cdv A outer s H E) [] O H' s'->RelV v u->Q v H'->CE outer P w H s Q u s':=
  λ{O H' v u} J rv q=>⟨v,H',J.os,J.bare,J.base,J.hok,rv,q⟩
 cases fl with
 | ret u=>
  obtain ⟨v,O,H',J,rv,q⟩:=hs;exact fin J rv q
 | next=>
  obtain ⟨O,H',J,q⟩:=hs;exact fin (v:=V.non) (u:=Value.none) J rfl q
 | brk=>
  obtain ⟨_,_,_,q⟩:=hs;exact False.elim q
 | cont=>
  obtain ⟨_,_,_,q⟩:=hs;exact False.elim q
def tCB (r:List V->Hp->VK->Prop)(t:TA):TE:=λσ H Q=>t σ H λvs H1=>r vs H1 Q
def wv {X:Cx}{x:Str}{p pos:Pos}{e:Expr}{es:List Expr}{t:TA}{id:String}{r:List V->Hp->VK->Prop}(hc:K8 X (.builtin id) r) (hg:Gl X x) (hm:X.mg x=none) (hv:bootBuiltins x=some (.builtin id)) (ha:PA X (e::es) t) (hn:x ≠ "__name__" := by decide) (a0:(x == ("__debug__" : Str))=false:=by decide) (he:starEach (e::es) X.env=(false,eval e X.env)::starEach es X.env:=by rfl) (a3:(backTo pos (starEach es X.env)).any (·.1)=false:=by rfl):PE X (.Call (.Name x p) (e::es) [] pos) (tCB r t):=by
 intro pins s σ H Q I h;refine qP6 (L9 I hg hm hv ?_ hn a0);exact PyProof.Rows.callWith_builtin1 (thn (ha pos pins s σ H _ I h) λus s1 O=>by obtain ⟨vs,H1,I1,r1,q1⟩:=O;exact hc pins s1 σ H1 vs us Q I1 r1 q1) he a3
def sL {X:Cx}{x:Str}{p pos:Pos}{e:Expr}{es:List Expr}{t:TA}{T:String}{r:List V->Hp->VK->Prop}(hc:K8 X (.type T) r) (hg:Gl X x) (hm:X.mg x=none) (hv:bootBuiltins x=some (.type T)) (ha:PA X (e::es) t) (hn:x ≠ "__name__" := by decide) (a0:(x == ("__debug__" : Str))=false:=by decide) (he:starEach (e::es) X.env=(false,eval e X.env)::starEach es X.env:=by rfl) (a3:(backTo pos (starEach es X.env)).any (·.1)=false:=by rfl):PE X (.Call (.Name x p) (e::es) [] pos) (tCB r t):=by
 intro pins s σ H Q I h;refine qP6 (L9 I hg hm hv ?_ hn a0);exact qH8 (thn (ha pos pins s σ H _ I h) λus s1 O=>by obtain ⟨vs,H1,I1,r1,q1⟩:=O;exact hc pins s1 σ H1 vs us Q I1 r1 q1) he a3
end L2
namespace HT
open PySem PyProof.Rows
def lexLt:List Int->List Int->Bool
 | [],[]=>false
 | [],_::_=>true
 |_::_,[]=>false
 |x::xs,y::ys=>if x=y then lexLt xs ys else decide (x<y)
section
open PySem.SeqAt
open PySem.AutoSeq1 (wpAny_loadPart')
open PySem.MeetsSeq PySem.MeetsSeq2 PySem.MeetsSeq3
end
def cat_tup (ht:IsTup s.heap t vs.toArray) (hb:IsTup s.heap b ws.toArray) (hv:vs ≠ []) (h1:ws = []->Q (.ref t) s) (h2:ws ≠ []->Q (.ref s.heap.objs.size) { s with heap:=s.heap.push { cls:=.type "tuple",data:=.seq (vs++ws).toArray } }) (hsz:vs.length+ws.length<=sizeLine):wpAny (model prog w) A (binaryOp .Add (.ref t) (.ref b)) Q E s:=by
 obtain ⟨⟨cls,dd,data,sl⟩,ho,hc,n,hd⟩:=id ht;obtain ⟨⟨a5,O,data2,a4⟩,I,a3,n2,a0⟩:=id hb;simp only at hc hd a3 a0;subst hc hd a3 a0;have e:vs.toArray++ws.toArray=(vs++ws).toArray:=Qy;by_cases hw:ws = []
 ·exact concat_meets ⟨_,ho,rfl⟩ ⟨_,I,rfl⟩ noFill_tuple_add seq_tuple_add qT0 qS5 (qR8 _ _)
   (tuple_addW1 t b vs.toArray ws.toArray n n2 dd O sl a4 (by simpa using hv) (by simp [hw])) ⟨ho,I,h1 hw⟩
 ·refine concat_meets ⟨_,ho,rfl⟩ ⟨_,I,rfl⟩ noFill_tuple_add seq_tuple_add qT0 qS5 (qR8 _ _)
   (tuple_addW2 t b vs.toArray ws.toArray n n2 dd O sl a4 (by simpa using hv) (by simpa using hw) (by rw[qB8,qB8];exact hsz)) ⟨ho,I,?_⟩
  rw[e];exact h2 hw
def sIx (n d:Nat):Option Int->Nat
 |none=>d
 |some v=>if v<0 then (v+(n:Int)).toNat else min v.toNat n
def sIx_none (n d:Nat):sIx n d none=d:=rfl
def sIx_nat (n d k:Nat):sIx n d (some (k:Int))=min k n:=by
 show (if (k:Int)<0 then ((k:Int)+(n:Int)).toNat else min (k:Int).toNat n)=min k n;rw[qA4 ox,qD9]
def rS (n d:Nat) (hd:d<=n) (o:Option Int):sIx n d o<=n:=by
 cases o with
 |none=>exact hd
 | some v=>
  show (if v<0 then (v+(n:Int)).toNat else min v.toNat n)<=n;by_cases I:v<0
  ·rw[qA2 I];omega
  ·rw[qA4 I];exact qM2 _ _
def oR (v:Int) (n d:Nat):(if v<0 then max (v+(n:Int)) 0 else min v (n:Int))=((sIx n d (some v):Nat):Int):=by
 show (if v<0 then max (v+(n:Int)) 0 else min v (n:Int))=(((if v<0 then (v+(n:Int)).toNat else min v.toNat n):Nat):Int);by_cases I:v<0
 ·simp only [qA2 I];omega
 ·simp only [qA4 I];omega
def qM (lo hi:Option Int) (n:Nat):Builtin.Slice.sliceAdjust lo hi 1 (n:Int)=(((sIx n 0 lo:Nat):Int),((sIx n n hi:Nat):Int)):=by
 have I:¬ ((1:Int)<0):=ox;unfold Builtin.Slice.sliceAdjust;simp only [I,qP1];refine Prod.ext ?_ ?_
 ·cases lo with
  |none=>rfl
  |some v=>exact oR v n 0
 ·cases hi with
  |none=>rfl
  |some v=>exact oR v n n
def pJ (i j:Nat):Builtin.Slice.slicePlaces (i:Int) (j:Int) 1=j-i:=by
 unfold Builtin.Slice.slicePlaces;have I:(1:Int)>0:=ox;simp only [I,qP0,Int.ediv_one]
 split <;> omega
def fH (p:IsPart v o) (h:Q o s):wpAny (model prog w) A (Builtin.Slice.slicePartIndex v) Q E s:=by
 cases p with
 |none=>exact slicePart_none h
 |int i t=>exact slicePart_int h
def W6 {lo:Option Int}{n:Nat}(hs:s.heap.IsSliceOf sl vl vu .none) (pl:IsPart vl lo) (pu:IsPart vu hi) (h:Q (((sIx n 0 lo:Nat):Int),1,sIx n n hi-sIx n 0 lo) s):wpAny (model prog w) A (Builtin.Slice.sliceApplied (.ref sl) (pure (n:Int))) Q E s:=by
 obtain ⟨os,I,a0,O⟩:=id hs;unfold Builtin.Slice.sliceApplied Builtin.Slice.sliceFields;refine qA1 (qA1 (qP4 I O (x:=vl) rfl (qA1 (qP4 I O (x:=vu) rfl (qA1 (qP4 I O (x:=.none) rfl (qO6 ?_)))))));refine qA1 (slicePart_none ?_)
 show wpAny _ _ (if ((1:Int) == 0)=true then _ else _) _ _ s;rw[qA4 Qz];refine qA1 (fH pl (qA1 (fH pu (qA1 (qO6 ?_)))))
 show wpAny _ _ (match Builtin.Slice.sliceAdjust lo hi 1 (n:Int) with | (lo,hi)=>pure (lo,(1:Int),Builtin.Slice.slicePlaces lo hi 1)) _ _ s;rw[qM lo hi n]
 show wpAny _ _ (pure (((sIx n 0 lo:Nat):Int),(1:Int),Builtin.Slice.slicePlaces ((sIx n 0 lo:Nat):Int) ((sIx n n hi:Nat):Int) 1)) _ _ s;rw[pJ];exact qO6 h
def wq (xs:Array Value) (i k:Nat):((List.range k).filterMap λ(m:Nat)=>xs[((i:Int)+(m:Int)*1).toNat]?).toArray=((xs.toList.drop i).take k).toArray:=by
 have e:(λ(m:Nat)=>xs[((i:Int)+(m:Int)*1).toNat]?)=λm=>xs[i+m]?:=by
  funext m
  have:((i:Int)+(m:Int)*1).toNat=i+m:=ox
  rw[this]
 rw[e]
 have:=pick_run xs i k
 rw[List.filterMap_map]at this;have I:((λx=>xs[x]?)∘λx=>i+x)=λm=>xs[i+m]?:=rfl;rw[I]at this;rw[this]
def getItem_tuple_cut {lo:Option Int}(O:IsTup s.heap t items) (hs:s.heap.IsSliceOf sl vl vu .none) (pl:IsPart vl lo) (pu:IsPart vu hi) (hw:¬ (sIx items.size 0 lo=0/\sIx items.size items.size hi=items.size)) (h:Q (.ref s.heap.objs.size) { s with heap:=s.heap.push { cls:=.type "tuple",data:=.seq ((items.toList.drop (sIx items.size 0 lo)).take (sIx items.size items.size hi-sIx items.size 0 lo)).toArray } }) (hsz:items.size<=sizeLine):wpAny (model prog w) A (getItem (.ref t) (.ref sl)) Q E s:=by
 have I:sizeOk (.seq ((items.toList.drop (sIx items.size 0 lo)).take (sIx items.size items.size hi-sIx items.size 0 lo)).toArray):=by
  show ((items.toList.drop (sIx items.size 0 lo)).take (sIx items.size items.size hi-sIx items.size 0 lo)).toArray.size<=sizeLine;rw[qB8,qH9,qM3,qM8];omega
 have hj:sIx items.size items.size hi<=items.size:=rS _ _ (qB5 _) hi;obtain ⟨os,a3,a0,a6⟩:=id hs;have a4:s.TypeIs (.ref sl) "slice" := ⟨os,a3,a0⟩;unfold getItem
 try with_reducible refine qP2 ?_
 first|refine qA1 (qO6 ?_)|skip
 refine qA1 (wpAny_sequenceKey O.typeIs Qz ?_);refine qA1 (qP9 (name:=Str.ofString "__getitem__") O.typeIs qJ2
  (qQ1 qJ2 O.typeIs entry_tuple_getitem ?_ (args_tuple_getitem _ _)))
 show wpAny _ _ (Builtin.Tuple.tupleItemsOf (.ref t)>>=_) _ _ s;refine qA1 (tupleItemsOf_ O ?_);refine qA1 (wpAny_typeOf a4 ?_);rw[qA2 Qz];refine qA1 (W6 hs pl pu ?_);have a5:¬ ((((sIx items.size 0 lo:Nat):Int) == 0&&(1:Int) == 1&&(sIx items.size items.size hi-sIx items.size 0 lo) == items.size)=true):=by
  intro q;rw[qG4,qG4]at q;have q1:((sIx items.size 0 lo:Nat):Int)=0:=eq_of_beq q.1.1;have q2:sIx items.size items.size hi-sIx items.size 0 lo=items.size:=eq_of_beq q.2;exact hw ⟨ox,ox⟩
 show wpAny _ _ (if (((sIx items.size 0 lo:Nat):Int) == 0&&(1:Int) == 1&&(sIx items.size items.size hi-sIx items.size 0 lo) == items.size)=true then _ else _) _ _ s;rw[qA4 a5,wq]
 first
  |exact qA1 (m:=Builtin.Tuple.tupleExact _) (qP5 (qO6 ⟨_,rfl,qO6 h⟩) I)
  |exact qA1 (m:=Builtin.Tuple.tupleExact _) (qP5 (qA1 (qO6 (qO6 ⟨_,rfl,qO6 h⟩))) I)
  |exact qA1 (qA1 (m:=Builtin.Tuple.tupleExact _) (qP5 (qO6 (qO6 ⟨_,rfl,qO6 h⟩)) I))
  |exact qA1 (qA1 (m:=Builtin.Tuple.tupleExact _) (qP5 (qO6 ⟨_,rfl,qO6 h⟩) I))
end HT
namespace L2
open PySem PySem.Spec PyProof.Rows
abbrev TO:=St->Hp->(Option Int->Hp->Prop)->Prop
def PO (X:Cx) (e:Option Expr) (t:TO):Prop:=
 ∀ (pins:List (Addr×Obj)) (s:Shared) (σ:St) (H:Hp) (Q:Option Int->Hp->Prop),Inv X pins σ H s->t σ H Q ->
  wpAny (model X.prog X.w) X.A (evalPart e X.env) (λu s'=>∃o H',Inv X pins σ H' s'/\IsPart u o/\Q o H') X.xe s
def tNoPart:TO:=λ_ H Q=>Q none H
def xX (t:TE):TO:=λσ H Q=>t σ H λx H1=>∃i,x=.int i/\Q (some i) H1
def po_none:PO X none tNoPart:=by
 intro pins s σ H Q I h;rw[evalPart_none];exact qO6 ⟨none,H,I,.none,h⟩
def zT (h:PE X e te):PO X (some e) (xX te):=by
 intro pins s σ H Q I hw;rw[evalPart_some];refine thn (h pins s σ H _ I hw) λu s1 O=>?_;obtain ⟨x,H1,I1,r1,q1⟩:=O;obtain ⟨i,rfl,q⟩:=q1;obtain ⟨t,rfl⟩:=r1;exact ⟨some i,H1,I1,.int i t,q⟩
def SlR (X:Cx) (r:V->Option Int->Option Int->Hp->VK->Prop):Prop:=
 ∀ (pins:List (Addr×Obj)) (s:Shared) (σ:St) (H:Hp) (x:V) (v I O:Value) (lo hi:Option Int) (sl:Addr) (Q:VK),Inv X pins σ H s->RelV x v->s.heap.IsSliceOf sl I O .none->IsPart I lo->IsPart O hi->r x lo hi H Q ->
  ∃T id,typeLookup (.type T) "__getitem__" = pure (some (.builtin id))/\s.TypeIs v T/\wpAny (model X.prog X.w) X.A (getItem v (.ref sl)) (EP X pins σ Q) X.xe s
def SlR.or (h:SlR X r) (h':SlR X r'):SlR X (λx lo hi H Q=>r x lo hi H Q\/r' x lo hi H Q):=by
 intro pins s σ H x v vl vu lo hi sl Q I O hs pl pu q;rcases q with q|q
 ·exact h pins s σ H x v vl vu lo hi sl Q I O hs pl pu q
 ·exact h' pins s σ H x v vl vu lo hi sl Q I O hs pl pu q
def tSl (r:V->Option Int->Option Int->Hp->VK->Prop)(te:TE)(O I:TO):TE:=λσ H Q=>te σ H λx H1=>O σ H1 λl H2=>I σ H2 λu H3=>r x l u H3 Q
def kP {lo:Option Expr}(hr:SlR X r) (he:PE X e te) (hl:PO X lo tl) (hu:PO X hi th):PE X (.Subscript e (.Slice lo hi none p2) pos) (tSl r te tl th):=by
 intro pins s σ H Q I h;refine Subscript_ (thn (he pins s σ H _ I h) λv s1 a3=>?_);obtain ⟨x,H1,I1,r1,q1⟩:=a3;refine wpAny_Slice (thn (hl pins s1 σ H1 _ I1 q1) λvl s2 ⟨l,H2,I2,pl,q2⟩=>thn (hu pins s2 σ H2 _ I2 q2) λvu O a0=>?_);obtain ⟨u,H3,I3,pu,q3⟩:=a0;rw[evalPart_none];refine qO6 ?_;have I4:Inv X pins σ H3 { O with heap:=O.heap.push { cls:=.type "slice",data:=.fields #[vl,vu,.none] } }:=I3.kept (t':=O.toks) λb ob q=>qA5 _ q;obtain ⟨T,id,hT,ht,hg⟩:=hr pins { O with heap:=O.heap.push { cls:=.type "slice",data:=.fields #[vl,vu,.none] } } σ H3 x v vl vu l u O.heap.objs.size Q I4 r1 (Heap.IsSliceOf.new ..) pl pu q3
 show wpAny (model X.prog X.w) X.A (subscriptTail e (.Slice lo hi none p2) v (.ref O.heap.objs.size)) (EP X pins σ Q) X.xe { O with heap:=O.heap.push { cls:=.type "slice",data:=.fields #[vl,vu,.none] } };exact tail_any (ops:=[.ref O.heap.objs.size,v]) ht hT hg (by with_unfolding_all rfl)
def bB (xs:List V)(lo hi:Option Int):List V:=(xs.drop (HT.sIx xs.length 0 lo)).take (HT.sIx xs.length xs.length hi-HT.sIx xs.length 0 lo)
def eD (xs:List V) (lo hi:Option Int):(bB xs lo hi).length<=xs.length:=by
 unfold bB;rw[qH9,qM3];omega
def Dq (K:Frag):V->Option Int->Option Int->Hp->VK->Prop:=λx lo hi H Q=>∃a xs,x=.ref a/\SqT K H a xs /\
 ¬ (HT.sIx xs.length 0 lo=0/\HT.sIx xs.length xs.length hi=xs.length)/\∀p,H p=none->Q (.ref p) (upd H p (.tup (bB xs lo hi)))
def Cr:SlR X (Dq X.K):=by
 intro pins s σ H x v vl vu lo hi sl Q I rx hs pl pu h;obtain ⟨a,xs,rfl,hx,hw,q⟩:=h;cases rx;obtain ⟨its,r,O,hz⟩:=I.tuple hx;have hlen:its.toArray.size=xs.length:=by rw[qB8];exact r.length.symm
 refine ⟨"tuple",_,PyProof.Rows.slot_tuple_getitem.lookup,O.typeIs,?_⟩;refine HT.getItem_tuple_cut O hs pl pu (by rw[hlen];exact hw) ?_ (by rw[hlen];exact hz);rw[hlen];refine ⟨.ref s.heap.objs.size,_,I.laid (t':=s.toks) (o:=.tup (bB xs lo hi)) (λb ob q=>qA5 _ q) (qB5 _) ?_,rfl,q _ (I.hok.fresh (qB5 _))⟩;exact ⟨qD7 (eD xs lo hi) hz,_,(r.drop (HT.sIx xs.length 0 lo)).take (HT.sIx xs.length xs.length hi-HT.sIx xs.length 0 lo),IsTup.new _ _⟩
def yh (K:Frag):R2:=λx y H Q=>∃a b xs ys,x=.ref a/\y=.ref b/\SqT K H a xs/\SqT K H b ys/\xs ≠ []/\xs.length+ys.length<=sizeLine /\
 (ys = []->Q (.ref a) H)/\(ys ≠ []->∀p,H p=none->Q (.ref p) (upd H p (.tup (xs++ys))))
def Vals.nil_iff (r:Vals xs us):us = []↔xs = []:=by
 cases r with
 |nil=>simp
 |cons _ _=>simp
def Ad:OpR X (binaryOp .Add) (yh X.K):=by
 intro pins s σ H x y v u Q I rx ry h;obtain ⟨a,b,xs,ys,rfl,rfl,ha,hb,hx,hz,q1,q2⟩:=h;cases rx;cases ry;obtain ⟨its,r1,p1,_⟩:=I.tuple ha;obtain ⟨a0,O,p2,_⟩:=I.tuple hb;refine HT.cat_tup p1 p2 (λz=>hx (r1.nil_iff.mp z)) (λz=>⟨.ref a,H,I,rfl,q1 (O.nil_iff.mp z)⟩) (λz=>?_) (by rw[<- r1.length,<- O.length];exact hz);refine ⟨.ref s.heap.objs.size,_,I.laid (t':=s.toks) (o:=.tup (xs++ys)) (λb ob q=>qA5 _ q) (qB5 _) ?_,rfl,q2 (λw=>z (O.nil_iff.mpr w)) _ (I.hok.fresh (qB5 _))⟩;exact ⟨by rw[qC6];exact hz,_,r1.append O,IsTup.new _ _⟩
def ixN (n:Nat) (i:Int):Option Nat:=if 0<=i then (if i<n then some i.toNat else none) else if -(n:Int)<=i then some (i+n).toNat else none
def atI {α:Type}(xs:List α) (i:Int):Option α:=(ixN xs.length i).bind λj=>xs[j]?
def oC (h:ixN n i=some j):seqIndex? i n=some j/\j<n /\ -(n:Int)<=i/\i<n:=by
 unfold ixN at h;by_cases h0:0<=i
 ·rw [qA2 h0]at h
  by_cases I:i<n
  ·rw [qA2 I]at h
   have e:i.toNat=j:=Option.some.inj h;exact ⟨by rw[seqIndex_of h0 I,e],ox,ox,I⟩
  ·rw[qA4 I]at h;cases h
 ·rw [qA4 h0]at h
  by_cases I:-(n:Int)<=i
  ·rw [qA2 I]at h
   have e:(i+n).toNat=j:=Option.some.inj h;exact ⟨by rw[seqIndex_neg ox I,e],ox,I,ox⟩
  ·rw[qA4 I]at h;cases h
def iL {xs:List α}(h:atI xs i=some v):∃j,seqIndex? i xs.length=some j/\xs[j]?=some v/\j<xs.length /\ -(xs.length:Int)<=i/\i<xs.length:=by
 unfold atI at h;cases e:ixN xs.length i with
 |none=>rw[e]at h;cases h
 | some j=>
  rw[e]at h;obtain ⟨h1,I,h3,O⟩:=oC e;exact ⟨j,h1,h,I,h3,O⟩
def iO (b:Expr):Prop:=∀o i,subscripted b false o i=operate [o,i] (getItem o i)
def IxR (X:Cx) (r:R2):Prop:=
 ∀ (value slice:Expr) (pins:List (Addr×Obj)) (s:Shared) (σ:St) (H:Hp) (x y:V) (v u:Value) (Q:VK),Inv X pins σ H s->RelV x v->RelV y u->r x y H Q ->
  subscripted slice false v u=operate [v,u] (getItem v u)->wpAny (model X.prog X.w) X.A (subscriptTail value slice v u) (EP X pins σ Q) X.xe s
def MtR (X:Cx) (id:String) (r:V->List V->Hp->VK->Prop):Prop:=
 ∀ (pins:List (Addr×Obj)) (s:Shared) (σ:St) (H:Hp) (x:V) (xs:List V) (v:Value) (us:List Value) (Q:VK),Inv X pins σ H s->RelV x v->Vals xs us->r x xs H Q ->
  wpAny (model X.prog X.w) X.A (call (.builtin id) (v::us)) (EP X pins σ Q) X.xe s
def IxR.or (h:IxR X r) (h':IxR X r'):IxR X (λx y H Q=>r x y H Q\/r' x y H Q):=by
 intro value slice pins s σ H x y v u Q I O ry q hs;rcases q with q|q
 ·exact h value slice pins s σ H x y v u Q I O ry q hs
 ·exact h' value slice pins s σ H x y v u Q I O ry q hs
def yq (hr:IxR X r) (ha:PE X a ta) (hb:PE X b tb) (hs:iO b):PE X (.Subscript a b pos) (tOp r ta tb):=by
 intro pins s σ H Q I h;exact Subscript_ (xP ha hb I h λv u s2 x y H2 I2 O ry q=>hr a b pins s2 σ H2 x y v u Q I2 O ry q (hs _ _))
def Dx (K:Frag):R2:=λx y H Q=>∃p xs i v,x=.ref p/\y=.int i/\SqL K H p xs/\atI xs i=some v/\Q v H
def Dw (K:Frag):R2:=λx y H Q=>∃p xs i v,x=.ref p/\y=.int i/\SqT K H p xs/\atI xs i=some v/\Q v H
def rIxS:R2:=λx y H Q=>∃z i c,x=.str z/\y=.int i/\z.length<=sizeLine/\atI z.cps.toList i=some c/\Q (.str ⟨#[c]⟩) H
def ix_list:IxR X (Dx X.K):=by
 intro value slice pins s σ H x y v u Q I rx ry h hs;obtain ⟨p,xs,i,z,rfl,rfl,hq,he,q⟩:=h;cases rx;obtain ⟨t,rfl⟩:=ry;obtain ⟨its,r,pl,hz⟩:=I.list hq;obtain ⟨j,O,h2,h3,h4,h5⟩:=iL he;obtain ⟨w,ew,a0⟩:=r.get h2;have hl:=r.length;have hn:=aI;have fin:EP X pins σ Q w s:=⟨z,H,I,a0,q⟩;by_cases h0:0<=i
 ·have hj:i.toNat=j:=by
   rw[seqIndex_of h0 h5]at O;exact Option.some.inj O
  exact item_listR pl.isList h0 ox (by rw[hj];simpa using ew) fin hs
 ·have hj:(i+(its.toArray.size:Int)).toNat=j:=by
   rw[seqIndex_neg ox h4]at O;rw[qB8,<- hl];exact Option.some.inj O
  exact subscriptTail_builtinR (x:=w) pl.isList.typeIs slot_list_getitem.lookup
   (wpAny_getItem_list_neg (Q:=λr s'=>r=w/\EP X pins σ Q r s') pl.isList ox (by rw[qB8] <;> omega) ox (by rw[hj];simpa using ew) ⟨rfl,fin⟩) hs
def ix_tup:IxR X (Dw X.K):=by
 intro value slice pins s σ H x y v u Q I rx ry h hs;obtain ⟨p,xs,i,z,rfl,rfl,hq,he,q⟩:=h;cases rx;obtain ⟨t,rfl⟩:=ry;obtain ⟨its,r,pl,hz⟩:=I.tuple hq;obtain ⟨j,h1,h2,h3,h4,h5⟩:=iL he;obtain ⟨w,ew,O⟩:=r.get h2;have hl:=r.length;have hn:=aI;have fin:EP X pins σ Q w s:=⟨z,H,I,O,q⟩;exact subscriptTail_builtinR (x:=w) pl.typeIs slot_tuple_getitem.lookup
  (getItem_tuple (j:=j) (Q:=λr s'=>r=w/\EP X pins σ Q r s') pl ox ox (by rw[qB8,<- hl];exact h1) (by simpa using ew) ⟨rfl,fin⟩) hs
def EM:IxR X rIxS:=by
 intro value slice pins s σ H x y v u Q I rx ry h hs;obtain ⟨z,i,c,rfl,rfl,hz,he,q⟩:=h;obtain ⟨t,rfl⟩:=rx;obtain ⟨t',rfl⟩:=ry;obtain ⟨j,O,h2,h3,h4,h5⟩:=iL he;have hl:z.cps.toList.length=z.length:=by simp [Str.length]
 rw[hl]at O h4 h5;have hn:=aI;exact tail_any (typeIs_str s z t) slot_str_getitem.lookup (getItem_str (c:=c) (by
  have e1:decide (i < -(2^63:Int))=false:=qO7 ox;have e2:decide (i≥2^63)=false:=qO7 ox;rw[e1,e2,Bool.or_false]) (by rw[O];simpa using h2) ⟨.str ⟨#[c]⟩,H,I.tok _,⟨_,rfl⟩,q⟩) hs
def rIx (K:Frag):R2:=λx y H Q=>Dx K x y H Q\/Dw K x y H Q\/rIxS x y H Q
def tN:IxR X (rIx X.K):=ix_list.or (ix_tup.or EM)
def pY (its:List Value) (n j:Nat) (u:Value):Obj.mapSeq (·.setIfInBounds j u) { cls:=.type "list",data:=.seq its.toArray n }={ cls:=.type "list",data:=.seq (its.set j u).toArray n }:=by
 simp [Obj.mapSeq]
def Inv.lst {σ:St}(I:Inv X pins σ H s) (h:H p=some (.lst xs)):
  ∃(its:List Value) (n:Nat),Vals xs its/\s.heap.get? p=some { cls:=.type "list",data:=.seq its.toArray n }/\xs.length<=sizeLine:=by
 obtain ⟨z,its,n,r,e⟩:=I.hok p _ h;exact ⟨its,n,r,e,z⟩
def Inv.lstUpd {σ:St}{its:List Value}(I:Inv X pins σ H s) (h:H p=some (.lst xs)) (ho:s.heap.get? p=some { cls:=.type "list",data:=.seq its.toArray n }) (O:f { cls:=.type "list",data:=.seq its.toArray n }={ cls:=.type "list",data:=.seq its'.toArray n' }) (r:Vals ys its') (hz:ys.length<=sizeLine) (t:Nat):
  Inv X pins σ (upd H p (.lst ys)) { s with heap:=s.heap.update p f,toks:=t }:=by
 have e:(s.heap.update p f).get? p=some { cls:=.type "list",data:=.seq its'.toArray n' }:=by
  rw[qK4 f ho (by rw[O] <;> rfl),O]
 refine I.write (x:=p) (e:=p) (by rw[h];trivial) (.inl rfl) (λb u hb q=>(qL5 _ _ (Ne.symm hb)).trans q) ⟨_,e⟩ ?_;exact ⟨hz,its',n',r,e⟩
def rSetL:V->V->V->Hp->(Hp->Prop)->Prop:=λo i v H Q=>∃p xs k j,o=.ref p/\i=.int k/\H p=some (.lst xs)/\ixN xs.length k=some j/\Q (upd H p (.lst (xs.set j v)))
def set_list:Hw X rSetL:=by
 intro pins s σ H o i v ov iv u Q I ro ri rv h;obtain ⟨p,xs,k,j,rfl,rfl,hp,hj,q⟩:=h;cases ro;obtain ⟨t,rfl⟩:=ri;obtain ⟨its,n,r,ho,hz⟩:=I.lst hp;obtain ⟨O,h2,h3,h4⟩:=oC hj;have hl:=r.length;have hn:=aI;have I':Inv X pins σ (upd H p (.lst (xs.set j v))) { s with heap:=s.heap.update p (Obj.mapSeq (·.setIfInBounds j u)) }:=
  I.lstUpd hp ho (pY its n j u) (r.set rv j) (by rw[qF4];exact hz) s.toks
 by_cases h0:0<=k
 ·have hk:k.toNat=j:=by
   rw[seqIndex_of h0 h4]at O;exact Option.some.inj O
  exact PySem.W.ki_setAt ho h0 ox (by rw[qB8,<- hl];exact h4) (by rw[hk];exact ⟨_,I',q⟩)
 ·have hk:(k+(its.toArray.size:Int)).toNat=j:=by
   rw[seqIndex_neg ox h3]at O;rw[qB8,<- hl];exact Option.some.inj O
  exact PySem.W.ki_setBack ho ox (by rw[qB8,<- hl];exact h3) ox (by rw[hk];exact ⟨_,I',q⟩)
def kh (lo hi:Option Int) (n:Nat):(sliceBounds lo hi none n).1=((HT.sIx n 0 lo:Nat):Int)/\(sliceBounds lo hi none n).2.1=((HT.sIx n n hi:Nat):Int)/\(sliceBounds lo hi none n).2.2=1:=by
 refine ⟨?_,?_,rfl⟩
 ·cases lo with
  |none=>simp [sliceBounds,HT.sIx]
  | some i=>
   simp only [sliceBounds,HT.sIx,Option.getD_none,show (1:Int)>0 by decide,qP0];by_cases h:i<0
   ·simp only [h,qP0] <;> omega
   ·simp only [h,qP1] <;> omega
 ·cases hi with
  |none=>simp [sliceBounds,HT.sIx]
  | some i=>
   simp only [sliceBounds,HT.sIx,Option.getD_none,show (1:Int)>0 by decide,qP0];by_cases h:i<0
   ·simp only [h,qP0] <;> omega
   ·simp only [h,qP1] <;> omega
def jv (its:List Value) (lo hi:Option Int):slicePick its.toArray lo hi none=((its.drop (HT.sIx its.length 0 lo)).take (HT.sIx its.length its.length hi-HT.sIx its.length 0 lo)).toArray:=by
 obtain ⟨h1,I,O⟩:=kh lo hi its.toArray.size;unfold slicePick;rw[h1,I,O];simp only [sliceRange_one,pick_run,qB8] <;> rfl
def Dr (K:Frag):V->Option Int->Option Int->Hp->VK->Prop:=λx lo hi H Q=>∃a xs,x=.ref a/\SqL K H a xs/\∀p,H p=none->Q (.ref p) (upd H p (.lst (bB xs lo hi)))
def zk:SlR X (Dr X.K):=by
 intro pins s σ H x v vl vu lo hi sl Q I rx hs pl pu h;obtain ⟨a,xs,rfl,hx,q⟩:=h;cases rx;obtain ⟨its,r,O,hz⟩:=I.list hx;have hlen:=r.length;refine ⟨"list",_,slot_list_getitem.lookup,O.isList.typeIs,?_⟩;refine wpAny_getItem_list_slice O.isList hs pl pu .none Qy ?_ (by rw[qB8] <;> omega)
 rw[jv,<- hlen];refine ⟨.ref s.heap.objs.size,_,I.laid (t':=s.toks) (o:=.lst (bB xs lo hi)) (λb ob q=>qA5 _ q) (qB5 _) ?_,rfl,q _ (I.hok.fresh (qB5 _))⟩;exact ⟨qD7 (eD xs lo hi) hz,_,0,(r.drop (HT.sIx xs.length 0 lo)).take (HT.sIx xs.length xs.length hi-HT.sIx xs.length 0 lo),qC2 _ rfl⟩
def yA:V->Bool
 | .non=>true
 | .bl _=>true
 | .int _=>true
 | .str _=>true
 |_=>false
def eqV:V->V->Bool
 | .non,.non=>true
 | .bl a,.bl b=>a == b
 | .bl a,.int b=>(if a then 1 else 0) == b
 | .int a,.bl b=>a == (if b then 1 else 0)
 | .int a,.int b=>a == b
 | .str a,.str b=>a == b
 |_,_=>false
def inV (x:V)(xs:List V):Bool:=xs.any λy=>eqV y x
def rIn (K:Frag)(neg:Bool):R2:=λx y H Q=>∃p xs,y=.ref p/\(SqL K H p xs\/SqT K H p xs)/\yA x=true/\xs.all yA=true/\Q (.bl (if neg then !inV x xs else inV x xs)) H
def mF:K8 X (.builtin "len") (λxs H Q=>∃p ys,xs = [.ref p]/\(SqL X.K H p ys\/SqT X.K H p ys)/\Q (.int ys.length) H):=by
 intro pins s σ H xs us Q I r h;obtain ⟨p,ys,rfl,O,q⟩:=h;obtain ⟨u,rfl,rx⟩:=vals1 r;cases rx;have hn:=aI;rcases O with O|O
 ·obtain ⟨its,r',pl,hz⟩:=I.list O;have hlen:=r'.length;exact Calls.call_len_list pl.isList (by simp only [qB8] <;> omega) ⟨.int ys.length,H,I.tok _,⟨s.toks+1,by rw[qB8,hlen]⟩,q⟩
 ·obtain ⟨its,r',pl,hz⟩:=I.tuple O;have hlen:=r'.length;exact len_tuple pl (by simp only [qB8] <;> omega) ⟨.int ys.length,H,I.tok _,⟨s.toks+1,by rw[qB8,hlen]⟩,q⟩
def jz:K8 X (.type "tuple") (λxs H Q=>∃p ys,xs = [.ref p]/\((SqL X.K H p ys/\∀l,H l=none->Q (.ref l) (upd H l (.tup ys)))\/(SqT X.K H p ys/\Q (.ref p) H))):=by
 intro pins s σ H xs us Q I r h;obtain ⟨p,ys,rfl,h⟩:=h;obtain ⟨u,rfl,rx⟩:=vals1 r;cases rx;rcases h with ⟨hq,q⟩|⟨hq,q⟩
 ·obtain ⟨its,O,pl,hz⟩:=I.list hq;have hlen:=O.length;refine call_tuple_list pl.isList (λh' kp=>?_) (by simp only [qB8] <;> omega)
  have I1:Inv X pins σ H { s with heap:=h' }:=I.kept (t':=s.toks) kp;have I2:Inv X pins σ (upd H h'.objs.size (.tup ys)) { s with heap:=h'.push { cls:=.type "tuple",data:=.seq its.toArray } }:=
   I1.laid (t':=s.toks) (λb o e=>qA5 _ e) (qB5 _) (show ObjOk X.prog X.w _ _ _ (.tup ys) from ⟨hz,its,O,IsTup.new _ _⟩)
  exact ⟨.ref h'.objs.size,_,I2,rfl,q _ (I1.hok.fresh (qB5 _))⟩
 ·obtain ⟨its,O,pl,hz⟩:=I.tuple hq;exact call_tuple_same pl ⟨.ref p,H,I,rfl,q⟩
def tyV (K:Frag) (T:String) (x:V) (H:Hp):Prop:=match x with
 | .str _=>T = "str"
 | .int _=>T = "int"
 | .ref p=>(T = "list" /\ ∃xs,SqL K H p xs)\/(T = "tuple" /\ ∃o,K.lookup p=some o/\o.cls=.type "tuple" /\ o.dict=none) \/
   (T = "dict" /\ ((∃kvs,H p=some (.dK kvs))\/∃kvs,H p=some (.dT kvs)))\/(T = "set" /\ ∃S n,H p=some (.set S n))
 |_=>False
def jQ {σ:St}(I:Inv X pins σ H s) (r:RelV x v) (ty:tyV X.K T x H):
  s.TypeIs v T/\∀a,v=.ref a->∃ob,s.heap.get? a=some ob/\ob.dict=none:=by
 cases x with
 | str z=>
  obtain ⟨t,rfl⟩:=r;cases (show T = "str" from ty);exact ⟨typeIs_str s z t,λ_ e=>nomatch e⟩
 | int i=>
  obtain ⟨t,rfl⟩:=r;cases (show T = "int" from ty);exact ⟨typeIs_int s i t,λ_ e=>nomatch e⟩
 | ref p=>
  cases r;rcases ty with ⟨rfl,xs,hq⟩|⟨rfl,o,hk,hc,hd⟩|⟨rfl,hk⟩|⟨rfl,S,n,hk⟩
  ·obtain ⟨its,_,pl,_⟩:=I.list hq;refine ⟨pl.isList.typeIs,λa e=>?_⟩;cases e;obtain ⟨o,n,e,c,hd,_⟩:=pl;exact ⟨o,e,hd⟩
  ·refine ⟨⟨o,I.kIn p o hk,hc⟩,λa e=>?_⟩;cases e;exact ⟨o,I.kIn _ o hk,hd⟩
  ·have z:∃o,s.heap.get? p=some o/\o.ExactDict:=by
    rcases hk with ⟨kvs,hk⟩|⟨kvs,hk⟩
    ·obtain ⟨_,_,_,_,o,_,_,e,ex,_⟩:=I.hok p _ hk;exact ⟨o,e,ex⟩
    ·obtain ⟨_,_,_,_,o,_,_,e,ex,_⟩:=I.hok p _ hk;exact ⟨o,e,ex⟩
   obtain ⟨o,e,ex⟩:=z;refine ⟨⟨o,e,ex.1⟩,λa O=>?_⟩;cases O;exact ⟨o,e,ex.2.1⟩
  ·obtain ⟨o,_,_,_,e,ex,_⟩:=I.hok p _ hk;refine ⟨⟨o,e,ex.1⟩,λa O=>?_⟩;cases O;exact ⟨o,e,ex.2.1⟩
 |_=>exact False.elim ty
def Cn (K:Frag)(T:String)(r:V->List V->Hp->VK->Prop)(I:TE):TE:=λσ H Q=>I σ H λx H1=>tyV K T x H1/\r x [] H1 Q
def tBM (K:Frag)(T:String)(r:V->List V->Hp->VK->Prop)(I:TE)(t:TA):TE:=λσ H Q=>I σ H λx H1=>tyV K T x H1/\t σ H1 λxs H2=>r x xs H2 Q
def Ed {X:Cx}{o:Expr}{to:TE}{name:Str}{apos O:Pos}{T id:String}{r:V->List V->Hp->VK->Prop}(pa:PlainAttrs T) (slot:Slot T name id) (a5:typeOf (.builtin id)=pure (.type "method_descriptor")) (hm:MtR X id r) (ho:PE X o to) (a0:attributeBase o name X.env (eval o X.env)=eval o X.env:=by rfl) (a3:(apos.endLine == O.line)=true:=by rfl):PE X (.Call (.Attribute o name apos) [] [] O) (Cn X.K T r to):=by
 intro pins s σ H Q I h;refine wpAny_Call_method0_late a0 a3 (thn (ho pins s σ H _ I h) λv s1 a4=>?_);obtain ⟨x,H1,I1,r1,ty,q1⟩:=a4;obtain ⟨h1,h2⟩:=jQ I1 r1 ty;exact ⟨T,id,pa,slot,a5,h1,h2,qT1 rfl (PySem.evalArgs_none (hm pins s1 σ H1 x [] v [] Q I1 r1 .nil q1))⟩
def HU {X:Cx}{o e:Expr}{es:List Expr}{to:TE}{t:TA}{name:Str}{apos O:Pos}{T id:String}{r:V->List V->Hp->VK->Prop}(pa:PlainAttrs T) (slot:Slot T name id) (a8:typeOf (.builtin id)=pure (.type "method_descriptor")) (hm:MtR X id r) (ho:PE X o to) (ha:PA X (e::es) t) (a3:attributeBase o name X.env (eval o X.env)=eval o X.env:=by rfl) (a7:((backTo O (starEach (e::es) X.env)).all (λx=>!x.1)&&(backToKw O (keywordEach [] X.env)).all (λx=>x.1.isSome)
   && decide ((e::es).length+([]:List Keyword).length+(if ([]:List Keyword).isEmpty then 0 else 1)<30))=true:=by rfl) (a4:(apos.endLine == O.line)=true:=by rfl) (hs:starEach (e::es) X.env=(false,eval e X.env)::starEach es X.env:=by rfl) (a0:(backTo O (starEach es X.env)).any (·.1)=false:=by rfl):
  PE X (.Call (.Attribute o name apos) (e::es) [] O) (tBM X.K T r to t):=by
 intro pins s σ H Q I h;refine wpAny_Call_method_late a3 a7 a4 rfl (thn (ho pins s σ H _ I h) λv s1 a6=>?_);obtain ⟨x,H1,I1,r1,ty,q1⟩:=a6;obtain ⟨h1,h2⟩:=jQ I1 r1 ty;refine ⟨T,id,pa,slot,a8,h1,h2,?_⟩;have hA:=ha O pins s1 σ H1 _ I1 q1;rw[hs]at hA ⊢;refine qT1 (by show (false||(backTo O (starEach es X.env)).any (·.1))=false;rw[a0] <;> rfl) (Calls.evalArgs_plain ?_)
 exact thn hA λus s2 a5=>by obtain ⟨vs,H2,I2,r2,q2⟩:=a5;exact hm pins s2 σ H2 x vs v us Q I2 r1 r2 q2
def MtM (X:Cx) (id:String) (r:V->List V->Hp->VK->Prop):Prop:=
 ∀ (pins:List (Addr×Obj)) (s:Shared) (σ:St) (H:Hp) (x:V) (xs:List V) (v:Value) (us:List Value) (Q:VK),Inv X pins σ H s->RelV x v->Vals xs us->r x xs H Q ->
  wpAny (model X.prog X.w) X.A (call (.builtin id) (v::us)) (EP X pins σ Q) X.xe s
def Vals.one:∀{x:V}{us:List Value},Vals [x] us->∃u,us = [u]/\RelV x u:=by
 intro x us r;cases r with
 |cons r t=>cases t;exact ⟨_,rfl,r⟩
def Vals.zero:∀{us:List Value},Vals [] us->us = []
 |_,.nil=>rfl
def Vals.reverse (h:Vals xs us):Vals xs.reverse us.reverse:=by
 induction h with
 |nil=>exact .nil
 |cons r t I=>rw[qI6,qI6];exact Vals.append I (.cons r .nil)
def Vals.rep (h:Vals xs us):∀k:Nat,Vals (List.replicate k xs).flatten (List.replicate k us).flatten
 |0=>.nil
 | k+1=>by
  rw[qE4,qE4,qG5,qG5];exact Vals.append h (Vals.rep h k)
def foldl_rep (its:List Value):∀(k:Nat) (I:List Value),
  List.foldl (λO x2=>O++x2) I.toArray (List.replicate k its.toArray)=(I++(List.replicate k its).flatten).toArray:=by
 intro k
 induction k with
 |zero=>intro I;simp
 | succ k ih=>
  intro I;have e:I.toArray++its.toArray=(I++its).toArray:=Qy;have e2:(I++its)++(List.replicate k its).flatten=I++(List.replicate (k+1) its).flatten:=by
   rw[qE4,qG5,qL0]
  rw[<- e2,<- ih (I++its),<- e,qE4,List.foldl_cons]
def Inv.lset {σ:St}{its:List Value}(I:Inv X pins σ H s) (hH:H l=some (.lst xs)) (e:s.heap.get? l=some { cls:=.type "list",data:=.seq its.toArray n }) (hf:f its.toArray=its'.toArray) (O:Vals ys its') (hz:ys.length<=sizeLine):
  Inv X pins σ (upd H l (.lst ys)) { s with heap:=s.heap.update l (Obj.mapSeq f),toks:=t' }:=by
 have q:=PySem.IsL.update e f;rw[hf]at q;refine I.write (x:=l) (e:=l) (by rw[hH];exact trivial) (.inl rfl) (λb' u hb hu=>(qL5 s.heap (Obj.mapSeq f) (Ne.symm hb)).trans hu) ⟨_,q⟩ ?_;exact ⟨hz,its',_,O,q⟩
def Inv.lnew {σ:St}(I:Inv X pins σ H s) (O:Vals ys its) (hz:ys.length<=sizeLine):
  Inv X pins σ (upd H s.heap.objs.size (.lst ys)) { s with heap:=s.heap.push { cls:=.type "list",data:=.seq its.toArray },toks:=t' }:=
 I.laid (λ_ _ q=>qA5 _ q) (qB5 _) ⟨hz,its,0,O,qC2 _ rfl⟩
def Inv.fresh {σ:St}(I:Inv X pins σ H s):H s.heap.objs.size=none:=I.hok.fresh (qB5 _)
def Inv.lstM {σ:St}(I:Inv X pins σ H s) (O:H l=some (.lst xs)):xs.length<=sizeLine/\∃(its:List Value) (n:Nat),Vals xs its/\xs.length=its.length/\s.heap.get? l=some { cls:=.type "list",data:=.seq its.toArray n }:=by
 obtain ⟨z,its,n,r,e⟩:=I.hok l _ O;exact ⟨z,its,n,r,r.length,e⟩
def wD (h:n<=sizeLine):Builtin.List.listTooLong n=false:=by
 unfold Builtin.List.listTooLong;exact qO7 ox
def rAppend:V->List V->Hp->VK->Prop:=λx vs H Q=>∃l xs y,x=.ref l/\vs = [y]/\H l=some (.lst xs)/\xs.length<sizeLine/\Q .non (upd H l (.lst (xs ++ [y])))
def cz:MtM X "list.append" rAppend:=by
 intro pins s σ H x vs v us Q I rx rv h;obtain ⟨l,xs,y,rfl,rfl,O,hz,q⟩:=h;cases rx;obtain ⟨u,rfl,ru⟩:=rv.one;obtain ⟨z,its,n,r,hl,e⟩:=I.lstM O;refine qR2 F.slot_list_append ⟨_,e,rfl⟩ F.entry_list_append (F.args_list_append_2 _ _) (PySem.list_append l its.toArray n u (by rw[qB8];omega)) ⟨e,?_⟩;refine ⟨.non,_,I.lset (its':=its ++ [u]) O e Qy (r.append (.cons ru .nil)) ?_,rfl,q⟩;rw[qC6,qF7];omega
def rReverse:V->List V->Hp->VK->Prop:=λx vs H Q=>∃l xs,x=.ref l/\vs = []/\H l=some (.lst xs)/\Q .non (upd H l (.lst xs.reverse))
def pV:MtM X "list.reverse" rReverse:=by
 intro pins s σ H x vs v us Q I rx rv h;obtain ⟨l,xs,rfl,rfl,hH,q⟩:=h;cases rx;have O:=rv.zero;subst O;obtain ⟨z,its,n,r,hl,e⟩:=I.lstM hH;refine qR2 F.slot_list_reverse ⟨_,e,rfl⟩ F.entry_list_reverse (F.args_list_reverse_1 _) (AutoSeq1.list_reverse_list_0 l its.toArray n (by rw[qB8];omega)) ⟨e,?_⟩;refine ⟨.non,_,I.lset (its':=its.reverse) hH e Qy r.reverse ?_,rfl,q⟩;rw[qC0];omega
def rRep:R2:=λx y H Q=>∃l k xs,x=.ref l/\y=.int k/\H l=some (.lst xs) /\ -(2^63)<=k/\k<2^63/\xs.length*k.toNat<=sizeLine /\
 ∀p,H p=none->Q (.ref p) (upd H p (.lst (List.replicate k.toNat xs).flatten))
def len_rep {α:Type}(xs:List α) (k:Nat):(List.replicate k xs).flatten.length=k*xs.length:=by
 induction k with
 |zero=>simp
 |succ k I=>rw[qE4,qG5,qC6,I,Nat.succ_mul,Nat.add_comm]
def Ei:OpR X (binaryOp .Mult) rRep:=by
 intro pins s σ H x y v u Q I rx ry h;obtain ⟨l,k,xs,rfl,rfl,hH,h1,h2,hz,q⟩:=h;cases rx;obtain ⟨t,rfl⟩:=ry;obtain ⟨z,its,n,r,hl,e⟩:=I.lstM hH;have hlen:its.toArray.size*k.toNat<=sizeLine:=by rw[qB8,<- hl];exact hz
 have a3:¬ its.toArray.size*k.toNat>(2^63-1)/8:=by
  have:(sizeLine:Nat)<=(2^63-1)/8:=Qz
  omega
 have a4:¬ (!Builtin.List.listFitsIndex k)=true:=by
  rw[fitsIndex_both h1 h2];exact qA9
 have O:¬ Builtin.List.listTooLong (its.toArray.size*k.toNat)=true:=by
  rw[wD hlen];exact qA9
 have a0:List.foldl (λx1 x2=>x1++x2) #[] (List.replicate (if its.toArray.isEmpty=true then 0 else k.toNat) its.toArray)=(List.replicate k.toNat its).flatten.toArray:=by
  have f0:∀m:Nat,List.foldl (λx1 x2=>x1++x2) #[] (List.replicate m its.toArray)=(List.replicate m its).flatten.toArray:=λm=>by
   have:=foldl_rep its m []
   rw[List.nil_append]at this;exact this
  rw[f0];cases its with
  |nil=>simp
  |cons a r'=>rw[qA4 Qy]
 refine wpAny_binaryOp_repeat_ref (T := "list") (U := "int") Qz ⟨_,e,rfl⟩ (λs'=>typeIs_int s' k t) noFill_list_mul F.fills_int_mul qU3 repeat_list F.slot_int_index.lookup
  (qR2 qU3 (typeIs_int s k t) F.entry_int_rmul (F.args_int_rmul_2 _ _) (int___rmul___int_list k t l its.toArray n)
   ⟨e,rfl,⟨_,e,rfl⟩,qR2 F.slot_list_mul ⟨_,e,rfl⟩ F.entry_list_mul (F.args_list_mul_2 _ _) (AutoListH.list___mul___list_int_3 l its.toArray n k t a4 a3 O) ⟨e,?_⟩⟩)
 rw[a0];exact ⟨.ref _,_,I.lnew (t':=s.toks) (r.rep k.toNat) (by rw[len_rep,Nat.mul_comm];exact hz),rfl,q _ I.fresh⟩
end L2
namespace Att
open PySem PySem.W PySem.Calls PyProof.Rows
def ge:∀(ns:List Int) (vs:List Value),WellAll P h vs (ns.map WData.int)->IntsAre vs ns:=by
 intro ns
 induction ns with
 | nil=>
  intro vs w;rw[qJ4]at w;cases w;exact .nil
 | cons n ns I=>
  intro vs w;rw[qC1]at w;cases w with
  | cons a b=>
   cases a;exact .cons _ _ (I _ b)
def rQ {l:OpenLaw}(hn:l.most=some n) (I:l.row.toRowW.claim.pre args=true) (a0:WellAll P h vals args):
  ∃a vs ns,vals = [Value.ref a]/\args = [WData.list (ns.map WData.int)]/\h.get? a=some { cls:=.type "list",data:=.seq vs.toArray }/\IntsAre vs ns/\ns.length<=n:=by
 have a3:WShape.hasAll [] args [.list .int]=true:=(pre_splitW I).1;have hc:l.pre.holds [] { args:=args }=true:=(pre_splitW I).2;obtain ⟨d,r,rfl,h1,h2⟩:=hasAllW_cons a3;obtain rfl:=hasAllW_nil h2;obtain ⟨xs,rfl,h3⟩:=hasW_list h1;obtain ⟨ns,rfl⟩:=items_int h3;have hlen:ns.length<=n:=by
  unfold OpenLaw.pre at hc;have h4:(WTm.not (.lt (.lit (.int (n:Int))) (.len (.arg 0)))).holds [] { args:=[.list (ns.map .int)] }=true:=by
   have h4:=(holds_andW hc).1;rw[hn]at h4;exact h4
  have h5:=condW_of h4 (w_not (w_lt w_lit (w_len_list (w_arg rfl))));rw[qA6]at h5;refine Nat.le_of_not_lt λq=>?_;have q':(n:Int)<((ns.length:Nat):Int):=ox
  first
   | (rw[qO8 q']at h5;exact absurd h5 Qz)
   | (simp at h5;omega)
 cases a0 with
 | cons w1 w2=>
  cases w2;cases w1 with
  |list ho O=>exact ⟨_,_,ns,rfl,rfl,ho,ge ns _ O,hlen⟩
def sD (l:OpenLaw) (args:List WData):l.row.toRowW.claim.post args (.bool true) args=true:=
 postW_of (r:=l.row.toRowW) (X:=(true == true))
  (show WShape.has [] (.bool true) .bool=true by first|rfl|decide|simp [WShape.has,WShape.arms,WShape.armsAll])
  (show (WTm.eq .res (.lit (.bool true))).value [] { args:=args,res:=some (.bool true),after:=args }=some (.bool (true == true)) from w_eq_bool (w_res rfl) w_lit) rfl
end Att
namespace L2
open PySem PySem.Spec PyProof.Rows
def qY:∀{vs:List Value}{ns:List Int},IntsAre vs ns->Vals (ns.map V.int) vs:=by
 intro vs ns h
 induction h with
 |nil=>exact .nil
 |cons n t h I=>exact .cons ⟨t,rfl⟩ I
def qQ (H:Hp):Prop:=∀b,H b=none\/(∃o xs,H b=some (.frz o (.lst xs)))\/∃k,H b=some (.tbl k)
def EA {α O:Type} [BEq α] [LawfulBEq α]:∀{l:List (α×O)}{n:α}{c:O},l.lookup n=some c->(n,c)∈l
 | (k,v)::r,n,c,h=>by
  rw[qF8]at h;cases I:n == k with
  |true=>rw[I]at h;cases h;rw[beq_iff_eq.mp I];exact qB2
  |false=>rw[I]at h;exact qA8 _ (EA h)
def wS {K:Frag}(KX:K.In s₁.heap) (a8:s₁.heap.Ns mainGlobals mg) (hb:s₁.heap.Ns builtinsNs mb) (cc:∀x:Str,x ≠ "__name__" -> mb x=bootBuiltins x) (a6:s₁.heap.NoLimit) (hg:s₁.gens=#[]) (c0:∃bm o,mg "__builtins__" = some (.ref bm)/\bm≠builtinsNs/\s₁.heap.get? bm=some o/\o.cls=.type "module" /\ o.dict=some builtinsNs/\o.data=.plain) (hT:∀p∈lamT,s₁.heap.get? p.1=some { cls:=.none,data:=.fields #[] }/\isCodeTable s₁.heap p.1/\K.lookup p.1=none/\lamT.lookup p.1=some p.2) (ha:s₁.heap.get? a=some { cls:=.type "list",data:=.seq vs.toArray }) (hi:IntsAre vs ns) (hl:ns.length<=sizeLine) (hr:Room k callerA) (F:∀base:Heap,K.In base->base.Ns mainGlobals mg->FnOk P w K mg base CX k fa fd [x] sp) (a5:∀(s:Shared) (u:Value),BindsTo s fd ⟨[u],[]⟩ [(x,u)]) (c3:∀H:Hp,qQ H->SqL K H a (ns.map V.int)->sp [.ref a] H (λv _=>v=.bl true) λ_ _ _=>False) (c5:∀H e s',CX [] H s₁ (λ_ _ _=>False) e s'->False):
  codeAny (model P w) callerA (.call (.ref fa) ⟨[.ref a],[]⟩) (λr s'=>r=.ok (.ret (.bool true))/\OldK s₁.heap s'.heap/\s'.os=s₁.os/\AllBare s'.gens) s₁:=by
 have rv:=qY hi;have ab:=hi.length;have O:∀b q,lamT.lookup b=some q->s₁.heap.get? b=some { cls:=.none,data:=.fields #[] }/\isCodeTable s₁.heap b/\K.lookup b=none:=λb q e=>by
  have hm:=EA e;exact ⟨(hT _ hm).1,(hT _ hm).2.1,(hT _ hm).2.2.1⟩
 -- from an abstract heap in which nothing but the script and the tables may be tracked
 have core:∀H:Hp,qQ H->SqL K H a (ns.map V.int)->HOk P w H s₁.heap->(∀b,H b≠none->b=a\/∃q,lamT.lookup b=some q)->(∀b,H b≠none->K.lookup b=none)->(∀b q,H b=some (.tbl q)->lamT.lookup b=some q)->(∀p∈lamT,H p.1=some (.tbl p.2)) ->
   codeAny (model P w) callerA (.call (.ref fa) ⟨[.ref a],[]⟩) (λr s'=>r=.ok (.ret (.bool true))/\OldK s₁.heap s'.heap/\s'.os=s₁.os/\AllBare s'.gens) s₁:=by
  intro H hO hS hok hA hK hB c2;have I:∀{b:Addr}{o:Obj},s₁.heap.get? b=some o->H b=none->(bu s₁.heap H).get? b=some o:=λe n=>xg e n;have b0:∀{b:Addr}{o:Obj},s₁.heap.get? b=some o->(∀its n,o.data≠.seq its n)->(∀ps,o.data≠.fields ps)->H b=none:=λ{b o} e d1 d2=>by
   cases q:H b with
   |none=>rfl
   | some u=>
    rcases hA b (by rw[q];simp) with e' |⟨y,e'⟩
    ·subst e';rw[ha]at e;cases e;exact absurd rfl (d1 _ _)
    ·rw [(O b y e').1]at e;cases e
     exact absurd rfl (d2 _)
  have c4:∀{b:Addr}{o:Obj}{es:Array DictEntry}{ep:Nat},s₁.heap.get? b=some o->o.data=.dict es ep->H b=none:=λ{b o es ep} e d=>b0 e (λ_ _ z=>by rw[d]at z;cases z) λ_ z=>by rw[d]at z;cases z
  have a0:∀{b:Addr}{m:Str->Option Value},s₁.heap.Ns b m->(bu s₁.heap H).Ns b m:=λ{b m} zz50=>by obtain ⟨o,es,ep,e,d,r⟩:=zz50;exact ⟨o,es,ep,I e (c4 e d),d,r⟩
  have a9:K.In (bu s₁.heap H):=λb o e=>I (KX b o e) (by
   cases q:H b with
   |none=>rfl
   |some u=>rw[hK b (by rw[q];simp)]at e;cases e)
  have hM:Mod K mg (bu s₁.heap H):=⟨a9,a0 a8,⟨mb,a0 hb,cc⟩,let ⟨mc,h1,h2⟩:=a6;⟨mc,a0 h1,h2⟩,let ⟨bm,o,b1,b2,b3,b4,b5,b6⟩:=c0;⟨bm,o,b1,b2,I b3 (b0 b3 (λ_ _ z=>by rw[b6]at z;cases z) λ_ z=>by rw[b6]at z;cases z),b4,b5,b6⟩⟩;have e0:qR P w K mg (bu s₁.heap H) callerA [] s₁ H:=⟨rfl,hM,λb o e=>Ai e,Nat.le_of_eq (ua _ _),trivial,λb hb=>absurd (show b∈([]:List Addr) from hb) Qy,hok,.of_eq hg,c2⟩;refine codeAny_mono ((F _ a9 (a0 a8)).run callerA [] s₁ H ⟨[.ref a],[]⟩ [.ref a] [.ref a] _ _ hr e0 (a5 s₁ (.ref a)) (.cons rfl .nil) (c3 H hO hS)) λr s' h=>?_;cases r with
  |error e=>exact (c5 H e s' h).elim
  | ok fl=>
   cases fl with
   |next=>exact False.elim h
   |brk=>exact False.elim h
   |cont=>exact False.elim h
   | ret u=>
    obtain ⟨v,H',os,bare,un,a3,r',q⟩:=h;have q':v=.bl true:=q;subst q';obtain rfl:u=Value.bool true:=r';have c1:∀b o,s₁.heap.get? b=some o->asItWas s₁.heap s'.heap b o:=λb o e=>by
     cases q:H b with
     |none=>exact .inl (un.keep b o e q (by intro z;exact absurd (show b∈([]:List Addr) from z) Qy) Qy)
     | some u=>
      rcases hO b with z|⟨ob,xs,z⟩|⟨y,z⟩
      ·rw[q]at z;cases z
      ·have z2:=un.frzs b ob _ z;obtain ⟨e1,_⟩:=hok b _ z;obtain ⟨e2,_⟩:=a3 b _ z2;rw[e]at e1;cases e1;exact .inl e2
      ·have z2:=un.tbls b _ z;obtain ⟨ps,e2,_⟩:=a3 b _ z2;obtain ⟨t1,t2,_⟩:=O b y (hB b y z);rw[t1]at e;cases e;exact .inr (.inl ⟨t2,rfl,#[],ps,rfl,by rw[e2];simp⟩)
    refine ⟨rfl,⟨c1,λb o e=>un.there b o e Qy⟩,os,bare⟩
 have a4:∀(H:Hp) b q,lamT.lookup b=some q->ObjOk P w H s₁.heap b (.tbl q):=λH b q e=>⟨#[],(O b q e).1,.inl rfl⟩;cases hk:K.lookup a with
 | some o=>
  -- the script is one of the module's own objects
  have e:=KX a o hk;rw[ha]at e;cases e;refine core (λb=>(lamT.lookup b).map .tbl) (λb=>?_) (.inr ⟨_,vs.toArray,_,hk,rfl,rfl,rfl,by rw[qB8,ab];exact hl,by simpa using rv⟩) (λb u z=>?_) (λb z=>?_) (λb z=>?_) (λb y z=>?_) λp hp=>?_
  ·cases q:lamT.lookup b with
   |none=>exact .inl (by show (lamT.lookup b).map HO.tbl=_;rw[q];rfl)
   |some y=>exact .inr (.inr ⟨y,by show (lamT.lookup b).map HO.tbl=_;rw[q];rfl⟩)
  ·obtain ⟨y,e1,rfl⟩:=qF9.mp z;exact a4 _ b y e1
  ·cases q:lamT.lookup b with
   |none=>exact absurd (by rw[q];rfl) z
   |some y=>exact .inr ⟨y,rfl⟩
  ·cases q:lamT.lookup b with
   |none=>exact absurd (by rw[q];rfl) z
   |some y=>exact (O b y q).2.2
  ·obtain ⟨y',e1,e2⟩:=qF9.mp z;cases e2;exact e1
  ·show (lamT.lookup p.1).map HO.tbl=_;rw[(hT p hp).2.2.2];rfl
 | none=>
  have na:∀b y,lamT.lookup b=some y->b≠a:=λb y e z=>by
   have:=(O b y e).1
   rw[z,ha]at this;cases this
  refine core (λb=>if b=a then some (.frz { cls:=.type "list",data:=.seq vs.toArray } (.lst (ns.map V.int))) else (lamT.lookup b).map .tbl) (λb=>?_) (.inl (.inr ⟨{ cls:=.type "list",data:=.seq vs.toArray },qA2 rfl⟩)) (λb u z=>?_) (λb z=>?_) (λb z=>?_) (λb y z=>?_) λp hp=>?_
  ·by_cases hb:b=a
   ·exact .inr (.inl ⟨_,_,qA2 hb⟩)
   ·dsimp only;rw[qA4 hb];cases q:lamT.lookup b with
    |none=>exact .inl rfl
    |some y=>exact .inr (.inr ⟨y,rfl⟩)
  ·by_cases hb:b=a
   ·have z':=(qA2 hb).symm.trans z;cases z';subst hb;exact ⟨ha,by rw[qA6];exact hl,vs,_,rv,ha⟩
   ·have z':=(qA4 hb).symm.trans z;obtain ⟨y,e1,rfl⟩:=qF9.mp z';exact a4 _ b y e1
  ·by_cases hb:b=a
   ·exact .inl hb
   ·cases q:lamT.lookup b with
    |none=>exact absurd (by rw[qA4 hb,q];rfl) z
    |some y=>exact .inr ⟨y,rfl⟩
  ·by_cases hb:b=a
   ·rw[hb];exact hk
   ·cases q:lamT.lookup b with
    |none=>exact absurd (by rw[qA4 hb,q];rfl) z
    |some y=>exact (O b y q).2.2
  ·by_cases hb:b=a
   ·have z':=(qA2 hb).symm.trans z;cases z'
   ·have z':=(qA4 hb).symm.trans z;obtain ⟨y',e1,e2⟩:=qF9.mp z';cases e2;exact e1
  ·have a7:=(hT p hp).2.2.2
   show (if p.1=a then _ else (lamT.lookup p.1).map HO.tbl)=_;rw[qA4 (na _ _ a7),a7];rfl
abbrev CX0:CXT:=λ_ _ _ _ _ _=>False
abbrev E0:XK:=λ_ _ _=>False
def pL:mU CX0 X E0:=λ_ _ _ _ _ _ _ h=>h.elim
structure Fun (K:Frag) (x qual:Str) (st:Stmt) (f:Addr) (fd:FuncData):Prop where
 ex:∃(oc:Value) (od:Option Addr) (kV doc pm:Value) (an:Option Addr) (cdv ct:Value) (osl:Array (Option Value)),
  fd=PySem.W.fnOf x qual (Q9 st) (C7 st) (c6 st) .none kV doc pm an cdv ct/\K.lookup f=some ⟨oc,od,.func fd,osl⟩/\PySem.W.codeIn K cdv qual=true
 kp:PySem.W.keepIn K (.ref f)=true
def Fun.ok {K:Frag}{st:Stmt}(F:Fun K x qual st f fd) (S:f8 N ps (c6 st)) (len:∀vs H Q E,sp vs H Q E->vs.length=ps.length) (I:∀(cdv:Value) (A:Around) (outer:List Env) (s:Shared) (H:Hp) (vs:List V) (Q:VK) (E:XK),Room k (A.deeper (envOfC qual (c6 st) s.heap.objs.size f cdv))->sp vs H Q E ->
   ∃t,PSs (ar CX0 P w K mg base N qual (c6 st) f cdv A outer s H E).nox (C7 st) t/\t { nx:=λ_ H'=>Q .non H',rt:=Q } (start N vs) H):FnOk P w K mg base CX0 (k+1) f fd ps sp:=by
 obtain ⟨oc,od,kV,doc,pm,an,cdv,ct,osl,rfl,lk,a0⟩:=F.ex;refine yz lk a0 S len λA outer s H vs Q E hr O=>?_;obtain ⟨t,h,q⟩:=I cdv A outer s H vs Q E hr O;exact ⟨t,h.nox,q⟩
def Fun.binds {K:Frag}{st:Stmt}(F:Fun K x qual st f fd) (h:∀(kV doc pm:Value) (an:Option Addr) (cdv ct:Value) (us:List Value),us.length=ps.length->bindArgs (PySem.W.fnOf x qual (Q9 st) (C7 st) (c6 st) .none kV doc pm an cdv ct) ⟨us,[]⟩=pure (ps.zip us)):Binds K fd ps []:=by
 obtain ⟨oc,od,kV,doc,pm,an,cdv,ct,osl,rfl,O,I⟩:=F.ex;exact .all (h kV doc pm an cdv ct)
def FI {K:Frag}{st:Stmt}{kV:Value}(l:K.lookup f=some ⟨oc,od,.func (PySem.W.fnOf x qual (Q9 st) (C7 st) (c6 st) .none kV doc pm an cdv ct),osl⟩)(c:PySem.W.codeIn K cdv qual=true)(k:PySem.W.keepIn K (.ref f)=true):Fun K x qual st f (PySem.W.fnOf x qual (Q9 st) (C7 st) (c6 st) .none kV doc pm an cdv ct):=⟨⟨oc,od,kV,doc,pm,an,cdv,ct,osl,rfl,l,c⟩,k⟩
def pv {X:Cx}(i:Nat){x:Str}{pos:Pos}(hN:X.N[i]?=some x:=by rfl)(O:Vis X.env.scope x:=by first|exact Or.inl rfl|exact Or.inr (Or.inl rfl)|exact Or.inr (Or.inr rfl))(hd:(x == ("__debug__" : Str))=false:=by decide)(I:(x == ("__classdict__" : Str))=false:=by decide):PE X (.Name x pos) (P8 i):=P0 hN O hd I
def Same (H H':Hp):Prop:=∀b o,H b=some o->H' b=some o
def Same.refl (H:Hp):Same H H:=λ_ _ h=>h
def Same.trans (a:Same H H1)(b:Same H1 H2):Same H H2:=λc o h=>b c o (a c o h)
def Same.free (e:Same H H') (h:H' l=Option.none):H l=Option.none:=by
 cases q:H l with
 |none=>rfl
 | some o=>
  rw[e l o q]at h;cases h
def Same.seq {K:Frag}(e:Same H H') (h:SqL K H a xs):SqL K H' a xs:=by
 rcases h with (h|⟨o,h⟩)|h
 ·exact .inl (.inl (e _ _ h))
 ·exact .inl (.inr ⟨o,e _ _ h⟩)
 ·exact .inr h
def Dk (h h':Heap):Prop:=∀b o,h.get? b=some o->∃o',h'.get? b=some o'/\o'.cls=o.cls/\o'.dict=o.dict
structure KD {α:Type}(t:Sem α):Prop where
 out:∀(M:Model) (Γ:PySem.Ctx) (P:α->Pos->Shared->Prop) (Ee:Value->Pos->Shared->Prop) (p:Pos) (s:Shared),
  Sem.wp M Γ t P Ee p s->Sem.wp M Γ t (λa p' s'=>P a p' s'/\Dk s.heap s'.heap) Ee p s
def cut (h:Heap)(fs:List Addr):Heap:={ h with objs:=h.objs.mapIdx λi o=>if i∈fs then { o with data:=.freed } else o }
section
variable {X:Cx}{pins:List (Addr×Obj)}{σ:St}{H H':Hp}{s s1:Shared}{a:Addr}{B:Heap}{cls:Value}{od:Option Addr}
structure Here (X:Cx) (pins:List (Addr×Obj)) (σ:St) (H':Hp) (a:Addr) (B:Heap) (cls:Value) (od:Option Addr) (s:Shared):Prop where
 inv:Inv X pins σ H' s
 dict:∃o,s.heap.get? a=some o/\o.dict=od
end
def tCatch (X:Cx) (C:Addr) (O:Nat) (tb:TS) (D:Ends) (σ:St):XK:=λcls od H'=>∃Dc,cls=.ref Dc/\PySem.W.exmOne X.K (.ref Dc) (.ref C)=some true /\
 ∀ (a:Addr) (o:Obj),H' a=none->o.cls=cls->o.dict=od->(∃vs:Array Value,o.data=.fields vs) ->
  tb { nx:=λI H'=>D.nx (I.set O none) H',rt:=D.rt,bk:=λI H'=>D.bk (I.set O none) H',ct:=λI H'=>D.ct (I.set O none) H' } (σ.set O (some (.ref a))) (upd H' a (.ext λh=>h.get? a=some o))
end L2
namespace L2
open PySem
structure Nx {α:Type}(t:Sem α):Prop where
 out:∀(M:Model) (Γ:PySem.Ctx) (P:α->Pos->Shared->Prop) (Ee Ef:Value->Pos->Shared->Prop) (p:Pos) (s:Shared),Sem.wp M Γ t P Ee p s->Sem.wp M Γ t P Ef p s
structure Po {α:Type}(t:Sem α) (pre:Shared->Prop) (post:α->Shared->Prop):Prop where
 out:∀(M:Model) (Γ:PySem.Ctx) (P:α->Pos->Shared->Prop) (Ee Ef:Value->Pos->Shared->Prop) (p:Pos) (s:Shared),
  pre s->Sem.wp M Γ t P Ee p s->Sem.wp M Γ t (λa p' s'=>P a p' s'/\post a s') Ef p s
def yO (v:Value)(i:Nat)(x:Value)(h:Heap):Prop:=∃(a:Addr)(o:Obj)(vs:Array Value),v=.ref a/\h.get? a=some o/\o.data=.fields vs/\vs[i]?=some x
def Marked (e:Value)(f:Addr)(h:Heap):Prop:=∃t,yO e 1 t h/\yO t 3 (rawInt f) h/\t≠.none
structure Free {α:Type}(t:Sem α):Prop where
 out:∀(M:Model) (Γ Γ':PySem.Ctx) (P P':α->Pos->Shared->Prop) (E E':Value->Pos->Shared->Prop) (p p':Pos) (s:Shared),(∀a p p' s,P a p s->P' a p' s)->(∀a p p' s,E a p s->E' a p' s)->Sem.wp M Γ t P E p s->Sem.wp M Γ' t P' E' p' s
end L2
namespace L2
open PySem PySem.Spec PyProof.Rows
section
variable {κ:Type} [DecidableEq κ]
def W4 (kvs:List (κ×V))(k:κ):Option V:=(kvs.find? λI=>decide (I.1=k)).map (·.2)
def putK (kvs:List (κ×V)) (k:κ) (v:V):List (κ×V):=
 if (kvs.any λI=>decide (I.1=k))=true then kvs.map (λI=>if I.1=k then (I.1,v) else I) else kvs ++ [(k,v)]
def dropK (kvs:List (κ×V))(k:κ):List (κ×V):=kvs.filter λI=>decide (I.1≠k)
def eG {p:κ×V}(e:p.1=k):W4 (p::r) k=some p.2:=by simp [W4,qL4,e]
def eJ {p:κ×V}(e:¬ p.1=k):W4 (p::r) k=W4 r k:=by simp [W4,qL4,e]
def eK (k:κ):∀kvs:List (κ×V),(kvs.any λI=>decide (I.1=k))=(W4 kvs k).isSome
 | []=>rfl
 | p::r=>by
  rw[qO4];by_cases e:p.1=k
  ·simp only [eG e,qO8 e,Bool.true_or,Option.isSome_some]
  ·rw[eJ e,qO7 e,Bool.false_or];exact eK k r
def ef (kvs:List (κ×V)) (k:κ) (v:V):(putK kvs k v).length<=kvs.length+1:=by
 unfold putK
 split
 ·rw[qA6];omega
 ·rw[qC6,qC5,qN2];omega
def RelO.isSome_eq (r:RelO o u):o.isSome=u.isSome:=by
 cases o with
 | none=>cases u with
  |none=>rfl
  |some _=>exact (show False from r).elim
 | some _=>cases u with
  |none=>exact (show False from r).elim
  |some _=>rfl
def KV.val (r:KV kvs vs) (k:κ):RelO (W4 kvs k) (valueAt vs k):=by
 unfold KV at r
 induction r with
 |nil=>exact True.intro
 | @cons p q ps O h t ih=>
  obtain ⟨h1,h2⟩:=h;by_cases e:p.1=k
  ·have I:q.1=k:=h1.symm.trans e;have b:valueAt (q::O) k=some q.2:=by simp [valueAt,qL4,I]
   rw[eG e,b];exact h2
  ·have I:¬ q.1=k:=λz=>e (h1.trans z);have b:valueAt (q::O) k=valueAt O k:=by simp [valueAt,qL4,I]
   rw[eJ e,b];exact ih
def KV.any (r:KV kvs vs) (k:κ):(kvs.any λI=>decide (I.1=k))=vs.any λI=>decide (I.1=k):=by
 unfold KV at r
 induction r with
 |nil=>rfl
 |cons h t O=>rw[qO4,qO4,O,h.1]
def KV.repl (r:KV kvs vs) (k:κ) (ry:RelV y u):
  KV (kvs.map λI=>if I.1=k then (I.1,y) else I) (vs.map λI=>if I.1=k then (I.1,u) else I):=by
 unfold KV at r ⊢
 induction r with
 |nil=>exact .nil
 | @cons p q ps qs h t ih=>
  rw[qC1,qC1];refine .cons ?_ ih;obtain ⟨O,h2⟩:=h;by_cases e:p.1=k
  ·rw[qA2 e,qA2 (O.symm.trans e)];exact ⟨O,ry⟩
  ·rw[qA4 e,qA4 (λz=>e (O.trans z))];exact ⟨O,h2⟩
def KV.put (r:KV kvs vs) (k:κ) (I:RelV y u):KV (putK kvs k y) (stored vs k u):=by
 unfold putK stored;rw[r.any k];by_cases e:(vs.any λO=>decide (O.1=k))=true
 ·rw[qA2 e,qA2 e];exact r.repl k I
 ·rw[qA4 e,qA4 e];exact Paired.snoc r ⟨rfl,I⟩
def KV.length {vs:List (κ×Value)}(r:KV kvs vs):kvs.length=vs.length:=Paired.length r
end
def qd (r:RelV (kV k) u):(z8 P w).is k u=true:=by
 cases k with
 |inl i=>obtain ⟨t,e⟩:=(show ∃t,u=Value.int i t from r);subst e;exact nq P w i t
 |inr x=>obtain ⟨t,e⟩:=(show ∃t,u=Value.str x t from r);subst e;exact no P w x t
def jo:∀{ks:List Key}{us:List Value},Vals (ks.map kV) us->ItemsAre (z8 P w) ks us
 | [],_,r=>by rw[qJ4]at r;cases r;exact .nil
 | k::ks,_,r=>by
  rw[qC1]at r;cases r with
  |cons h t=>exact .cons (qd h) (jo t)
abbrev KT (H:Hp):List (List Key×V)->List (List Key×Addr×Value)->Prop:=Paired λp q=>p.1=q.1/\H q.2.1=some (.tup (p.1.map kV))/\RelV p.2 q.2.2
def KT.val (r:KT H kvs xs) (k:List Key):RelO (W4 kvs k) ((atKey xs k).map (·.2)):=by
 induction r with
 |nil=>exact True.intro
 | @cons p q ps O h t ih=>
  obtain ⟨h1,_,h2⟩:=h;by_cases e:p.1=k
  ·have I:q.1=k:=h1.symm.trans e;have b:atKey (q::O) k=some q.2:=by simp [atKey,qL4,I]
   rw[eG e,b];exact h2
  ·have I:¬ q.1=k:=λz=>e (h1.trans z);have b:atKey (q::O) k=atKey O k:=by simp [atKey,qL4,I]
   rw[eJ e,b];exact ih
def KT.repl (r:KT H kvs xs) (k:List Key) (ry:RelV y u):
  KT H (kvs.map λO=>if O.1=k then (O.1,y) else O) (xs.map (putAt k u)):=by
 induction r with
 |nil=>exact .nil
 | @cons p q ps qs h t ih=>
  rw[qC1,qC1];refine .cons ?_ ih;obtain ⟨I,h2,h3⟩:=h;unfold putAt;by_cases e:p.1=k
  ·rw[qA2 e,qA2 (I.symm.trans e)];exact ⟨I,h2,ry⟩
  ·rw[qA4 e,qA4 (λz=>e (I.trans z))];exact ⟨I,h2,h3⟩
def KT.put (r:KT H kvs xs) (k:List Key) (hb:H b=some (.tup (k.map kV))) (I:RelV y u):
  KT H (putK kvs k y) (storedH xs k b u):=by
 have e:(kvs.any λO=>decide (O.1=k))=(atKey xs k).isSome:=by
  rw[eK,(r.val k).isSome_eq,Option.isSome_map]
 unfold putK storedH;rw[e];by_cases q:(atKey xs k).isSome=true
 ·rw[qA2 q,qA2 q];exact r.repl k I
 ·rw[qA4 q,qA4 q];exact Paired.snoc r ⟨rfl,hb,I⟩
def KT.keeps (r:KT H kvs xs) (I:∀b ys,H b=some (.tup ys)->H' b=some (.tup ys)):KT H' kvs xs:=
 Paired.mapP r λ_ _ z=>⟨z.1,I _ _ z.2.1,z.2.2⟩
def yf (ok:HOk P w H h)(e:Rd H a u):ObjOk P w H h a u:=e.ok ok
def yG (ok:HOk P w H h) (e:Rd H a (.dK kvs)):kvs.length<=sizeLine/\(a == sysModules)=false/\∃vs,KV kvs vs/\h.DictOf (z8 P w) a vs:=
 show ObjOk P w H h a (.dK kvs) from yf ok e
def Iz (ok:HOk P w H h)(e:H a=some (.dK kvs)):kvs.length<=sizeLine/\(a == sysModules)=false/\∃vs,KV kvs vs/\h.DictOf (z8 P w) a vs:=yG ok (.inl e)
def gd (ok:HOk P w H h) (e:H a=some (.tup (ks.map kV))):(tupleKind (z8 P w)).is h ks a:=by
 obtain ⟨_,its,r,o,h1,I,n,O⟩:=(show ObjOk P w H h a (.tup (ks.map kV)) from ok a _ e);exact ⟨o,its.toArray,n,h1,I,O,by simpa using jo r⟩
def yE (ok:HOk P w H h) (e:Rd H a (.dT kvs)):kvs.length<=sizeLine/\(a == sysModules)=false /\
  ∃xs,KT H kvs xs/\h.DictOfH (tupleKind (z8 P w)) a xs:=by
 obtain ⟨z,y,xs,r,o,es,ep,h1,h2,h3,h4,h5⟩:=(show ObjOk P w H h a (.dT kvs) from yf ok e);refine ⟨z,y,xs,r,o,es,ep,h1,h2,h3,h4,λx I=>?_,h5⟩;have all:∀{l:List (List Key×V)}{m:List (List Key×Addr×Value)},KT H l m->∀x∈m,(tupleKind (z8 P w)).is h x.1 x.2.1:=by
  intro l m q
  induction q with
  |nil=>intro x I;exact nomatch I
  | @cons p q ps qs O t ih=>
   intro x I;rcases qB3.mp I with e|I
   ·subst e;exact gd ok (by rw[<- O.1];exact O.2.1)
   ·exact ih x I
 exact all r x I
def yF (ok:HOk P w H h) (e:H a=some (.dT kvs)):kvs.length<=sizeLine/\(a == sysModules)=false /\
  ∃xs,KT H kvs xs/\h.DictOfH (tupleKind (z8 P w)) a xs:=yE ok (.inl e)
def DGet (H:Hp) (a:Addr) (y:V) (r:Option V):Prop:=
 (∃kvs k,Rd H a (.dK kvs)/\y=kV k/\r=W4 kvs k)\/∃kvs k b,Rd H a (.dT kvs)/\y=.ref b/\H b=some (.tup (k.map kV))/\r=W4 kvs k
def DPut (H:Hp) (a:Addr) (y v:V) (H':Hp):Prop:=
 (∃kvs k,H a=some (.dK kvs)/\y=kV k/\kvs.length<sizeLine/\H'=upd H a (.dK (putK kvs k v))) \/
 ∃kvs k b,H a=some (.dT kvs)/\y=.ref b/\H b=some (.tup (k.map kV))/\kvs.length<sizeLine/\H'=upd H a (.dT (putK kvs k v))
def DGet.t (e:H a=some (.dT kvs))(I:H b=some (.tup (k.map kV))):DGet H a (.ref b) (W4 kvs k):=.inr ⟨kvs,k,b,.inl e,rfl,I,rfl⟩
def DPut.t (e:H a=some (.dT kvs)) (O:H b=some (.tup (k.map kV))) (I:kvs.length<sizeLine):
  DPut H a (.ref b) v (upd H a (.dT (putK kvs k v))):=.inr ⟨kvs,k,b,e,rfl,O,I,rfl⟩
def Inv.big {σ:St}(I:Inv X pins σ H s):sysModules<s.heap.objs.size:=by
 have h:mainGlobals<s.heap.objs.size:=(I.mod.glob.keeps I.bk).lt;exact Nat.lt_trans Qz h
def d_in {σ:St}(hu:A.units+1<cLine) (I:Inv X pins σ H s) (g:DGet H a y o) (ry:RelV y u) (h:∀s',Inv X pins σ H s'->Q (.bool o.isSome) s'):
  wpAny (model X.prog X.w) A (compareOp .In u (.ref a)) Q E s:=by
 rcases g with ⟨kvs,k,e,ey,l⟩|⟨kvs,k,b,e,ey,eb,l⟩
 ·subst ey;obtain ⟨z,hd,vs,O,dd⟩:=yG I.hok e;refine wpAny_in_of (qd ry) hd dd.mapOf ?_;rw[<- (O.val k).isSome_eq,<- l];exact h _ (I.tok _)
 ·subst ey;cases (show u=Value.ref b from ry);obtain ⟨z,hd,xs,O,dd⟩:=yE I.hok e;refine wpAny_in_heap (tupleKind_room_in1 hu) (gd I.hok eb) hd dd ?_;have q:=(O.val k).isSome_eq;rw[Option.isSome_map]at q;rw[<- q,<- l];exact h _ (I.tok _)
def iJ {σ:St}(I:Inv X pins σ H s) (mu:Mut (H a)) (hs:Heap.SameBut a s.heap h') (he:∃q,h'.get? a=some q) (O:ObjOk X.prog X.w (upd H a ob) h' a ob):
  Inv X pins σ (upd H a ob) { s with heap:=h',toks:=t' }:=
 I.write (x:=a) (e:=a) mu (.inl rfl) (λb q hb z=>(hs.2 b hb).trans z) he O
def Gm (z:kvs.length<=sizeLine) (hd:(a == sysModules)=false) (I:KV kvs vs) (dd:h'.DictOf (z8 P w) a vs):
  ObjOk P w H' h' a (.dK kvs):=⟨z,hd,vs,I,dd⟩
def ur {σ:St}(hu:A.units+1<cLine) (I:Inv X pins σ H s) (g:DPut H a y v H') (ry:RelV y u) (rv:RelV v r) (h:∀s',Inv X pins σ H' s'->Q () s'):
  wpAny (model X.prog X.w) A (setItem (.ref a) u r) Q E s:=by
 rcases g with ⟨kvs,k,e,ey,l,eH⟩|⟨kvs,k,b,e,ey,eb,l,eH⟩
 ·subst ey eH;obtain ⟨z,hd,vs,O,dd⟩:=Iz I.hok e;have hz:vs.length<=sizeLine:=by rw[<- O.length];exact z
  have hl:(putK kvs k v).length<=sizeLine:=by have:=ef kvs k v;omega
  refine wpAny_setItem_pairs (hsz:=hz) (qd ry) dd λh' a0 hs=>h _ ?_;have he:∃q,h'.get? a=some q:=let ⟨q,_,_,hq,_⟩:=a0;⟨q,hq⟩;exact iJ I (by rw[e];exact True.intro) hs he (Gm hl hd (O.put k rv) a0)
 ·subst ey eH;cases (show u=Value.ref b from ry);obtain ⟨z,hd,xs,O,dd⟩:=yF I.hok e;have hz:xs.length<=sizeLine:=by rw[<- Paired.length O];exact z
  have hl:(putK kvs k v).length<=sizeLine:=by have:=ef kvs k v;omega
  refine wpAny_setItem_heap (hsz:=hz) (tupleKind_room_in1 hu) (gd I.hok eb) dd λh' a0 hs=>h _ ?_;obtain ⟨q,es,ep,hq,h2,h3,h4,_,h5⟩:=a0;refine iJ I (by rw[e];exact True.intro) hs ⟨q,hq⟩ ⟨hl,hd,_,(O.put k eb rv).keeps λc ys ec=>?_,q,es,ep,hq,h2,h3,h4,h5⟩;rw[c8 (yt ec e (λz=>nomatch z))];exact ec
def Cm (ty I:TE):TE:=λσ H Q=>ty σ H λy H1=>I σ H1 λx H2=>∃a o,x=.ref a/\DGet H2 a y o/\Q (.bl o.isSome) H2
def ye (td ty tv:TE):TS:=λD σ H=>tv σ H λv H1=>td σ H1 λx H2=>ty σ H2 λy O=>∃a I,x=.ref a/\DPut O a y v I/\D.nx σ I
def Eh (hu:X.A.units+1<cLine) (hi:PE X i ty) (ho:PE X o td):PC X .In i o (Cm ty td):=by
 intro pins s σ H Q I h;refine thn (hi pins s σ H _ I h) λiv s1 ⟨y,H1,I1,ry,q1⟩=>thn (ho pins s1 σ H1 _ I1 q1) λu s2 O=>?_;obtain ⟨x,H2,I2,rx,a,ov,ex,g,q2⟩:=O;subst ex;obtain rfl:u=Value.ref a:=rx;exact d_in hu I2 g ry λs3 I3=>⟨.bl ov.isSome,H2,I3,rfl,q2⟩
def zS (hu:X.A.units+1<cLine) (ho:PE X o td) (hi:PE X i ty) (hv:PE X value tv) (hs:swapsWith value (some (.Subscript o i pos')) pos.line X.env=pure false):
  PS X (.Assign [.Subscript o i pos'] value pos) (ye td ty tv):=by
 intro pins s σ H D I h;refine wpAny_Assign_Subscript (thn (hv pins s σ H _ I h) λr s1 ⟨v,H1,I1,rv,q1⟩=>thn (ho pins s1 σ H1 _ I1 q1) λu s2 ⟨x,H2,I2,rx,q2⟩=>thn (hi pins s2 σ H2 _ I2 q2) λiv s3 O=>?_) hs;obtain ⟨y,H3,I3,ry,a,H4,ex,g,q3⟩:=O;subst ex;obtain rfl:u=Value.ref a:=rx;exact ur hu I3 g ry rv λs4 I4=>⟨σ,H4,I4,q3⟩
def xB (h:Heap) (I:sysModules<h.objs.size):ObjOk P w H (h.push { cls:=.type "dict",data:=.dict #[] }) h.objs.size (.dT []):=
 ⟨qD1 _,beq_eq_false_iff_ne.mpr (Ne.symm (qC8 I)),[],.nil,_,#[],0,qC2 _ rfl,⟨rfl,rfl,rfl⟩,rfl,rfl,List.nodup_nil⟩
end L2
namespace L2
open PySem
structure Sub where
 t:Bool
 i:Addr
 l:Addr
def Sub.At (u:Sub)(h:Heap)(n:Nat):Prop:=if u.t=true then h.IsTupleIter u.i u.l n else h.IsListIter u.i u.l n
def Sub.Src (u:Sub)(h:Heap)(xs:Array Value):Prop:=if u.t=true then h.IsTuple u.l xs else h.IsList u.l xs
def Sub.At.obj {u:Sub}(x:u.At h n):∃o,h.get? u.i=some o/\o.data=.fields #[.ref u.l,.int n 0]:=by
 unfold Sub.At at x
 split at x <;> (obtain ⟨o,e,_,d⟩:=x;exact ⟨o,e,d⟩)
def Sub.At.keep {u:Sub}(x:u.At h n) (k:∀o,h.get? u.i=some o->h'.get? u.i=some o):u.At h' n:=by
 unfold Sub.At at x ⊢
 split at x <;> (rename_i ht;obtain ⟨o,e,r⟩:=x;simp only [ht,qP0,qP1,qD4];exact ⟨o,k o e,r⟩)
def Sub.Src.keep {u:Sub}(x:u.Src h xs) (k:∀o,h.get? u.l=some o->h'.get? u.l=some o):u.Src h' xs:=by
 unfold Sub.Src at x ⊢
 split at x <;> (rename_i ht;obtain ⟨o,e,r⟩:=x;simp only [ht,qP0,qP1,qD4];exact ⟨o,k o e,r⟩)
def fX (I:s.heap.IsTupleIter it t i) (ht:s.heap.IsTuple t items) (hx:items[i]?=some x) (hQ:∀h',h'.IsTupleIter it t (i+1)->Heap.SameBut it s.heap h'->Q x { s with heap:=h' }):wpAny (model prog w) A (Builtin.SmallTypes.nextOf (.ref it)) Q E s:=by
 obtain ⟨o,O,hc,hd⟩:=id I;obtain ⟨ol,a0,_,nl,a3⟩:=ht;unfold Builtin.SmallTypes.nextOf;refine qA1 (qP9 (name:=Str.ofString "__next__") I.typeIs qK8 (qQ1 qK8 I.typeIs F.entry_tuple_iterator_next ?_ (F.args_tuple_iterator_next_1 _)))
 show wpAny _ _ (field (.ref it) 0>>=_) _ _ s;refine qA1 (qP4 O hd (x:=.ref t) rfl ?_)
 show wpAny _ _ (if (Value.ref t == Value.none)=true then _ else _) _ _ s;rw[qA4 (show ¬ ((Value.ref t == Value.none)=true) from qA9)]
 show wpAny _ _ (field (.ref it) 1>>=_) _ _ s;refine qA1 (qP4 O hd (x:=.int i 0) rfl ?_)
 show wpAny _ _ (seqItems? (.ref t)>>=_) _ _ s;refine qA1 (qP8 a0 a3 ?_);simp only [qD9,hx];refine qA1 (wpAny_setField O hd Qy (qO6 ⟨x,rfl,qO6 (hQ _ ?_ (qJ9 ..))⟩));exact ⟨_,qK4 _ O (Obj.isFreed_of_fields (Obj.data_mapFields hd _)),(Obj.cls_mapFields ..).trans hc,by rw[Obj.data_mapFields hd];simp [rawInt]⟩
def ip (hh:A.handled=none) (I:s.heap.IsTupleIter it t i) (ht:s.heap.IsTuple t items) (hx:items[i]?=none) (hE:∀h' e,Heap.ExtBut it s.heap h'->(∃o,h'.get? e=some o/\o.cls=.type "StopIteration")->E (.ref e) { s with heap:=h' }):wpAny (model prog w) A (Builtin.SmallTypes.nextOf (.ref it)) Q E s:=by
 obtain ⟨o,O,hc,hd⟩:=id I;obtain ⟨ol,a0,_,nl,a3⟩:=ht;unfold Builtin.SmallTypes.nextOf;refine qA1 (qP9 (name:=Str.ofString "__next__") I.typeIs qK8 (qQ1 qK8 I.typeIs F.entry_tuple_iterator_next ?_ (F.args_tuple_iterator_next_1 _)))
 show wpAny _ _ (field (.ref it) 0>>=_) _ _ s;refine qA1 (qP4 O hd (x:=.ref t) rfl ?_)
 show wpAny _ _ (if (Value.ref t == Value.none)=true then _ else _) _ _ s;rw[qA4 (show ¬ ((Value.ref t == Value.none)=true) from qA9)]
 show wpAny _ _ (field (.ref it) 1>>=_) _ _ s;refine qA1 (qP4 O hd (x:=.int i 0) rfl ?_)
 show wpAny _ _ (seqItems? (.ref t)>>=_) _ _ s;refine qA1 (qP8 a0 a3 ?_);simp only [qD9,hx];refine qA1 (qS3 (qA1 (wpAny_setField O hd Qy ?_)));show wpAny _ _ (newExc (.type "StopIteration") []>>=_) _ _ _;refine qA1 ?_;simp only [newExc,newTuple];refine qA1 (qP5 ?_ (by size_fits));refine qA1 (m:=firstArgMember _ _) (wpAny_of_eq (a:=Value.none) (by first|rfl | (simp only [firstArgMember];rfl)) ?_);refine qP5 ?_ (by size_fits);simp only [raiseNew];refine qA1 (wpAny_handled ?_);first|rw[show A.in1.handled=none from hh] |rw[hh]
 refine qA1 (qO6 (wpAny_throw ?_));exact hE _ _ (((qJ9 ..).extBut.push _).push _) ⟨_,qC2 _ rfl,rfl⟩
def Sub.item {u:Sub}(ha:u.At s.heap n) (O:u.Src s.heap xs) (hx:xs[n]?=some x) (I:∀h',u.At h' (n+1)->Heap.SameBut u.i s.heap h'->Q x { s with heap:=h' }):wpAny (model prog w) A (Builtin.SmallTypes.nextOf (.ref u.i)) Q E s:=by
 unfold Sub.At at ha I;unfold Sub.Src at O;cases ht:u.t with
 |true=>simp only [ht,qP0]at ha O I;exact fX ha O hx I
 |false=>simp only [ht,qP1,qD4]at ha O I;exact wpAny_nextOf_list_item ha O hx I
def Sub.ends {u:Sub}(hh:A.handled=none) (ha:u.At s.heap n) (I:u.Src s.heap xs) (O:xs[n]?=none) (hE:∀h' e,Heap.ExtBut u.i s.heap h'->(∃o,h'.get? e=some o/\o.cls=.type "StopIteration")->E (.ref e) { s with heap:=h' }):wpAny (model prog w) A (Builtin.SmallTypes.nextOf (.ref u.i)) Q E s:=by
 unfold Sub.At at ha;unfold Sub.Src at I;cases ht:u.t with
 |true=>simp only [ht,qP0]at ha I;exact ip hh ha I O hE
 |false=>simp only [ht,qP1,qD4]at ha I;exact wpAny_nextOf_list_end hh ha I O hE
abbrev E4 (h:Heap)(T:Addr)(arr:Array Value):Prop:=h.get? T=some { cls:=.type "tuple",data:=.seq arr }
def drawn (n:Nat):List (Sub×Array Value)->Nat->Array Value->Array Value
 | [],_,arr=>arr
 |u::r,c,arr=>drawn n r (c+1) (arr.setIfInBounds c (u.2.getD n .none))
def yP (prog:Program) (w:World) (A:Around) (z TO:Addr) (E:Value->Shared->Prop) (B:Value×Nat->Option Fin×Unit->Sem (ForInStep (Option Fin×Unit))):Prop:=
 ∀ (v:Value) (k:Nat) (s:Shared) (Q:ForInStep (Option Fin×Unit)->Shared->Prop),
  wpAny (model prog w) A (Builtin.SmallTypes.nextOf v) (λx s1=>∃arr,E4 s1.heap TO arr/\arr.size<=sizeLine/\∀h',E4 h' TO (arr.setIfInBounds k x)->Heap.SameBut TO s1.heap h'->Q (.yield (none,())) { s1 with heap:=h' })
   (λe s1=>wpAny (model prog w) A (setField (.ref z) 0 .none) (λ_ s2=>E e s2) E s1) s->wpAny (model prog w) A (B (v,k) (none,())) Q E s
structure Apart (z TO:Addr) (ss:List (Sub×Array Value)):Prop where
 zTO:z≠TO
 zi:∀u∈ss,u.1.i≠z
 ti:∀u∈ss,u.1.i≠TO
 nd:ss.Pairwise λu v=>u.1.i≠v.1.i
 lz:∀u∈ss,u.1.l≠z
 lt:∀u∈ss,u.1.l≠TO
 li:∀u∈ss,∀v∈ss,u.1.l≠v.1.i
def Apart.tail {TO:Addr}(D:Apart z TO (u::ss)):Apart z TO ss:=
 ⟨D.zTO,λv I=>D.zi v (qA8 _ I),λv I=>D.ti v (qA8 _ I),(qR9.mp D.nd).2,λv I=>D.lz v (qA8 _ I),λv I=>D.lt v (qA8 _ I),
  λv I x O=>D.li v (qA8 _ I) x (qA8 _ O)⟩
def draws {TI TO:Addr}(hB:yP prog w A z TO E B):
  ∀ (ss:List (Sub×Array Value)) (c:Nat) (arr:Array Value) (s:Shared) (Q:Option Fin×Unit->Shared->Prop),Apart z TO ss->IsZip s.heap z TI TO .ellipsis->E4 s.heap TO arr->arr.size<=sizeLine ->
   (∀u∈ss,u.1.At s.heap n/\u.1.Src s.heap u.2/\∃x,u.2[n]?=some x) ->
   (∀ h',IsZip h' z TI TO .ellipsis->E4 h' TO (drawn n ss c arr)->(∀u∈ss,u.1.At h' (n+1))->h'.objs.size=s.heap.objs.size ->
    (∀b o,b≠TO->(∀u∈ss,b≠u.1.i)->s.heap.get? b=some o->h'.get? b=some o)->Q (none,()) { s with heap:=h' }) ->
   wpAny (model prog w) A (forIn ((ss.map λu=>Value.ref u.1.i).zipIdx c) (none,()) B) Q E s:=by
 intro ss
 induction ss with
 | nil=>
  intro c arr s Q D hz hT hl hu hQ;simp only [qJ4,List.zipIdx_nil,qM1];exact qO6 (hQ s.heap hz hT (λ_ h=>absurd h qE1) rfl λ_ _ _ _ e=>e)
 | cons u r ih=>
  intro c arr s Q D hz hT hl hu hQ;simp only [qC1,List.zipIdx_cons,qK5];obtain ⟨ha,a4,x,hx⟩:=hu u qB2;refine qA1 (hB _ _ _ _ (Sub.item ha a4 hx λh1 a6 sb1=>⟨arr,sb1.extBut _ _ (D.ti u qB2).symm hT,hl,λO a7 sb2=>?_⟩));have uz:=D.zi u qB2;have ut:=D.ti u qB2;have kp:∀b o,b≠TO->b≠u.1.i->s.heap.get? b=some o->O.get? b=some o:=λb o h1 O e=>sb2.extBut _ _ h1 (sb1.extBut _ _ O e);have a0:∀v∈r,v.1.i≠u.1.i:=λv I=>((qR9.mp D.nd).1 v I).symm;refine ih (c+1) (arr.setIfInBounds c x) { s with heap:=O } Q D.tail (kp _ _ D.zTO uz.symm hz) a7 (by simpa using hl) (λv I=>?_) λh3 z3 T3 a3 s3 k3=>?_
  ·obtain ⟨a,b,y⟩:=hu v (qA8 _ I);exact ⟨a.keep λo e=>kp _ o (D.ti v (qA8 _ I)) (a0 v I) e,b.keep λo e=>kp _ o (D.lt v (qA8 _ I)) (D.li v (qA8 _ I) u qB2) e,y⟩
  ·refine hQ h3 z3 ?_ (λv I=>?_) (by rw[s3];show O.objs.size=_;rw[sb2.1,sb1.1]) λb o h1 O e=>k3 b o h1 (λv I=>O v (qA8 _ I)) (kp b o h1 (O u qB2) e)
   ·have e:u.2.getD n .none=x:=by simp [qF6,hx]
    show E4 h3 TO (drawn n r (c+1) (arr.setIfInBounds c (u.2.getD n .none)));rw[e];exact T3
   ·rcases qB3.mp I with rfl|I
    ·exact a6.keep λo e=>k3 _ o ut (λv' a5=>(a0 v' a5).symm) (sb2.extBut _ _ ut e)
    ·exact a3 v I
def ui {TI TO:Addr}(hh:A.handled=none) (hB:yP prog w A z TO E B):
  ∀ (ss:List (Sub×Array Value)) (c:Nat) (arr:Array Value) (s:Shared) (Q:Option Fin×Unit->Shared->Prop),Apart z TO ss->IsZip s.heap z TI TO .ellipsis->E4 s.heap TO arr->arr.size<=sizeLine ->
   (∀u∈ss,u.1.At s.heap n/\u.1.Src s.heap u.2)->(∃u∈ss,u.2[n]?=none) ->
   (∀h' e,(∀b o,b≠z->b≠TO->(∀u∈ss,b≠u.1.i)->s.heap.get? b=some o->h'.get? b=some o)->(∃o,h'.get? e=some o/\o.cls=.type "StopIteration")->E (.ref e) { s with heap:=h' }) ->
   wpAny (model prog w) A (forIn ((ss.map λu=>Value.ref u.1.i).zipIdx c) (none,()) B) Q E s:=by
 intro ss
 induction ss with
 | nil=>
  intro c arr s Q D hz hT hl hu hx hQ;obtain ⟨_,h,_⟩:=hx;exact absurd h qE1
 | cons u r ih=>
  intro c arr s Q D hz hT hl hu hx hQ;simp only [qC1,List.zipIdx_cons,qK5];obtain ⟨ha,O⟩:=hu u qB2;have uz:=D.zi u qB2;have ut:=D.ti u qB2;cases a0:u.2[n]? with
  | none=>
   refine qA1 (hB _ _ _ _ (Sub.ends hh ha O a0 λh1 e eb he=>?_));obtain ⟨oe,a3,a5⟩:=he;have a4:IsZip h1 z TI TO .ellipsis:=eb _ _ uz.symm hz;have a7:e≠z:=λx=>by subst x;rw[a4]at a3;cases a3;simp at a5
   exact qQ6 a4 Qy λh3 _ sb3=>hQ h3 e (λb o b1 b2 b3 q=>sb3.extBut _ _ b1 (eb _ _ (b3 u qB2) q)) ⟨oe,sb3.extBut _ _ a7 a3,a5⟩
  | some x=>
   refine qA1 (hB _ _ _ _ (Sub.item ha O a0 λh1 a9 sb1=>⟨arr,sb1.extBut _ _ ut.symm hT,hl,λh2 a8 sb2=>?_⟩));have kp:∀b o,b≠TO->b≠u.1.i->s.heap.get? b=some o->h2.get? b=some o:=λb o h1 h2 e=>sb2.extBut _ _ h1 (sb1.extBut _ _ h2 e);have a6:∀v∈r,v.1.i≠u.1.i:=λv I=>((qR9.mp D.nd).1 v I).symm;refine ih (c+1) (arr.setIfInBounds c x) { s with heap:=h2 } Q D.tail (kp _ _ D.zTO uz.symm hz) a8 (by simpa using hl) (λv I=>?_) ?_ λh3 e k3 he=>?_
   ·obtain ⟨a,b⟩:=hu v (qA8 _ I);exact ⟨a.keep λo e=>kp _ o (D.ti v (qA8 _ I)) (a6 v I) e,b.keep λo e=>kp _ o (D.lt v (qA8 _ I)) (D.li v (qA8 _ I) u qB2) e⟩
   ·obtain ⟨v,I,e⟩:=hx;rcases qB3.mp I with rfl|I
    ·rw[a0]at e;cases e
    ·exact ⟨v,I,e⟩
   ·exact hQ h3 e (λb o b1 b2 b3 q=>k3 b o b1 b2 (λv I=>b3 v (qA8 _ I)) (kp b o b2 (b3 u qB2) q)) he
def qt (n:Nat):∀(ss:List (Sub×Array Value)) (c:Nat) (arr:Array Value),(drawn n ss c arr).size=arr.size:=by
 intro ss
 induction ss with
 |nil=>intro c arr;rfl
 |cons u r I=>intro c arr;unfold drawn;rw[I];simp
def uj (n:Nat):∀(ss:List (Sub×Array Value)) (c:Nat) (arr:Array Value),c+ss.length=arr.size->(drawn n ss c arr).toList=arr.toList.take c++ss.map λu=>u.2.getD n .none:=by
 intro ss
 induction ss with
 | nil=>
  intro c arr h;unfold drawn;simp at h;subst h;rw[qJ4,qG3];exact (List.take_of_length_le Qy).symm
 | cons u r I=>
  intro c arr h;unfold drawn;have hc:c<arr.size:=by simp at h;omega
  rw[I (c+1) _ (by simp at h ⊢;omega)];rw[qC1,Array.toList_setIfInBounds]
  have:(arr.toList.set c (u.2.getD n Value.none)).take (c+1)=arr.toList.take c ++ [u.2.getD n Value.none]:=by
   rw[qV6,List.take_set,qG2 (by simpa using hc)];rw[List.set_eq_of_length_le (by simp;omega)];rfl
  rw[this,qL0];rfl
def uX {TI TO:Addr}(D:Apart z TO ss) (a6:ss ≠ []) (hsz:arr.size=ss.length) (O:ss.length<=sizeLine) (hz:IsZip s.heap z TI TO .none) (a5:E4 s.heap TI (ss.map λu=>Value.ref u.1.i).toArray) (a4:E4 s.heap TO arr) (hu:∀u∈ss,u.1.At s.heap n/\u.1.Src s.heap u.2/\∃x,u.2[n]?=some x) (hQ:∀h',IsZip h' z TI TO (rawInt s.heap.objs.size)->(∃arr',E4 h' TO arr'/\arr'.size=ss.length)->(∀u∈ss,u.1.At h' (n+1))->E4 h' s.heap.objs.size (ss.map λu=>u.2.getD n .none).toArray ->
   (∀b o,b≠z->b≠TO->(∀u∈ss,b≠u.1.i)->s.heap.get? b=some o->h'.get? b=some o)->Q (some (.ref s.heap.objs.size)) { s with heap:=h' }):
  wpAny (model prog w) A (pyNext (.ref z)) Q E s:=by
 have hT:s.TypeIs (.ref z) "zip" := ⟨_,hz,rfl⟩;unfold pyNext;refine qA1 (wpAny_attempt (qP9 (name:=Str.ofString "__next__") hT qU4 (qQ1 qU4 hT F.entry_zip_next ?_ (F.args_zip_next_1 _))))
 show wpAny _ _ (field (.ref z) 2>>=_) _ _ _;refine qA1 (qP4 hz rfl (x:=.bool false) rfl ?_)
 show wpAny _ _ (field (.ref z) 3>>=_) _ _ _;refine qA1 (qP4 hz rfl (x:=.ref TI) rfl ?_);refine qA1 (qP8 a5 rfl ?_);have e1:(ss.map λu=>Value.ref u.1.i).toArray.isEmpty=false:=by cases ss <;> simp_all
 simp only [e1];refine qA1 ?_;unfold Builtin.SmallTypes.ownedTupleIsFree;refine qA1 (qP4 hz rfl (x:=.none) rfl (qO6 ?_));simp only [qP0];refine qA1 (qS3 ?_);refine qA1 (qP4 hz rfl (x:=.ref TO) rfl ?_);refine qA1 (qQ6 hz Qy λh1 z1 sb1=>?_);replace z1:IsZip h1 z TI TO .ellipsis:=z1
 refine qA1 (draws (TI:=TI) (n:=n) (z:=z) (TO:=TO) ?_ ss 0 arr _ _ D z1 (sb1.extBut _ _ D.zTO.symm a4) ox (λu hm=>?_) λI z2 T2 a2 s2 k2=>?_)
 ·intro v k s Q h;refine qA1 (wpAny_onRaise ?_)
  show wpAny _ _ (Builtin.SmallTypes.nextOf v>>=_) _ _ _;refine qA1 (qP7 h (λx s1 ⟨arr,hT1,hl,hq⟩=>qO6 ?_) λe s1 he=>he);refine qA1 (qP8 hT1 rfl ?_);refine qA1 (qQ7 hT1 rfl ?_ hl (by rw[Array.size_setIfInBounds];omega));refine qA1 (qQ9 (qO6 (hq _ ?_ (qJ9 ..))))
  show Heap.get? _ _=_;rw[qK4 _ hT1 rfl];simp [Obj.mapSeq]
 ·obtain ⟨a,b,x⟩:=hu u hm;exact ⟨a.keep λo e=>sb1.extBut _ _ (D.zi u hm) e,b.keep λo e=>sb1.extBut _ _ (D.lz u hm) e,x⟩
 ·have ed:(drawn n ss 0 arr).toList=ss.map λu=>u.2.getD n .none:=by rw[uj n ss 0 arr ox];simp
  refine qA1 (qP8 T2 rfl ?_);have a0:I.objs.size=s.heap.objs.size:=by rw[s2];exact sb1.1
  have a3:z<I.objs.size:=qB4 z2;refine qA1 (qS4 (qA1 ?_) (by rw[ed,qA6];exact O));unfold Builtin.SmallTypes.ownedTupleHandOut;have z3:IsZip (I.push { cls:=.type "tuple",data:=.seq (drawn n ss 0 arr).toList.toArray }) z TI TO .ellipsis:=qA5 _ z2;refine qA1 (qQ6 z3 Qy λh4 z4 sb4=>?_);replace z4:IsZip h4 z TI TO (rawInt I.objs.size):=z4
  refine qQ6 z4 Qy λh5 z5 sb5=>?_;replace z5:IsZip h5 z TI TO (rawInt I.objs.size):=z5
  have up:∀b o,b≠z->I.get? b=some o->h5.get? b=some o:=λb o hb e=>sb5.extBut _ _ hb (sb4.extBut _ _ hb (qA5 _ e));have T5:E4 h5 I.objs.size (drawn n ss 0 arr).toList.toArray:=sb5.extBut _ _ (qJ3 a3) (sb4.extBut _ _ (qJ3 a3) (qC2 _ rfl));rw[ed]at T5;rw[a0]at z5 T5;refine qO6 ⟨_,rfl,qO6 ?_⟩
  show Q (some (.ref I.objs.size)) _;rw[a0];exact hQ h5 z5 ⟨_,up _ _ D.zTO.symm T2,by rw[qt,hsz]⟩ (λu hm=>(a2 u hm).keep λo e=>up _ o (D.zi u hm) e) T5 λb o b1 b2 b3 e=>up b o b1 (k2 b o b2 b3 (sb1.extBut _ _ b1 e))
def uW {TI TO:Addr}(hh:A.handled=none) (D:Apart z TO ss) (hsz:arr.size=ss.length) (a3:ss.length<=sizeLine) (hz:IsZip s.heap z TI TO .none) (a0:E4 s.heap TI (ss.map λu=>Value.ref u.1.i).toArray) (O:E4 s.heap TO arr) (hu:∀u∈ss,u.1.At s.heap n/\u.1.Src s.heap u.2) (hx:∃u∈ss,u.2[n]?=none) (hQ:∀h',(∀b o,b≠z->b≠TO->(∀u∈ss,b≠u.1.i)->s.heap.get? b=some o->h'.get? b=some o)->Q none { s with heap:=h' }):
  wpAny (model prog w) A (pyNext (.ref z)) Q E s:=by
 have hT:s.TypeIs (.ref z) "zip" := ⟨_,hz,rfl⟩;unfold pyNext;refine qA1 (wpAny_attempt (qP9 (name:=Str.ofString "__next__") hT qU4 (qQ1 qU4 hT F.entry_zip_next ?_ (F.args_zip_next_1 _))))
 show wpAny _ _ (field (.ref z) 2>>=_) _ _ _;refine qA1 (qP4 hz rfl (x:=.bool false) rfl ?_)
 show wpAny _ _ (field (.ref z) 3>>=_) _ _ _;refine qA1 (qP4 hz rfl (x:=.ref TI) rfl ?_);refine qA1 (qP8 a0 rfl ?_);have e1:(ss.map λu=>Value.ref u.1.i).toArray.isEmpty=false:=by
  obtain ⟨u,hm,_⟩:=hx;cases ss with
  |nil=>exact nomatch hm
  |cons a b=>simp
 simp only [e1];refine qA1 ?_;unfold Builtin.SmallTypes.ownedTupleIsFree;refine qA1 (qP4 hz rfl (x:=.none) rfl (qO6 ?_));simp only [qP0];refine qA1 (qS3 ?_);refine qA1 (qP4 hz rfl (x:=.ref TO) rfl ?_);refine qA1 (qQ6 hz Qy λh1 I sb1=>?_);replace I:IsZip h1 z TI TO .ellipsis:=I
 refine qA1 (ui (A:=A.in1) (TI:=TI) (n:=n) (z:=z) (TO:=TO) (show A.in1.handled=none from hh) ?_ ss 0 arr _ _ D I (sb1.extBut _ _ D.zTO.symm O) ox (λu hm=>?_) hx λh2 e k2 he=>?_)
 ·intro v k s Q h;refine qA1 (wpAny_onRaise ?_)
  show wpAny _ _ (Builtin.SmallTypes.nextOf v>>=_) _ _ _;refine qA1 (qP7 h (λx s1 ⟨arr,hT1,hl,hq⟩=>qO6 ?_) λe s1 he=>he);refine qA1 (qP8 hT1 rfl ?_);refine qA1 (qQ7 hT1 rfl ?_ hl (by rw[Array.size_setIfInBounds];omega));refine qA1 (qQ9 (qO6 (hq _ ?_ (qJ9 ..))))
  show Heap.get? _ _=_;rw[qK4 _ hT1 rfl];simp [Obj.mapSeq]
 ·obtain ⟨a,b⟩:=hu u hm;exact ⟨a.keep λo e=>sb1.extBut _ _ (D.zi u hm) e,b.keep λo e=>sb1.extBut _ _ (D.lz u hm) e⟩
 ·obtain ⟨o,ho,hc⟩:=he;refine qA1 (wpAny_isInstance (T := "StopIteration") (b:=true) ⟨o,ho,hc⟩ isSubtype_stop ?_);exact qO6 (hQ _ λb o b1 b2 b3 e=>k2 b o b1 b2 b3 (sb1.extBut _ _ b1 e))
def SrcAt (h:Heap)(u:Bool×Addr×Array Value):Prop:=if u.1=true then h.IsTuple u.2.1 u.2.2 else h.IsList u.2.1 u.2.2
def j3 (n:Nat):List (Bool×Addr×Array Value)->List (Sub×Array Value)
 | []=>[]
 |u::r=>(⟨u.1,n,u.2.1⟩,u.2.2)::j3 (n+1) r
def wX (I:SrcAt s.heap u) (hQ:∀h',(Sub.mk u.1 s.heap.objs.size u.2.1).At h' 0->h'.objs.size=s.heap.objs.size+1->(∀b o,s.heap.get? b=some o->h'.get? b=some o)->Q (.ref s.heap.objs.size) { s with heap:=h' }):
  wpAny (model prog w) A (pyIter (.ref u.2.1)) Q E s:=by
 unfold SrcAt at I;cases O:u.1 with
 | true=>
  simp only [O,qP0]at I;refine qS0 I (hQ _ ?_ (qI4 ..) λb o e=>qA5 _ e);unfold Sub.At;simp only [O,qP0];exact ⟨_,qC2 _ rfl,rfl,rfl⟩
 | false=>
  simp only [O,qD4,qP1]at I;refine qQ5 I (hQ _ ?_ (qI4 ..) λb o e=>qA5 _ e);unfold Sub.At;simp only [O,qD4,qP1];exact ⟨_,qC2 _ rfl,rfl,rfl⟩
def SrcAt.keep (x:SrcAt h u) (k:∀b o,h.get? b=some o->h'.get? b=some o):SrcAt h' u:=by
 unfold SrcAt at x ⊢
 split at x <;> (rename_i ht;obtain ⟨o,e,r⟩:=x;simp only [ht,qP0,qP1,qD4];exact ⟨o,k _ o e,r⟩)
def nu:∀(us:List (Bool×Addr×Array Value)) (I:Array Value) (s:Shared) (Q:Array Value->Shared->Prop),(∀u∈us,SrcAt s.heap u) ->
  (∀ h',(∀v∈j3 s.heap.objs.size us,v.1.At h' 0)->h'.objs.size=s.heap.objs.size+us.length->(∀b o,s.heap.get? b=some o->h'.get? b=some o) ->
   Q (I++((j3 s.heap.objs.size us).map λv=>Value.ref v.1.i).toArray) { s with heap:=h' }) ->
  wpAny (model prog w) A (forIn (us.map λu=>Value.ref u.2.1) I λx r=>do let y <- holding r.toList (pyIter x);pure (ForInStep.yield (r.push y))) Q E s:=by
 intro us
 induction us with
 | nil=>
  intro I s Q _ hQ;simp only [qJ4,qM1]
  have:=hQ s.heap (λ_ h=>absurd h qE1) rfl λ_ _ e=>e
  exact qO6 (by simpa [j3]using this)
 | cons u r ih=>
  intro I s Q hs hQ;simp only [qC1,qK5];refine qA1 (qA1 (qP2 (wX (hs u qB2) λO a1 s1 k1=>qO6 ?_)));refine ih (I.push (.ref s.heap.objs.size)) { s with heap:=O } Q (λv hv=>(hs v (qA8 _ hv)).keep k1) λh2 a2 s2 k2=>?_;have e0:j3 O.objs.size r=j3 (s.heap.objs.size+1) r:=by rw[s1]
  have q:=hQ h2 (λv hv=>?_) (by rw[s2];show O.objs.size+_=_;rw[s1,qC5];omega) λb o e=>k2 b o (k1 b o e)
  ·have e:I.push (Value.ref s.heap.objs.size)++(List.map (λv=>Value.ref v.1.i) (j3 O.objs.size r)).toArray=I++(List.map (λv=>Value.ref v.1.i) (j3 s.heap.objs.size (u::r))).toArray:=by
    rw[e0];simp [j3]
   show Q (I.push (Value.ref s.heap.objs.size)++(List.map (λv=>Value.ref v.1.i) (j3 O.objs.size r)).toArray) _;rw[e];exact q
  ·rcases qB3.mp hv with rfl|hv
   ·exact a1.keep λo e=>k2 _ o e
   ·exact a2 v (by show v∈j3 O.objs.size r;rw[e0];exact hv)
def wY (hs:∀u∈us,SrcAt s.heap u) (O:∀h',(∀v∈j3 s.heap.objs.size us,v.1.At h' 0)->h'.objs.size=s.heap.objs.size+us.length->(∀b o,s.heap.get? b=some o->h'.get? b=some o) ->
   Q ((j3 s.heap.objs.size us).map λv=>Value.ref v.1.i) { s with heap:=h' }):wpAny (model prog w) A (Builtin.SmallTypes.iterAll (us.map λu=>Value.ref u.2.1)) Q E s:=by
 unfold Builtin.SmallTypes.iterAll;refine qA1 (nu us #[] s _ hs λh' a1 s1 I=>qO6 ?_)
 have:=O h' a1 s1 I
 simpa using this
def R6:∀(us:List (Bool×Addr×Array Value)) (n:Nat),(j3 n us).length=us.length:=by
 intro us
 induction us with
 |nil=>intro n;rfl
 |cons u r I=>intro n;unfold j3;rw[qC5,I,qC5]
def jd (us:List (Bool×Addr×Array Value)) (hl:us.length<=sizeLine) :
  Meets (Builtin.«zip.__new__» ⟨.type "zip" :: us.map λu=>Value.ref u.2.1,[]⟩) (λ_ R s=>(∀u∈us,SrcAt s.heap u) /\
   ∀ h',(∀v∈j3 s.heap.objs.size us,v.1.At h' 0)->E4 h' (s.heap.objs.size+us.length) ((j3 s.heap.objs.size us).map λv=>Value.ref v.1.i).toArray ->
    (∃arr,E4 h' (s.heap.objs.size+us.length+1) arr/\arr.size=us.length)->IsZip h' (s.heap.objs.size+us.length+2) (s.heap.objs.size+us.length) (s.heap.objs.size+us.length+1) .none ->
    (∀b o,s.heap.get? b=some o->h'.get? b=some o)->R (.ok (.ret (.ref (s.heap.objs.size+us.length+2)))) { s with heap:=h' }):=
 .of_wp λprog w A R s h=>by
  obtain ⟨hs,h⟩:=h
  show wpAny _ _ (Builtin.SmallTypes.newClass "zip" _>>=_) _ _ _;refine qA1 ?_;unfold Builtin.SmallTypes.newClass;refine qA1 (wpAny_of_eq (a:=true) rfl ?_);simp only [Bool.not_true,qD4,qP1];refine qA1 (wpAny_of_eq (a:=true) sub_zip ?_);simp only [Bool.not_true,qD4,qP1];refine qO6 ?_;simp only [qN2,show ¬ (0>1) by decide,qP1];refine qA1 (wY hs λO a1 s1 k1=>?_);refine qA1 (qS4 ?_ (by simp [R6,hl]));refine qA1 (qS4 ?_ (by simp [R6,hl]));generalize hI:((j3 s.heap.objs.size us).map λv=>Value.ref v.1.i)=I at h ⊢
  have a0:I.length=us.length:=by rw[<- hI,qA6,R6]
  refine qA1 ?_
  show wpAny _ _ (newObj (.type "zip") (.fields #[.none,.bool false,.bool false,.ref O.objs.size,.ref (O.push { cls:=.type "tuple",data:=.seq I.toArray }).objs.size]) none) _ _ _;refine qP5 (qO6 ?_) (by size_fits);have z0:O.objs.size=s.heap.objs.size+us.length:=s1;have z1:(O.push { cls:=.type "tuple",data:=.seq I.toArray }).objs.size=s.heap.objs.size+us.length+1:=by rw[qI4,s1]
  have z2:((O.push { cls:=.type "tuple",data:=.seq I.toArray }).push { cls:=.type "tuple",data:=.seq (I.map λ_=>Value.none).toArray }).objs.size=s.heap.objs.size+us.length+2:=by rw[qI4,z1]
  refine ⟨_,rfl,?_⟩;have g:=h (((O.push { cls:=.type "tuple",data:=.seq I.toArray }).push { cls:=.type "tuple",data:=.seq (I.map λ_=>Value.none).toArray }).push { cls:=.type "zip",data:=.fields #[.none,.bool false,.bool false,.ref O.objs.size,.ref (O.push { cls:=.type "tuple",data:=.seq I.toArray }).objs.size] })
   (λv hv=>(a1 v hv).keep λo e=>qA5 _ (qA5 _ (qA5 _ e))) ?_ ⟨(I.map λ_=>Value.none).toArray,?_,by simp [a0]⟩ ?_ λb o e=>qA5 _ (qA5 _ (qA5 _ (k1 b o e)))
  ·rw [<- z2]at g
   exact g
  ·rw[<- z0];exact qA5 _ (qA5 _ (qC2 _ rfl))
  ·rw[<- z1];exact qA5 _ (qC2 _ rfl)
  ·rw[<- z2,<- z1,<- z0];exact qC2 _ rfl
def ph (a b c:Value):checkTypeCall "zip" ⟨[a,b,c],[]⟩=pure ():=by kernel_rfl
def pU (a b c:Value):checkBuiltinCall "zip.__new__" ⟨[.type "zip",a,b,c],[]⟩=pure ():=by kernel_rfl
def qF (a b c d:Value):argsOk "object.__init__" ⟨[a,b,c,d],[]⟩:=by
 unfold argsOk;rw[signature?_of (id := "object.__init__") (n:=['_','_','t','i','n','i','_','_']) (o:=['t','c','e','j','b','o']) (by kernel_rfl) F.owner_object];kernel_rfl
def xK (us:List (Bool×Addr×Array Value)) (I:us.length=2\/us.length=3) (hs:∀u∈us,SrcAt s.heap u) (h:∀h',(∀v∈j3 s.heap.objs.size us,v.1.At h' 0)->E4 h' (s.heap.objs.size+us.length) ((j3 s.heap.objs.size us).map λv=>Value.ref v.1.i).toArray ->
    (∃arr,E4 h' (s.heap.objs.size+us.length+1) arr/\arr.size=us.length)->IsZip h' (s.heap.objs.size+us.length+2) (s.heap.objs.size+us.length) (s.heap.objs.size+us.length+1) .none ->
    (∀b o,s.heap.get? b=some o->h'.get? b=some o)->Q (.ref (s.heap.objs.size+us.length+2)) { s with heap:=h' }):
  wpAny (model prog w) A (call (.type "zip") (us.map λu=>Value.ref u.2.1)) Q E s:=by
 have O:us.length<=sizeLine:=qD7 (show us.length<=3 by omega) Qz;have k:∀h',_->_->_->_->_->({ s with heap:=h' }:Shared).TypeIs (.ref (s.heap.objs.size+us.length+2)) "zip" /\ Q (.ref (s.heap.objs.size+us.length+2)) { s with heap:=h' }:=λh' c1 c2 c3 c4 c5=>⟨⟨_,c4,rfl⟩,h h' c1 c2 c3 c4 c5⟩;cases us with
 |nil=>rcases I with I|I <;> cases I
 | cons a us=>
  cases us with
  |nil=>rcases I with I|I <;> cases I
  | cons b us=>
   cases us with
   |nil=>exact callType_new F.called_zip Qz (F.typeCall_zip_2 _ _) (F.newCall_zip_2 _ _) (λobj=>F.args_object_init_3 obj _ _) F.entry_zip_new (jd [a,b] O) ⟨hs,k⟩
   | cons c us=>
    cases us with
    |nil=>exact callType_new F.called_zip Qz (ph _ _ _) (pU _ _ _) (λobj=>qF obj _ _ _) F.entry_zip_new (jd [a,b,c] O) ⟨hs,k⟩
    |cons d us=>rcases I with I|I <;> (simp only [qC5]at I;omega)
end L2
namespace L2
open PySem PySem.Spec PyProof.Rows
def av {α β:Type}{R:α->β->Prop}:∀{l:List α},(∀a∈l,∃b,R a b)->∃I:List (α×β),I.map (·.1)=l/\∀p∈I,R p.1 p.2:=by
 intro l
 induction l with
 |nil=>exact λ_=>⟨[],rfl,λ_ h=>absurd h qE1⟩
 | cons a l ih=>
  intro h;obtain ⟨b,hb⟩:=h a qB2;obtain ⟨I,e,q⟩:=ih λx hx=>h x (qA8 _ hx);refine ⟨(a,b)::I,by rw[qC1,e],λp O=>?_⟩;rcases qB3.mp O with rfl|O
  ·exact hb
  ·exact q p O
def Sq (K:Frag)(H:Hp)(t:Bool)(a:Addr)(xs:List V):Prop:=if t=true then SqT K H a xs else SqL K H a xs
def kne {σ:St}(I:Inv X pins σ H s) (h:X.K.lookup a=some o) (f:A7 X pins H b):a≠b:=by
 intro e;subst e;have O:X.base.get? a=some o:=I.mod.kin a o h;obtain ⟨f0,f1,f2,f3,f4,f5⟩:=f;rcases f3 with z|z
 ·exact I.ok.noex a o O z
 ·exact absurd (qB6 (qB4 (I.ok.bs a o O).1) z) (qE2 _)
def Sq.ne {σ:St}(I:Inv X pins σ H s) (h:Sq X.K H t a xs) (f:A7 X pins H b):a≠b:=by
 have O:∀{u:HO},Rd H a u->a≠b:=λ{u} r e=>by
  subst e;have f0:=f.1;rcases r with r|⟨o,r⟩ <;> (rw[f0]at r;cases r)
 unfold Sq at h
 split at h
 ·rcases h with h|⟨o,its,n,hk,_⟩
  ·exact O h
  ·exact kne I hk f
 ·rcases h with h|⟨o,its,n,hk,_⟩
  ·exact O h
  ·exact kne I hk f
def Sq.src {σ:St}(I:Inv X pins σ H s) (h:Sq X.K H t a xs):∃its:List Value,Vals xs its/\(Sub.mk t 0 a).Src s.heap its.toArray:=by
 unfold Sq at h;unfold Sub.Src
 split at h
 ·rename_i ht
  obtain ⟨its,r,p,_⟩:=I.tuple h;exact ⟨its,r,by simp only [ht,qP0];exact p⟩
 ·rename_i ht
  obtain ⟨its,r,p,_⟩:=I.list h;exact ⟨its,r,by simp only [ht,qP1];exact p.isList⟩
def Sq.inj {σ:St}(I:Inv X pins σ H s) (h:Sq X.K H t a xs) (h':Sq X.K H t a ys):xs=ys:=by
 unfold Sq at h h'
 split at h
 ·rename_i ht;simp only [ht,qP0]at h';exact I.tuple_inj h h'
 ·rename_i ht;simp only [ht,qP1]at h';exact I.list_inj h h'
def ItZ (K:Frag) (us:List (Bool×Addr)):It:=
  ⟨fun i H=>∀u∈us,∃xs x,Sq K H u.1 u.2 xs/\xs[i]?=some x,
   λi H x H'=>∃p ys,x=.ref p/\H p=none/\H'=upd H p (.tup ys)/\Paired (λ(u:Bool×Addr) (y:V)=>∀xs,Sq K H u.1 u.2 xs->xs[i]?=some y) us ys,
   λi H=>(∀u∈us,∃xs,Sq K H u.1 u.2 xs)/\∃u∈us,∃xs,Sq K H u.1 u.2 xs/\xs.length<=i⟩
structure ZSt (z TI TO:Addr) (subs:List Sub):Prop where
 zTO:z≠TO
 TIz:TI≠z
 TITO:TI≠TO
 zi:∀u∈subs,u.i≠z
 ti:∀u∈subs,u.i≠TO
 Ii:∀u∈subs,u.i≠TI
 nd:subs.Pairwise λu v=>u.i≠v.i
abbrev zTn (z TI TO:Addr) (subs:List Sub) (i:Nat) (h:Heap):Prop:=
 IsZip h z TI TO .none/\E4 h TI (subs.map λu=>Value.ref u.i).toArray/\(∃arr,E4 h TO arr/\arr.size=subs.length)/\∀u∈subs,u.At h i
def P1 {I:Type}{F:α->γ->Prop}{f:I->α}{g:I->γ}:∀{l:List I},(∀b∈l,F (f b) (g b))->Paired F (l.map f) (l.map g)
 | [],_=>.nil
 |_::_,h=>.cons (h _ qB2) (P1 λb O=>h b (qA8 _ O))
def vj {K:Frag}{TI TO:Addr}(D:ZSt z TI TO subs) (c4:subs ≠ []) (b5:subs.length<=sizeLine):
  Turn P w K (.Tuple elts k tp) (ItZ K (subs.map λu=>(u.t,u.l))) (z::TI::TO::subs.map (·.i)) z (zTn z TI TO subs) where
 mem:=Qy
 obj:=λi h st b hb=>by
  obtain ⟨hz,a6,⟨arr,a7,_⟩,hs⟩:=st;simp only [qB3,qB1]at hb;rcases hb with rfl|rfl|rfl|⟨u,O,rfl⟩
  ·exact ⟨_,hz,λv q=>by cases q⟩
  ·exact ⟨_,a6,λv q=>by cases q⟩
  ·exact ⟨_,a7,λv q=>by cases q⟩
  ·obtain ⟨o,e,d⟩:=(hs u O).obj;exact ⟨o,e,λv q=>by rw[d]at q;cases q⟩
 keep:=λi h h' st kp=>by
  obtain ⟨hz,a6,⟨arr,a7,ha⟩,hs⟩:=st;exact ⟨kp z Qy _ hz,kp TI Qy _ a6,⟨arr,kp TO Qy _ a7,ha⟩,λu O=>(hs u O).keep λo e=>kp u.i (by simp only [qB3,qB1];exact .inr (.inr (.inr ⟨u,O,rfl⟩))) o e⟩
 item:=by
  intro X hP hw hK hc i pins s σ H E I hf st hg;subst hP hw hK;obtain ⟨hz,a6,⟨arr,a7,ha⟩,hs⟩:=st;have fz:=hf z Qy;have fT:=hf TO Qy;have fi:∀u∈subs,A7 X pins H u.i:=λu O=>hf u.i (by simp only [qB3,qB1];exact .inr (.inr (.inr ⟨u,O,rfl⟩)));obtain ⟨ss,a3,a0⟩:=av (R:=λ(u:Sub) (q:List Value×List V×V)=>Sq X.K H u.t u.l q.2.1/\Vals q.2.1 q.1/\u.Src s.heap q.1.toArray/\q.2.1[i]?=some q.2.2) (l:=subs) (λu O=>by
   obtain ⟨xs,x,h1,h2⟩:=hg (u.t,u.l) (qB1.mpr ⟨u,O,rfl⟩);obtain ⟨its,r,a9⟩:=Sq.src I h1;exact ⟨(its,xs,x),h1,r,a9,h2⟩)
  have a4:∀v∈ss,v.1∈subs:=λv hv=>by rw[<- a3];exact qB1.mpr ⟨v,hv,rfl⟩
  have ab:ss.Pairwise λu v=>u.1.i≠v.1.i:=by
   have:=D.nd
   rw[<- a3,qI7]at this;exact this
  have DA:Apart z TO (ss.map λv=>(v.1,v.2.1.toArray)):=by
   refine ⟨D.zTO,?_,?_,?_,?_,?_,?_⟩
   ·rintro _ O;obtain ⟨v,hv,rfl⟩:=qB1.mp O;exact D.zi _ (a4 v hv)
   ·rintro _ O;obtain ⟨v,hv,rfl⟩:=qB1.mp O;exact D.ti _ (a4 v hv)
   ·rw[qI7];exact ab
   ·rintro _ O;obtain ⟨v,hv,rfl⟩:=qB1.mp O;exact Sq.ne I (a0 v hv).1 fz
   ·rintro _ O;obtain ⟨v,hv,rfl⟩:=qB1.mp O;exact Sq.ne I (a0 v hv).1 fT
   ·rintro _ O _ b4;obtain ⟨v,hv,rfl⟩:=qB1.mp O;obtain ⟨v2,b0,rfl⟩:=qB1.mp b4;exact Sq.ne I (a0 v hv).1 (fi _ (a4 v2 b0))
  have el:(ss.map λv=>(v.1,v.2.1.toArray)).length=subs.length:=by rw[qA6,<- a3,qA6]
  have eI:((ss.map λv=>(v.1,v.2.1.toArray)).map λu=>Value.ref u.1.i)=subs.map λu=>Value.ref u.i:=by rw[<- a3,qB9,qB9];rfl
  have ys:∀v∈ss,∃u,v.2.1.toArray[i]?=some u/\RelV v.2.2.2 u:=λv hv=>by
   obtain ⟨u,e,r⟩:=(a0 v hv).2.1.get (a0 v hv).2.2.2;exact ⟨u,by simpa using e,r⟩
  refine uX (n:=i) DA (by intro q;apply c4;have:=congrArg List.length q;rw[el]at this;exact List.length_eq_zero_iff.mp this) (by rw[ha,el]) (by rw[el];exact b5) hz (by rw[eI];exact a6) a7 (λu O=>?_) λh1 z1 T1 a1 p1 k1=>?_
  ·obtain ⟨v,hv,rfl⟩:=qB1.mp O;obtain ⟨u,e,_⟩:=ys v hv;exact ⟨hs _ (a4 v hv),(a0 v hv).2.2.1,u,e⟩
  refine ⟨_,rfl,wpAny_letOwnedTupleGo_zip z1 λh2 z2 sb2=>?_⟩;have b6:z<s.heap.objs.size:=qB4 hz;have kp:∀b o,b≠z->b≠TO->(∀u∈subs,b≠u.i)->s.heap.get? b=some o->h2.get? b=some o:=λb o b1 b2 b3 e=>sb2.extBut _ _ b1 (k1 b o b1 b2 (λu O=>by obtain ⟨v,hv,rfl⟩:=qB1.mp O;exact b3 _ (a4 v hv)) e);have a8:H s.heap.objs.size=none:=I.hok.fresh (qB5 _);have trk:∀b u,H b=some u->b≠z/\b≠TO/\∀v∈subs,b≠v.i:=λb u e=>⟨λq=>(by subst q;rw[fz.1]at e;cases e),λq=>(by subst q;rw[fT.1]at e;cases e),λv hv q=>(by subst q;rw[(fi v hv).1]at e;cases e)⟩;have c2:E4 h2 s.heap.objs.size (ss.map λv=>v.2.1.toArray.getD i .none).toArray:=by
   have:=sb2.extBut _ _ (qJ3 b6) p1
   rw[qB9]at this;exact this
  have c1:Vals (ss.map λv=>v.2.2.2) (ss.map λv=>v.2.1.toArray.getD i .none):=P1 λv hv=>by
   obtain ⟨u,e,r⟩:=ys v hv;rw[show v.2.1.toArray.getD i Value.none=u by simp only [qF6,e,Option.getD_some]];exact r
  have len:(ss.map λv=>v.2.2.2).length<=sizeLine:=by rw[qA6,show ss.length=subs.length by rw[<- a3,qA6]];exact b5
  refine ⟨.ref s.heap.objs.size,upd H s.heap.objs.size (.tup (ss.map λv=>v.2.2.2)),?_,rfl,⟨_,_,rfl,a8,rfl,?_⟩,⟨z2,?_,?_,λu O=>?_⟩,λb hb=>?_⟩
  ·show Inv X pins σ _ { s with heap:=h2 };refine I.step (g':=s.gens) (t':=s.toks) (d':=s.drawn) (ch:=z::TO::subs.map (·.i)) (λb hb=>?_) (λb o _ _ hc e _=>kp b o ?_ ?_ ?_ e) (λb o _ _ hc e _=>⟨o.slots,kp b o ?_ ?_ ?_ e⟩) (λb o hc e n=>?_) (λb o hc e=>⟨o,kp b o ?_ ?_ ?_ e⟩) (λb xs e=>?_) (λb o u e=>?_) (λb ps e=>?_) (λm hm=>?_) ?_ I.bare
   ·simp only [qB3,qB1]at hb;rcases hb with rfl|rfl|⟨u,O,rfl⟩
    ·exact ⟨fz.2.2.2.1,fz.2.1,fz.2.2.2.2.1,fz.2.2.2.2.2⟩
    ·exact ⟨fT.2.2.2.1,fT.2.1,fT.2.2.2.2.1,fT.2.2.2.2.2⟩
    ·have f:=fi u O;exact ⟨f.2.2.2.1,f.2.1,f.2.2.2.2.1,f.2.2.2.2.2⟩
   all_goals first
    | (intro q;exact hc (by simp [q];done))
    | (intro u O q;exact hc (by rw[q];exact qA8 _ (qA8 _ (qB1.mpr ⟨u,O,rfl⟩))))
    |skip
   ·rw[c8 (qC8 (qB4 e))];exact n
   ·rw[c8 (f7 e a8)];exact e
   ·rw[c8 (f7 e a8)];exact e
   ·rw[c8 (f7 e a8)];exact e
   ·obtain ⟨o,es,ep,ho,r⟩:=hm;exact ⟨o,es,ep,kp _ o (Ne.symm fz.2.1) (Ne.symm fT.2.1) (λu O=>Ne.symm (fi u O).2.1) ho,r⟩
   ·intro b u e;by_cases hb:b=s.heap.objs.size
    ·subst hb;rw[i9]at e;cases e;exact ⟨len,_,c1,⟨_,c2,rfl,_,rfl⟩⟩
    ·rw [c8 hb]at e
     refine (I.hok b u e).stay (λc v a5 q=>?_) (λc q=>by rw[c8 (f7 q a8)];exact q) λc xs q=>by rw[c8 (f7 q a8)];exact q
     rcases a5 with rfl|a5
     ·exact kp _ v (trk _ _ e).1 (trk _ _ e).2.1 (trk _ _ e).2.2 q
     ·exact kp _ v (trk _ _ a5).1 (trk _ _ a5).2.1 (trk _ _ a5).2.2 q
  ·rw [<- a3,qB9]
   exact P1 λv hv xs hx=>by rw[Sq.inj I hx (a0 v hv).1];exact (a0 v hv).2.2.2
  ·exact kp TI _ D.TIz D.TITO (λu O=>Ne.symm (D.Ii u O)) a6
  ·obtain ⟨arr',cc,c3⟩:=T1;exact ⟨arr',sb2.extBut _ _ D.zTO.symm cc,by rw[c3,el]⟩
  ·have hv:∃v∈ss,v.1=u:=by rw[<- a3]at O;exact qB1.mp O
   obtain ⟨v,hv,rfl⟩:=hv;exact (a1 (v.1,v.2.1.toArray) (qB1.mpr ⟨v,hv,rfl⟩)).keep λo e=>sb2.extBut _ _ (D.zi _ (a4 v hv)) e
  ·have:b≠s.heap.objs.size:=by
    simp only [qB3,qB1]at hb;rcases hb with rfl|rfl|rfl|⟨u,O,rfl⟩
    ·exact qC8 b6
    ·exact qC8 (qB4 a6)
    ·exact qC8 (qB4 a7)
    ·obtain ⟨o,e,_⟩:=(hs u O).obj;exact qC8 (qB4 e)
   rw[c8 this];exact (hf b hb).1
 done:=by
  intro X hP hw hK hc i pins s σ H E I hf st hg;subst hP hw hK;obtain ⟨hz,a6,⟨arr,a7,ha⟩,hs⟩:=st;obtain ⟨c0,u0,c5,cp,cn,hl0⟩:=hg;have fz:=hf z Qy;have fT:=hf TO Qy;have fi:∀u∈subs,A7 X pins H u.i:=λu O=>hf u.i (by simp only [qB3,qB1];exact .inr (.inr (.inr ⟨u,O,rfl⟩)));obtain ⟨ss,a3,a0⟩:=av (R:=λ(u:Sub) (q:List Value×List V)=>Sq X.K H u.t u.l q.2/\Vals q.2 q.1/\u.Src s.heap q.1.toArray) (l:=subs) (λu O=>by
   obtain ⟨xs,h1⟩:=c0 (u.t,u.l) (qB1.mpr ⟨u,O,rfl⟩);obtain ⟨its,r,a9⟩:=Sq.src I h1;exact ⟨(its,xs),h1,r,a9⟩)
  have a4:∀v∈ss,v.1∈subs:=λv hv=>by rw[<- a3];exact qB1.mpr ⟨v,hv,rfl⟩
  have ab:ss.Pairwise λu v=>u.1.i≠v.1.i:=by
   have:=D.nd
   rw[<- a3,qI7]at this;exact this
  have DA:Apart z TO (ss.map λv=>(v.1,v.2.1.toArray)):=by
   refine ⟨D.zTO,?_,?_,?_,?_,?_,?_⟩
   ·rintro _ O;obtain ⟨v,hv,rfl⟩:=qB1.mp O;exact D.zi _ (a4 v hv)
   ·rintro _ O;obtain ⟨v,hv,rfl⟩:=qB1.mp O;exact D.ti _ (a4 v hv)
   ·rw[qI7];exact ab
   ·rintro _ O;obtain ⟨v,hv,rfl⟩:=qB1.mp O;exact Sq.ne I (a0 v hv).1 fz
   ·rintro _ O;obtain ⟨v,hv,rfl⟩:=qB1.mp O;exact Sq.ne I (a0 v hv).1 fT
   ·rintro _ O _ b4;obtain ⟨v,hv,rfl⟩:=qB1.mp O;obtain ⟨v2,b0,rfl⟩:=qB1.mp b4;exact Sq.ne I (a0 v hv).1 (fi _ (a4 v2 b0))
  have el:(ss.map λv=>(v.1,v.2.1.toArray)).length=subs.length:=by rw[qA6,<- a3,qA6]
  have eI:((ss.map λv=>(v.1,v.2.1.toArray)).map λu=>Value.ref u.1.i)=subs.map λu=>Value.ref u.i:=by rw[<- a3,qB9,qB9];rfl
  refine uW (n:=i) (I.ok.hd hc) DA (by rw[ha,el]) (by rw[el];exact b5) hz (by rw[eI];exact a6) a7 (λu O=>?_) ?_ λh1 k1=>⟨rfl,?_⟩
  ·obtain ⟨v,hv,rfl⟩:=qB1.mp O;exact ⟨hs _ (a4 v hv),(a0 v hv).2.2⟩
  ·obtain ⟨u,O,e0⟩:=qB1.mp c5;have hv:∃v∈ss,v.1=u:=by rw[<- a3]at O;exact qB1.mp O
   obtain ⟨v,hv,rfl⟩:=hv;subst e0;refine ⟨(v.1,v.2.1.toArray),qB1.mpr ⟨v,hv,rfl⟩,?_⟩;have e1:=Sq.inj I (a0 v hv).1 cn;have e2:=(a0 v hv).2.1.length;rw[e1]at e2;simp only [List.getElem?_toArray];exact qH2 ox
  ·have kp:∀b o,b≠z->b≠TO->(∀u∈subs,b≠u.i)->s.heap.get? b=some o->h1.get? b=some o:=λb o b1 b2 b3 e=>k1 b o b1 b2 (λu O=>by obtain ⟨v,hv,rfl⟩:=qB1.mp O;exact b3 _ (a4 v hv)) e;have trk:∀b u,H b=some u->b≠z/\b≠TO/\∀v∈subs,b≠v.i:=λb u e=>⟨λq=>(by subst q;rw[fz.1]at e;cases e),λq=>(by subst q;rw[fT.1]at e;cases e),λv hv q=>(by subst q;rw[(fi v hv).1]at e;cases e)⟩;refine I.step (g':=s.gens) (t':=s.toks) (d':=s.drawn) (ch:=z::TO::subs.map (·.i)) (λb hb=>?_) (λb o _ _ hc e _=>kp b o ?_ ?_ ?_ e) (λb o _ _ hc e _=>⟨o.slots,kp b o ?_ ?_ ?_ e⟩) (λb o hc e n=>n) (λb o hc e=>⟨o,kp b o ?_ ?_ ?_ e⟩) (λb xs e=>e) (λb o u e=>e) (λ_ _ e=>e) (λm hm=>?_) (λb u e=>?_) I.bare
   ·simp only [qB3,qB1]at hb;rcases hb with rfl|rfl|⟨u,O,rfl⟩
    ·exact ⟨fz.2.2.2.1,fz.2.1,fz.2.2.2.2.1,fz.2.2.2.2.2⟩
    ·exact ⟨fT.2.2.2.1,fT.2.1,fT.2.2.2.2.1,fT.2.2.2.2.2⟩
    ·have f:=fi u O;exact ⟨f.2.2.2.1,f.2.1,f.2.2.2.2.1,f.2.2.2.2.2⟩
   all_goals first
    | (intro q;exact hc (by simp [q];done))
    | (intro u O q;exact hc (by rw[q];exact qA8 _ (qA8 _ (qB1.mpr ⟨u,O,rfl⟩))))
    |skip
   ·obtain ⟨o,es,ep,ho,r⟩:=hm;exact ⟨o,es,ep,kp _ o (Ne.symm fz.2.1) (Ne.symm fT.2.1) (λu O=>Ne.symm (fi u O).2.1) ho,r⟩
   ·refine (I.hok b u e).stay (λc v a5 q=>?_) (λc q=>q) λc xs q=>q;rcases a5 with rfl|a5
    ·exact kp _ v (trk _ _ e).1 (trk _ _ e).2.1 (trk _ _ e).2.2 q
    ·exact kp _ v (trk _ _ a5).1 (trk _ _ a5).2.1 (trk _ _ a5).2.2 q
 self:=λ_ _ _ _ _ st h=>wpAny_pyIter_zip st.1 h
def Fx (K:Frag)(ta:TA):TI:=λσ H R=>ta σ H λvs H1=>∃us:List (Bool×Addr),vs=us.map (λu=>V.ref u.2)/\(us.length=2\/us.length=3)/\(∀u∈us,∃xs,Sq K H1 u.1 u.2 xs)/\R (ItZ K us) H1
def neN {b:Nat}(h:a≠b):(a:Addr)≠b:=h
def qX:∀{us:List (Bool×Addr)}{vs:List Value},Vals (us.map λu=>V.ref u.2) vs->vs=us.map λu=>Value.ref u.2:=by
 intro us
 induction us with
 |nil=>intro vs h;cases h;rfl
 | cons u us O=>
  intro vs h;cases h with
  | cons r t=>
   have I:_=Value.ref _:=r;rw[I,O t];rfl
def bR:∀(us:List (Bool×Addr×Array Value)) (n:Nat),∀v∈j3 n us,n<=v.1.i/\n+us.length>v.1.i:=by
 intro us
 induction us with
 |nil=>exact λ_ _ h=>absurd h qE1
 | cons u r I=>
  intro n v h;rcases qB3.mp h with rfl|h
  ·exact ⟨qB5 _,by show n+(r.length+1)>n;omega⟩
  ·have:=I (n+1) v h
   rw[qC5];omega
def nJ:∀(us:List (Bool×Addr×Array Value)) (n:Nat),(j3 n us).Pairwise λu v=>u.1.i≠v.1.i
 | [],_=>.nil
 | u::r,n=>by
  refine qR9.mpr ⟨λv I=>?_,nJ r (n+1)⟩
  have:=bR r (n+1) v I
  show (n:Nat)≠v.1.i;omega
def jY:∀(us:List (Bool×Addr×Array Value)) (n:Nat),(j3 n us).map (λu=>(u.1.t,u.1.l))=us.map λu=>(u.1,u.2.1)
 | [],_=>rfl
 |u::r,n=>by unfold j3;rw[qC1,jY r,qC1]
def DY {X:Cx}{a:Expr}{es elts:List Expr}{ta:TA}{p pos tp:Pos}{k:Nat}(hg:Gl X "zip") (hm:X.mg "zip" = none) (ha:PA X (a::es) ta) (hs:starEach (a::es) X.env=(false,eval a X.env)::starEach es X.env:=by rfl) (ab:(backTo pos (starEach es X.env)).any (·.1)=false:=by rfl):PI X (.Tuple elts k tp) (.Call (.Name "zip" p) (a::es) [] pos) (Fx X.K ta):=by
 intro pins s σ H R I h;refine Call_ (L9 I hg hm boot_zip (qH8 (thn (ha pos pins s σ H _ I h) λvs s1 a3=>?_) hs ab));obtain ⟨xs,H1,I1,r1,us,e1,hl,a8,q⟩:=a3;subst e1;have e2:=qX r1;subst e2;obtain ⟨ws,ew,a7⟩:=av (R:=λ(u:Bool×Addr) (its:Array Value)=>SrcAt s1.heap (u.1,u.2,its)) (l:=us) (λu O=>by
  obtain ⟨ys,hy⟩:=a8 u O;obtain ⟨its,_,a0⟩:=Sq.src I1 hy;exact ⟨its.toArray,by unfold SrcAt;unfold Sub.Src at a0;exact a0⟩)
 have ev:us.map (λu=>Value.ref u.2)=(ws.map λw=>(w.1.1,w.1.2,w.2)).map λu=>Value.ref u.2.1:=by rw[<- ew,qB9,qB9];rfl
 have el:(ws.map λw=>(w.1.1,w.1.2,w.2)).length=us.length:=by rw[<- ew,qA6,qA6]
 rw[ev];generalize hW:(ws.map λw=>(w.1.1,w.1.2,w.2))=W at el ev
 have a9:∀u∈W,SrcAt s1.heap u:=λu O=>by
  rw[<- hW]at O;obtain ⟨w,hw,rfl⟩:=qB1.mp O;exact a7 w hw
 refine xK W (by rw[el];exact hl) a9 λh' hA a6 a5 hz hk=>wpAny_pyIter_zip hz ?_;have I2:Inv X pins σ H1 { s1 with heap:=h' }:=I1.kept (t':=s1.toks) hk;have eS:((j3 s1.heap.objs.size W).map (·.1)).map (λu=>(u.t,u.l))=us:=by
  rw[qB9]
  show (j3 s1.heap.objs.size W).map (λu=>(u.1.t,u.1.l))=us;rw[jY,<- hW,qB9,<- ew];rfl
 have D:ZSt (s1.heap.objs.size+W.length+2) (s1.heap.objs.size+W.length) (s1.heap.objs.size+W.length+1) ((j3 s1.heap.objs.size W).map (·.1)):=by
  refine ⟨neN ox,neN ox,neN ox,?_,?_,?_,?_⟩
  ·rintro _ O;obtain ⟨v,hv,rfl⟩:=qB1.mp O;have:=bR W _ v hv;exact neN ox
  ·rintro _ O;obtain ⟨v,hv,rfl⟩:=qB1.mp O;have:=bR W _ v hv;exact neN ox
  ·rintro _ O;obtain ⟨v,hv,rfl⟩:=qB1.mp O;have:=bR W _ v hv;exact neN ox
  ·rw[qI7];exact nJ W _
 have ls:((j3 s1.heap.objs.size W).map (·.1)).length=W.length:=by rw[qA6,R6]
 have TZ:=vj (P:=X.prog) (w:=X.w) (K:=X.K) (elts:=elts) (k:=k) (tp:=tp) D (by intro q;have:=congrArg List.length q;rw[ls,el]at this;have h0:us.length=0:=this;omega) (by rw[ls,el];exact qD7 (show us.length<=3 by omega) Qz);rw[eS]at TZ;refine ⟨_,_,_,_,H1,rfl,I2,TZ,⟨hz,?_,?_,λu O=>?_⟩,λb hb=>?_,q⟩
 ·rw[qB9];exact a6
 ·obtain ⟨arr,h1,h2⟩:=a5;exact ⟨arr,h1,by rw[ls];exact h2⟩
 ·obtain ⟨v,hv,rfl⟩:=qB1.mp O;exact hA v hv
 ·have a4:s1.heap.objs.size<=b:=by
   simp only [qB3,qB1]at hb;rcases hb with rfl|rfl|rfl|⟨_,⟨v,hv,rfl⟩,rfl⟩
   ·omega
   ·omega
   ·omega
   ·exact (bR W _ v hv).1
  have f:=I1.fpOk (H':=H1) a4 (I1.hok.fresh a4);exact f
def w4 (cs:Scope) (env:Env) (x:Str):(relabel cs env).names.lookup x=(cs.names.lookup x).map λk=>if (k == .free&&env.scope.kind == .function&&env.kindOf x == some .cell)=true then .cell else k:=by
 unfold relabel
 show List.lookup x (cs.names.map _)=_
 induction cs.names with
 |nil=>rfl
 | cons p r ih=>
  obtain ⟨n,k⟩:=p;by_cases O:x=n
  ·subst O;rw[qC1];simp only [qF8]
   split <;> simp_all
  ·have I:(x == n)=false:=by simpa using O
   have er:List.lookup x ((n,k)::r)=List.lookup x r:=by rw[qF8,I]
   rw[qC1,er];refine Eq.trans ?_ ih;dsimp only;by_cases hc:(k == NameKind.free&&env.scope.kind == ScopeKind.function&&env.kindOf n == some NameKind.cell)=true
   ·rw[qA2 hc,qF8,I]
   ·rw[qA4 hc,qF8,I]
def V6: ∀ (names : List (Str × NameKind)) (O : List (Str × Addr)), (∀x ∈ names, x.2 = .free -> ∃c, env.cells.lookup x.1 = some c) -> (∀x c, O.lookup x = some c -> env.cells.lookup x = some c) ->
    ∃ cl, (forIn (m := Sem) names O λx __s => if (x.snd == NameKind.free) = true then do
              let __do_lift <- cellOf env x.fst
              pure (ForInStep.yield ((x.fst, __do_lift) :: __s))
            else pure (ForInStep.yield __s)) = pure cl /\ (∀x c, cl.lookup x = some c -> env.cells.lookup x = some c) /\ (∀x, (x, NameKind.free) ∈ names -> ∃c, cl.lookup x = some c) /\ ∀x c, O.lookup x = some c -> ∃c', cl.lookup x = some c' := by
  intro names
  induction names with
  | nil =>
    intro O _ h0;exact ⟨O, by simp only [qM1], h0, λ_ h => absurd h qE1, λ_ c h => ⟨c, h⟩⟩
  | cons p r ih =>
    intro O hf h0;obtain ⟨n, k⟩ := p;by_cases hk : k = .free
    · subst hk
      obtain ⟨c, hc⟩ := hf (n, .free) qB2 rfl;obtain ⟨cl, e, h1, h2, h3⟩ := ih ((n, c) :: O) (λx I => hf x (qA8 _ I)) (λx c' I => by
        rw[qF8]at I
        split at I
        · rename_i hb
          have a0 : x = n := by simpa using hb
          cases I;rw[a0];exact hc
        · exact h0 x c' I)
      have hn : ∃c', cl.lookup n = some c' := h3 n c Qy;refine ⟨cl, ?_, h1, λx I => ?_, λx c' I => ?_⟩
      · rw [qK5]
        simp only [qR3, qP0, cellOf, hc];exact e
      · rcases qB3.mp I with q|I
        · cases q;exact hn
        · exact h2 x I
      · by_cases a0 : x = n
        · subst a0;exact hn
        · exact h3 x c' (by
            have hb : (x == n) = false := by simpa using a0
            rw[qF8, hb];exact I)
    · have hb : (k == NameKind.free) = false := by simpa using hk
      obtain ⟨cl, e, h1, h2, h3⟩ := ih O (λx I => hf x (qA8 _ I)) h0;refine ⟨cl, ?_, h1, λx I => ?_, h3⟩
      · rw [qK5]
        simp only [hb, qD4, qP1];exact e
      · rcases qB3.mp I with q|I
        · cases q;exact absurd rfl hk
        · exact h2 x I
structure g6 (sc cs:Scope) (N N':List Str):Prop where
 kind:cs.kind=.function
 ncell:∀x∈cs.names,x.2≠.cell
 loc:∀x∈cs.names,x.2=.local->cs.names.lookup x.1=some .local
 free:∀x∈cs.names,x.2=.free->sc.names.lookup x.1=some .cell\/sc.names.lookup x.1=some .free
 nd:N'.Nodup
 len:N.length<=N'.length
 same:∀i∈List.range N.length,N'[i]?=N[i]?\/∀x∈N'[i]?,cs.names.lookup x=none
 out:∀x∈N'.take N.length,cs.names.lookup x≠some .local
abbrev j8 (X:Cx) (cs:Scope) (cl:List (Str×Addr)) (N':List Str) (ex:List Addr) (s:Shared) (H:Hp):Cx:=
 { X with N:=N',s₀:=s,H₀:=H,env:=compEnvC cs cl s.heap.objs.size X.env,outer:=X.stack,stack:=X.stack,ex:=ex,fn:=λ_=>false,pn:=[],xe:=λ_ _=>False }
def inner (N':List Str)(σ:St):St:=σ++List.replicate (N'.length-σ.length) none
def Z8 {i:Nat}(h:(inner N' σ)[i]?=some (some v)):σ[i]?=some (some v):=by
 unfold inner at h;by_cases hi:i<σ.length
 ·rwa [qD6 hi]at h
 ·rw [qG6 ox,qI5]at h
  split at h <;> cases h
def xJ {σ:St}{fp:List Addr}(S:g6 X.env.scope cs X.N N') (I:Inv X pins σ H s3) (O:∀x c,cl.lookup x=some c->X.env.cells.lookup x=some c) (a5:∀x,(x,NameKind.free)∈cs.names->∃c,cl.lookup x=some c) (hf:∀b∈fp,A7 X pins H b) (c0:∀b∈fp,b<s3.heap.objs.size) (kp:∀b o,s3.heap.get? b=some o->s4.heap.get? b=some o) (hn:s4.heap.Ns s3.heap.objs.size m) (b6:s4.os=s3.os) (hg:s4.gens=s3.gens):Inv (j8 X cs cl N' fp s3 H) [] (inner N' σ) H s4:=by
 have a4:∀{c:Addr}{v:Option Value},s3.heap.IsCell c v->s4.heap.IsCell c v:=λ{c v} z=>by obtain ⟨o,e,d⟩:=z;exact ⟨o,kp c o e,d⟩
 refine ⟨⟨I.ok.mod,S.kind,I.ok.glob,I.ok.blt,qB5 _,λx y c h1 h2=>I.ok.inj x y c (O x c h1) (O y c h2),λx hx=>?_,λx c h _=>absurd (show false=true from h) Qz,I.ok.hd,I.ok.frames,.inl rfl,λb hb=>⟨?_,λx c e=>(hf b hb).2.2.2.2.1 x c (O x c e)⟩,I.bs,qD7 I.ok.bsz I.sz,λb o e hb=>?_,λb hb b5=>?_,I.stack,I.stkFree,I.tab⟩,
  b6,by rw[hg];exact I.bare,Un.kept kp,⟨m,hn,λi x v e1 e2 e3=>?_⟩,λx c e=>?_,I.hok.fresh (qB5 _),λx c e=>I.freeC x c (O x c e),λp hp=>absurd (show p∈([]:List (Addr×Obj)) from hp) Qy,I.hok.kept kp,?_⟩
 ·have a3:(relabel cs X.env).names.lookup x=some .cell\/(relabel cs X.env).names.lookup x=some .free:=hx;rw[w4]at a3;cases hl:cs.names.lookup x with
  |none=>rw[hl]at a3;rcases a3 with h|h <;> cases h
  | some k=>
   have hm:=qH0 hl;by_cases hk:k=.free
   ·subst hk;exact a5 x hm
   ·exfalso;have hb:(k == NameKind.free)=false:=by simpa using hk
    rw[hl]at a3;simp only [qN3,hb,qM0,qD4,qP1]at a3;rcases a3 with h|h
    ·cases h;exact S.ncell _ hm rfl
    ·cases h;exact hk rfl
 ·intro q;have c1:b=s3.heap.objs.size:=q;exact absurd (c0 b hb) (by rw[c1];exact qE2 _)
 ·obtain ⟨f0,f1,f2,f3,f4,f5⟩:=hf b hb;rcases f3 with z|z
  ·exact I.ok.noex b o e z
  ·exact absurd (qB6 (qB4 (I.ok.bs b o e).1) z) (qE2 _)
 ·have a9:b∈frs X.stack:=b5;rcases qB3.mp (I.stkSub b a9) with z|z
  ·exact (hf b hb).2.1 z
  ·exact (hf b hb).2.2.1 z
 ·have b0:=Z8 e2;have hi:i<X.N.length:=by rw[<- I.len];exact (qB0.mp b0).1
  have a8:N'[i]?=some x:=e1;have a0:Vis (relabel cs X.env) x:=e3;have hv:∃k,cs.names.lookup x=some k:=by
   unfold Vis at a0;rw[w4]at a0;cases hl:cs.names.lookup x with
   |none=>rw[hl]at a0;rcases a0 with h|h|h <;> cases h
   |some k=>exact ⟨k,rfl⟩
  obtain ⟨k,hk⟩:=hv;have hN:X.N[i]?=some x:=by
   rcases S.same i (qH5.mpr hi) with q|q
   ·rw[<- q];exact a8
   ·have:=q x (by rw[a8];rfl)
    rw[hk]at this;cases this
  have b3:k≠.local:=λq=>by
   subst q;exact S.out x (qD3 (i:=i) (by rw[qR7 hi];exact a8)) hk
  have hm:=qH0 hk;have a6:k=.free:=by
   unfold Vis at a0;rw[w4,hk]at a0;by_cases a7:k=.free
   ·exact a7
   ·exfalso;have hb:(k == NameKind.free)=false:=by simpa using a7
    simp only [qN3,hb,qM0,qD4,qP1]at a0;rcases a0 with h|h|h
    ·exact b3 (Option.some.inj h)
    ·exact S.ncell _ hm (Option.some.inj h)
    ·exact a7 (Option.some.inj h)
  subst a6;obtain ⟨m0,c2,hl0⟩:=I.loc;have ab:Vis X.env.scope x:=by
   rcases S.free _ hm rfl with h|h
   ·exact .inr (.inl h)
   ·exact .inr (.inr h)
  obtain ⟨u,r,l⟩:=hl0 i x v hN b0 ab;refine ⟨u,r,.inr ⟨?_,?_⟩⟩
  ·show (relabel cs X.env).names.lookup x=some .cell\/(relabel cs X.env).names.lookup x=some .free;rw[w4,hk]
   show some (if _ then _ else _)=_\/some (if _ then _ else _)=_
   split
   ·exact .inl rfl
   ·exact .inr rfl
  ·obtain ⟨c,hc⟩:=a5 x hm;have b4:=O x c hc;rcases l with ⟨q,_⟩|⟨_,c',e,z⟩
   ·exfalso;have q':X.env.scope.names.lookup x=some .local:=q;rcases S.free _ hm rfl with h|h <;> (rw[q']at h;cases h)
   ·rw [b4]at e;cases e
    exact ⟨c,hc,a4 z⟩
 ·obtain ⟨v,z⟩:=I.cell x c (O x c e);exact ⟨v,a4 z⟩
 ·unfold inner;rw[qC6,qT6,I.len]
  have:=S.len
  show _=N'.length;omega
def E9 (n:Nat)(g:TG):Prop:=∀(v:V)(σ:St)(H:Hp)(Q:St->Hp->Prop),g v σ H Q->g v σ H λI H2=>Q I H2/\I.length=σ.length/\∀j,j<n->I[j]?=σ[j]?
def gE (n:Nat)(g:TGs):Prop:=∀(vs:List V)(σ:St)(H:Hp)(Q:St->Hp->Prop),g vs σ H Q->g vs σ H λI H2=>Q I H2/\I.length=σ.length/\∀j,j<n->I[j]?=σ[j]?
def o9 (h:n<=i):E9 n (K5 i):=λv σ H Q q=>⟨q,Qy,λj I=>qB7 ox⟩
def T9:gE n gNil:=λvs σ H Q I=>by obtain ⟨e,q⟩:=I;exact ⟨e,q,rfl,λ_ _=>rfl⟩
def x3 (h:n<=i) (hu:gE n u):gE n (qi (K5 i) u):=λvs σ H Q a0=>by
 obtain ⟨v,r,e,q⟩:=a0;refine ⟨v,r,e,?_⟩;have q':=hu r (σ.set i (some v)) H Q q
 show u r (σ.set i (some v)) H _;have e1:∀I:St,(I.length=(σ.set i (some v)).length/\∀j,j<n->I[j]?=(σ.set i (some v))[j]?)=(I.length=σ.length/\∀j,j<n->I[j]?=σ[j]?):=λI=>by
  have:∀j,j<n->(σ.set i (some v))[j]?=σ[j]?:=λj O=>qB7 ox
  rw[qF4];exact propext ⟨λa3=>by obtain ⟨a,b⟩:=a3;exact ⟨a,λj O=>(b j O).trans (this j O)⟩,λa4=>by obtain ⟨a,b⟩:=a4;exact ⟨a,λj O=>(b j O).trans (this j O).symm⟩⟩
 have e2:(λ(I:St) (H2:Hp)=>Q I H2/\I.length=σ.length/\∀j,j<n->I[j]?=σ[j]?)=λI H2=>Q I H2/\I.length=(σ.set i (some v)).length/\∀j,j<n->I[j]?=(σ.set i (some v))[j]?:=by
  funext I H2;rw[e1]
 rw[e2];exact q'
def T8 {K:Frag}(hu:gE n u):E9 n (qh K k u):=λv σ H Q I=>by obtain ⟨a,xs,e,h1,O,q⟩:=I;exact ⟨a,xs,e,h1,O,hu xs σ H Q q⟩
def PIf (X:Cx) (I:List Expr) (t:TT):Prop:=
 ∀ (pins:List (Addr×Obj)) (s:Shared) (σ:St) (H:Hp) (Q:Bool->Hp->Prop),Inv X pins σ H s->t σ H Q ->
  wpAny (model X.prog X.w) X.A (forIn I true λc r=>if r=true then do let ok <- isTrue c X.env (eval c X.env);pure (ForInStep.yield ok) else pure (ForInStep.yield r)) (TP X pins σ Q) X.xe s
def tYes:TT:=λ_ H Q=>Q true H
def zV:PIf X [] tYes:=λ_ _ _ H _ I h=>wpAny_tests_nil ⟨H,I,h⟩
def zU (h:PT X c t):PIf X [c] t:=λpins s σ H Q I q=>wpAny_tests_one (h pins s σ H Q I q)
def qS (J:It) (D:Addr) (g:TG) (tc:TT) (te:TE) (a0:St) (H1:Hp) (Q:Hp->Prop):Prop:=
 ∃ W:Nat->Nat->Hp->Prop,(∃m,W 0 m (upd H1 D (.lst [])))/\∀i m H2,W i m H2 ->
  (J.stop i H2/\Q H2)\/(J.go i H2/\∀x H3,J.yld i H2 x H3->g x a0 H3 λI H4=>tc I H4 λb H5=>
   if b=true then te I H5 λy H6=>∃ys,H6 D=some (.lst ys)/\ys.length<sizeLine/\∃O,O<m/\W (i+1) O (upd H6 D (.lst (ys ++ [y])))
   else ∃O,O<m/\W (i+1) O H5)
def jB (N':List Str)(O:TI)(g:TG)(I:TT)(te:TE):TE:=λσ H Q=>O σ H λJ H1=>∀D,H1 D=none->qS J D g I te (inner N' σ) H1 (Q (.ref D))
def Iu (O:∀x c,cl.lookup x=some c->X.env.cells.lookup x=some c) (stk:∀b∈frs X.stack,b∈X.env.locals::X.fs) (a0:∀b∈fp,A7 X pins H3 b) (a4:∀b∈fp,b<s3.heap.objs.size) (hn:∀b∈fp,H' b=none):∀b∈fp,A7 (j8 X cs cl N' fp s3 H3) [] H' b:=λb hb=>by
 obtain ⟨f0,f1,f2,f3,f4,f5⟩:=a0 b hb;refine ⟨hn b hb,qC8 (a4 b hb),λa3=>?_,.inl hb,λx c e=>f4 x c (O x c e),λp hp=>absurd (show p∈([]:List (Addr×Obj)) from hp) Qy⟩;have I:b∈frs X.stack:=a3;rcases qB3.mp (stk b I) with z|z
 ·exact f1 z
 ·exact f2 z
def uw {σ:St}{Q:Hp->Prop}{W:Nat->Nat->Hp->Prop}(hc:X.calm=true) (hg:PG (j8 X cs cl N' fp s3 I) tg g) (hk:E9 X.N.length g) (ht:PIf (j8 X cs cl N' fp s3 I) ifs tc) (he:PE (j8 X cs cl N' fp s3 I) elt te) (b4:∀x c,cl.lookup x=some c->X.env.cells.lookup x=some c) (I3:Inv X pins σ I s3) (I4:Inv (j8 X cs cl N' fp s3 I) [] (inner N' σ) I s4) (T:Turn X.prog X.w X.K tg J fp it tn) (st:tn 0 s4.heap) (a7:∀b∈fp,A7 X pins I b) (cx:∀b∈fp,b<s3.heap.objs.size) (w0:W 0 m0 I) (turn:∀i m H2,W i m H2->(J.stop i H2/\Q H2)\/(J.go i H2/\∀x I,J.yld i H2 x I->g x (inner N' σ) I λa9 H4=>tc a9 H4 λb H5=>
   if b=true then te a9 H5 λy H6=>∃ys,H6 D=some (.lst ys)/\ys.length<sizeLine/\∃O,O<m/\W (i+1) O (upd H6 D (.lst (ys ++ [y])))
   else ∃O,O<m/\W (i+1) O H5)) (hR:∀(H':Hp) (s':Shared),Inv X pins σ H' s'->Q H'->(∃m,s'.heap.Ns s3.heap.objs.size m)->A7 X pins H' s3.heap.objs.size->R (.ok .next) s'):
  codeAny (model X.prog X.w) X.A (.compLoop (.ListComp elt [⟨tg,iter,ifs,0⟩] cs pos) 0 (.ref it) (.ref D) (j8 X cs cl N' fp s3 I).env) R s4:=by
 have a6:∀{H':Hp},(∀b∈fp,H' b=none)->∀b∈fp,A7 (j8 X cs cl N' fp s3 I) [] H' b:=λhn=>Iu b4 I3.stkSub a7 cx hn;have cy:(inner N' σ).length=N'.length:=I4.len;refine codeAny_loop rfl (λn s'=>∃i H',Inv (j8 X cs cl N' fp s3 I) [] (inner N' σ) H' s'/\tn i s'.heap/\(∀b∈fp,H' b=none)/\W i n H') (λn s5 hI=>?_) m0 ⟨0,I,I4,st,λb hb=>(a7 b hb).1,w0⟩;obtain ⟨i,H5,I5,b6,b5,w5⟩:=hI
 show wpAny _ _ ((compTurn (.ListComp elt [⟨tg,iter,ifs,0⟩] cs pos) 0 (.ref it) (.ref D) (j8 X cs cl N' fp s3 I).env).onRaise _) _ _ s5;refine wpAny_noted ?_;rw[compTurn_list];refine qA1 (qQ4 (qA1 ?_));have a3:∀{α:Type}{t:Sem α}{P:α->Shared->Prop}{E':Value->Shared->Prop}{s:Shared},wpAny (model X.prog X.w) X.A t P (λ_ _=>False) s->wpAny (model X.prog X.w) X.A t P E' s:=λh=>qP7 h (λ_ _ q=>q) λ_ _ q=>q.elim;rcases turn i n H5 w5 with ⟨stop,q⟩|⟨go,step⟩
 ·refine thn (T.done (j8 X cs cl N' fp s3 I) rfl rfl rfl hc i [] s5 _ H5 _ I5 (a6 b5) b6 stop) λr s6 ⟨hr,I6⟩=>?_;subst hr;refine qO6 ?_;have J6:Inv X pins σ H5 s6:=I3.call' (H':=H5) (ch:=fp) I6.os I6.base I6.hok I6.bare λb hb=>by
   obtain ⟨f0,f1,f2,f3,f4,f5⟩:=a7 b hb;exact ⟨f3,f1,f4,f5⟩
  obtain ⟨m,hn,_⟩:=I6.loc;exact hR H5 s6 J6 q ⟨m,hn⟩ (I3.fpOk (qB5 _) I6.free)
 ·refine thn (T.item (j8 X cs cl N' fp s3 I) rfl rfl rfl hc i [] s5 _ H5 _ I5 (a6 b5) b6 go) λr s6 ⟨u,hr,h6⟩=>?_;subst hr;refine qA1 (thn h6 λ_ s7 b3=>?_);obtain ⟨x,H7,I7,r7,y7,a4,c2⟩:=b3;have c1:=I7.pinned (a6 c2) (T.obj _ _ a4);refine qA1 (a3 (thn (hg _ s7 _ H7 x u _ c1 r7 (hk x _ H7 _ (step x H7 y7))) λ_ s8 a8=>?_));obtain ⟨a0,H8,I8,q8,l8,k8⟩:=a8;refine qA1 (a3 (thn (ht _ s8 a0 H8 _ I8 q8) λb s9 c0=>?_));obtain ⟨H9,I9,q9⟩:=c0;have again:∀{s':Shared}{H':Hp},Inv (j8 X cs cl N' fp s3 I) ([]++aF fp s7.heap) a0 H' s'->(∃O,O<n/\W (i+1) O H') ->
    ∃O,O<n/\∃i H',Inv (j8 X cs cl N' fp s3 I) [] (inner N' σ) H' s'/\tn i s'.heap/\(∀b∈fp,H' b=none)/\W i O H':=λ{s' H'} I' zz69=>by
   obtain ⟨O,hm,w'⟩:=zz69;refine ⟨O,hm,i+1,H',(I'.unpinned).weak (by rw[l8]) (λj v e=>?_),T.keep _ _ _ a4 λb hb o e=>(I'.pin (b,o) (qC7 _ (qC7 _ (K4 hb e)))).1,λb hb=>?_,w'⟩
   ·have hj:j<X.N.length:=by rw[<- I3.len];exact (qB0.mp (Z8 e)).1
    rw[k8 j hj];exact e
   ·obtain ⟨o,e,d⟩:=T.obj _ _ a4 b hb;exact (I'.pin (b,o) (qC7 _ (qC7 _ (K4 hb e)))).2.1
  cases b with
  | false=>
   have a5:∃O,O<n/\W (i+1) O H9:=q9;exact qO6 ⟨rfl,again I9 a5⟩
  | true=>
   have a5:te a0 H9 _:=q9;refine qA1 (qA1 (a3 (thn (he _ s9 a0 H9 _ I9 a5) λv cp ab=>?_)));obtain ⟨y,cv,cc,cn,ys,hD,hy,c4⟩:=ab;refine qA1 (a3 (thn (cz _ cp a0 cv (.ref D) [y] (.ref D) [v] (λ_ H'=>∃O,O<n/\W (i+1) O H') cc rfl (.cons cn .nil) ⟨D,ys,y,rfl,rfl,hD,hy,c4⟩) λ_ d0 b0=>?_));obtain ⟨_,d1,c3,_,c5⟩:=b0;exact qO6 (qO6 ⟨rfl,again c3 c5⟩)
def jr {R:Value->Addr->Result->Shared->Prop}{Q:V->Hp->Prop}(S:g6 X.env.scope cs X.N N') (hc:X.calm=true) (hg:∀cl ex s H,PG (j8 X cs cl N' ex s H) tg g) (hk:E9 X.N.length g) (ht:∀cl ex s H,PIf (j8 X cs cl N' ex s H) ifs tc) (he:∀cl ex s H,PE (j8 X cs cl N' ex s H) elt te) (a4:∀x c,cl.lookup x=some c->X.env.cells.lookup x=some c) (a8:∀x,(x,NameKind.free)∈cs.names->∃c,cl.lookup x=some c) (h:PIE X pins σ tg (λJ H1=>∀D,H1 D=none->qS J D g tc te (inner N' σ) H1 (Q (.ref D))) itv s2) (hR:∀(D C:Addr) (H':Hp) (s':Shared),Inv X pins σ H' s'->Q (.ref D) H'->(∃m,s'.heap.Ns C m)->A7 X pins H' C->R (.ref D) C (.ok .next) s'):
  wpAny (model X.prog X.w) X.A (newList []) (λa7 a5=>wpAny (model X.prog X.w) X.A (newFunctionEnv cs X.env.globals cl [] X.env.qual none .none (some X.env)) (λO a6=>
   codeAny (model X.prog X.w) X.A (.compStart (.ListComp elt [⟨tg,iter,ifs,0⟩] cs pos) 0 itv a7 { O with scope:=relabel cs X.env }) (R a7 O.locals) a6) X.xe a5) X.xe s2:=by
 obtain ⟨it,fp,tn,J,H2,e,I2,T,ab,f2,hw⟩:=h;subst e;refine qP5 (wpAny_newFunctionEnv S.ncell (by intro y hy;simp at hy) (λh1 a3 a0=>?_) S.kind);dsimp only at a3 a0 ⊢;have hD:=I2.hok.fresh (qB5 _);obtain ⟨W,⟨m0,w0⟩,turn⟩:=hw s2.heap.objs.size hD;have I3:Inv X pins σ (upd H2 s2.heap.objs.size (.lst [])) { s2 with heap:=s2.heap.push { cls:=.type "list",dict:=none,data:=.seq ([]:List Value).toArray } }:=I2.lnew (t':=s2.toks) .nil (qD1 _);have I:∀b∈fp,b<s2.heap.objs.size:=λb hb=>by
  obtain ⟨o,e,_⟩:=T.obj 0 _ ab b hb;exact qB4 e
 have a9:∀b∈fp,A7 X pins (upd H2 s2.heap.objs.size (.lst [])) b:=λb hb=>by
  obtain ⟨f0,r⟩:=f2 b hb;exact ⟨by rw[c8 (qC8 (I b hb))];exact f0,r⟩
 have b3:∀b∈fp,b<(s2.heap.push { cls:=.type "list",dict:=none,data:=.seq ([]:List Value).toArray }).objs.size:=λb hb=>by rw[qI4];exact qE9 (I b hb)
 have kp:∀b o,(s2.heap.push { cls:=.type "list",dict:=none,data:=.seq ([]:List Value).toArray }).get? b=some o->h1.get? b=some o:=λb o e=>a0.extBut b o (qC8 (qB4 e)) (qA5 _ e);have I4:=xJ (cs:=cs) (cl:=cl) (N':=N') (fp:=fp) (s4:={ s2 with heap:=h1,toks:=s2.toks+([]:List (Str×Value)).length }) S I3 a4 a8 a9 b3 kp a3 rfl rfl;have b0:tn 0 h1:=T.keep 0 _ _ ab λb hb o e=>kp b o (qA5 _ e);have loop:=uw (R:=R (.ref s2.heap.objs.size) (s2.heap.push { cls:=.type "list",dict:=none,data:=.seq ([]:List Value).toArray }).objs.size) (D:=s2.heap.objs.size) (iter:=iter) (pos:=pos) (it:=it) (Q:=Q (.ref s2.heap.objs.size)) hc (hg cl fp _ _) hk (ht cl fp _ _) (he cl fp _ _) a4 I3 I4 T b0 a9 b3 w0 turn λH' s' I' q n f=>hR _ _ H' s' I' q n f;exact codeAny_compStart_list loop (T.self _ 0 _ _ _ b0 loop)
def zY (S:g6 X.env.scope cs X.N N') (hc:X.calm=true) (hi:PI X tg iter wi) (hg:∀cl ex s H,PG (j8 X cs cl N' ex s H) tg g) (hk:E9 X.N.length g) (ht:∀cl ex s H,PIf (j8 X cs cl N' ex s H) ifs tc) (he:∀cl ex s H,PE (j8 X cs cl N' ex s H) elt te) (hs:∀x,foldedSetIterable iter X.env x=pure x:=by intro _;rfl):PE X (.ListComp elt [⟨tg,iter,ifs,0⟩] cs pos) (jB N' wi g tc te):=by
 intro pins s σ H Q I h;obtain ⟨cl,e,h1,h2,_⟩:=V6 (env:=X.env) cs.names [] (λx hx hk=>I.ok.has x.1 (S.free x hx hk)) (λ_ _ z=>nomatch z);have O:closureFor cs X.env=pure cl:=by
  simp only [closureFor];rw[e];rfl
 rw[eval_ListComp];refine qS1 (use:=none) rfl hs O S.kind S.loc (thn (hi pins s σ H _ I h) λv s1 q1=>thn q1 λa3 s2 q2=>?_);refine jr (R:=λa0 C=>compPost (model X.prog X.w) X.A X.xe none (EP X pins σ Q) a0 C) (Q:=Q) S hc hg hk ht he h1 h2 q2 λD C H' s' I' q n f=>?_;obtain ⟨m,hn⟩:=n;obtain ⟨f0,f1,f2,f3,f4,f5⟩:=f;exact ⟨m,hn,λh' sb=>⟨.ref D,H',I'.turned (t':=s'.toks) (λb o hb e=>sb.extBut b o hb e) f0 f1 f3 f4 f5,rfl,q⟩⟩
def zR {X:Cx}{cs:Scope}{N':List Str}{tg iter a0:Expr}{O:List Expr}{wi:TI}{g:TG}{tc:TT}{te:TE}{pos:Pos}{i:Nat}{y:Str}{py a3:Pos}(S:g6 X.env.scope cs X.N N') (hc:X.calm=true) (hi:PI X tg iter wi) (hg:∀cl ex s H,PG (j8 X cs cl N' ex s H) tg g) (hk:E9 X.N.length g) (ht:∀cl ex s H,PIf (j8 X cs cl N' ex s H) O tc) (he:∀cl ex s H,PE (j8 X cs cl N' ex s H) a0 te) (hN:X.N.Nodup) (hy:X.N[i]?=some y) (hl:Loc X.env.scope y) (a9:swapsWith (.ListComp a0 [⟨tg,iter,O,0⟩] cs pos) (some (.Name y py)) a3.line X.env=pure true:=by rfl) (hf:X.fn y=true\/X.env.scope.names.lookup y=some .local:=by first|exact .inl rfl|exact .inr rfl|assumption) (hs:∀x,foldedSetIterable iter X.env x=pure x:=by intro _;rfl):PS X (.Assign [.Name y py] (.ListComp a0 [⟨tg,iter,O,0⟩] cs pos) a3) (af (jB N' wi g tc te) (K5 i)):=by
 intro pins s σ H Q I h;obtain ⟨cl,e,h1,h2,_⟩:=V6 (env:=X.env) cs.names [] (λx hx hk=>I.ok.has x.1 (S.free x hx hk)) (λ_ _ z=>nomatch z);have a4:closureFor cs X.env=pure cl:=by
  simp only [closureFor];rw[e];rfl
 rw[exec_Assign_Name_used _ _ _ _ a9];refine qA1 (qQ4 (qA1 ?_))
 show wpAny _ _ (comprehension (.ListComp a0 [⟨tg,iter,O,0⟩] cs pos) cs X.env _ (newList []) false (eval iter X.env) (some (assign (.Name y py) X.env))>>=_) _ _ s;refine qA1 (thn (qS1 (use:=some (assign (.Name y py) X.env)) (Q:=λ_ s'=>SP X pins Q .next s') rfl hs a4 S.kind S.loc (thn (hi pins s σ H _ I h) λv s1 q1=>thn q1 λb3 s2 q2=>?_)) λ_ s' q=>qO6 (qO6 q));refine jr (R:=λa7 C=>compPost (model X.prog X.w) X.A X.xe (some (assign (.Name y py) X.env)) (λ_ s'=>SP X pins Q .next s') a7 C) (Q:=λx H1=>K5 i x σ H1 Q.nx) S hc hg hk ht he h1 h2 q2 λD C H' s' I' q n f=>?_;obtain ⟨m,hn⟩:=n;obtain ⟨f0,f1,f2,f3,f4,f5⟩:=f
 show wpAny _ _ (assign (.Name y py) X.env (.ref D)) _ _ _;refine wpAny_assign_Name (bT (v:=.ref D) (u:=.ref D) I' hN hy hl rfl (λab a6 a5=>?_) hf);obtain ⟨a,sb,ha⟩:=a5;have a8:C≠a:=by
  rcases ha with rfl|ha
  ·exact f1
  ·exact λq=>f4 _ _ ha q.symm
 refine ⟨m,hn.sameBut sb a8,λh' b0=>?_⟩;exact ⟨_,H',a6.turned (t':=ab.toks) (λb o hb e=>b0.extBut b o hb e) f0 f1 f3 f4 f5,q⟩
def Sq.same {K:Frag}(e:Same H H') (h:Sq K H t a xs):Sq K H' t a xs:=by
 unfold Sq at h ⊢
 split
 ·rename_i ht;rw[qA2 ht]at h
  rcases h with (h|⟨o,h⟩)|h
  ·exact .inl (.inl (e _ _ h))
  ·exact .inl (.inr ⟨o,e _ _ h⟩)
  ·exact .inr h
 ·rename_i ht;rw[qA4 ht]at h
  exact e.seq h
def seqAt (K:Frag) (H:Hp) (p:Addr) (R:List V->Prop):Prop:=match H p with
 |some (.tup xs)=>R xs
 |some (.lst xs)=>R xs
 |_=>∃t xs,Sq K H t p xs/\R xs
def ItQ (K:Frag)(t:Bool)(a:Addr):It:=if t=true then Itt K a else Itl K a
def iSq (K:Frag)(I:TE):TI:=λσ H R=>I σ H λx H1=>∃a,x=.ref a/\∃t xs,Sq K H1 t a xs/\R (ItQ K t a) H1
def HQ (hl:PE X l tl):PI X tg l (iSq X.K tl):=by
 intro pins s σ H R I h;refine thn (hl pins s σ H _ I h) λv s1 a3=>?_;obtain ⟨x,H1,O,r1,q1⟩:=a3;obtain ⟨a,e,t,xs,hq,q⟩:=q1;subst e;cases r1;cases t with
 | true=>
  have a0:SqT X.K H1 a xs:=by unfold Sq at hq;rw[qA2 rfl]at hq;exact hq
  obtain ⟨its,rv,p,hz⟩:=O.tuple a0;refine qS0 (show s1.heap.IsTuple a its.toArray from p) ?_;refine ⟨s1.heap.objs.size,[s1.heap.objs.size],_,Itt X.K a,H1,rfl,O.kept (t':=s1.toks) λb o e=>qA5 _ e,pe a _,⟨_,qC2 _ rfl,rfl,rfl⟩,λb hb=>?_,q⟩;have e:b=s1.heap.objs.size:=by simpa using hb
  subst e;exact O.fpOk (qB5 _) (O.hok.fresh (qB5 _))
 | false=>
  have a0:SqL X.K H1 a xs:=by unfold Sq at hq;rw[qA4 qA9]at hq;exact hq
  obtain ⟨its,rv,p,hz⟩:=O.list a0;refine qQ5 p.isList ?_;refine ⟨s1.heap.objs.size,[s1.heap.objs.size],_,Itl X.K a,H1,rfl,O.kept (t':=s1.toks) λb o e=>qA5 _ e,rm a _,⟨_,qC2 _ rfl,rfl,rfl⟩,λb hb=>?_,q⟩;have e:b=s1.heap.objs.size:=by simpa using hb
  subst e;exact O.fpOk (qB5 _) (O.hok.fresh (qB5 _))
def oS:bootBuiltins "list" = some (.type "list"):=by decide +kernel
def v9:bootBuiltins "tuple" = some (.type "tuple"):=by decide +kernel
def tyO:Option HO->Option String
 |some (.lst _)=>some "list"
 |some (.tup _)=>some "tuple"
 |some (.dK _)=>some "dict"
 |_=>none
def tyB (H:Hp):V->Option String
 | .non=>some "NoneType"
 | .bl _=>some "bool"
 | .int _=>some "int"
 | .str _=>some "str"
 | .ref a=>tyO (H a)
 |_=>none
def A3 (A T:String):Option Bool:=
 if A=T then some true else if A = "bool" /\ T = "int" then some true
 else if (A = "NoneType" \/ A = "bool" \/ A = "int" \/ A = "str" \/ A = "list" \/ A = "tuple" \/ A = "dict")/\(T = "bool" \/ T = "int" \/ T = "list" \/ T = "tuple") then some false else none
def Cd {K:Frag}(h:tyB H x=some A):R5 K H x (.type A):=by
 cases x with
 |non=>cases h;exact .non
 |bl _=>cases h;exact .bl _
 |int _=>cases h;exact .int _
 |str _=>cases h;exact .str _
 | ref a=>
  have h:tyO (H a)=some A:=h;cases e:H a with
  |none=>rw[e]at h;cases h
  | some o=>
   rw[e]at h;cases o <;> first | (cases h;exact .lst e) | (cases h;exact .tup e) | (cases h;exact .dK e)|cases h
 |_=>cases h
def AQ {K:Frag}(h:A3 A T=some b):PySem.W.kitOne K (.type A) (.type T)=some b:=by
 unfold A3 at h
 split at h
 ·rename_i e;subst e;cases h
  unfold PySem.W.kitOne;rw[qA2 Qy]
 ·split at h
  ·rename_i e;obtain ⟨rfl,rfl⟩:=e;cases h;with_unfolding_all rfl
  ·split at h
   ·rename_i h1 h2 e
    obtain ⟨O,I⟩:=e;cases h;rcases O with rfl|rfl|rfl|rfl|rfl|rfl|rfl <;> rcases I with rfl|rfl|rfl|rfl <;>
     first|exact absurd rfl h1|exact absurd ⟨rfl,rfl⟩ h2|with_unfolding_all rfl
   ·cases h
def rIsi:List V->Hp->VK->Prop:=λxs H Q=>∃x T,xs = [x,.ty T]/\∃A,tyB H x=some A/\∃b,A3 A T=some b/\Q (.bl b) H
def mG:K8 X (.builtin "isinstance") rIsi:=by
 intro pins s σ H xs us Q I r h;obtain ⟨x,T,rfl,A,ty,b,e,q⟩:=h;obtain ⟨u,O,rfl,r1,r2⟩:=vals2 r;have e2:O=Value.type T:=r2;subst e2;exact tR I r1 (Cd ty) (AQ e) λtk=>⟨.bl b,H,I.tok tk,rfl,q⟩
def Fg:A3 "bool" "bool" = some true:=Qz
def Ff:A3 "bool" "int" = some true:=Qz
def Fe:A3 "int" "bool" = some false:=Qz
def Fd:A3 "int" "int" = some true:=Qz
def EN:A3 "tuple" "tuple" = some true:=Qz
def Fa:A3 "list" "list" = some true:=Qz
def EW:A3 "NoneType" "int" = some false:=Qz
def EY:A3 "NoneType" "bool" = some false:=Qz
def ES:A3 "str" "int" = some false:=Qz
def ET:A3 "str" "bool" = some false:=Qz
def Fb:A3 "list" "int" = some false:=Qz
def Fc:A3 "list" "bool" = some false:=Qz
def EQ:A3 "tuple" "int" = some false:=Qz
def ER:A3 "tuple" "bool" = some false:=Qz
def aK {n:Nat}{i:Int}(h0:0<=i)(I:i<n):ixN n i=some i.toNat:=by unfold ixN;rw[qA2 h0,qA2 I]
def mem_getD {ms:List Int}{P:Int->Prop}(h:∀x∈ms,P x) (hi:i<ms.length):P (ms.getD i 0):=by
 have:ms.getD i 0=ms[i]:=by simp [hi]
 rw[this];exact h _ (qF0 hi)
structure Runs (J:It) (n:Nat) (H1:Hp) (Y:Nat->V->Hp->Hp->Prop):Prop where
 go:∀i H,i<n->Same H1 H->J.go i H
 stop:∀H,Same H1 H->J.stop n H
 yld:∀i H x H',i<n->Same H1 H->J.yld i H x H'->Y i x H H'
def rX {K:Frag}(h:Sq K H1 t a xs) (h':Sq K H1 u b ys):
  Runs (ItZ K [(t,a),(u,b)]) (min xs.length ys.length) H1 λi x H H'=>∃p y z,x=.ref p/\H p=none/\H'=upd H p (.tup [y,z])/\xs[i]?=some y/\ys[i]?=some z:=by
 refine ⟨λi H hi s v O=>?_,λH s=>⟨λv O=>?_,?_⟩,λi H x H' hi s hy=>?_⟩
 ·simp only [qB3,qE1,qR0]at O;rcases O with rfl|rfl
  ·exact ⟨xs,xs[i]'(qB6 hi (qN4 _ _)),Sq.same s h,Qy⟩
  ·exact ⟨ys,ys[i]'(qB6 hi (qM2 _ _)),Sq.same s h',Qy⟩
 ·simp only [qB3,qE1,qR0]at O;rcases O with rfl|rfl
  ·exact ⟨xs,Sq.same s h⟩
  ·exact ⟨ys,Sq.same s h'⟩
 ·rcases Nat.le_total xs.length ys.length with q|q
  ·exact ⟨(t,a),Qy,xs,Sq.same s h,ox⟩
  ·exact ⟨(u,b),Qy,ys,Sq.same s h',ox⟩
 ·obtain ⟨p,zs,e1,e2,e3,I⟩:=hy;cases I with
  | cons r1 I=>
   cases I with
   | cons r2 I=>
    cases I;exact ⟨p,_,_,e1,e2,e3,r1 xs (Sq.same s h),r2 ys (Sq.same s h')⟩
def rW {K:Frag}(h:Sq K H1 t a xs) (h':Sq K H1 u b ys) (I:Sq K H1 w c zs):
  Runs (ItZ K [(t,a),(u,b),(w,c)]) (min xs.length (min ys.length zs.length)) H1 λi x H H'=>∃p y z v,x=.ref p/\H p=none/\H'=upd H p (.tup [y,z,v])/\xs[i]?=some y/\ys[i]?=some z/\zs[i]?=some v:=by
 refine ⟨λi H hi s v hv=>?_,λH s=>⟨λv hv=>?_,?_⟩,λi H x H' hi s hy=>?_⟩
 ·simp only [qB3,qE1,qR0]at hv;rcases hv with rfl|rfl|rfl
  ·exact ⟨xs,xs[i]'(qB6 hi (qN4 _ _)),Sq.same s h,Qy⟩
  ·exact ⟨ys,ys[i]'(qB6 hi (qD7 (qM2 _ _) (qN4 _ _))),Sq.same s h',Qy⟩
  ·exact ⟨zs,zs[i]'(qB6 hi (qD7 (qM2 _ _) (qM2 _ _))),Sq.same s I,Qy⟩
 ·simp only [qB3,qE1,qR0]at hv;rcases hv with rfl|rfl|rfl
  ·exact ⟨xs,Sq.same s h⟩
  ·exact ⟨ys,Sq.same s h'⟩
  ·exact ⟨zs,Sq.same s I⟩
 ·have:min xs.length (min ys.length zs.length)=xs.length\/min xs.length (min ys.length zs.length)=ys.length\/min xs.length (min ys.length zs.length)=zs.length:=ox
  rcases this with q|q|q
  ·exact ⟨(t,a),Qy,xs,Sq.same s h,ox⟩
  ·exact ⟨(u,b),Qy,ys,Sq.same s h',ox⟩
  ·exact ⟨(w,c),Qy,zs,Sq.same s I,ox⟩
 ·obtain ⟨p,vs,e1,e2,e3,O⟩:=hy;cases O with
  | cons r1 O=>
   cases O with
   | cons r2 O=>
    cases O with
    | cons r3 O=>
     cases O;exact ⟨p,_,_,_,e1,e2,e3,r1 xs (Sq.same s h),r2 ys (Sq.same s h'),r3 zs (Sq.same s I)⟩
structure Def (K:Frag) (mg:Str->Option Value) (x:Str) (st:Stmt) (ps:List Str) (f:Addr) (fd:FuncData):Prop where
 F:Fun K x x st f fd
 m:mg x=some (.ref f)
 b:Binds K fd ps []
def z7 {X:Cx}(K:Frag){es:List Expr}{pos:Pos}{k:Nat}{t:TGs}(n:Nat)(hc:X.calm=true)(h:PGs X es t)(O:X.K=K:=by rfl)(hn:(assignEach es X.env).length=n:=by rfl)(I:(assignEach es X.env).findIdx? (·.1)=none:=by rfl):PG X (.Tuple es k pos) (qh K n t):=by subst O;exact DZ hc h hn I
def vw (I:TE) (O:TE):TE:=λσ H Q=>I σ H λx H1=>∃p,x=.ref p/\(∃xs,H1 p=some (.lst xs))/\O σ H1 λy H2=>match H2 p with
 |some (.lst xs)=>xs.length<sizeLine/\Q .non (upd H2 p (.lst (xs ++ [y])))
 |_=>False
def iY {X:Cx}{o e:Expr}{to te:TE}{apos O:Pos}(ho:PE X o to) (ha:PE X e te) (a0:attributeBase o "append" X.env (eval o X.env)=eval o X.env:=by rfl) (a7:((backTo O (starEach [e] X.env)).all (λx=>!x.1)&&(backToKw O (keywordEach [] X.env)).all (λx=>x.1.isSome)
   && decide (([e]:List Expr).length+([]:List Keyword).length+(if ([]:List Keyword).isEmpty then 0 else 1)<30))=true:=by rfl) (a3:(apos.endLine == O.line)=true:=by rfl) (hs:starEach [e] X.env=(false,eval e X.env)::starEach [] X.env:=by rfl):PE X (.Call (.Attribute o "append" apos) [e] [] O) (vw to te):=by
 intro pins s σ H Q I h;refine wpAny_Call_method_late a0 a7 a3 rfl (thn (ho pins s σ H _ I h) λv s1 a4=>?_);obtain ⟨x,H1,I1,r1,p,ex,⟨xs,e1⟩,q1⟩:=a4;subst ex;obtain ⟨h1,h2⟩:=jQ (T := "list") I1 r1 (.inl ⟨rfl,xs,SqL.of e1⟩);refine ⟨"list","list.append",qS6,PySem.F.slot_list_append,PySem.F.type_list_append,h1,h2,?_⟩;have hA:=dl ha pa_nil hs O pins s1 σ H1 (λvs H2=>∃y,vs = [y]/\match H2 p with
  |some (.lst xs)=>xs.length<sizeLine/\Q .non (upd H2 p (.lst (xs ++ [y])))
  | _=>False) I1 (by
   have e:(λ(y:V) (H2:Hp)=>match H2 p with
     |some (.lst xs)=>xs.length<sizeLine/\Q .non (upd H2 p (.lst (xs ++ [y])))
     |_=>False)=λ(y:V) (H2:Hp)=>∃y',[y] = [y']/\match H2 p with
     |some (.lst xs)=>xs.length<sizeLine/\Q .non (upd H2 p (.lst (xs ++ [y'])))
     |_=>False:=by
    funext y H2
    exact propext ⟨λq=>⟨y,rfl,q⟩,λa5=>by obtain ⟨y',e,q⟩:=a5;cases e;exact q⟩
   rw[e]at q1;exact q1)
 rw[hs]at hA ⊢;refine qT1 rfl (Calls.evalArgs_plain ?_);refine thn hA λus s2 a6=>?_;obtain ⟨vs,H2,I2,r2,y,ev,q2⟩:=a6;subst ev;refine cz pins s2 σ H2 (.ref p) [y] v us Q I2 r1 r2 ?_
 split at q2
 ·rename_i ys e2;exact ⟨p,ys,y,rfl,rfl,e2,q2.1,q2.2⟩
 ·exact q2.elim
def vX (K:Frag):V->Option Int->Option Int->Hp->VK->Prop:=λx lo hi H Q=>∃p,x=.ref p/\∃xs,SqL K H p xs/\∀l,H l=none->Q (.ref l) (upd H l (.lst (bB xs lo hi)))
def yQ (i j:Int):Prop:=0<=j/\(Builtin.Int.intBits i:Int)*j<=2^27
def bU {ns:List Int}(h:i<ns.length):ns[i]?=some (ns.getD i 0):=by rw[qA0];simp [h]
end L2
namespace TP
open PySem L2
inductive W where
 |non|bl (b:Bool)|int (i:Int)|str (x:Str)|ty (n:String)|tup (ws:List W)|lst (ws:List W)|scr (ws:List W)
 |exc (c:Str) (i:Option Int)|cls (c:Str)
def XD (F:Hp) (od:Option Addr):Option Int->Prop
 |none=>od=none
 |some i=>∃d,od=some d/\F d=some (.xd [("at",.int i)])
mutual
inductive Rep (K:Frag) (F:Hp):V->W->Prop where
 |non:Rep K F .non .non
 |bl {b:Bool}:Rep K F (.bl b) (.bl b)
 |int {i:Int}:Rep K F (.int i) (.int i)
 |str {x:Str}:Rep K F (.str x) (.str x)
 |ty {n:String}:Rep K F (.ty n) (.ty n)
 |tup {a:Addr}{vs:List V}{ws:List W}:F a=some (.tup vs)->Reps K F vs ws->Rep K F (.ref a) (.tup ws)
 |lst {a:Addr}{vs:List V}{ws:List W}:F a=some (.lst vs)->Reps K F vs ws->Rep K F (.ref a) (.lst ws)
 |scr {a:Addr}{vs:List V}{ws:List W}:SqL K F a vs->Reps K F vs ws->Rep K F (.ref a) (.scr ws)
 |exc {a C:Addr}{o:Obj}{vs:Array Value}{c:Str}{i:Option Int}:F a=some (.ext λh=>h.get? a=some o)->o.cls=.ref C->o.data=.fields vs->PySem.W.nsIn K mainGlobals c=some (some (.ref C))->XD F o.dict i->Rep K F (.ref a) (.exc c i)
 |cls {C:Addr}{c:Str}:PySem.W.nsIn K mainGlobals c=some (some (.ref C))->Rep K F (.ref C) (.cls c)
inductive Reps (K:Frag) (F:Hp):List V->List W->Prop where
 |nil:Reps K F [] []
 |cons {v:V}{w:W}{vs:List V}{ws:List W}:Rep K F v w->Reps K F vs ws->Reps K F (v::vs) (w::ws)
end
def vA (e:Same F F') (h:SqT K F a xs):SqT K F' a xs:=by
 rcases h with (h|⟨o,h⟩)|h
 ·exact .inl (.inl (e _ _ h))
 ·exact .inl (.inr ⟨o,e _ _ h⟩)
 ·exact .inr h
def XD.same (e:Same F F'):∀{i:Option Int},XD F od i->XD F' od i:=by
 intro i h;cases i with
 |none=>exact h
 |some _=>obtain ⟨d,O,I⟩:=h;exact ⟨d,O,e _ _ I⟩
def Rep.same (e:Same F F') (r:Rep K F v w):Rep K F' v w:=
 @Rep.rec K F (λv w _=>Rep K F' v w) (λvs ws _=>Reps K F' vs ws) .non .bl .int .str .ty (λh _ r=>.tup (e _ _ h) r) (λh _ r=>.lst (e _ _ h) r) (λh _ r=>.scr (Same.seq e h) r) (λh1 I h3 h4 O=>.exc (e _ _ h1) I h3 h4 (XD.same e O)) (λh=>.cls h) .nil (λ_ _ a b=>.cons a b) v w r
def Reps.same (e:Same F F') (r:Reps K F vs ws):Reps K F' vs ws:=
 @Reps.rec K F (λ_ _ _=>True) (λvs ws _=>Reps K F' vs ws) trivial trivial trivial trivial trivial (λ_ _ _=>trivial) (λ_ _ _=>trivial) (λ_ _ _=>trivial) (λ_ _ _ _ _=>trivial) (λ_=>trivial) .nil (λh _ _ b=>.cons (Rep.same e h) b) vs ws r
def Reps.ind {P:List V->List W->Prop}(h0:P [] []) (I:∀{v:V}{w:W}{vs:List V}{ws:List W},Rep K F v w->Reps K F vs ws->P vs ws->P (v::vs) (w::ws)) (r:Reps K F vs ws):P vs ws:=
 @Reps.rec K F (λ_ _ _=>True) (λvs ws _=>P vs ws) trivial trivial trivial trivial trivial (λ_ _ _=>trivial) (λ_ _ _=>trivial) (λ_ _ _=>trivial) (λ_ _ _ _ _=>trivial) (λ_=>trivial) h0 (λh r _ b=>I h r b) vs ws r
def Hr (K:Frag) (F:Hp) (v:V):W->Prop
 | .non=>v=.non
 | .bl b=>v=.bl b
 | .int i=>v=.int i
 | .str x=>v=.str x
 | .ty n=>v=.ty n
 | .tup ws=>∃a vs,v=.ref a/\F a=some (.tup vs)/\Reps K F vs ws
 | .lst ws=>∃a vs,v=.ref a/\F a=some (.lst vs)/\Reps K F vs ws
 | .scr ws=>∃a vs,v=.ref a/\SqL K F a vs/\Reps K F vs ws
 | .exc _ _=>True
 | .cls _=>True
def Rep.inv (r:Rep K F v w):Hr K F v w:=
 @Rep.rec K F (λv w _=>Hr K F v w) (λ_ _ _=>True) rfl rfl rfl rfl rfl (λh r _=>⟨_,_,rfl,h,r⟩) (λh r _=>⟨_,_,rfl,h,r⟩) (λh r _=>⟨_,_,rfl,h,r⟩) (λ_ _ _ _ _=>trivial) (λ_=>trivial) trivial (λ_ _ _ _=>trivial) v w r
def yL (K:Frag) (F:Hp) (vs:List V):List W->Prop
 | []=>vs = []
 |w::ws=>∃v us,vs=v::us/\Rep K F v w/\Reps K F us ws
def Reps.inv (r:Reps K F vs ws):yL K F vs ws:=
 Reps.ind (P:=λvs ws=>yL K F vs ws) rfl (λh t _=>⟨_,_,rfl,h,t⟩) r
def Reps.length (r:Reps K F vs ws):vs.length=ws.length:=
 Reps.ind (P:=λvs ws=>vs.length=ws.length) rfl (λ_ _ h=>congrArg (·+1) h) r
def Reps.get {i:Nat}(r:Reps K F vs ws):ws[i]?=some w->∃v,vs[i]?=some v/\Rep K F v w:=
 Reps.ind (P:=λvs ws=>∀(i:Nat) (w:W),ws[i]?=some w->∃v,vs[i]?=some v/\Rep K F v w) (λi w e=>by cases e) (λh _ b i w e=>by
  cases i with
  |zero=>cases e;exact ⟨_,rfl,h⟩
  |succ i=>exact b i w e) r i w
def Reps.get' {i:Nat}(r:Reps K F vs ws):vs[i]?=some v->∃w,ws[i]?=some w/\Rep K F v w:=
 Reps.ind (P:=λvs ws=>∀(i:Nat) (v:V),vs[i]?=some v->∃w,ws[i]?=some w/\Rep K F v w) (λi w e=>by cases e) (λh _ b i w e=>by
  cases i with
  |zero=>cases e;exact ⟨_,rfl,h⟩
  |succ i=>exact b i w e) r i v
def Reps.append (r:Reps K F vs ws) (s:Reps K F us xs):Reps K F (vs++us) (ws++xs):=
 Reps.ind (P:=λvs ws=>Reps K F (vs++us) (ws++xs)) s (λh _ b=>.cons h b) r
def Reps.take (n:Nat) (r:Reps K F vs ws):Reps K F (vs.take n) (ws.take n):=
 Reps.ind (P:=λvs ws=>∀n,Reps K F (vs.take n) (ws.take n)) (λn=>by simpa using .nil) (λh _ b n=>by
  cases n with
  |zero=>exact .nil
  |succ n=>exact .cons h (b n)) r n
def Reps.drop (n:Nat) (r:Reps K F vs ws):Reps K F (vs.drop n) (ws.drop n):=
 Reps.ind (P:=λvs ws=>∀n,Reps K F (vs.drop n) (ws.drop n)) (λn=>by simpa using .nil) (λh r b n=>by
  cases n with
  |zero=>exact .cons h r
  |succ n=>exact b n) r n
def Reps.reverse (r:Reps K F vs ws):Reps K F vs.reverse ws.reverse:=by
 induction r using Reps.rec (motive_1:=λ_ _ _=>True) with
 |nil=>exact .nil
 |cons h _ _ I=>rw[qI6,qI6];exact Reps.append I (.cons h .nil)
 |_=>trivial
def Reps.set (h:Rep K F v w) (i:Nat) (r:Reps K F vs ws):Reps K F (vs.set i v) (ws.set i w):=
 Reps.ind (P:=λvs ws=>∀i,Reps K F (vs.set i v) (ws.set i w)) (λ_=>.nil) (λq t b i=>by
  cases i with
  |zero=>exact .cons h t
  |succ i=>exact .cons q (b i)) r i
def Reps.snoc (r:Reps K F vs ws)(h:Rep K F v w):Reps K F (vs ++ [v]) (ws ++ [w]):=r.append (.cons h .nil)
mutual
def noL:W->Bool
 | .lst _=>false
 | .scr _=>false
 | .tup ws=>j7 ws
 |_=>true
def j7:List W->Bool
 | []=>true
 |w::ws=>noL w&&j7 ws
end
def isL:HO->Bool
 | .lst _=>true
 | .dT _=>true
 | .dK _=>true
 | .frz _ (.lst _)=>true
 |_=>false
def join (H0 G:Hp):Hp:=λa=>match H0 a with
 |some o=>if isL o then some o else G a
 |none=>G a
inductive Sl where
 |un|val (w:W)|par (w:W)|own (ws:List W)|dic (ks:List (List Int))|dik (ks:List Int)|iop (p:Addr) (ws:List W)|hz (w:W)
abbrev Rho:=List Sl
def io (G:Hp):Hp:=λa=>match G a with
 |some o=>if isL o then none else some o
 |none=>none
def Z5 (h:Same G G'):Same (io G) (io G'):=λa o e=>by
 unfold io at e ⊢;cases q:G a with
 |none=>rw[q]at e;cases e
 |some u=>rw[q]at e;rw[h a u q];exact e
def wF:Same (io G) G:=λa o e=>by
 unfold io at e;cases q:G a with
 |none=>rw[q]at e;cases e
 | some u=>
  rw[q]at e;dsimp only at e;cases I:isL u
  ·rw[I]at e;exact e
  ·rw[I]at e;cases e
def SlR (K:Frag) (H0 G H:Hp):Sl->Option V->Prop
 | .un,_=>True
 | .val w,o=>∃v,o=some v/\Rep K G v w
 | .par w,o=>∃v,o=some v/\Rep K (join H0 G) v w
 | .own ws,o=>∃a vs,o=some (.ref a)/\H a=some (.lst vs)/\G a=none/\H0 a=none/\Reps K G vs ws
 | .dic ks,o=>∃(a:Addr) (kvs:List (List Key×V)),o=some (.ref a)/\H a=some (.dT kvs)/\G a=none/\H0 a=none/\kvs.map (·.1)=ks.map λk=>k.map Sum.inl
 | .dik ks,o=>∃(a:Addr) (kvs:List (Key×V)),o=some (.ref a)/\H a=some (.dK kvs)/\G a=none/\H0 a=none/\kvs.map (·.1)=ks.map Sum.inl
 | .iop p ws,o=>o=some (.ref p)/\∃vs,H0 p=some (.lst vs)/\Reps K G vs ws
 | .hz w,o=>∃v,o=some v/\Rep K (join H0 (io G)) v w
structure PIv (K:Frag) (H0 G:Hp) (ρ:Rho) (σ:St) (H:Hp):Prop where
 g0:∀a o,H0 a=some o->isL o=false->G a=some o
 gl:∀a o,H0 a=some o->isL o=true->G a=none
 gh:Same G H
 hh:Same H0 H
 len:ρ.length=σ.length
 sl:∀(i:Nat) (x:Sl) (o:Option V),ρ[i]?=some x->σ[i]?=some o->SlR K H0 G H x o
 ne:∀(i j:Nat) (ws us:List W) (a:Addr),i≠j->ρ[i]?=some (.own ws)->ρ[j]?=some (.own us)->σ[i]?=some (some (.ref a))->σ[j]?≠some (some (.ref a))
structure Ext (G H G' H':Hp):Prop where
 gg:Same G G'
 hh:Same H H'
 gh:Same G' H'
 keep:∀a o,H a=some o->isL o=true->G a=none->G' a=none
def Ext.refl (h:Same G H):Ext G H G H:=⟨Same.refl G,Same.refl H,h,λ_ _ _ _ e=>e⟩
def Ext.trans (a:Ext G H G1 H1) (b:Ext G1 H1 G2 H2):Ext G H G2 H2:=
 ⟨a.gg.trans b.gg,a.hh.trans b.hh,b.gh,λx o h l e=>b.keep x o (a.hh x o h) l (a.keep x o h l e)⟩
def w6 (h:Same G G'):Same (join H0 G) (join H0 G'):=λa o e=>by
 unfold join at e ⊢;cases q:H0 a with
 |none=>rw[q]at e;exact h a o e
 | some u=>
  rw[q]at e;dsimp only at e ⊢;by_cases I:isL u=true
  ·rw[qA2 I]at e ⊢;exact e
  ·rw[qA4 I]at e ⊢;exact h a o e
def PIv.G_join (I:PIv K H0 G ρ σ H):Same G (join H0 G):=λa o e=>by
 unfold join;cases q:H0 a with
 |none=>exact e
 | some u=>
  dsimp only;by_cases O:isL u=true
  ·rw[I.gl a u q O]at e;cases e
  ·rw[qA4 O];exact e
def PIv.join_H (I:PIv K H0 G ρ σ H):Same (join H0 G) H:=λa o e=>by
 unfold join at e;cases q:H0 a with
 |none=>rw[q]at e;exact I.gh a o e
 | some u=>
  rw[q]at e;dsimp only at e;by_cases O:isL u=true
  ·rw[qA2 O]at e;cases e;exact I.hh a _ q
  ·rw[qA4 O]at e;exact I.gh a o e
def PIv.ext (I:PIv K H0 G ρ σ H) (x:Ext G H G' H'):PIv K H0 G' ρ σ H' where
 g0 a o e l:=x.gg a o (I.g0 a o e l)
 gl a o e l:=x.keep a o (I.hh a o e) l (I.gl a o e l)
 gh:=x.gh
 hh:=I.hh.trans x.hh
 len:=I.len
 sl i s o h1 h2:=by
  have:=I.sl i s o h1 h2
  cases s with
  |un=>trivial
  |val w=>obtain ⟨v,e,r⟩:=this;exact ⟨v,e,r.same x.gg⟩
  |par w=>obtain ⟨v,e,r⟩:=this;exact ⟨v,e,r.same (w6 x.gg)⟩
  | own ws=>
   obtain ⟨a,vs,e,h,g,h0,r⟩:=this;exact ⟨a,vs,e,x.hh a _ h,x.keep a _ h rfl g,h0,r.same x.gg⟩
  | dic ks=>
   obtain ⟨a,kvs,e,h,g,h0,r⟩:=this;exact ⟨a,kvs,e,x.hh a _ h,x.keep a _ h rfl g,h0,r⟩
  | dik ks=>
   obtain ⟨a,kvs,e,h,g,h0,r⟩:=this;exact ⟨a,kvs,e,x.hh a _ h,x.keep a _ h rfl g,h0,r⟩
  | iop p ws=>
   obtain ⟨e,vs,h,r⟩:=this;exact ⟨e,vs,h,r.same x.gg⟩
  |hz w=>obtain ⟨v,e,r⟩:=this;exact ⟨v,e,r.same (w6 (Z5 x.gg))⟩
 ne:=I.ne
def fo (h:join H0 G a=some o) (l:isL o=false):G a=some o:=by
 unfold join at h;cases q:H0 a with
 |none=>rw[q]at h;exact h
 | some u=>
  rw[q]at h;dsimp only at h;by_cases I:isL u=true
  ·rw[qA2 I]at h;cases h;rw[I]at l;cases l
  ·rw[qA4 I]at h;exact h
def XD.clean:∀{i:Option Int},XD (join H0 G) od i->XD G od i
 |none,h=>h
 |some _,⟨d,h1,h2⟩=>⟨d,h1,fo h2 rfl⟩
def Rep.clean (I:PIv K H0 G ρ σ H) (r:Rep K (join H0 G) v w):noL w=true->Rep K G v w:=
 @Rep.rec K (join H0 G) (λv w _=>noL w=true->Rep K G v w) (λvs ws _=>j7 ws=true->Reps K G vs ws) (λ_=>.non) (λ_=>.bl) (λ_=>.int) (λ_=>.str) (λ_=>.ty)
  (λh _ r n=>.tup (fo h rfl) (r n)) (λ_ _ _ n=>by cases n) (λ_ _ _ n=>by cases n) (λh1 O h3 h4 h5 _=>.exc (fo h1 rfl) O h3 h4 (XD.clean h5)) (λh _=>.cls h) (λ_=>.nil)
  (λ_ _ a b n=>by rw[j7,qG4]at n;exact .cons (a n.1) (b n.2)) v w r
def Reps.clean (I:PIv K H0 G ρ σ H) (r:Reps K (join H0 G) vs ws):j7 ws=true->Reps K G vs ws:=
 @Reps.rec K (join H0 G) (λ_ _ _=>True) (λvs ws _=>j7 ws=true->Reps K G vs ws) trivial trivial trivial trivial trivial (λ_ _ _=>trivial) (λ_ _ _=>trivial) (λ_ _ _=>trivial) (λ_ _ _ _ _=>trivial) (λ_=>trivial) (λ_=>.nil)
  (λh _ _ b n=>by rw[j7,qG4]at n;exact .cons (Rep.clean I h n.1) (b n.2)) vs ws r
structure XW where
 cls:Str
 at_:Option Int
inductive R (α:Type) where
 |ok (a:α)|ex (e:XW)|stuck
def R.bind {α I:Type}(x:R α) (f:α->R I):R I:=match x with
 | .ok a=>f a
 | .ex e=>.ex e
 | .stuck=>.stuck
instance:Monad R where
 pure:=R.ok
 bind:=R.bind
@[simp] theorem R.ok_bind {α I:Type}(a:α) (f:α->R I):((R.ok a:R α)>>=f)=f a:=rfl
@[simp] theorem R.stuck_bind {α I:Type}(f:α->R I):((R.stuck:R α)>>=f)=.stuck:=rfl
@[simp] theorem R.ex_bind {α I:Type}(e:XW) (f:α->R I):((R.ex e:R α)>>=f)=.ex e:=rfl
@[simp] theorem R.pure_eq (a:α):(pure a:R α)=.ok a:=rfl
inductive Mode where
 |F|V|U|C|B
def Md (K:Frag) (H0 H G' H':Hp) (v:V) (w:W):Mode->Prop
 | .V=>Rep K G' v w
 | .U=>Rep K (join H0 G') v w
 | .F=>match w with
  | .lst ws=>∃a vs,v=.ref a/\H' a=some (.lst vs)/\G' a=none/\H a=none/\Reps K G' vs ws
  |w=>Rep K G' v w
 | .C=>Rep K G' v w\/∃a vs ws,v=.ref a/\w=.lst ws/\H' a=some (.lst vs)/\Reps K G' vs ws
 | .B=>Rep K (join H0 G') v w\/∃a vs ws,v=.ref a/\w=.lst ws/\H' a=some (.lst vs)/\Reps K G' vs ws
abbrev EXT:=XW->Hp->Prop
def Out {α I:Type}(EX:EXT) (G H:Hp) (md:α->I->Hp->Hp->Prop) (r:R α) (Q:I->Hp->Prop):Prop:=match r with
 | .ok w=>∀v G' H',Ext G H G' H'->md w v G' H'->Q v H'
 | .ex e=>∀H',Same H H'->EX e H'
 | .stuck=>False
abbrev mdW (K:Frag)(d:Mode)(H0 H:Hp):W->V->Hp->Hp->Prop:=λw v G' H'=>Md K H0 H G' H' v w d
abbrev mdB:Bool->Bool->Hp->Hp->Prop:=λb c _ _=>c=b
inductive MdA (K:Frag) (d:Mode) (H0 H G' H':Hp):List W->List V->Prop where
 |nil:MdA K d H0 H G' H' [] []
 |cons {w:W}{v:V}{ws:List W}{vs:List V}:Md K H0 H G' H' v w d->MdA K d H0 H G' H' ws vs->MdA K d H0 H G' H' (w::ws) (v::vs)
def MdAI (K:Frag) (d:Mode) (H0 H G' H':Hp) (vs:List V):List W->Prop
 | []=>vs = []
 |w::ws=>∃v us,vs=v::us/\Md K H0 H G' H' v w d/\MdA K d H0 H G' H' ws us
abbrev mdA (K:Frag)(d:Mode)(H0 H:Hp):List W->List V->Hp->Hp->Prop:=λws vs G' H'=>MdA K d H0 H G' H' ws vs
def tM (K:Frag)(EX:EXT)(d:Mode)(m:Rho->R W):TE:=λσ H Q=>∃H0 G ρ,PIv K H0 G ρ σ H/\Out EX G H (mdW K d H0 H) (m ρ) Q
def tT (K:Frag)(EX:EXT)(m:Rho->R Bool):TT:=λσ H Q=>∃H0 G ρ,PIv K H0 G ρ σ H/\Out EX G H mdB (m ρ) Q
def tA (K:Frag)(EX:EXT)(d:Mode)(m:Rho->R (List W)):TA:=λσ H Q=>∃H0 G ρ,PIv K H0 G ρ σ H/\Out EX G H (mdA K d H0 H) (m ρ) Q
def Out.bind {md:α->β->Hp->Hp->Prop}{I:γ->δ->Hp->Hp->Prop}{m:R α}{k:α->R γ}{Q:δ->Hp->Prop}{O:β->Hp->Prop}(o:Out EX G H I (m>>=k) Q) (h:∀x G1 H1 w,Ext G H G1 H1->md w x G1 H1->Out EX G1 H1 I (k w) Q->O x H1):Out EX G H md m O:=by
 cases m with
 | ok w=>
  intro v G' H' e d;refine h v G' H' w e d ?_;rw[R.ok_bind]at o
  revert o
  cases k w with
  |ok u=>exact λo v2 G2 H2 e2 d2=>o v2 G2 H2 (e.trans e2) d2
  |ex x=>exact λo H2 s2=>o H2 (e.hh.trans s2)
  |stuck=>exact λo=>o
 |ex x=>exact o
 |stuck=>exact o
def Md.start (s:Same H H1) (h:Md K H0 H1 G2 H2 v w d):Md K H0 H G2 H2 v w d:=by
 cases d with
 | F=>
  cases w with
  |lst ws=>obtain ⟨a,vs,e,h1,I,O,r⟩:=h;exact ⟨a,vs,e,h1,I,s.free O,r⟩
  |_=>exact h
 |_=>exact h
def Md.move (x:Ext G1 H1 G2 H2) (h:Md K H0 H G1 H1 v w d):Md K H0 H G2 H2 v w d:=by
 cases d with
 |V=>exact Rep.same x.gg h
 |U=>exact Rep.same (w6 x.gg) h
 | F=>
  cases w with
  |lst ws=>obtain ⟨a,vs,e,I,O,h3,r⟩:=h;exact ⟨a,vs,e,x.hh _ _ I,x.keep _ _ I rfl O,h3,r.same x.gg⟩
  |non=>exact Rep.same x.gg h
  |bl _=>exact Rep.same x.gg h
  |int _=>exact Rep.same x.gg h
  |str _=>exact Rep.same x.gg h
  |ty _=>exact Rep.same x.gg h
  |tup _=>exact Rep.same x.gg h
  |scr _=>exact Rep.same x.gg h
  |exc _ _=>exact Rep.same x.gg h
  |cls _=>exact Rep.same x.gg h
 | C=>
  rcases h with h|⟨a,vs,ws,e,e2,I,r⟩
  ·exact .inl (h.same x.gg)
  ·exact .inr ⟨a,vs,ws,e,e2,x.hh _ _ I,r.same x.gg⟩
 | B=>
  rcases h with h|⟨a,vs,ws,e,e2,I,r⟩
  ·exact .inl (h.same (w6 x.gg))
  ·exact .inr ⟨a,vs,ws,e,e2,x.hh _ _ I,r.same x.gg⟩
def Md.CB (I:PIv K H0 G1 ρ σ H1) (h:Md K H0 H G1 H1 v w .C):Md K H0 H G1 H1 v w .B:=by
 rcases h with h|h
 ·exact .inl (h.same I.G_join)
 ·exact .inr h
def sca:W->Bool
 | .tup _=>false
 | .scr _=>false
 | .lst _=>false
 |_=>true
def Md.sca (I:sca w=true) (r:∀F,Rep K F v w) (d:Mode):Md K H0 H G1 H1 v w d:=by
 cases d with
 |V=>exact r _
 |U=>exact r _
 |C=>exact .inl (r _)
 |B=>exact .inl (r _)
 |F=>cases w <;> first|exact r _|cases I
def Md.repB (h:Md K H0 H G1 H1 v w .B)(n:∀us,w≠.lst us):Rep K (join H0 G1) v w:=Or.elim h id λI=>by obtain ⟨_,_,us,_,e,_⟩:=I;exact absurd e (n us)
def Md.repC (h:Md K H0 H G1 H1 v w .C)(n:∀us,w≠.lst us):Rep K G1 v w:=Or.elim h id λI=>by obtain ⟨_,_,us,_,e,_⟩:=I;exact absurd e (n us)
def Md.lstB (I:PIv K H0 G1 ρ σ H1) (h:Md K H0 H G1 H1 v (.lst ws) .B):∃a vs,v=.ref a/\H1 a=some (.lst vs)/\Reps K (join H0 G1) vs ws:=by
 rcases h with h|⟨a,vs,us,e,e2,h1,r⟩
 ·obtain ⟨a,vs,e,s,r⟩:=h.inv;exact ⟨a,vs,e,I.join_H _ _ s,r⟩
 ·rw[W.lst.inj e2];exact ⟨a,vs,e,h1,r.same I.G_join⟩
def Md.scrB (I:PIv K H0 G1 ρ σ H1) (h:Md K H0 H G1 H1 v (.scr ws) .B):∃a vs,v=.ref a/\SqL K H1 a vs/\Reps K (join H0 G1) vs ws:=by
 obtain ⟨a,vs,e,s,r⟩:=(h.repB λ_=>W.noConfusion).inv;exact ⟨a,vs,e,Same.seq I.join_H s,r⟩
def Md.lstC (I:PIv K H0 G1 ρ σ H1) (h:Md K H0 H G1 H1 v (.lst ws) .C):∃a vs,v=.ref a/\H1 a=some (.lst vs)/\Reps K G1 vs ws:=by
 rcases h with h|⟨a,vs,us,e,e2,h1,r⟩
 ·obtain ⟨a,vs,e,s,r⟩:=h.inv;exact ⟨a,vs,e,I.gh _ _ s,r⟩
 ·rw[W.lst.inj e2];exact ⟨a,vs,e,h1,r⟩
def Md.tupB (I:PIv K H0 G1 ρ σ H1) (h:Md K H0 H G1 H1 v (.tup ws) .B):∃a vs,v=.ref a/\H1 a=some (.tup vs)/\Reps K (join H0 G1) vs ws:=by
 obtain ⟨a,vs,e,s,r⟩:=(h.repB λ_=>W.noConfusion).inv;exact ⟨a,vs,e,I.join_H _ _ s,r⟩
def Md.tupC (I:PIv K H0 G1 ρ σ H1) (h:Md K H0 H G1 H1 v (.tup ws) .C):∃a vs,v=.ref a/\H1 a=some (.tup vs)/\Reps K G1 vs ws:=by
 obtain ⟨a,vs,e,s,r⟩:=(h.repC λ_=>W.noConfusion).inv;exact ⟨a,vs,e,I.gh _ _ s,r⟩
def Md.intB (h:Md K H0 H G1 H1 v (.int i) .B):v=.int i:=(h.repB λ_=>W.noConfusion).inv
def Md.blB (h:Md K H0 H G1 H1 v (.bl i) .B):v=.bl i:=(h.repB λ_=>W.noConfusion).inv
def Md.strB (h:Md K H0 H G1 H1 v (.str i) .B):v=.str i:=(h.repB λ_=>W.noConfusion).inv
def Md.nonB (h:Md K H0 H G1 H1 v .non .B):v=.non:=(h.repB λ_=>W.noConfusion).inv
def Md.tyB (h:Md K H0 H G1 H1 v (.ty n) .B):v=.ty n:=(h.repB λ_=>W.noConfusion).inv
def Aq (h:tM K EX .V m σ H Q):tM K EX .F m σ H Q:=by
 obtain ⟨H0,G,ρ,I,o⟩:=h;refine ⟨H0,G,ρ,I,?_⟩
 revert o
 cases m ρ with
 |ex e=>exact id
 |stuck=>exact id
 | ok w=>
  intro o v G' H' e d;cases w with
  | lst ws=>
   obtain ⟨a,vs,rfl,h1,h2,h3,r⟩:=d;have s1:Same G' (upd G' a (.lst vs)):=λb o q=>by rw[c8 (f7 q h2)];exact q
   refine o _ (upd G' a (.lst vs)) H' ⟨e.gg.trans s1,e.hh,λb o q=>?_,λb o q l g=>?_⟩ (.lst i9 (r.same s1))
   ·by_cases O:b=a
    ·subst O;rw[i9]at q;cases q;exact h1
    ·rw[c8 O]at q;exact e.gh b o q
   ·rw[c8 (f7 q h3)];exact e.keep b o q l g
  |_=>exact o v G' H' e d
def An (h:tM K EX .U m σ H Q):tM K EX .V m σ H Q:=by
 obtain ⟨H0,G,ρ,I,o⟩:=h;refine ⟨H0,G,ρ,I,?_⟩
 revert o
 cases m ρ with
 |ex e=>exact id
 |stuck=>exact id
 |ok w=>exact λo v G' H' e d=>o v G' H' e (Rep.same (I.ext e).G_join d)
def Ao (h:tM K EX .C m σ H Q):tM K EX .V m σ H Q:=by
 obtain ⟨H0,G,ρ,I,o⟩:=h;refine ⟨H0,G,ρ,I,?_⟩
 revert o
 cases m ρ with
 |ex e=>exact id
 |stuck=>exact id
 |ok w=>exact λo v G' H' e d=>o v G' H' e (.inl d)
def Ap (h:tM K EX .B m σ H Q):tM K EX .U m σ H Q:=by
 obtain ⟨H0,G,ρ,I,o⟩:=h;refine ⟨H0,G,ρ,I,?_⟩
 revert o
 cases m ρ with
 |ex e=>exact id
 |stuck=>exact id
 |ok w=>exact λo v G' H' e d=>o v G' H' e (.inl d)
def As (h:tM K EX .B m σ H Q):tM K EX .C m σ H Q:=by
 obtain ⟨H0,G,ρ,I,o⟩:=h;refine ⟨H0,G,ρ,I,?_⟩
 revert o
 cases m ρ with
 |ex e=>exact id
 |stuck=>exact id
 |ok w=>exact λo v G' H' e d=>o v G' H' e (Md.CB (H:=H) (I.ext e) d)
def Ar (h:tM K EX .C m σ H Q):tM K EX .F m σ H Q:=by
 obtain ⟨H0,G,ρ,I,o⟩:=h;refine ⟨H0,G,ρ,I,?_⟩
 revert o
 cases m ρ with
 |ex e=>exact id
 |stuck=>exact id
 | ok w=>
  intro o v G' H' e d;cases w with
  |lst ws=>obtain ⟨a,vs,rfl,O,h2,h3,r⟩:=d;exact o _ G' H' e (.inr ⟨a,vs,ws,rfl,rfl,O,r⟩)
  |_=>exact o v G' H' e (.inl d)
def chk (w:W):R W:=if noL w then .ok w else .stuck
def pR (n:noL w=true) (r:Rep K G1 v w):Md K H0 H G1 H1 v w .F:=by
 cases w with
 |lst ws=>cases n
 |_=>exact r
def ly (hd:d=.F\/d=.V) (h:tM K EX d (λρ=>m ρ>>=chk) σ H Q):tM K EX .U m σ H Q:=by
 obtain ⟨H0,G,ρ,I,o⟩:=h;refine ⟨H0,G,ρ,I,Out.bind o λx G1 H1 w e m1 O=>?_⟩;unfold chk at O;by_cases n:noL w=true
 ·rw [qA2 n]at O
  have r:=Rep.clean (I.ext e) m1 n;refine O x G1 H1 (Ext.refl e.gh) ?_;rcases hd with rfl|rfl
  ·exact pR n r
  ·exact r
 ·rw[qA4 n]at O;exact O.elim
def aR (O:sca w=true) (r:∀F,Rep K F v w) (h:tM K EX d (λ_=>.ok w) σ H Q):tC v σ H Q:=by
 obtain ⟨H0,G,ρ,I,o⟩:=h;exact o v G H (Ext.refl I.gh) (Md.sca O r d)
def b8 (d:Mode) (i:Nat):Rho->R W:=λρ=>match ρ[i]? with
 |some (.val w)=>(match d with | .F=>chk w|_=>.ok w)
 |some (.par w)=>(match d with | .F=>chk w | .V=>chk w | .C=>chk w|_=>.ok w)
 |some (.own ws)=>(match d with | .C=>.ok (.lst ws) | .B=>.ok (.lst ws)|_=>.stuck)
 |some (.iop _ ws)=>(match d with | .B=>.ok (.lst ws) | .U=>.ok (.lst ws)|_=>.stuck)
 |some (.hz w)=>(match d with | .B=>.ok w | .U=>.ok w|_=>.stuck)
 |_=>.stuck
def Out.chk {v:V}{md:W->α->Hp->Hp->Prop}(o:Out EX G H md (chk w) Q):noL w=true/\Out EX G H md (.ok w) Q:=by
 unfold TP.chk at o;by_cases n:noL w=true
 ·rw[qA2 n]at o;exact ⟨n,o⟩
 ·rw[qA4 n]at o;exact o.elim
def jL (h:tM K EX d (b8 d i) σ H Q):P8 i σ H Q:=by
 obtain ⟨H0,G,ρ,I,o⟩:=h;unfold b8 at o;cases e:ρ[i]? with
 |none=>rw[e]at o;exact o.elim
 | some s=>
  rw[e]at o;have hi:i<σ.length:=by rw[<- I.len];exact (qB0.mp e).1
  have es:σ[i]?=some σ[i]:=Qy;have r:=I.sl i s _ e es;cases s with
  |un=>exact o.elim
  | val w=>
   obtain ⟨v,O,r⟩:=r;refine ⟨v,by rw[es,O],?_⟩;cases d with
   |F=>obtain ⟨n,o⟩:=Out.chk (v:=v) o;exact o v G H (Ext.refl I.gh) (pR n r)
   |V=>exact o v G H (Ext.refl I.gh) r
   |U=>exact o v G H (Ext.refl I.gh) (r.same I.G_join)
   |C=>exact o v G H (Ext.refl I.gh) (.inl r)
   |B=>exact o v G H (Ext.refl I.gh) (.inl (r.same I.G_join))
  | par w=>
   obtain ⟨v,O,r⟩:=r;refine ⟨v,by rw[es,O],?_⟩;cases d with
   |F=>obtain ⟨n,o⟩:=Out.chk (v:=v) o;exact o v G H (Ext.refl I.gh) (pR n (Rep.clean I r n))
   |V=>obtain ⟨n,o⟩:=Out.chk (v:=v) o;exact o v G H (Ext.refl I.gh) (Rep.clean I r n)
   |U=>exact o v G H (Ext.refl I.gh) r
   |C=>obtain ⟨n,o⟩:=Out.chk (v:=v) o;exact o v G H (Ext.refl I.gh) (.inl (Rep.clean I r n))
   |B=>exact o v G H (Ext.refl I.gh) (.inl r)
  | own ws=>
   obtain ⟨a,vs,O,ha,hg,h0,r⟩:=r;refine ⟨.ref a,by rw[es,O],?_⟩;cases d with
   |F=>exact o.elim
   |V=>exact o.elim
   |U=>exact o.elim
   |C=>exact o _ G H (Ext.refl I.gh) (.inr ⟨a,vs,ws,rfl,rfl,ha,r⟩)
   |B=>exact o _ G H (Ext.refl I.gh) (.inr ⟨a,vs,ws,rfl,rfl,ha,r⟩)
  |dic ks=>exact o.elim
  |dik ks=>exact o.elim
  | hz w=>
   obtain ⟨v,O,r⟩:=r;refine ⟨v,by rw[es,O],?_⟩;have rj:=r.same (w6 (H0:=H0) (wF (G:=G)));cases d with
   |F=>exact o.elim
   |V=>exact o.elim
   |C=>exact o.elim
   |U=>exact o v G H (Ext.refl I.gh) rj
   |B=>exact o v G H (Ext.refl I.gh) (.inl rj)
  | iop p ws=>
   obtain ⟨O,vs,h0,r⟩:=r;refine ⟨.ref p,by rw[es,O],?_⟩;have rj:Rep K (join H0 G) (.ref p) (.lst ws):=by
    refine .lst (vs:=vs) ?_ (r.same I.G_join);unfold join;rw[h0];rfl
   cases d with
   |F=>exact o.elim
   |V=>exact o.elim
   |U=>exact o _ G H (Ext.refl I.gh) rj
   |C=>exact o.elim
   |B=>exact o _ G H (Ext.refl I.gh) (.inl rj)
def Op2 (K:Frag) (b d:Mode) (r:R2) (f:W->W->R W):Prop:=∀(EX:EXT) (H0 Hs G H:Hp) (ρ:Rho) (σ:St) (O I:Hp) (x y:V) (u v:W) (Q:VK),PIv K H0 G ρ σ H->Same Hs H->Md K H0 O G H x u b->Md K H0 I G H y v b ->
 Out EX G H (mdW K d H0 Hs) (f u v) Q->r x y H Q
def mI (hr:Op2 K b d r f) (h:tM K EX d (λρ=>ma ρ>>=λx=>mb ρ>>=λy=>f x y) σ H Q):tOp r (tM K EX b ma) (tM K EX b mb) σ H Q:=by
 obtain ⟨H0,G,ρ,I,o⟩:=h;refine ⟨H0,G,ρ,I,Out.bind o λx G1 H1 u O m1 o1=>⟨H0,G1,ρ,I.ext O,Out.bind o1 λy G2 H2 v e2 m2 o2=>?_⟩⟩;exact hr EX H0 H G2 H2 ρ σ H H1 x y u v Q ((I.ext O).ext e2) (O.hh.trans e2.hh) (m1.move e2) m2 o2
def Op1 (K:Frag) (b d:Mode) (r:V->Hp->VK->Prop) (f:W->R W):Prop:=∀(EX:EXT) (H0 Hs G H:Hp) (ρ:Rho) (σ:St) (I:Hp) (x:V) (u:W) (Q:VK),PIv K H0 G ρ σ H->Same Hs H->Md K H0 I G H x u b ->
 Out EX G H (mdW K d H0 Hs) (f u) Q->r x H Q
def c_un (hr:Op1 K b d r f) (h:tM K EX d (λρ=>ma ρ>>=λx=>f x) σ H Q):tUn r (tM K EX b ma) σ H Q:=by
 obtain ⟨H0,G,ρ,I,o⟩:=h;exact ⟨H0,G,ρ,I,Out.bind o λx G1 H1 u O m1 o1=>hr EX H0 H G1 H1 ρ σ H x u Q (I.ext O) O.hh m1 o1⟩
def fI (C:Int->Int->Prop) [∀i j,Decidable (C i j)] (g:Int->Int->W):W->W->R W
 | .int i,.int j=>if C i j then .ok (g i j) else .stuck
 |_,_=>.stuck
def fI0 (g:Int->Int->W):W->W->R W
 | .int i,.int j=>.ok (g i j)
 |_,_=>.stuck
def B5 [∀i j,Decidable (C i j)](hs:∀i j,sca (g i j)=true) (hg:∀i j F,Rep K F (gv i j) (g i j)):Op2 K .B d (rI C gv) (fI C g):=by
 intro EX H0 Hs G H ρ σ Ha Hb x y u v Q I s mx O o;cases u <;> first|exact o.elim|skip
 all_goals (cases v <;> first|exact o.elim|skip)
 rename_i i j
 have o':Out EX G H (mdW K d H0 Hs) (if C i j then R.ok (g i j) else .stuck) Q:=o;by_cases c:C i j
 ·rw [qA2 c]at o'
  exact ⟨i,j,mx.intB,O.intB,c,o' _ G H (Ext.refl I.gh) (Md.sca (hs i j) (hg i j) d)⟩
 ·rw[qA4 c]at o';exact o'.elim
def fW (hs:∀i j,sca (g i j)=true) (hg:∀i j F,Rep K F (gv i j) (g i j)):Op2 K .B d (rI0 gv) (fI0 g):=by
 intro EX H0 Hs G H ρ σ Ha Hb x y u v Q I s mx O o;cases u <;> first|exact o.elim|skip
 all_goals (cases v <;> first|exact o.elim|skip)
 rename_i i j
 exact ⟨i,j,mx.intB,O.intB,o _ G H (Ext.refl I.gh) (Md.sca (hs i j) (hg i j) d)⟩
def fU (g:Int->W):W->R W
 | .int i=>.ok (g i)
 |_=>.stuck
def ln (hs:∀i,sca (g i)=true) (O:∀i F,Rep K F (gv i) (g i)):Op1 K .B d (rU gv) (fU g):=by
 intro EX H0 Hs G H ρ σ Ha x u Q I s mx o;cases u <;> first|exact o.elim|skip
 rename_i i
 exact ⟨i,mx.intB,o _ G H (Ext.refl I.gh) (Md.sca (hs i) (O i) d)⟩
def isN:W->Bool
 | .non=>true
 |_=>false
def N1 (neg:Bool):W->W->R W
 |u,.non=>.ok (.bl (if neg then !isN u else isN u))
 |_,_=>.stuck
def tS (O:b=.B\/b=.U\/b=.V\/b=.C) (h:Md K H0 Hs G1 H1 v w b):decide (v=.non)=isN w:=by
 have I:∀F,Rep K F v w->decide (v=.non)=isN w:=λF r=>by
  cases r <;> first|rfl | (apply qO7;intro z;cases z)
 rcases O with rfl|rfl|rfl|rfl
 ·rcases h with h|⟨a,vs,ws,rfl,rfl,_⟩
  ·exact I _ h
  ·apply qO7;intro z;cases z
 ·exact I _ h
 ·exact I _ h
 ·rcases h with h|⟨a,vs,ws,rfl,rfl,_⟩
  ·exact I _ h
  ·apply qO7;intro z;cases z
def X0:Op2 K .B d (λx y H Q=>y=.non/\Q (.bl (decide (x=.non))) H) (N1 false):=by
 intro EX H0 Hs G H ρ σ Ha Hb x y u v Q I s mx O o;cases v <;> first|exact o.elim|skip
 refine ⟨O.nonB,?_⟩;rw[tS (.inl rfl) mx];exact o _ G H (Ext.refl I.gh) (Md.sca rfl (λ_=>.bl) d)
def dq:Op2 K .B d (λx y H Q=>y=.non/\Q (.bl (!decide (x=.non))) H) (N1 true):=by
 intro EX H0 Hs G H ρ σ Ha Hb x y u v Q I s mx O o;cases v <;> first|exact o.elim|skip
 refine ⟨O.nonB,?_⟩;rw[tS (.inl rfl) mx];exact o _ G H (Ext.refl I.gh) (Md.sca rfl (λ_=>.bl) d)
def toB:W->R Bool
 | .bl b=>.ok b
 |_=>.stuck
def uH (h:tT K EX (λρ=>ma ρ>>=toB) σ H Q):xW (tM K EX .B ma) σ H Q:=by
 obtain ⟨H0,G,ρ,I,o⟩:=h;refine ⟨H0,G,ρ,I,Out.bind o λx G1 H1 u e1 m1 O=>?_⟩;cases u <;> first|exact O.elim|skip
 rename_i b
 exact ⟨b,m1.blB,O b G1 H1 (Ext.refl e1.gh) rfl⟩
def c_tB (h:tT K EX (λρ=>ma ρ>>=toB) σ H Q):tB (tM K EX .B ma) σ H Q:=uH h
def hZ (a b:R Bool):R Bool:=a>>=λc=>if c then b else .ok false
def rOr (a b:R Bool):R Bool:=a>>=λc=>if c then .ok true else b
def pC (a:R Bool):R Bool:=a>>=λc=>.ok (!c)
def IU (h:tT K EX (λρ=>hZ (ma ρ) (mb ρ)) σ H Q):Cp (tT K EX ma) (tT K EX mb) σ H Q:=by
 obtain ⟨H0,G,ρ,I,o⟩:=h;refine ⟨H0,G,ρ,I,Out.bind o λx G1 H1 u e1 m1 O=>?_⟩;cases m1;cases x with
 |true=>exact ⟨H0,G1,ρ,I.ext e1,O⟩
 |false=>exact O false G1 H1 (Ext.refl e1.gh) rfl
def c_or (h:tT K EX (λρ=>rOr (ma ρ) (mb ρ)) σ H Q):tOr (tT K EX ma) (tT K EX mb) σ H Q:=by
 obtain ⟨H0,G,ρ,I,o⟩:=h;refine ⟨H0,G,ρ,I,Out.bind o λx G1 H1 u e1 m1 O=>?_⟩;cases m1;cases x with
 |true=>exact O true G1 H1 (Ext.refl e1.gh) rfl
 |false=>exact ⟨H0,G1,ρ,I.ext e1,O⟩
def II (h:tT K EX (λρ=>pC (ma ρ)) σ H Q):Ci (tT K EX ma) σ H Q:=by
 obtain ⟨H0,G,ρ,I,o⟩:=h;refine ⟨H0,G,ρ,I,Out.bind o λx G1 H1 u e1 m1 O=>?_⟩;cases m1;exact O _ G1 H1 (Ext.refl e1.gh) rfl
def dg (a b:R W):R W:=a>>=λx=>toB x>>=λc=>if c then b else .ok (.bl false)
def kF (a b:R W):R W:=a>>=λx=>toB x>>=λc=>if c then .ok (.bl true) else b
def jD (a:R W):R W:=a>>=λx=>toB x>>=λc=>.ok (.bl (!c))
def GW (h:tM K EX d (λρ=>dg (ma ρ) (mb ρ)) σ H Q):yb (tM K EX .B ma) (tM K EX d mb) σ H Q:=by
 obtain ⟨H0,G,ρ,I,o⟩:=h;refine ⟨H0,G,ρ,I,Out.bind o λx G1 H1 u e1 m1 o1=>?_⟩;cases u <;> first|exact o1.elim|skip
 rename_i b
 refine ⟨b,m1.blB,?_⟩;cases b with
 | true=>
  rw[qA2 rfl];refine ⟨H0,G1,ρ,I.ext e1,?_⟩;have O:Out EX G1 H1 (mdW K d H0 H) (mb ρ) Q:=o1
  revert O
  cases mb ρ with
  |ok w=>exact λO v G2 H2 e2 m2=>O v G2 H2 e2 (m2.start e1.hh)
  |ex _=>exact id
  |stuck=>exact id
 | false=>
  rw[qA4 qA9];exact o1 _ G1 H1 (Ext.refl e1.gh) (Md.sca rfl (λ_=>.bl) d)
def GM (h:tM K EX d (λρ=>jD (ma ρ)) σ H Q):xY (tM K EX .B ma) σ H Q:=by
 obtain ⟨H0,G,ρ,I,o⟩:=h;refine ⟨H0,G,ρ,I,Out.bind o λx G1 H1 u e1 m1 O=>?_⟩;cases u <;> first|exact O.elim|skip
 rename_i b
 exact ⟨b,m1.blB,O _ G1 H1 (Ext.refl e1.gh) (Md.sca rfl (λ_=>.bl) d)⟩
def Out.restart {Q:VK}(s:Same H H1) (o:Out EX G1 H1 (mdW K d H0 H) r Q):Out EX G1 H1 (mdW K d H0 H1) r Q:=by
 revert o
 cases r with
 |ok w=>exact λo v G2 H2 O I=>o v G2 H2 O (I.start s)
 |ex _=>exact id
 |stuck=>exact id
def c_if (h:tM K EX d (λρ=>mc ρ>>=λc=>if c then ma ρ else mb ρ) σ H Q):tIf (tT K EX mc) (tM K EX d ma) (tM K EX d mb) σ H Q:=by
 obtain ⟨H0,G,ρ,I,o⟩:=h;refine ⟨H0,G,ρ,I,Out.bind o λx G1 H1 u O m1 o1=>?_⟩;cases m1;cases x with
 |true=>exact ⟨H0,G1,ρ,I.ext O,Out.restart O.hh o1⟩
 |false=>exact ⟨H0,G1,ρ,I.ext O,Out.restart O.hh o1⟩
def IJ (h:tA K EX d (λ_=>.ok []) σ H QA):tNil σ H QA:=by
 obtain ⟨H0,G,ρ,I,o⟩:=h;exact o [] G H (Ext.refl I.gh) .nil
def GT (h:tA K EX d (λρ=>ma ρ>>=λx=>mr ρ>>=λxs=>.ok (x::xs)) σ H QA):aT (tM K EX d ma) (tA K EX d mr) σ H QA:=by
 obtain ⟨H0,G,ρ,I,o⟩:=h;refine ⟨H0,G,ρ,I,Out.bind o λx G1 H1 u O m1 o1=>⟨H0,G1,ρ,I.ext O,Out.bind o1 λxs G2 H2 us e2 m2 o2=>?_⟩⟩;refine o2 (x::xs) G2 H2 (Ext.refl e2.gh) (.cons (m1.move e2) ?_);have go:∀{ws:List W}{vs:List V},MdA K d H0 H1 G2 H2 ws vs->MdA K d H0 H G2 H2 ws vs:=λ{ws vs} q=>by
  induction q with
  |nil=>exact .nil
  |cons a _ ih=>exact .cons (a.start O.hh) ih
 exact go m2
def MdA.reps (h:MdA K .V H0 H G1 H1 ws vs):Reps K G1 vs ws:=
 @MdA.rec K .V H0 H G1 H1 (λws vs _=>Reps K G1 vs ws) .nil (λh _ b=>.cons h b) ws vs h
def MdA.repsU (h:MdA K .U H0 H G1 H1 ws vs):Reps K (join H0 G1) vs ws:=
 @MdA.rec K .U H0 H G1 H1 (λws vs _=>Reps K (join H0 G1) vs ws) .nil (λh _ b=>.cons h b) ws vs h
def Am (I:Same G H) (O:H p=none):Ext G H G (upd H p o):=
 ⟨Same.refl G,λb u q=>by rw[c8 (f7 q O)];exact q,λb u q=>by rw[c8 (f7 (I b u q) O)];exact I b u q,λ_ _ _ _ e=>e⟩
def fb (hG:Same G H) (I:H p=none):Ext G H (upd G p o) (upd H p o):=by
 have gp:G p=none:=hG.free I;refine ⟨λb u q=>by rw[c8 (f7 q gp)];exact q,λb u q=>by rw[c8 (f7 q I)];exact q,λb u q=>?_,λb u q l g=>?_⟩
 ·by_cases O:b=p
  ·subst O;rw[i9]at q ⊢;exact q
  ·rw[c8 O]at q ⊢;exact hG b u q
 ·rw[c8 (f7 q I)];exact g
def Out.newL {Q:VK}(I:PIv K H0 G ρ σ H) (s:Same Hs H) (r:Reps K G vs ws) (O:H p=none) (o:Out EX G H (mdW K .F H0 Hs) (.ok (.lst ws)) Q):Q (.ref p) (upd H p (.lst vs)):=
 o _ G _ (Am I.gh O) ⟨p,vs,rfl,i9,I.gh.free O,s.free O,r⟩
def Out.newTF {Q:VK}(I:PIv K H0 G ρ σ H) (r:Reps K G vs ws) (O:H p=none) (o:Out EX G H (mdW K .F H0 Hs) (.ok (.tup ws)) Q):Q (.ref p) (upd H p (.tup vs)):=
 o _ (upd G p (.tup vs)) _ (fb I.gh O) (.tup i9 (r.same λb u q=>by rw[c8 (f7 q (I.gh.free O))];exact q))
def lim (n:Nat)(w:W):R W:=if n<=1000 then .ok w else .stuck
def Out.lim {md:W->α->Hp->Hp->Prop}(o:Out EX G H md (lim n w) Q):n<=1000/\Out EX G H md (.ok w) Q:=by
 unfold TP.lim at o;by_cases n:n<=1000
 ·rw[qA2 n]at o;exact ⟨n,o⟩
 ·rw[qA4 n]at o;exact o.elim
def W2 (h:n<=1000):n<=sizeLine:=qD7 h Qz
def ID (h:tM K EX .F (λρ=>ma ρ>>=λws=>lim ws.length (.tup ws)) σ H Q):vq (tA K EX .V ma) σ H Q:=by
 obtain ⟨H0,G,ρ,I,o⟩:=h;refine ⟨H0,G,ρ,I,Out.bind o λxs G1 H1 ws e1 m1 O=>?_⟩;obtain ⟨hl,o2⟩:=Out.lim O;have r:=MdA.reps m1;exact ⟨by rw[r.length];exact W2 hl,λp hp=>Out.newTF (I.ext e1) r hp o2⟩
def IK (h:tM K EX .F (λρ=>ma ρ>>=λws=>lim ws.length (.lst ws)) σ H Q):Cj (tA K EX .V ma) σ H Q:=by
 obtain ⟨H0,G,ρ,I,o⟩:=h;refine ⟨H0,G,ρ,I,Out.bind o λxs G1 H1 ws O m1 o1=>?_⟩;obtain ⟨hl,o2⟩:=Out.lim o1;have r:=MdA.reps m1;exact ⟨by rw[r.length];exact W2 hl,λp hp=>Out.newL (I.ext O) O.hh r hp o2⟩
def lU (h:H0 p=none):join H0 (upd G p o)=upd (join H0 G) p o:=by
 funext b
 by_cases I:b=p
 ·subst I;unfold join;rw[h];dsimp only;rw[i9,i9]
 ·rw [c8 I];unfold join;cases H0 b with
  |none=>dsimp only;rw[c8 I]
  |some u=>dsimp only;rw[c8 I]
def GE (h:tM K EX .U (λρ=>ma ρ>>=λws=>lim ws.length (.tup ws)) σ H Q):vq (tA K EX .U ma) σ H Q:=by
 obtain ⟨H0,G,ρ,I,o⟩:=h;refine ⟨H0,G,ρ,I,Out.bind o λxs G1 H1 ws e1 m1 o1=>?_⟩;obtain ⟨hl,o2⟩:=Out.lim o1;have r:=MdA.repsU m1;have O:=I.ext e1;refine ⟨by rw[r.length];exact W2 hl,λp hp=>o2 _ (upd G1 p (.tup xs)) _ (fb O.gh hp) ?_⟩
 show Rep K (join H0 (upd G1 p (.tup xs))) _ _;rw[lU (O.hh.free hp)];exact .tup i9 (r.same λb u q=>by rw[c8 (f7 (O.join_H b u q) hp)];exact q)
inductive Fl where
 |nx (ρ:Rho)|rt (w:W)|bk (ρ:Rho)|ct (ρ:Rho)
def OutS (K:Frag) (EX:EXT) (d:Mode) (H0 G:Hp) (r:R Fl) (D:Ends):Prop:=match r with
 | .ok (.nx ρ)=>∀G' I H',Same G G'->PIv K H0 G' ρ I H'->D.nx I H'
 | .ok (.bk ρ)=>∀G' I H',Same G G'->PIv K H0 G' ρ I H'->D.bk I H'
 | .ok (.ct ρ)=>∀G' I H',Same G G'->PIv K H0 G' ρ I H'->D.ct I H'
 | .ok (.rt w)=>∀v G' H',Same G G'->Same G' H'->Same H0 H'->(∀a o,H0 a=some o->isL o=true->G' a=none)->Md K H0 H0 G' H' v w d->D.rt v H'
 | .ex e=>∀H',Same H0 H'->EX e H'
 | .stuck=>False
def tSt (K:Frag)(EX:EXT)(d:Mode)(m:Rho->R Fl):TS:=λD σ H=>∃H0 G ρ,PIv K H0 G ρ σ H/\OutS K EX d H0 G (m ρ) D
def OutS.move (s:Same G G1) (o:OutS K EX d H0 G r D):OutS K EX d H0 G1 r D:=by
 cases r with
 |stuck=>exact o
 |ex e=>exact o
 | ok f=>
  cases f with
  |nx a0=>exact λG' I H' s' O=>o G' I H' (s.trans s') O
  |bk a0=>exact λG' I H' s' O=>o G' I H' (s.trans s') O
  |ct a0=>exact λG' I H' s' O=>o G' I H' (s.trans s') O
  |rt w=>exact λv G' H' s0 s1 s2 c md=>o v G' H' (s.trans s0) s1 s2 c md
def OutS.bind {md:α->β->Hp->Hp->Prop}(I:PIv K H0 G ρ σ H) (o:OutS K EX d H0 G (m>>=k) D) (h:∀x G1 H1 w,Ext G H G1 H1->md w x G1 H1->OutS K EX d H0 G1 (k w) D->Q1 x H1):Out EX G H md m Q1:=by
 cases m with
 |ok w=>exact λv G' H' e q=>h v G' H' w e q (OutS.move e.gg o)
 |ex e=>exact λH' s=>o H' (I.hh.trans s)
 |stuck=>exact o
def e8 (m n:Rho->R Fl):Rho->R Fl:=λρ=>m ρ>>=λf=>match f with
 | .nx I=>n I
 | .rt w=>.ok (.rt w)
 | .bk I=>.ok (.bk I)
 | .ct I=>.ok (.ct I)
def GN (h:tSt K EX d (λρ=>.ok (.nx ρ)) D σ H):tNext D σ H:=by
 obtain ⟨H0,G,ρ,I,o⟩:=h;exact o G σ H (Same.refl G) I
def IG (h:tSt K EX d (e8 m n) D σ H):vt (tSt K EX d m) (tSt K EX d n) D σ H:=by
 obtain ⟨H0,G,ρ,I,o⟩:=h;refine ⟨H0,G,ρ,I,?_⟩;unfold e8 at o
 revert o
 cases m ρ with
 |stuck=>exact id
 |ex e=>exact id
 | ok f=>
  cases f with
  |nx O=>exact λo G' a0 H' s' I'=>⟨H0,G',O,I',OutS.move s' o⟩
  |_=>exact id
def GS (h:tSt K EX d (λρ=>.ok (.ct ρ)) D σ H):tCont D σ H:=by
 obtain ⟨H0,G,ρ,I,o⟩:=h;exact o G σ H (Same.refl G) I
def BC (h:tSt K EX d (λ_=>.stuck) D σ H):tNever D σ H:=by
 obtain ⟨H0,G,ρ,I,o⟩:=h;exact o
def yH (h:tSt K EX d (λρ=>m ρ>>=λw=>.ok (.rt w)) D σ H):pi (tM K EX d m) D σ H:=by
 obtain ⟨H0,G,ρ,I,o⟩:=h;refine ⟨H0,G,ρ,I,OutS.bind I o λx G1 H1 w e1 m1 o1=>?_⟩;have O:=I.ext e1;exact o1 x G1 H1 (Same.refl _) e1.gh O.hh O.gl (m1.start I.hh)
def B8 (d:Mode) (i:Nat):Rho->R Fl:=λρ=>match ρ[i]? with
 |some (.own ws)=>.ok (.rt (.lst ws))
 |_=>b8 d i ρ>>=λw=>.ok (.rt w)
def xM (hd:d=.F\/d=.V) (h:tSt K EX d (B8 d i) D σ H):pi (P8 i) D σ H:=by
 obtain ⟨H0,G,ρ,I,o⟩:=h;unfold B8 at o;by_cases O:∃ws,ρ[i]?=some (.own ws)
 ·obtain ⟨ws,e⟩:=O;rw[e]at o;have hi:i<σ.length:=by rw[<- I.len];exact (qB0.mp e).1
  have es:σ[i]?=some σ[i]:=Qy;obtain ⟨a,vs,ev,ha,hg,h0,r⟩:=I.sl i _ _ e es;refine ⟨.ref a,by rw[es,ev],?_⟩;rcases hd with rfl|rfl
  ·exact o _ G H (Same.refl _) I.gh I.hh I.gl ⟨a,vs,rfl,ha,hg,h0,r⟩
  ·have s1:Same G (upd G a (.lst vs)):=λb o q=>by rw[c8 (f7 q hg)];exact q
   refine o _ (upd G a (.lst vs)) H s1 (λb o q=>?_) I.hh (λb u q l=>?_) (.lst i9 (r.same s1))
   ·by_cases hb:b=a
    ·subst hb;rw[i9]at q;cases q;exact ha
    ·rw[c8 hb]at q;exact I.gh b o q
   ·rw[c8 (f7 q h0)];exact I.gl b u q l
 ·have o':OutS K EX d H0 G (b8 d i ρ>>=λw=>.ok (.rt w)) D:=by
   revert o
   split
   ·rename_i ws e;exact absurd ⟨ws,e⟩ O
   ·exact id
  have c:pi (tM K EX d (b8 d i)) D σ H:=yH (m:=b8 d i) ⟨H0,G,ρ,I,o'⟩;exact jL c
def PIv.setV (I:PIv K H0 G ρ σ H) (r:Rep K G v w):PIv K H0 G (ρ.set i (.val w)) (σ.set i (some v)) H where
 g0:=I.g0
 gl:=I.gl
 gh:=I.gh
 hh:=I.hh
 len:=by rw[qF4,qF4];exact I.len
 sl j x o h1 h2:=by
  by_cases O:i=j
  ·subst O;rw[qD5]at h1 h2;simp only [qP0]at h1 h2
   split at h1 <;> split at h2 <;> simp only [qH1,reduceCtorEq]at h1 h2
   subst h1;subst h2;exact ⟨v,rfl,r⟩
  ·rw[qB7 O]at h1 h2;exact I.sl j x o h1 h2
 ne a b ws us c hab h1 h2 h3 h4:=by
  have na:i≠a:=by
   rintro rfl;rw[qD5]at h1;simp only [qP0]at h1
   split at h1 <;> simp at h1
  have nb:i≠b:=by
   rintro rfl;rw[qD5]at h2;simp only [qP0]at h2
   split at h2 <;> simp at h2
  rw[qB7 na]at h1 h3;rw[qB7 nb]at h2 h4;exact I.ne a b ws us c hab h1 h2 h3 h4
def PIv.setU (I:PIv K H0 G ρ σ H) (r:Rep K (join H0 G) v w):PIv K H0 G (ρ.set i (.par w)) (σ.set i (some v)) H where
 g0:=I.g0
 gl:=I.gl
 gh:=I.gh
 hh:=I.hh
 len:=by rw[qF4,qF4];exact I.len
 sl j x o h1 h2:=by
  by_cases O:i=j
  ·subst O;rw[qD5]at h1 h2;simp only [qP0]at h1 h2
   split at h1 <;> split at h2 <;> simp only [qH1,reduceCtorEq]at h1 h2
   subst h1;subst h2;exact ⟨v,rfl,r⟩
  ·rw[qB7 O]at h1 h2;exact I.sl j x o h1 h2
 ne a b ws us c hab h1 h2 h3 h4:=by
  have na:i≠a:=by
   rintro rfl;rw[qD5]at h1;simp only [qP0]at h1
   split at h1 <;> simp at h1
  have nb:i≠b:=by
   rintro rfl;rw[qD5]at h2;simp only [qP0]at h2
   split at h2 <;> simp at h2
  rw[qB7 na]at h1 h3;rw[qB7 nb]at h2 h4;exact I.ne a b ws us c hab h1 h2 h3 h4
def PIv.setO (I:PIv K H0 G ρ σ H) (ha:H a=some (.lst vs)) (hg:G a=none) (h0:H0 a=none) (r:Reps K G vs ws) (nw:∀(j:Nat) (us:List W),ρ[j]?=some (Sl.own us)->σ[j]?≠some (some (V.ref a))):PIv K H0 G (ρ.set i (.own ws)) (σ.set i (some (.ref a))) H where
 g0:=I.g0
 gl:=I.gl
 gh:=I.gh
 hh:=I.hh
 len:=by rw[qF4,qF4];exact I.len
 sl j x o h1 h2:=by
  by_cases hj:i=j
  ·subst hj;rw[qD5]at h1 h2;simp only [qP0]at h1 h2
   split at h1 <;> split at h2 <;> simp only [qH1,reduceCtorEq]at h1 h2
   subst h1;subst h2;exact ⟨a,vs,rfl,ha,hg,h0,r⟩
  ·rw[qB7 hj]at h1 h2;exact I.sl j x o h1 h2
 ne p q ws' us c hab h1 h2 h3 h4:=by
  by_cases hp:i=p
  ·subst hp;rw[qB7 hab]at h2 h4;rw[qD5]at h3;simp only [qP0]at h3
   split at h3 <;> simp only [qH1,reduceCtorEq,V.ref.injEq]at h3
   subst h3;exact nw q us h2 h4
  ·rw [qB7 hp]at h1 h3
   by_cases O:i=q
   ·subst O;rw[qD5]at h4;simp only [qP0]at h4
    split at h4 <;> simp only [qH1,reduceCtorEq,V.ref.injEq]at h4
    subst h4;exact nw p ws' h1 h3
   ·rw [qB7 O]at h2 h4
    exact I.ne p q ws' us c hab h1 h2 h3 h4
def O3:W->Sl
 | .lst ws=>.own ws
 |w=>.val w
def GF (h:tSt K EX d (λρ=>m ρ>>=λw=>.ok (.nx (ρ.set i (.val w)))) D σ H):af (tM K EX .V m) (K5 i) D σ H:=by
 obtain ⟨H0,G,ρ,I,o⟩:=h;exact ⟨H0,G,ρ,I,OutS.bind I o λx G1 H1 w e1 m1 O=>O G1 _ H1 (Same.refl _) ((I.ext e1).setV m1)⟩
def GG (h:tSt K EX d (λρ=>m ρ>>=λw=>.ok (.nx (ρ.set i (.par w)))) D σ H):af (tM K EX .U m) (K5 i) D σ H:=by
 obtain ⟨H0,G,ρ,I,o⟩:=h;exact ⟨H0,G,ρ,I,OutS.bind I o λx G1 H1 w e1 m1 O=>O G1 _ H1 (Same.refl _) ((I.ext e1).setU m1)⟩
def mH (h:tSt K EX d (λρ=>m ρ>>=λw=>.ok (.nx (ρ.set i (O3 w)))) D σ H):af (tM K EX .F m) (K5 i) D σ H:=by
 obtain ⟨H0,G,ρ,I,o⟩:=h;refine ⟨H0,G,ρ,I,OutS.bind I o λx G1 H1 w e1 m1 o1=>?_⟩;have O:=I.ext e1;cases w with
 | lst ws=>
  obtain ⟨a,vs,rfl,h1,h2,h3,r⟩:=m1;refine o1 G1 _ H1 (Same.refl _) (O.setO h1 h2 (I.hh.free h3) r λj us q z=>?_);obtain ⟨b,a0,eb,hb,_⟩:=I.sl j _ _ q z;cases eb;rw[h3]at hb;cases hb
 |non=>exact o1 G1 _ H1 (Same.refl _) (O.setV m1)
 |bl _=>exact o1 G1 _ H1 (Same.refl _) (O.setV m1)
 |int _=>exact o1 G1 _ H1 (Same.refl _) (O.setV m1)
 |str _=>exact o1 G1 _ H1 (Same.refl _) (O.setV m1)
 |ty _=>exact o1 G1 _ H1 (Same.refl _) (O.setV m1)
 |tup _=>exact o1 G1 _ H1 (Same.refl _) (O.setV m1)
 |scr _=>exact o1 G1 _ H1 (Same.refl _) (O.setV m1)
 |exc _ _=>exact o1 G1 _ H1 (Same.refl _) (O.setV m1)
 |cls _=>exact o1 G1 _ H1 (Same.refl _) (O.setV m1)
instance:DecidableEq Mode:=λa b=>by cases a <;> cases b <;> first|exact isTrue rfl|exact isFalse (by intro h;cases h)
def Gt (K:Frag) (e:Mode) (g:TG) (mg:W->Rho->Option Rho):Prop:=∀(H0 Hs G:Hp) (ρ:Rho) (σ:St) (H:Hp) (v:V) (w:W) (O:Rho) (Q:St->Hp->Prop),PIv K H0 G ρ σ H->Md K H0 Hs G H v w e->mg w ρ=some O ->
 (∀I,PIv K H0 G O I H->Q I H)->g v σ H Q
def Gts (K:Frag) (e:Mode) (g:TGs) (mg:List W->Rho->Option Rho):Prop:=∀(H0 G:Hp) (ρ:Rho) (σ:St) (H:Hp) (vs:List V) (ws:List W) (O:Rho) (Q:St->Hp->Prop),PIv K H0 G ρ σ H->Reps K (if e=.V then G else join H0 G) vs ws->mg ws ρ=some O ->
 (∀I,PIv K H0 G O I H->Q I H)->g vs σ H Q
def gN (e:Mode)(i:Nat):W->Rho->Option Rho:=λw ρ=>some (ρ.set i (if e=.V then .val w else .par w))
def h9 {K:Frag}{i:Nat}:Gt K .U (K5 i) (gN .U i):=λH0 Hs G ρ σ H v w O Q I m e h=>by
 cases e;exact h _ (I.setU m)
def gsNil:List W->Rho->Option Rho
 | [],ρ=>some ρ
 |_,_=>none
def k4 (f:W->Rho->Option Rho) (g:List W->Rho->Option Rho):List W->Rho->Option Rho
 |w::ws,ρ=>(f w ρ).bind (g ws)
 | [],_=>none
def z9:Gts K e gNil gsNil:=λH0 G ρ σ H vs ws O Q I r e h=>by
 cases r with
 |nil=>cases e;exact ⟨rfl,h _ I⟩
 |cons _ _=>cases e
def i4 (he:e=.V\/e=.U) (h1:Gt K e t f) (h2:Gts K e u g):Gts K e (qi t u) (k4 f g):=λH0 G ρ σ H vs ws a3 Q I r q h=>by
 cases r with
 |nil=>cases q
 | cons a b=>
  unfold k4 at q;obtain ⟨O,q1,q2⟩:=Option.bind_eq_some_iff.mp q;refine ⟨_,_,rfl,h1 H0 H G ρ σ H _ _ O _ I ?_ q1 λa0 I1=>h2 H0 G O a0 H _ _ a3 Q I1 b q2 h⟩;rcases he with rfl|rfl
  ·exact a
  ·exact a
def gT (n:Nat) (g:List W->Rho->Option Rho):W->Rho->Option Rho
 | .tup ws,ρ=>if ws.length=n then g ws ρ else none
 |_,_=>none
def C1 (he:e=.V\/e=.U) (h:Gts K e u g):Gt K e (qh K n u) (gT n g):=λH0 Hs G ρ σ H v w O Q I m q k=>by
 cases w <;> first|cases q|skip
 rename_i ws
 have q':(if ws.length=n then g ws ρ else none)=some O:=q;by_cases hn:ws.length=n
 ·rw [qA2 hn]at q'
  rcases he with rfl|rfl
  ·obtain ⟨a,vs,e,s,r⟩:=Rep.inv m;exact ⟨a,vs,e,SqT.of (I.gh _ _ s),by rw[r.length];exact hn,h H0 G ρ σ H _ ws O Q I (by rw[qA2 rfl];exact r) q' k⟩
  ·obtain ⟨a,vs,e,s,r⟩:=Rep.inv m;exact ⟨a,vs,e,SqT.of (I.join_H _ _ s),by rw[r.length];exact hn,h H0 G ρ σ H _ ws O Q I (by rw[qA4 (by intro z;cases z)];exact r) q' k⟩
 ·rw[qA4 hn]at q';cases q'
def toR {α:Type}:Option α->R α
 |some a=>.ok a
 |none=>.stuck
def IS (hg:Gt K e g mg) (h:tSt K EX d (λρ=>m ρ>>=λw=>toR (mg w ρ)>>=λO=>.ok (.nx O)) D σ H):af (tM K EX e m) g D σ H:=by
 obtain ⟨H0,G,ρ,I,o⟩:=h;refine ⟨H0,G,ρ,I,OutS.bind I o λx G1 H1 w e1 m1 o1=>?_⟩;cases q:mg w ρ with
 |none=>rw[q]at o1;exact o1.elim
 | some O=>
  rw[q]at o1;exact hg H0 H G1 ρ σ H1 x w O _ (I.ext e1) m1 q λa0 I'=>o1 G1 a0 H1 (Same.refl _) I'
def PIv.own_upd (I:PIv K H0 G ρ σ H) (e:ρ[i]?=some (.own ws)) (es:σ[i]?=some (some (.ref a))) (r:Reps K G vs' ws'):PIv K H0 G (ρ.set i (.own ws')) σ (upd H a (.lst vs')):=by
 obtain ⟨a',vs,ev,ha,hg,h0,_⟩:=I.sl i _ _ e es;cases ev;refine ⟨I.g0,I.gl,λb o q=>by rw[c8 (f7 q hg)];exact I.gh b o q,λb o q=>by rw[c8 (f7 q h0)];exact I.hh b o q,by rw[qF4];exact I.len,λj x o h1 h2=>?_,λp q a8 us c a7 h1 h2 h3 h4=>?_⟩
 ·by_cases hj:i=j
  ·subst hj;rw[qD5]at h1;simp only [qP0]at h1
   split at h1 <;> simp only [qH1,reduceCtorEq]at h1
   subst h1;rw[es]at h2;cases h2;exact ⟨a,vs',rfl,i9,hg,h0,r⟩
  ·rw [qB7 hj]at h1
   have:=I.sl j x o h1 h2
   cases x with
   | own us=>
    obtain ⟨b,O,eb,hb,a3,a0,rb⟩:=this;subst eb;have a4:b≠a:=by
     rintro rfl;exact I.ne i j ws us b hj e h1 es h2
    exact ⟨b,O,rfl,by rw[c8 a4];exact hb,a3,a0,rb⟩
   | dic ks=>
    obtain ⟨b,O,eb,hb,a3,a0,rb⟩:=this;have a4:b≠a:=by
     rintro rfl;rw[ha]at hb;cases hb
    exact ⟨b,O,eb,by rw[c8 a4];exact hb,a3,a0,rb⟩
   | dik ks=>
    obtain ⟨b,O,eb,hb,a3,a0,rb⟩:=this;have a4:b≠a:=by
     rintro rfl;rw[ha]at hb;cases hb
    exact ⟨b,O,eb,by rw[c8 a4];exact hb,a3,a0,rb⟩
   |un=>exact this
   |val _=>exact this
   |par _=>exact this
   |iop _ _=>exact this
   |hz _=>exact this
 ·have a6:∀{k:Nat}{us:List W},(ρ.set i (.own ws'))[k]?=some (.own us)->∃O,ρ[k]?=some (.own O):=λ{k us} hk=>by
   by_cases a5:i=k
   ·subst a5;exact ⟨ws,e⟩
   ·rw[qB7 a5]at hk;exact ⟨us,hk⟩
  obtain ⟨w1,k1⟩:=a6 h1;obtain ⟨w2,k2⟩:=a6 h2;exact I.ne p q w1 w2 c a7 k1 k2 h3 h4
def PIv.own_at {i:Nat}(I:PIv K H0 G ρ σ H) (e:ρ[i]?=some (.own ws)):∃a vs,σ[i]?=some (some (.ref a))/\H a=some (.lst vs)/\G a=none/\H0 a=none/\Reps K G vs ws:=by
 have hi:i<σ.length:=by rw[<- I.len];exact (qB0.mp e).1
 have es:σ[i]?=some σ[i]:=Qy;obtain ⟨a,vs,O,r⟩:=I.sl i _ _ e es;exact ⟨a,vs,by rw[es,O],r⟩
def U6 (i:Nat) (m:Rho->R W):Rho->R Fl:=λρ=>match ρ[i]? with
 |some (.own ws)=>m ρ>>=λw=>if ws.length<1000 then .ok (.nx (ρ.set i (.own (ws ++ [w])))) else .stuck
 |_=>.stuck
def IT (h:tSt K EX d (U6 i m) D σ H):fF (vw (P8 i) (tM K EX .V m)) D σ H:=by
 obtain ⟨H0,G,ρ,I,o⟩:=h;unfold U6 at o
 split at o
 ·rename_i ws e
  obtain ⟨a,vs,es,ha,hg,h0,r⟩:=I.own_at e;refine ⟨.ref a,es,a,rfl,⟨vs,ha⟩,H0,G,ρ,I,OutS.bind I o λx G1 H1 w e1 m1 O=>?_⟩;by_cases hl:ws.length<1000
  ·rw [qA2 hl]at O
   have h1:=e1.hh a _ ha;dsimp only;rw[h1];dsimp only;have hlen:vs.length=ws.length:=r.length;exact ⟨qB6 (by omega:vs.length<1000) Qz,O G1 σ _ (Same.refl _) ((I.ext e1).own_upd e es ((r.same e1.gg).snoc m1))⟩
  ·rw[qA4 hl]at O;exact O.elim
 ·exact o.elim
def fg (i:Nat) (I me:Rho->R W):Rho->R Fl:=λρ=>match ρ[i]? with
 | some (.own ws)=>me ρ>>=λw=>I ρ>>=λk=>(match k with
  | .int k=>(match ixN ws.length k with
   |some j=>.ok (.nx (ρ.set i (.own (ws.set j w))))
   |none=>.stuck)
  |_=>.stuck)
 |_=>.stuck
def IF (h:tSt K EX d (fg i mk me) D σ H):af (tM K EX .V me) (gSub (P8 i) (tM K EX .B mk) rSetL) D σ H:=by
 obtain ⟨H0,G,ρ,I,o⟩:=h;unfold fg at o
 split at o
 ·rename_i ws e
  obtain ⟨a,vs,es,ha,hg,h0,r⟩:=I.own_at e;refine ⟨H0,G,ρ,I,OutS.bind I o λx G1 H1 w e1 m1 o1=>⟨.ref a,es,H0,G1,ρ,I.ext e1,OutS.bind (I.ext e1) o1 λy G2 H2 k e2 m2 O=>?_⟩⟩;cases k <;> first|exact O.elim|skip
  rename_i k
  dsimp only at O;cases q:ixN ws.length k with
  |none=>rw[q]at O;exact O.elim
  | some j=>
   rw[q]at O;refine ⟨a,vs,k,j,rfl,m2.intB,e2.hh _ _ (e1.hh _ _ ha),by rw[r.length];exact q,?_⟩;exact O G2 σ _ (Same.refl _) (((I.ext e1).ext e2).own_upd e es (Reps.set (Rep.same e2.gg m1) j ((r.same e1.gg).same e2.gg)))
 ·exact o.elim
def ix (i:Nat) (f:Int->Int->Int) (m:Rho->R W):Rho->R Fl:=λρ=>b8 .B i ρ>>=λx=>m ρ>>=λy=>match x,y with
 | .int a,.int b=>.ok (.nx (ρ.set i (.val (.int (f a b)))))
 |_,_=>.stuck
def IR (h:tSt K EX d (ix i f m) D σ H):Co i (tM K EX .B m) (ipI f) D σ H:=by
 obtain ⟨H0,G,ρ,I,o⟩:=h;unfold ix at o;have c:tM K EX .B (b8 .B i) σ H (λx H1=>∃G1 w,Ext G H G1 H1/\Md K H0 H G1 H1 x w .B/\OutS K EX d H0 G1 (m ρ>>=λy=>match w,y with
   | .int a,.int b=>.ok (.nx (ρ.set i (.val (.int (f a b)))))
   |_,_=>.stuck) D):=⟨H0,G,ρ,I,OutS.bind I o λx G1 H1 w e1 m1 o1=>⟨G1,w,e1,m1,o1⟩⟩
 obtain ⟨v,es,G1,w,e1,m1,o1⟩:=jL c;have O:=I.ext e1;refine ⟨v,es,H0,G1,ρ,O,OutS.bind O o1 λy G2 H2 u e2 m2 o2=>?_⟩;cases w <;> first|exact o2.elim|skip
 cases u <;> first|exact o2.elim|skip
 rename_i a b
 exact ⟨a,b,m1.intB,m2.intB,o2 G2 _ H2 (Same.refl _) ((O.ext e2).setV .int)⟩
def mIf (c:Rho->R Bool)(m n:Rho->R Fl):Rho->R Fl:=λρ=>c ρ>>=λb=>if b then m ρ else n ρ
def IL (h:tSt K EX d (mIf c m n) D σ H):vv (tT K EX c) (tSt K EX d m) (tSt K EX d n) D σ H:=by
 obtain ⟨H0,G,ρ,I,o⟩:=h;refine ⟨H0,G,ρ,I,OutS.bind I o λx G1 H1 w e1 m1 O=>?_⟩;cases m1;cases x with
 |true=>exact ⟨H0,G1,ρ,I.ext e1,O⟩
 |false=>exact ⟨H0,G1,ρ,I.ext e1,O⟩
def frz (i:Nat) (ρ:Rho):Rho:=match ρ[i]? with
 |some (.own ws)=>ρ.set i (.val (.lst ws))
 |_=>ρ
def PIv.frz (I:PIv K H0 G ρ σ H):∃G',Same G G'/\PIv K H0 G' (frz i ρ) σ H:=by
 unfold TP.frz
 split
 ·rename_i ws e
  obtain ⟨a,vs,es,ha,hg,h0,r⟩:=I.own_at e;have s1:Same G (upd G a (.lst vs)):=λb o q=>by rw[c8 (f7 q hg)];exact q
  refine ⟨upd G a (.lst vs),s1,?_⟩;have I1:PIv K H0 G (ρ.set i .un) σ H:=by
   refine ⟨I.g0,I.gl,I.gh,I.hh,by rw[qF4];exact I.len,λj x o O h2=>?_,λp q a9 us c ab O h2 h3 h4=>?_⟩
   ·by_cases hj:i=j
    ·subst hj;rw[qD5]at O;simp only [qP0]at O
     split at O <;> simp only [qH1,reduceCtorEq]at O
     subst O;trivial
    ·rw[qB7 hj]at O;exact I.sl j x o O h2
   ·have na:i≠p:=by
     rintro rfl;rw[qD5]at O;simp only [qP0]at O
     split at O <;> simp at O
    have nb:i≠q:=by
     rintro rfl;rw[qD5]at h2;simp only [qP0]at h2
     split at h2 <;> simp at h2
    rw[qB7 na]at O;rw[qB7 nb]at h2;exact I.ne p q a9 us c ab O h2 h3 h4
  have I2:PIv K H0 (upd G a (.lst vs)) (ρ.set i .un) σ H:=by
   refine ⟨λb o q l=>s1 b o (I.g0 b o q l),λb o q l=>by rw[c8 (f7 q h0)];exact I.gl b o q l,λb o q=>?_,I.hh,I1.len,λj x o O h2=>?_,I1.ne⟩
   ·by_cases hb:b=a
    ·subst hb;rw[i9]at q;cases q;exact ha
    ·rw[c8 hb]at q;exact I.gh b o q
   ·have:=I1.sl j x o O h2
    cases x with
    |un=>trivial
    |val w=>obtain ⟨v,e1,r1⟩:=this;exact ⟨v,e1,r1.same s1⟩
    |par w=>obtain ⟨v,e1,r1⟩:=this;exact ⟨v,e1,r1.same (w6 s1)⟩
    | own us=>
     obtain ⟨b,a0,eb,hb,a4,a3,rb⟩:=this;subst eb;have a6:i≠j:=by
      rintro rfl;rw[qD5]at O;simp only [qP0]at O
      split at O <;> simp at O
     rw[qB7 a6]at O;have a5:b≠a:=by
      rintro rfl;exact I.ne i j ws us b a6 e O es h2
     exact ⟨b,a0,rfl,hb,by rw[c8 a5];exact a4,a3,rb.same s1⟩
    | dic ks=>
     obtain ⟨b,a0,eb,hb,a4,a3,rb⟩:=this;have a5:b≠a:=by
      rintro rfl;rw[ha]at hb;cases hb
     exact ⟨b,a0,eb,hb,by rw[c8 a5];exact a4,a3,rb⟩
    | dik ks=>
     obtain ⟨b,a0,eb,hb,a4,a3,rb⟩:=this;have a5:b≠a:=by
      rintro rfl;rw[ha]at hb;cases hb
     exact ⟨b,a0,eb,hb,by rw[c8 a5];exact a4,a3,rb⟩
    |iop p us=>obtain ⟨e1,a8,a7,r1⟩:=this;exact ⟨e1,a8,a7,r1.same s1⟩
    |hz w=>obtain ⟨v,e,r⟩:=this;exact ⟨v,e,r.same (w6 (Z5 s1))⟩
  have I3:=I2.setV (i:=i) (v:=.ref a) (w:=.lst ws) (.lst i9 (r.same s1));have e3:σ.set i (some (V.ref a))=σ:=by
   apply qL8;intro j;by_cases hj:i=j
   ·subst hj;rw[es,qD5];simp only [qP0];rw[qA2 (qB0.mp es).1]
   ·rw[qB7 hj]
  rw[e3,List.set_set]at I3;exact I3
 ·exact ⟨G,Same.refl G,I⟩
def IO (h:tSt K EX d (λρ=>m (frz i ρ)) D σ H):tSt K EX d m D σ H:=by
 obtain ⟨H0,G,ρ,I,o⟩:=h;obtain ⟨G',s,O⟩:=I.frz (i:=i);exact ⟨H0,G',_,O,OutS.move s o⟩
section
variable {K:Frag}{EX:EXT}{H0 G H G1 H1 G2 H2:Hp}{ρ:Rho}{σ:St}{d:Mode}{D:Ends}
structure cZ (K:Frag) (e:Mode) (H0 Z G:Hp) (J:It) (ws:List W):Prop where
 go:∀i H,i<ws.length->Same Z H->J.go i H
 stop:∀H,Same Z H->J.stop ws.length H
 yld:∀i H x H' w,ws[i]?=some w->Same Z H->J.yld i H x H'->∀G2 ρ σ,PIv K H0 G2 ρ σ H->Same G G2->∃G3,Ext G2 H G3 H'/\Md K H0 H G3 H' x w e
def mV (K:Frag) (EX:EXT) (lp:Bool) (e:Mode) (H0 G H:Hp) (r:R (List W)) (I:It->Hp->Prop):Prop:=match r with
 | .ok ws=>∀J G' H',Ext G H G' H'->cZ K e H0 (if lp then join H0 G' else H') G' J ws->I J H'
 | .ex x=>∀H',Same H H'->EX x H'
 | .stuck=>False
def tIt (K:Frag)(EX:EXT)(lp:Bool)(e:Mode)(m:Rho->R (List W)):TI:=λσ H I=>∃H0 G ρ,PIv K H0 G ρ σ H/\mV K EX lp e H0 G H (m ρ) I
def D6 (mg:W->Rho->Option Rho) (mb:Rho->R Fl):List W->Rho->R Fl
 | [],ρ=>.ok (.nx ρ)
 | w::ws,ρ=>toR (mg w ρ)>>=λO=>mb O>>=λf=>match f with
  | .nx I=>D6 mg mb ws I
  | .ct I=>D6 mg mb ws I
  | .bk I=>.ok (.nx I)
  | .rt w=>.ok (.rt w)
def IP (hg:Gt K e g mg) (h:tSt K EX d (λρ=>mi ρ>>=λws=>D6 mg mb ws ρ) D σ H):
  Ck (tIt K EX true e mi) g (tSt K EX d mb) D σ H:=by
 obtain ⟨H0,G,ρ,I,o⟩:=h;refine ⟨H0,G,ρ,I,?_⟩;replace o:OutS K EX d H0 G (mi ρ>>=λws=>D6 mg mb ws ρ) D:=o
 revert o
 cases mi ρ with
 |stuck=>exact id
 |ex x=>exact λo H' s=>o H' (I.hh.trans s)
 | ok ws=>
  intro o J G1 H1 e1 T;have o1:OutS K EX d H0 G1 (D6 mg mb ws ρ) D:=OutS.move e1.gg o;refine ⟨λi m σ H=>m=ws.length-i/\i<=ws.length/\∃G2 O,Same G1 G2/\PIv K H0 G2 O σ H/\OutS K EX d H0 G2 (D6 mg mb (ws.drop i) O) D,⟨_,rfl,qD1 _,G1,ρ,Same.refl _,I.ext e1,o1⟩,?_⟩;rintro i m a4 Hh ⟨rfl,hi,G2,O,s2,I2,o2⟩;have hz:Same (join H0 G1) Hh:=(w6 s2).trans I2.join_H;by_cases a6:i<ws.length
  ·refine .inr ⟨T.go i Hh a6 hz,λa5 H'=>∃G4 a0,Same G1 G4/\PIv K H0 G4 a0 a5 H'/\OutS K EX d H0 G4 (D6 mg mb (ws.drop (i+1)) a0) D,λa5 H' a7=>by obtain ⟨G4,a0,s4,I4,o4⟩:=a7;exact ⟨ws.length-(i+1),ox,rfl,a6,G4,a0,s4,I4,o4⟩,λx H' y=>?_⟩;obtain ⟨G3,e3,m3⟩:=T.yld i Hh x H' ws[i] Qy hz y G2 O a4 I2 s2;rw[List.drop_eq_getElem_cons a6]at o2;unfold D6 at o2;cases q:mg ws[i] O with
   |none=>rw[q]at o2;exact o2.elim
   | some a3=>
    rw[q]at o2;refine hg H0 Hh G3 O a4 H' x _ a3 _ (I2.ext e3) m3 q λa5 I'=>⟨H0,G3,a3,I',?_⟩;have o3:OutS K EX d H0 G3 (mb a3>>=λf=>match f with
     | .nx O=>D6 mg mb (ws.drop (i+1)) O
     | .ct O=>D6 mg mb (ws.drop (i+1)) O
     | .bk O=>.ok (.nx O)
     | .rt w=>.ok (.rt w)) D:=OutS.move e3.gg o2
    revert o3
    have s3:Same G1 G3:=s2.trans e3.gg;cases mb a3 with
    |stuck=>exact id
    |ex x=>exact id
    | ok f=>
     cases f with
     |nx a0=>exact λo4 G4 a8 H4 s4 I4=>⟨G4,a0,s3.trans s4,I4,OutS.move s4 o4⟩
     |ct a0=>exact λo4 G4 a8 H4 s4 I4=>⟨G4,a0,s3.trans s4,I4,OutS.move s4 o4⟩
     |bk a0=>exact id
     |rt w=>exact id
  ·have e:i=ws.length:=ox;subst e;refine .inl ⟨T.stop Hh hz,?_⟩;rw[List.drop_length]at o2;exact o2 G2 a4 Hh (Same.refl _) I2
def G0 (c:Rho->R Bool) (b:Rho->R Fl):Nat->Rho->Option (R Fl)
 |0,_=>none
 | n+1,ρ=>match c ρ with
  | .ok false=>some (.ok (.nx ρ))
  | .ok true=>(match b ρ with
   | .ok (.nx ρ')=>G0 c b n ρ'
   | .ok (.ct ρ')=>G0 c b n ρ'
   | .ok (.bk ρ')=>some (.ok (.nx ρ'))
   | .ok (.rt w)=>some (.ok (.rt w))
   | .ex e=>some (.ex e)
   | .stuck=>some .stuck)
  | .ex e=>some (.ex e)
  | .stuck=>some .stuck
def bq:∀(n:Nat) (ρ:Rho) (r:R Fl),G0 c b n ρ=some r->∀m,n<=m->G0 c b m ρ=some r:=by
 intro n
 induction n with
 |zero=>intro ρ r h;cases h
 | succ n O=>
  intro ρ r h m hm;obtain ⟨k,rfl⟩:∃k,m=k+1:=⟨m-1,ox⟩;have hk:=qJ0 hm;unfold G0 at h ⊢
  revert h
  cases c ρ with
  |ex e=>exact id
  |stuck=>exact id
  | ok t=>
   cases t with
   |false=>exact id
   | true=>
    cases b ρ with
    |ex e=>exact id
    |stuck=>exact id
    | ok f=>
     cases f with
     |nx I=>exact λh=>O I r h k hk
     |ct I=>exact λh=>O I r h k hk
     |bk I=>exact id
     |rt w=>exact id
open Classical in
def J3 (c:Rho->R Bool)(b:Rho->R Fl):Rho->R Fl:=λρ=>if h:∃r n,G0 c b n ρ=some r then h.choose else .stuck
def ji (h:G0 c b n ρ=some r):J3 c b ρ=r:=by
 unfold J3;have I:∃r n,G0 c b n ρ=some r:=⟨r,n,h⟩;rw[dif_pos I];obtain ⟨m,hm⟩:=I.choose_spec;have a:=bq n ρ r h (max n m) (Nat.le_max_left _ _);have b:=bq m ρ _ hm (max n m) (Nat.le_max_right _ _);rw[a]at b;exact (Option.some.inj b).symm
def BB (h:tSt K EX d (J3 c b) D σ H):rs (tT K EX c) (tSt K EX d b) D σ H:=by
 obtain ⟨H0,G,ρ,I,o⟩:=h;by_cases hx:∃r n,G0 c b n ρ=some r
 ·obtain ⟨r,n,hn⟩:=hx;rw[ji hn]at o;refine ⟨λm a4 Hh=>∃G2 a3,Same G G2/\PIv K H0 G2 a3 a4 Hh/\G0 c b m a3=some r,⟨n,G,ρ,Same.refl _,I,hn⟩,?_⟩;rintro m a4 Hh ⟨G2,a3,s2,I2,O⟩;have o2:OutS K EX d H0 G2 r D:=OutS.move s2 o;refine ⟨H0,G2,a3,I2,?_⟩;cases m with
  |zero=>cases O
  | succ m=>
   unfold G0 at O
   revert O
   cases c a3 with
   |stuck=>intro O;cases O;exact o2
   |ex x=>intro O;cases O;exact λH' s=>o2 H' (I2.hh.trans s)
   | ok t=>
    cases t with
    | false=>
     intro O;cases O;intro v G3 H3 e3 q;cases q;rw[qA4 qA9];exact o2 G3 a4 H3 e3.gg (I2.ext e3)
    | true=>
     intro O v G3 H3 e3 q;cases q;rw[qA2 rfl];refine ⟨λa6 H'=>∃G4 a0,Same G G4/\PIv K H0 G4 a0 a6 H'/\G0 c b m a0=some r,λa6 H' a5=>by obtain ⟨G4,a0,s4,I4,h4⟩:=a5;exact ⟨m,qD2 m,G4,a0,s4,I4,h4⟩,H0,G3,a3,I2.ext e3,?_⟩;have o3:OutS K EX d H0 G3 r D:=OutS.move e3.gg o2;have s3:Same G G3:=s2.trans e3.gg
     revert O
     cases b a3 with
     |stuck=>intro O;cases O;exact o3
     |ex x=>intro O;cases O;exact o3
     | ok f=>
      cases f with
      |nx a0=>exact λO G4 a7 H4 s4 I4=>⟨G4,a0,s3.trans s4,I4,O⟩
      |ct a0=>exact λO G4 a7 H4 s4 I4=>⟨G4,a0,s3.trans s4,I4,O⟩
      |bk a0=>intro O;cases O;exact o3
      |rt w=>intro O;cases O;exact o3
 ·unfold J3 at o;rw[dif_neg hx]at o;exact o.elim
def Md.whole (I:PIv K H0 G ρ σ H) (h:Md K H0 Hs G H v w .B):Rep K H v w:=by
 rcases h with h|⟨a,vs,ws,rfl,rfl,h1,r⟩
 ·exact h.same I.join_H
 ·exact .lst h1 (r.same I.gh)
def MdA.whole (I:PIv K H0 G ρ σ H) (h:MdA K .B H0 Hs G H ws vs):Reps K H vs ws:=
 @MdA.rec K .B H0 Hs G H (λws vs _=>Reps K H vs ws) .nil (λh _ b=>.cons (h.whole I) b) ws vs h
def XE (_:XK):EXT:=λ_ _=>False
def spM (K:Frag) (n:Nat) (d:Mode) (f:List W->R W):Sp:=λvs H Q E=>vs.length=n/\∃ws,Reps K H vs ws/\match f ws with
 | .ok w=>∀v G' H',Same H H'->Same G' H'->(∀a o,H a=some o->isL o=true->G' a=none)->Md K H H G' H' v w d->Q v H'
 | .ex e=>∀H',Same H H'->XE E e H'
 | .stuck=>False
def g8 (n N:Nat) (m:Rho->R Fl) (ws:List W):R W:=if ws.length=n then (m (ws.map Sl.par++List.replicate (N-n) Sl.un)>>=λf=>match f with
 | .rt w=>.ok w
 | .nx _=>.ok .non
 |_=>.stuck) else .stuck
def vK (ws:List W) (h:g8 n N m ws≠.stuck):ws.length=n:=by
 unfold g8 at h;by_cases e:ws.length=n
 ·exact e
 ·rw[qA4 e]at h;exact absurd rfl h
def both (G G':Hp):Hp:=λb=>match G b with
 |some o=>some o
 |none=>G' b
def GU (hd:d=.F\/d=.V) (hf:∀ws,f ws≠.stuck->ws.length=n) (hE:∀e H,EX e H->XE E e H) (h:tM K EX d (λρ=>ma ρ>>=λws=>f ws) σ H Q):
  pj (spM K n d f) [] E (tA K EX .B ma) σ H Q:=by
 obtain ⟨H0,G,ρ,I,o⟩:=h;refine ⟨H0,G,ρ,I,Out.bind o λxs G1 H1 ws e1 m1 o1=>?_⟩;have I1:=I.ext e1;have r:=MdA.whole I1 m1;rw[qG3];refine ⟨?_,ws,r,?_⟩
 ·rw [r.length]
  refine hf ws λz=>?_;rw[z]at o1;exact o1
 ·revert o1
  cases f ws with
  |stuck=>exact id
  |ex e=>exact λo1 H' s=>hE e H' (o1 H' s)
  | ok w=>
   intro o1 v G' H' sH gH cl md;have sB:Same G1 (both G1 G'):=λb o q=>by unfold both;rw[q]
   have O:Same G' (both G1 G'):=λb o q=>by
    unfold both;cases q1:G1 b with
    |none=>exact q
    | some u=>
     have a1:=sH b u (I1.gh b u q1);rw[gH b o q]at a1;exact a1.symm
   have a0:Same (both G1 G') H':=λb o q=>by
    unfold both at q;cases q1:G1 b with
    |none=>rw[q1]at q;exact gH b o q
    |some u=>rw[q1]at q;cases q;exact sH b _ (I1.gh b _ q1)
   have ex:Ext G1 H1 (both G1 G') H':=⟨sB,sH,a0,λb o q l g=>by unfold both;rw[g];exact cl b o q l⟩;refine o1 v (both G1 G') H' ex ?_;rcases hd with rfl|rfl
   ·cases w with
    | lst us=>
     obtain ⟨a,vs,rfl,h1,h2,h3,r3⟩:=md;exact ⟨a,vs,rfl,h1,by unfold both;rw[I1.gh.free h3];exact h2,e1.hh.free h3,r3.same O⟩
    |non=>exact Rep.same O md
    |bl _=>exact Rep.same O md
    |int _=>exact Rep.same O md
    |str _=>exact Rep.same O md
    |ty _=>exact Rep.same O md
    |tup _=>exact Rep.same O md
    |scr _=>exact Rep.same O md
    |exc _ _=>exact Rep.same O md
    |cls _=>exact Rep.same O md
   ·exact Rep.same O md
def bf (H:Hp):Hp:=λa=>match H a with
 |some o=>if isL o then none else some o
 |none=>none
def jm:join H (bf H)=H:=by
 funext a
 unfold join bf;cases q:H a with
 |none=>rfl
 | some o=>
  dsimp only;cases isL o <;> rfl
def Reps.slots {i:Nat}(r:Reps K H vs ws):(ws.map Sl.par++List.replicate k Sl.un)[i]?=some x->(vs.map some++List.replicate k' none)[i]?=some o->x=.un\/∃v w,x=.par w/\o=some v/\Rep K H v w:=
 Reps.ind (P:=λvs ws=>∀i,(ws.map Sl.par++List.replicate k Sl.un)[i]?=some x->(vs.map some++List.replicate k' none)[i]?=some o->x=.un\/∃v w,x=.par w/\o=some v/\Rep K H v w) (λi I O=>by
  have I:(List.replicate k Sl.un)[i]?=some x:=I;rw[qI5]at I;by_cases hk:i<k
  ·rw[qA2 hk]at I;exact .inl (Option.some.inj I).symm
  ·rw[qA4 hk]at I;cases I) (λr _ b i I O=>by
  cases i with
  |zero=>exact .inr ⟨_,_,(Option.some.inj I).symm,(Option.some.inj O).symm,r⟩
  |succ i=>exact b i I O) r i
def PIv.begin (r:Reps K H vs ws) (hk:k=k'):PIv K H (bf H) (ws.map Sl.par++List.replicate k Sl.un) (vs.map some++List.replicate k' none) H where
 g0 a o e l:=by unfold bf;rw[e];dsimp only;rw[l];rfl
 gl a o e l:=by unfold bf;rw[e];dsimp only;rw[l];rfl
 gh a o e:=by
  unfold bf at e;cases q:H a with
  |none=>rw[q]at e;cases e
  | some u=>
   rw[q]at e;dsimp only at e;cases I:isL u
   ·rw[I]at e;exact e
   ·rw[I]at e;cases e
 hh:=Same.refl H
 len:=by subst hk;simp [r.length]
 sl i x o h1 h2:=by
  rcases Reps.slots r h1 h2 with rfl|⟨v,w,rfl,rfl,q⟩
  ·trivial
  ·exact ⟨v,rfl,by rw[jm];exact q⟩
 ne i j us xs a hij h1 _ _ _:=by
  have:∀(i:Nat) (us:List W),(ws.map Sl.par++List.replicate k Sl.un)[i]?≠some (Sl.own us):=λi us q=>by
   rw[List.getElem?_append]at q
   split at q
   ·rw [qA7]at q
    cases hh:ws[i]? <;> rw[hh]at q <;> cases q
   ·rw [qI5]at q
    split at q <;> cases q
  exact absurd h1 (this i us)
def uJ (hd:d=.F\/d=.V) (h:spM K n d (g8 n Nl.length m) vs H Q E):tSt K (λ_ _=>False) d m { nx:=λ_ H'=>Q .non H',rt:=Q } (L2.start Nl vs) H:=by
 obtain ⟨O,ws,r,o⟩:=h;have hw:ws.length=n:=by rw[<- r.length];exact O
 unfold g8 at o;rw[qA2 hw]at o;refine ⟨H,bf H,_,PIv.begin (k:=Nl.length-n) r (by rw[O]),?_⟩
 revert o
 cases m (ws.map Sl.par++List.replicate (Nl.length-n) Sl.un) with
 |stuck=>exact id
 |ex e=>exact λo=>(o H (Same.refl H)).elim
 | ok f=>
  cases f with
  |nx a0=>exact λo G' a3 H' s' I=>o .non G' H' I.hh I.gh I.gl (Md.sca rfl (λ_=>.non) d)
  |rt w=>exact λo v G' H' _ s1 s2 c md=>o v G' H' s2 s1 c md
  |bk _=>exact λo=>o.elim
  |ct _=>exact λo=>o.elim
end
def elR (mg:W->Rho->Option Rho) (mc:Rho->R Bool) (me:Rho->R W) (ρ:Rho) (w:W):R (Option W):=match mg w ρ with
 |none=>.stuck
 | some I=>(match mc I with
  | .ok true=>(match me I with
   | .ok y=>.ok (some y)
   |_=>.stuck)
  | .ok false=>.ok none
  |_=>.stuck)
def mapR (f:W->R (Option W)):List W->R (List W)
 | []=>.ok []
 | w::ws=>match f w,mapR f ws with
  | .ok (some y),.ok ys=>.ok (y::ys)
  | .ok none,.ok ys=>.ok ys
  |_,_=>.stuck
def k7 (N':Nat) (mg:W->Rho->Option Rho) (mc:Rho->R Bool) (me:Rho->R W) (ws:List W) (ρ:Rho):R W:=
 if ws.length<=1000 then (match mapR (elR mg mc me (ρ++List.replicate (N'-ρ.length) Sl.un)) ws with
  | .ok ys=>.ok (.lst ys)
  |_=>.stuck) else .stuck
def Ax:∀{ws ys:List W},mapR f ws=.ok ys->(∀w∈ws,∃o,f w=.ok o)/\ys=ws.filterMap λw=>match f w with
  | .ok o=>o
  |_=>none:=by
 intro ws
 induction ws with
 |nil=>intro ys h;cases h;exact ⟨Qy,rfl⟩
 | cons w ws ih=>
  intro ys h;unfold mapR at h;cases I:f w with
  |stuck=>rw[I]at h;cases h
  |ex e=>rw[I]at h;cases h
  | ok o=>
   rw[I]at h;cases hm:mapR f ws with
   |stuck=>rw[hm]at h;cases o <;> cases h
   |ex e=>rw[hm]at h;cases o <;> cases h
   | ok zs=>
    rw[hm]at h;obtain ⟨h1,h2⟩:=ih hm;refine ⟨λu O=>?_,?_⟩
    ·rcases qB3.mp O with rfl|O
     ·exact ⟨o,I⟩
     ·exact h1 u O
    ·cases o with
     |none=>cases h;rw[qI8,I];exact h2
     |some y=>cases h;rw[qI8,I,h2]
def PIv.inner (I:PIv K H0 G ρ σ H):PIv K H0 G (ρ++List.replicate (N'.length-ρ.length) Sl.un) (inner N' σ) H:=by
 have hl:=I.len;unfold L2.inner;rw[hl];refine ⟨I.g0,I.gl,I.gh,I.hh,by simp [hl],λi x o O h2=>?_,λp q ws us c a3 O h2 h3 h4=>?_⟩
 ·by_cases hi:i<ρ.length
  ·rw [qD6 hi]at O
   rw[qD6 ox]at h2;exact I.sl i x o O h2
  ·rw [qG6 ox,qI5]at O
   split at O <;> simp only [qH1,reduceCtorEq]at O
   subst O;trivial
 ·have a0:∀{k:Nat}{us:List W},(ρ++List.replicate (N'.length-σ.length) Sl.un)[k]?=some (Sl.own us)->k<ρ.length/\ρ[k]?=some (Sl.own us):=λ{k us} hk=>by
   by_cases hi:k<ρ.length
   ·rw[qD6 hi]at hk;exact ⟨hi,hk⟩
   ·rw [qG6 ox,qI5]at hk
    split at hk <;> simp at hk
  obtain ⟨l1,k1⟩:=a0 O;obtain ⟨l2,k2⟩:=a0 h2;rw[qD6 ox]at h3 h4;exact I.ne p q ws us c a3 k1 k2 h3 h4
open Classical in
def rest (G H:Hp)(Dd:Addr)(H':Hp):Hp:=λb=>if b=Dd\/∃o,H b=some o/\isL o=true/\G b=none then none else H' b
def D1 (h:b=Dd\/∃o,H b=some o/\isL o=true/\G b=none):rest G H Dd H' b=none:=by unfold rest;rw[qA2 h]
def Z2 (h:¬ (b=Dd\/∃o,H b=some o/\isL o=true/\G b=none)):rest G H Dd H' b=H' b:=by unfold rest;rw[qA4 h]
def nR (h:rest G H Dd H' b=some o):H' b=some o/\¬ (b=Dd\/∃o,H b=some o/\isL o=true/\G b=none):=by
 by_cases c:b=Dd\/∃o,H b=some o/\isL o=true/\G b=none
 ·rw[D1 c]at h;cases h
 ·rw[Z2 c]at h;exact ⟨h,c⟩
def PIv.rest (I:PIv K H0 G ρ σ H) (hD:H Dd=none) (s:Same H H'):Same G (rest G H Dd H')/\PIv K H0 (rest G H Dd H') ρ σ H':=by
 have sG:Same G (TP.rest G H Dd H'):=λb o q=>by
  rw[Z2]
  ·exact s b o (I.gh b o q)
  ·rintro (rfl|⟨u,h1,h2,h3⟩)
   ·rw[I.gh _ _ q]at hD;cases hD
   ·rw[q]at h3;cases h3
 refine ⟨sG,λa o e l=>sG a o (I.g0 a o e l),λa o e l=>D1 (.inr ⟨o,I.hh a o e,l,I.gl a o e l⟩),λb o q=>(nR q).1,I.hh.trans s,I.len,λi x o h1 h2=>?_,I.ne⟩
 have:=I.sl i x o h1 h2
 cases x with
 |un=>trivial
 |val w=>obtain ⟨v,e,r⟩:=this;exact ⟨v,e,r.same sG⟩
 |par w=>obtain ⟨v,e,r⟩:=this;exact ⟨v,e,r.same (w6 sG)⟩
 | own ws=>
  obtain ⟨a,vs,e,h,g,h0,r⟩:=this;exact ⟨a,vs,e,s a _ h,D1 (.inr ⟨_,h,rfl,g⟩),h0,r.same sG⟩
 | dic ks=>
  obtain ⟨a,vs,e,h,g,h0,r⟩:=this;exact ⟨a,vs,e,s a _ h,D1 (.inr ⟨_,h,rfl,g⟩),h0,r⟩
 | dik ks=>
  obtain ⟨a,vs,e,h,g,h0,r⟩:=this;exact ⟨a,vs,e,s a _ h,D1 (.inr ⟨_,h,rfl,g⟩),h0,r⟩
 |iop p ws=>obtain ⟨e1,a0,O,r1⟩:=this;exact ⟨e1,a0,O,r1.same sG⟩
 |hz w=>obtain ⟨v,e,r⟩:=this;exact ⟨v,e,r.same (w6 (Z5 sG))⟩
def ca (s:∀b o,b≠Dd->Ha b=some o->Hb b=some o):Same (rest G H Dd Ha) (rest G H Dd Hb):=λb o q=>by
 obtain ⟨h,c⟩:=nR q;rw[Z2 c];exact s b o (λz=>c (.inl z)) h
def vT (I:∃ys,Ha Dd=some (.lst ys)) (s:Same H Ha) (e:Ext (rest G H Dd Ha) Ha G' Hb):Same G' (rest G H Dd Hb):=λb o q=>by
 rw[Z2]
 ·exact e.gh b o q
 ·rintro (rfl|⟨u,h1,h2,h3⟩)
  ·obtain ⟨ys,I⟩:=I;rw[e.keep _ _ I rfl (D1 (.inl rfl))]at q;cases q
  ·rw[e.keep _ _ (s _ _ h1) h2 (D1 (.inr ⟨u,h1,h2,h3⟩))]at q;cases q
def mJ (hg:Gt K e g mg) (h:tM K EX .F (λρ=>mi ρ>>=λws=>k7 N'.length mg mc me ws ρ) σ H Q):
  jB N' (tIt K EX false e mi) g (tT K EX mc) (tM K EX .V me) σ H Q:=by
 obtain ⟨H0,G,ρ,I,o⟩:=h;refine ⟨H0,G,ρ,I,?_⟩;replace o:Out EX G H (mdW K .F H0 H) (mi ρ>>=λws=>k7 N'.length mg mc me ws ρ) Q:=o
 revert o
 cases mi ρ with
 |stuck=>exact id
 |ex x=>exact id
 | ok ws=>
  intro o J G1 H1 e1 T Dd hD;have I1:=I.ext e1;replace o:Out EX G H (mdW K .F H0 H) (k7 N'.length mg mc me ws ρ) Q:=o
  unfold k7 at o;by_cases hlen:ws.length<=1000
  ·rw [qA2 hlen]at o
   cases hm:mapR (elR mg mc me (ρ++List.replicate (N'.length-ρ.length) Sl.un)) ws with
   |stuck=>rw[hm]at o;exact o.elim
   |ex x=>rw[hm]at o;exact o.elim
   | ok ys=>
    rw[hm]at o;obtain ⟨a8,b4⟩:=Ax hm;have T':cZ K e H0 H1 G1 J ws:=by
     have:=T
     rw[qA4 qA9]at this;exact this
    generalize b6:ρ++List.replicate (N'.length-ρ.length) Sl.un=a9 at hm a8 b4
    refine ⟨λi m H2=>m=ws.length-i/\i<=ws.length/\Same H1 H2/\∃vs,H2 Dd=some (.lst vs)/\vs.length<=i/\Reps K (rest G1 H1 Dd H2) vs ((ws.take i).filterMap λw=>match elR mg mc me a9 w with
     | .ok o=>o
     |_=>none),⟨_,rfl,qD1 _,λb u q=>by rw[c8 (f7 q hD)];exact q,[],i9,qB5 _,.nil⟩,?_⟩
    rintro i m H2 ⟨rfl,hi,s2,vs,a6,b5,r2⟩;by_cases a5:i<ws.length
    ·refine .inr ⟨T'.go i H2 a5 s2,λx H3 y=>?_⟩;obtain ⟨sG,I2⟩:=I1.rest (Dd:=Dd) hD s2;have b0:=I2.inner (N':=N');obtain ⟨G3,e3,m3⟩:=T'.yld i H2 x H3 ws[i] Qy s2 y _ _ _ b0 sG;obtain ⟨op,O⟩:=a8 ws[i] (qF0 a5);have a7:=O;unfold elR at O;rw[<- b6]at O;have a3:ws.take (i+1)=ws.take i ++ [ws[i]]:=by rw[List.take_succ_eq_append_getElem a5]
     cases q:mg ws[i] (ρ++List.replicate (N'.length-ρ.length) Sl.un) with
     |none=>rw[q]at O;cases O
     | some a4=>
      rw[q]at O;dsimp only at O;refine hg H0 H2 G3 _ _ H3 x _ a4 _ (b0.ext e3) m3 q λc0 I4=>⟨H0,G3,a4,I4,?_⟩;cases hc:mc a4 with
      |stuck=>rw[hc]at O;cases O
      |ex x=>rw[hc]at O;cases O
      | ok b=>
       intro b' G5 H5 e5 eb;cases eb;rw[hc]at O;cases b with
       | false=>
        rw[qA4 qA9];have a0:op=none:=by cases O;rfl
        have s5:Same H2 H5:=e3.hh.trans e5.hh;refine ⟨ws.length-(i+1),ox,rfl,a5,s2.trans s5,vs,s5 _ _ a6,ox,?_⟩;rw[a3,List.filterMap_append]
        have:([ws[i]].filterMap λw=>match elR mg mc me a9 w with
         | .ok o=>o
         |_=>none) = []:=by
         rw[qI8,a7,a0];rfl
        rw[this,qG3];exact r2.same (ca λb o _ q=>s5 b o q)
       | true=>
        dsimp only at O;rw[qA2 rfl];refine ⟨H0,G5,a4,I4.ext e5,?_⟩;cases ab:me a4 with
        |stuck=>rw[ab]at O;cases O
        |ex x=>rw[ab]at O;cases O
        | ok z=>
         rw[ab]at O;have a0:op=some z:=by cases O;rfl
         intro yv G6 H6 e6 m6;have b3:Ext (TP.rest G1 H1 Dd H2) H2 G6 H6:=(e3.trans e5).trans e6;have s6:Same H2 H6:=b3.hh;refine ⟨vs,s6 _ _ a6,qN7 b5 (qB6 (by omega:i<1000) Qz),ws.length-(i+1),ox,rfl,a5,λb u q=>by rw[c8 (f7 q hD)];exact s6 b u (s2 b u q),vs ++ [yv],i9,by rw[qC6];simp;omega,?_⟩;rw[a3,List.filterMap_append]
         have:([ws[i]].filterMap λw=>match elR mg mc me a9 w with
          | .ok o=>o
          |_=>none) = [z]:=by
          rw[qI8,a7,a0];rfl
         rw[this];have k1:Same (TP.rest G1 H1 Dd H2) (TP.rest G1 H1 Dd (upd H6 Dd (.lst (vs ++ [yv])))):=ca λb o hb q=>by rw[c8 hb];exact s6 b o q
         have k2:Same G6 (TP.rest G1 H1 Dd (upd H6 Dd (.lst (vs ++ [yv])))):=(vT ⟨vs,a6⟩ s2 b3).trans (ca λb o hb q=>by rw[c8 hb];exact q);exact (r2.same k1).snoc (Rep.same k2 m6)
    ·have ei:i=ws.length:=ox;subst ei;refine .inl ⟨T'.stop H2 s2,?_⟩;rw[qK0,<- b4]at r2;obtain ⟨sG,I2⟩:=I1.rest (Dd:=Dd) hD s2;refine o _ (TP.rest G1 H1 Dd H2) H2 ⟨e1.gg.trans sG,e1.hh.trans s2,I2.gh,λb u q l g=>D1 (.inr ⟨u,e1.hh b u q,l,e1.keep b u q l g⟩)⟩ ⟨Dd,vs,rfl,a6,D1 (.inl rfl),e1.hh.free hD,r2⟩
  ·rw[qA4 hlen]at o;exact o.elim
def D5:W->R (List W)
 | .lst ws=>.ok ws
 | .tup ws=>.ok ws
 | .scr ws=>.ok ws
 |_=>.stuck
def F3 (e:Same H H1) (h:Sq K H t a xs):Sq K H1 t a xs:=by
 unfold Sq at h ⊢
 split at h
 ·rename_i ht;rw[qA2 ht];exact vA e h
 ·rename_i ht;rw[qA4 ht];exact Same.seq e h
def sqT (h:SqT K H a xs):Sq K H true a xs:=by unfold Sq;rw[qA2 rfl];exact h
def sqL (h:SqL K H a xs):Sq K H false a xs:=by unfold Sq;rw[qA4 qA9];exact h
def Rep.sq (h:Rep K F x w) (hw:D5 w=.ok ws):∃t a vs,x=.ref a/\Sq K F t a vs/\Reps K F vs ws:=by
 cases w <;> first | (cases hw;done)|skip
 ·obtain ⟨a,vs,e,s,r⟩:=h.inv;exact ⟨true,a,vs,e,sqT (SqT.of s),R.ok.inj hw ▸ r⟩
 ·obtain ⟨a,vs,e,s,r⟩:=h.inv;exact ⟨false,a,vs,e,sqL (SqL.of s),R.ok.inj hw ▸ r⟩
 ·obtain ⟨a,vs,e,s,r⟩:=h.inv;exact ⟨false,a,vs,e,sqL s,R.ok.inj hw ▸ r⟩
def gM:Bool->Mode->Mode
 |true,e=>e
 |false,.V=>.C
 |false,_=>.B
def fz (e:Mode)(H0 G:Hp):Hp:=if e=.V then G else join H0 G
def Md.src (he:e=.V\/e=.U) (I:PIv K H0 G ρ σ H) (m:Md K H0 Hs G H x w (gM lp e)) (hw:D5 w=.ok ws):
  ∃t a vs,x=.ref a/\Sq K (if lp then join H0 G else H) t a vs/\Reps K (fz e H0 G) vs ws:=by
 unfold fz;rcases he with rfl|rfl
 ·rw [qA2 rfl]
  cases lp with
  | true=>
   obtain ⟨t,a,vs,e1,e2,O⟩:=Rep.sq m hw;exact ⟨t,a,vs,e1,by rw[qA2 rfl];exact F3 I.G_join e2,O⟩
  | false=>
   rw[qA4 qA9];rcases m with m|⟨a,vs,us,rfl,rfl,h1,r⟩
   ·obtain ⟨t,a,vs,e1,e2,O⟩:=Rep.sq m hw;exact ⟨t,a,vs,e1,F3 I.gh e2,O⟩
   ·cases hw;exact ⟨false,a,vs,rfl,sqL (SqL.of h1),r⟩
 ·rw [qA4 (show ¬ (Mode.U=Mode.V) by intro z;cases z)]
  cases lp with
  | true=>
   obtain ⟨t,a,vs,e1,e2,O⟩:=Rep.sq m hw;exact ⟨t,a,vs,e1,by rw[qA2 rfl];exact e2,O⟩
  | false=>
   rw[qA4 qA9];rcases m with m|⟨a,vs,us,rfl,rfl,h1,r⟩
   ·obtain ⟨t,a,vs,e1,e2,O⟩:=Rep.sq m hw;exact ⟨t,a,vs,e1,F3 I.join_H e2,O⟩
   ·cases hw;exact ⟨false,a,vs,rfl,sqL (SqL.of h1),r.same I.G_join⟩
def Md.of_fz (I:e=.V\/e=.U) (h:Rep K (fz e H0 G) v w):Md K H0 Hs G H v w e:=by
 unfold fz at h;rcases I with rfl|rfl
 ·rw[qA2 rfl]at h;exact h
 ·rw[qA4 (show ¬ (Mode.U=Mode.V) by intro z;cases z)]at h;exact h
def N7 (s:Same G G1):Same (fz e H0 G) (fz e H0 G1):=by
 unfold fz
 split
 ·exact s
 ·exact w6 s
def AO (he:e=.V\/e=.U) (s:Sq K Z t a vs) (r:Reps K (fz e H0 G) vs ws):cZ K e H0 Z G (ItQ K t a) ws:=by
 have hl:=r.length;cases t with
 | true=>
  have O:∀H,Same Z H->SqT K H a vs:=λH z=>by have:=F3 z s;unfold Sq at this;rw[qA2 rfl]at this;exact this
  refine ⟨λi H hi z=>⟨vs,vs[i]'ox,O H z,Qy⟩,λH z=>⟨vs,O H z,ox⟩,λi H x H' w hw z a3 G2 ρ σ I sg=>?_⟩;obtain ⟨e1,y⟩:=a3;subst e1;have hx:=y vs (O _ z);obtain ⟨v,hv,rv⟩:=Reps.get r hw;rw[hx]at hv;cases hv;exact ⟨G2,Ext.refl I.gh,Md.of_fz he (rv.same (N7 sg))⟩
 | false=>
  have O:∀H,Same Z H->SqL K H a vs:=λH z=>by have:=F3 z s;unfold Sq at this;rw[qA4 qA9]at this;exact this
  refine ⟨λi H hi z=>⟨vs,vs[i]'ox,O H z,Qy⟩,λH z=>⟨vs,O H z,ox⟩,λi H x H' w hw z a0 G2 ρ σ I sg=>?_⟩;obtain ⟨e1,y⟩:=a0;subst e1;have hx:=y vs (O _ z);obtain ⟨v,hv,rv⟩:=Reps.get r hw;rw[hx]at hv;cases hv;exact ⟨G2,Ext.refl I.gh,Md.of_fz he (rv.same (N7 sg))⟩
def lN {lp:Bool}(I:PIv K H0 G ρ σ H):Same (if lp then join H0 G else H) H:=by
 cases lp
 ·exact Same.refl H
 ·exact I.join_H
def IN (he:e=.V\/e=.U) (h:tIt K EX lp e (λρ=>ml ρ>>=D5) σ H Rr):iSq K (tM K EX (gM lp e) ml) σ H Rr:=by
 obtain ⟨H0,G,ρ,I,o⟩:=h;refine ⟨H0,G,ρ,I,?_⟩;replace o:mV K EX lp e H0 G H (ml ρ>>=D5) Rr:=o
 revert o
 cases ml ρ with
 |stuck=>exact id
 |ex x=>exact id
 | ok w=>
  intro o x G1 H1 e1 m1;have O:=I.ext e1;have o':mV K EX lp e H0 G H (D5 w) Rr:=o;cases q:D5 w with
  |stuck=>rw[q]at o';exact o'.elim
  |ex z=>cases w <;> cases q
  | ok ws=>
   rw[q]at o';obtain ⟨t,a,vs,ex,s,r⟩:=Md.src he O m1 q;exact ⟨a,ex,t,vs,F3 (lN O) s,o' _ G1 H1 e1 (AO he s r)⟩
def O6 (lo hi:Int):R (List W):=if -1000000<=lo/\lo<=1000000 /\ -1000000<=hi/\hi<=1000000 then .ok ((List.range (hi-lo).toNat).map λk=>W.int (lo+(k:Nat))) else .stuck
def Q0:List W->R (List W)
 | [.int j]=>O6 0 j
 |_=>.stuck
def rng2:List W->R (List W)
 | [.int i,.int j]=>O6 i j
 |_=>.stuck
def wW (he:e=.V\/e=.U):cZ K e H0 Z G (Itr lo n) ((List.range n).map λk=>W.int (lo+(k:Nat))):=by
 refine ⟨λi H hi _=>by show i<n;simpa using hi,λH _=>by simp [Itr],λi H x H' w hw _ O G2 ρ σ I _=>?_⟩;obtain ⟨e1,e2⟩:=O;subst e1;subst e2;rw[qA7]at hw;cases q:(List.range n)[i]? with
 |none=>rw[q]at hw;cases hw
 | some k=>
  rw[q]at hw;have hk:k=i:=by
   have:=qB0.mp q
   obtain ⟨h1,h2⟩:=this;simpa using h2.symm
  subst hk;cases hw;refine ⟨G2,Ext.refl I.gh,Md.sca rfl (λ_=>.int) e⟩
def eO (h:tIt K EX lp e (λρ=>ma ρ>>=k) σ H Rr) (hq:∀H0 G ρ G1 H1 xs ws us,PIv K H0 G ρ σ H->Ext G H G1 H1->MdA K b H0 H G1 H1 ws xs->k ws=.ok us->(∀J G' H',Ext G H G' H'->cZ K e H0 (if lp then join H0 G' else H') G' J us->Rr J H')->Q xs H1) (hx:∀ws e,k ws≠.ex e):tA K EX b ma σ H Q:=by
 obtain ⟨H0,G,ρ,I,o⟩:=h;refine ⟨H0,G,ρ,I,?_⟩;replace o:mV K EX lp e H0 G H (ma ρ>>=k) Rr:=o
 revert o
 cases ma ρ with
 |stuck=>exact id
 |ex x=>exact id
 | ok ws=>
  intro o xs G1 H1 O m1;have o':mV K EX lp e H0 G H (k ws) Rr:=o;cases q:k ws with
  |stuck=>rw[q]at o';exact o'.elim
  |ex z=>exact absurd q (hx ws z)
  |ok us=>rw[q]at o';exact hq H0 G ρ G1 H1 xs ws us I O m1 q o'
def zw (h:O6 lo hi=.ok us):(-1000000<=lo/\lo<=1000000 /\ -1000000<=hi/\hi<=1000000)/\us=(List.range (hi-lo).toNat).map λk=>W.int (lo+(k:Nat)):=by
 unfold O6 at h
 split at h
 ·cases h;rename_i c;exact ⟨c,rfl⟩
 ·cases h
def vM (h:O6 lo hi=.ex e):False:=by
 unfold O6 at h;by_cases c:-1000000<=lo/\lo<=1000000 /\ -1000000<=hi/\hi<=1000000
 ·rw[qA2 c]at h;cases h
 ·rw[qA4 c]at h;cases h
def GI (O:e=.V\/e=.U) (h:tIt K EX lp e (λρ=>ma ρ>>=Q0) σ H Rr):yx (tA K EX .B ma) σ H Rr:=by
 refine eO h (λH0 G ρ G1 H1 xs ws us I e1 m1 q o=>?_) (λws e z=>?_)
 ·cases m1 with
  |nil=>cases q
  | @cons w _ _ _ a t=>
   cases t with
   |cons _ _=>first | (cases q;done) | (cases w <;> cases q)
   | nil=>
    cases w <;> first | (cases q;done)|skip
    rename_i j
    obtain ⟨c,rfl⟩:=zw (show O6 0 j=_ from q);refine ⟨j,by rw[Md.intB a],ox,ox,?_⟩
    have:=o (Itr 0 j.toNat) G1 H1 e1
    rw[Int.sub_zero]at this;exact this (wW O)
 ·cases ws with
  |nil=>cases z
  | cons w t=>
   cases t with
   |cons _ _=>first | (cases z;done) | (cases w <;> cases z)
   | nil=>
    cases w <;> first | (cases z;done)|skip
    exact vM (lo:=0) z
def gG:List (List W)->List (List W)
 | [xs,ys]=>xs.zipWith (λx y=>[x,y]) ys
 | [xs,ys,zs]=>(xs.zip ys).zipWith (λp z=>[p.1,p.2,z]) zs
 |_=>[]
def Y8:List W->R (List (List W))
 | []=>.ok []
 | w::ws=>match D5 w,Y8 ws with
  | .ok x,.ok xs=>.ok (x::xs)
  |_,_=>.stuck
def K9 (ws:List W):R (List W):=if ws.length=2\/ws.length=3 then (match Y8 ws with
 | .ok xs=>.ok ((gG xs).map W.tup)
 |_=>.stuck) else .stuck
def hX (he:e=.V\/e=.U) (I:PIv K H0 G ρ σ H) (O:H p=none) (r:Reps K (fz e H0 G) vs ws):Ext G H (upd G p (.tup vs)) (upd H p (.tup vs))/\Md K H0 Hs (upd G p (.tup vs)) (upd H p (.tup vs)) (.ref p) (.tup ws) e:=by
 refine ⟨fb I.gh O,?_⟩;have gp:G p=none:=I.gh.free O;rcases he with rfl|rfl
 ·unfold fz at r;rw[qA2 rfl]at r;exact .tup i9 (r.same λb u q=>by rw[c8 (f7 q gp)];exact q)
 ·unfold fz at r;rw[qA4 (show ¬ (Mode.U=Mode.V) by intro z;cases z)]at r
  show Rep K (join H0 (upd G p (.tup vs))) _ _;rw[lU (I.hh.free O)];exact .tup i9 (r.same λb u q=>by rw[c8 (f7 (I.join_H b u q) O)];exact q)
def tP (he:e=.V\/e=.U) (s1:Sq K Z t a xs) (s2:Sq K Z u b ys) (r1:Reps K (fz e H0 G) xs us) (r2:Reps K (fz e H0 G) ys vs):
  cZ K e H0 Z G (ItZ K [(t,a),(u,b)]) ((us.zipWith (λx y=>[x,y]) vs).map W.tup):=by
 have O:=rX s1 s2;have l1:=r1.length;have l2:=r2.length;have hl:((us.zipWith (λx y=>[x,y]) vs).map W.tup).length=min xs.length ys.length:=by simp [l1,l2]
 refine ⟨λi H hi z=>O.go i H ox z,λH z=>by rw[hl];exact O.stop H z,λi H x H' w hw z y G2 ρ σ I sg=>?_⟩;have hi:i<min xs.length ys.length:=by
  rw[<- hl];exact (qB0.mp hw).1
 obtain ⟨p,y1,z1,rfl,hp,rfl,hy,hz⟩:=O.yld i H x H' hi z y;obtain ⟨w1,e1,q1⟩:=Reps.get' r1 hy;obtain ⟨w2,e2,q2⟩:=Reps.get' r2 hz;have a0:w=.tup [w1,w2]:=by
  rw[qA7,qK6,e1,e2]at hw;cases hw;rfl
 subst a0;obtain ⟨x1,x2⟩:=hX (Hs:=H) he I hp (.cons (q1.same (N7 sg)) (.cons (q2.same (N7 sg)) .nil));exact ⟨_,x1,x2⟩
def tO (he:e=.V\/e=.U) (s1:Sq K Z t a xs) (s2:Sq K Z u b ys) (s3:Sq K Z v c zs) (r1:Reps K (fz e H0 G) xs us) (r2:Reps K (fz e H0 G) ys vs) (r3:Reps K (fz e H0 G) zs ts):
  cZ K e H0 Z G (ItZ K [(t,a),(u,b),(v,c)]) (((us.zip vs).zipWith (λp z=>[p.1,p.2,z]) ts).map W.tup):=by
 have O:=rW s1 s2 s3;have l1:=r1.length;have l2:=r2.length;have l3:=r3.length;have hl:(((us.zip vs).zipWith (λp z=>[p.1,p.2,z]) ts).map W.tup).length=min xs.length (min ys.length zs.length):=by simp [l1,l2,l3,Nat.min_assoc]
 refine ⟨λi H hi z=>O.go i H ox z,λH z=>by rw[hl];exact O.stop H z,λi H x H' w hw z y G2 ρ σ I sg=>?_⟩;have hi:i<min xs.length (min ys.length zs.length):=by
  rw[<- hl];exact (qB0.mp hw).1
 obtain ⟨p,y1,z1,t1,rfl,hp,rfl,hy,hz,ht⟩:=O.yld i H x H' hi z y;obtain ⟨w1,e1,q1⟩:=Reps.get' r1 hy;obtain ⟨w2,e2,q2⟩:=Reps.get' r2 hz;obtain ⟨w3,e3,q3⟩:=Reps.get' r3 ht;have a0:w=.tup [w1,w2,w3]:=by
  rw[qA7,qK6,List.zip,qK6,e1,e2,e3]at hw;cases hw;rfl
 subst a0;obtain ⟨x1,x2⟩:=hX (Hs:=H) he I hp (.cons (q1.same (N7 sg)) (.cons (q2.same (N7 sg)) (.cons (q3.same (N7 sg)) .nil)));exact ⟨_,x1,x2⟩
def aW (h:Y8 (w::ws)=.ok xs):∃y ys,D5 w=.ok y/\Y8 ws=.ok ys/\xs=y::ys:=by
 unfold Y8 at h;cases O:D5 w with
 |stuck=>rw[O]at h;cases h
 |ex _=>rw[O]at h;cases h
 | ok y=>
  rw[O]at h;cases I:Y8 ws with
  |stuck=>rw[I]at h;cases h
  |ex _=>rw[I]at h;cases h
  |ok ys=>rw[I]at h;cases h;exact ⟨y,ys,rfl,rfl,rfl⟩
def IC (he:e=.V\/e=.U) (h:tIt K EX lp e (λρ=>ma ρ>>=K9) σ H Rr):Fx K (tA K EX (gM lp e) ma) σ H Rr:=by
 refine eO h (λH0 G ρ G1 H1 xs ws us I e1 O q o=>?_) (λws e z=>?_)
 ·have I1:=I.ext e1;unfold K9 at q
  split at q
  ·rename_i hn
   cases hs:Y8 ws with
   |stuck=>rw[hs]at q;cases q
   |ex _=>rw[hs]at q;cases q
   | ok ls=>
    rw[hs]at q;cases q;cases O with
    |nil=>simp at hn
    | cons a1 O=>
     cases O with
     |nil=>simp at hn
     | cons a2 O=>
      obtain ⟨y1,ys,h1,a4,rfl⟩:=aW hs;obtain ⟨y2,ys,h2,a0,rfl⟩:=aW a4;obtain ⟨t1,p1,v1,rfl,q1,r1⟩:=Md.src he I1 a1 h1;obtain ⟨t2,p2,v2,rfl,q2,r2⟩:=Md.src he I1 a2 h2;have k1:=F3 (lN I1) q1;have k2:=F3 (lN I1) q2;cases O with
      | nil=>
       cases a0;refine ⟨[(t1,p1),(t2,p2)],rfl,.inl rfl,λu hu=>?_,o _ G1 H1 e1 (tP he q1 q2 r1 r2)⟩;simp only [qB3,qE1,qR0]at hu;rcases hu with rfl|rfl
       ·exact ⟨_,k1⟩
       ·exact ⟨_,k2⟩
      | cons a3 O=>
       cases O with
       |cons _ _=>simp at hn
       | nil=>
        obtain ⟨y3,ys,h3,a5,rfl⟩:=aW a0;cases a5;obtain ⟨t3,p3,v3,rfl,q3,r3⟩:=Md.src he I1 a3 h3;refine ⟨[(t1,p1),(t2,p2),(t3,p3)],rfl,.inr rfl,λu hu=>?_,o _ G1 H1 e1 (tO he q1 q2 q3 r1 r2 r3)⟩;simp only [qB3,qE1,qR0]at hu;rcases hu with rfl|rfl|rfl
        ·exact ⟨_,k1⟩
        ·exact ⟨_,k2⟩
        ·exact ⟨_,F3 (lN I1) q3⟩
  ·cases q
 ·unfold K9 at z
  split at z
  ·split at z <;> cases z
  ·cases z
def Reps.atI (r:Reps K F vs ws) (h:L2.atI ws i=some w):∃v,L2.atI vs i=some v/\Rep K F v w:=by
 unfold L2.atI at h ⊢;rw[r.length];cases q:ixN ws.length i with
 |none=>rw[q]at h;cases h
 |some j=>rw[q]at h;exact Reps.get r h
def fIx:W->W->R W
 | .lst ws,.int i=>toR (L2.atI ws i)
 | .tup ws,.int i=>toR (L2.atI ws i)
 | .scr ws,.int i=>toR (L2.atI ws i)
 |_,_=>.stuck
def Es:Op2 K .B .U (rIx K) fIx:=by
 intro EX H0 Hs G H ρ σ Ha Hb x y u v Q I s mx my o;cases u <;> first|exact o.elim|skip
 all_goals (cases v <;> first|exact o.elim|skip)
 ·rename_i ws i
  obtain ⟨a,vs,rfl,hs,r⟩:=mx.tupB I;replace o:Out EX G H (mdW K .U H0 Hs) (toR (L2.atI ws i)) Q:=o
  cases q:L2.atI ws i with
  |none=>rw[q]at o;exact o.elim
  | some w=>
   rw[q]at o;obtain ⟨v,O,rv⟩:=r.atI q;exact .inr (.inl ⟨a,vs,i,v,rfl,my.intB,SqT.of hs,O,o v G H (Ext.refl I.gh) rv⟩)
 ·rename_i ws i
  obtain ⟨a,vs,rfl,hs,r⟩:=mx.lstB I;replace o:Out EX G H (mdW K .U H0 Hs) (toR (L2.atI ws i)) Q:=o
  cases q:L2.atI ws i with
  |none=>rw[q]at o;exact o.elim
  | some w=>
   rw[q]at o;obtain ⟨v,O,rv⟩:=r.atI q;exact .inl ⟨a,vs,i,v,rfl,my.intB,SqL.of hs,O,o v G H (Ext.refl I.gh) rv⟩
 ·rename_i ws i
  obtain ⟨a,vs,rfl,hs,r⟩:=mx.scrB I;replace o:Out EX G H (mdW K .U H0 Hs) (toR (L2.atI ws i)) Q:=o
  cases q:L2.atI ws i with
  |none=>rw[q]at o;exact o.elim
  | some w=>
   rw[q]at o;obtain ⟨v,O,rv⟩:=r.atI q;exact .inl ⟨a,vs,i,v,rfl,my.intB,hs,O,o v G H (Ext.refl I.gh) rv⟩
def Er:Op2 K .C .V (rIx K) fIx:=by
 intro EX H0 Hs G H ρ σ Ha Hb x y u v Q I s mx my o;cases u <;> first|exact o.elim|skip
 all_goals (cases v <;> first|exact o.elim|skip)
 ·rename_i ws i
  obtain ⟨a,vs,rfl,hs,r⟩:=mx.tupC I;replace o:Out EX G H (mdW K .V H0 Hs) (toR (L2.atI ws i)) Q:=o
  cases q:L2.atI ws i with
  |none=>rw[q]at o;exact o.elim
  | some w=>
   rw[q]at o;obtain ⟨v,O,rv⟩:=r.atI q;exact .inr (.inl ⟨a,vs,i,v,rfl,Md.intB (Md.CB I my),SqT.of hs,O,o v G H (Ext.refl I.gh) rv⟩)
 ·rename_i ws i
  obtain ⟨a,vs,rfl,hs,r⟩:=mx.lstC I;replace o:Out EX G H (mdW K .V H0 Hs) (toR (L2.atI ws i)) Q:=o
  cases q:L2.atI ws i with
  |none=>rw[q]at o;exact o.elim
  | some w=>
   rw[q]at o;obtain ⟨v,O,rv⟩:=r.atI q;exact .inl ⟨a,vs,i,v,rfl,Md.intB (Md.CB I my),SqL.of hs,O,o v G H (Ext.refl I.gh) rv⟩
 ·rename_i ws i
  obtain ⟨a,vs,rfl,hs,r⟩:=(Md.repC mx λ_=>W.noConfusion).inv;replace o:Out EX G H (mdW K .V H0 Hs) (toR (L2.atI ws i)) Q:=o
  cases q:L2.atI ws i with
  |none=>rw[q]at o;exact o.elim
  | some w=>
    rw[q]at o;obtain ⟨v,O,rv⟩:=r.atI q;exact .inl ⟨_,_,i,v,rfl,Md.intB (Md.CB I my),Same.seq I.gh hs,O,o v G H (Ext.refl I.gh) rv⟩
def U3 (K:Frag)(EX:EXT)(m:Rho->R (Option Int)):TO:=λσ H Q=>∃H0 G ρ,PIv K H0 G ρ σ H/\Out EX G H (λ(b c:Option Int) _ _=>c=b) (m ρ) Q
def jF:W->R (Option Int)
 | .int i=>.ok (some i)
 |_=>.stuck
def xN (h:U3 K EX (λ_=>.ok none) σ H Q):tNoPart σ H Q:=by
 obtain ⟨H0,G,ρ,I,o⟩:=h;exact o none G H (Ext.refl I.gh) rfl
def GL (h:U3 K EX (λρ=>m ρ>>=jF) σ H Q):xX (tM K EX .B m) σ H Q:=by
 obtain ⟨H0,G,ρ,I,o⟩:=h;refine ⟨H0,G,ρ,I,Out.bind o λx G1 H1 u e1 m1 O=>?_⟩;cases u <;> first|exact O.elim|skip
 rename_i i
 exact ⟨i,m1.intB,O _ G1 H1 (Ext.refl e1.gh) rfl⟩
def J8 (xs:List W)(lo hi:Option Int):List W:=(xs.drop (HT.sIx xs.length 0 lo)).take (HT.sIx xs.length xs.length hi-HT.sIx xs.length 0 lo)
def Reps.cut (r:Reps K F vs ws) (lo hi:Option Int):Reps K F (bB vs lo hi) (J8 ws lo hi):=by
 unfold bB J8;rw[r.length];exact (r.drop _).take _
def lstOf:W->Option (List W)
 | .lst ws=>some ws
 | .scr ws=>some ws
 |_=>none
def chks (c:Bool)(ws:List W):R W:=if c||j7 ws then .ok (.lst ws) else .stuck
def cb (c:Bool):Mode:=if c then .C else .B
def Md.lstOf (I:PIv K H0 G ρ σ H) (m:Md K H0 Ha G H x w (cb c)) (h:lstOf w=some ws):∃a vs,x=.ref a/\SqL K H a vs/\Reps K (if c then G else join H0 G) vs ws:=by
 cases c with
 | true=>
  rw[qA2 rfl];cases w <;> first|cases h|skip
  ·obtain ⟨a,vs,e,O,r⟩:=Md.lstC (H:=Ha) I m;exact ⟨a,vs,e,SqL.of O,r⟩
  ·obtain ⟨a,vs,e,O,r⟩:=(Md.repC m λ_=>W.noConfusion).inv;exact ⟨a,vs,e,Same.seq I.gh O,r⟩
 | false=>
  rw[qA4 qA9];cases w <;> first|cases h|skip
  ·obtain ⟨a,vs,e,O,r⟩:=Md.lstB (H:=Ha) I m;exact ⟨a,vs,e,SqL.of O,r⟩
  ·exact Md.scrB (H:=Ha) I m
def Out.chks {Q:VK}(I:PIv K H0 G ρ σ H) (s:Same Hs H) (r:Reps K (if c then G else join H0 G) vs ws) (o:Out EX G H (mdW K .F H0 Hs) (chks c ws) Q):∀p,H p=none->Q (.ref p) (upd H p (.lst vs)):=by
 unfold TP.chks at o;by_cases n:(c||j7 ws)=true
 ·rw [qA2 n]at o
  have r':Reps K G vs ws:=by
   cases c with
   |true=>rw[qA2 rfl]at r;exact r
   |false=>rw[qA4 qA9]at r;exact Reps.clean I r (by simpa using n)
  exact λp O=>Out.newL I s r' O o
 ·rw[qA4 n]at o;exact o.elim
def c_sl (h:tM K EX .F (λρ=>m ρ>>=λx=>ml ρ>>=λl=>mh ρ>>=λu=>toR (lstOf x)>>=λws=>chks c (J8 ws l u)) σ H Q):
  tSl (Dr K) (tM K EX (cb c) m) (U3 K EX ml) (U3 K EX mh) σ H Q:=by
 obtain ⟨H0,G,ρ,I,o⟩:=h;refine ⟨H0,G,ρ,I,Out.bind o λx G1 H1 w O m1 o1=>⟨H0,G1,ρ,I.ext O,Out.bind o1 λl' G2 H2 l e2 m2 o2=>⟨H0,G2,ρ,(I.ext O).ext e2,Out.bind o2 λu' G3 H3 u e3 m3 o3=>?_⟩⟩⟩;subst m2;subst m3;have I3:=((I.ext O).ext e2).ext e3;cases q:lstOf w with
 |none=>rw[q]at o3;exact o3.elim
 | some ws=>
  rw[q]at o3;obtain ⟨a,vs,ex,hs,r⟩:=Md.lstOf I3 ((m1.move e2).move e3) q;refine ⟨a,vs,ex,hs,Out.chks I3 ((O.hh.trans e2.hh).trans e3.hh) (c:=c) ?_ o3⟩;cases c with
  |true=>rw[qA2 rfl]at r ⊢;exact r.cut _ _
  |false=>rw[qA4 qA9]at r ⊢;exact r.cut _ _
def Cal (K:Frag) (b d:Mode) (r:List V->Hp->VK->Prop) (f:List W->R W):Prop:=∀(EX:EXT) (H0 Hs G H:Hp) (ρ:Rho) (σ:St) (I:Hp) (vs:List V) (ws:List W) (Q:VK),PIv K H0 G ρ σ H->Same Hs H->MdA K b H0 I G H ws vs ->
 Out EX G H (mdW K d H0 Hs) (f ws) Q->r vs H Q
def xO (hr:Cal K b d r f) (h:tM K EX d (λρ=>ma ρ>>=λws=>f ws) σ H Q):tCB r (tA K EX b ma) σ H Q:=by
 obtain ⟨H0,G,ρ,I,o⟩:=h;exact ⟨H0,G,ρ,I,Out.bind o λxs G1 H1 ws O m1 o1=>hr EX H0 H G1 H1 ρ σ H xs ws Q (I.ext O) O.hh m1 o1⟩
def fLen:List W->R W
 | [w]=>D5 w>>=λws=>.ok (.int ws.length)
 |_=>.stuck
def A9:Cal K .B d (λxs H Q=>∃p ys,xs = [.ref p]/\(SqL K H p ys\/SqT K H p ys)/\Q (.int ys.length) H) fLen:=by
 intro EX H0 Hs G H ρ σ Ha vs ws Q I s m o;cases m with
 |nil=>exact o.elim
 | cons a t=>
  cases t with
  |cons _ _=>exact o.elim
  | nil=>
   rename_i w v
   cases w <;> first|exact o.elim|skip
   ·obtain ⟨p,ys,rfl,O,r⟩:=a.tupB I;exact ⟨p,ys,rfl,.inr (SqT.of O),by rw[r.length];exact o _ G H (Ext.refl I.gh) (Md.sca rfl (λ_=>.int) d)⟩
   ·obtain ⟨p,ys,rfl,O,r⟩:=a.lstB I;exact ⟨p,ys,rfl,.inl (SqL.of O),by rw[r.length];exact o _ G H (Ext.refl I.gh) (Md.sca rfl (λ_=>.int) d)⟩
   ·obtain ⟨p,ys,rfl,O,r⟩:=a.scrB I;exact ⟨p,ys,rfl,.inl O,by rw[r.length];exact o _ G H (Ext.refl I.gh) (Md.sca rfl (λ_=>.int) d)⟩
def yB (c:Bool):List W->R W
 | [w]=>D5 w>>=chks c
 |_=>.stuck
def Y2 (c:Bool)(ws:List W):R W:=if c||j7 ws then .ok (.tup ws) else .stuck
def J7 (c:Bool):List W->R W
 | [w]=>D5 w>>=Y2 c
 |_=>.stuck
def G7:Cal K (cb c) .F (λxs H Q=>∃p ys,xs = [.ref p]/\((SqL K H p ys/\∀l,H l=none->Q (.ref l) (upd H l (.tup ys)))\/(SqT K H p ys/\Q (.ref p) H))) (J7 c):=by
 intro EX H0 Hs G H ρ σ Ha vs ws Q I s m o;have a0:∀{vs:List V}{us:List W},Reps K (if c then G else join H0 G) vs us->Out EX G H (mdW K .F H0 Hs) (Y2 c us) Q->Reps K G vs us/\Out EX G H (mdW K .F H0 Hs) (.ok (.tup us)) Q:=λ{vs us} r o=>by
  unfold Y2 at o;by_cases n:(c||j7 us)=true
  ·rw [qA2 n]at o
   refine ⟨?_,o⟩;cases c with
   |true=>rw[qA2 rfl]at r;exact r
   |false=>rw[qA4 qA9]at r;exact Reps.clean I r (by simpa using n)
  ·rw[qA4 n]at o;exact o.elim
 cases m with
 |nil=>exact o.elim
 | cons a t=>
  cases t with
  |cons _ _=>exact o.elim
  | nil=>
   rename_i w v
   cases w <;> first|exact o.elim|skip
   ·rename_i us
    have hx:∃p ys,v=.ref p/\(if c then G else join H0 G) p=some (.tup ys)/\Reps K (if c then G else join H0 G) ys us:=by
     cases c with
     |true=>rw[qA2 rfl];exact (Md.repC a λ_=>W.noConfusion).inv
     |false=>rw[qA4 qA9];exact (Md.repB a λ_=>W.noConfusion).inv
    obtain ⟨p,ys,rfl,O,r⟩:=hx;obtain ⟨r',o'⟩:=a0 r o;have hH:H p=some (.tup ys):=by
     cases c with
     |true=>rw[qA2 rfl]at O;exact I.gh _ _ O
     |false=>rw[qA4 qA9]at O;exact I.join_H _ _ O
    have hG:G p=some (.tup ys):=by
     cases c with
     |true=>rw[qA2 rfl]at O;exact O
     | false=>
      rw[qA4 qA9]at O;unfold join at O;cases q:H0 p with
      |none=>rw[q]at O;exact O
      | some u=>
       rw[q]at O;dsimp only at O;by_cases hl:isL u=true
       ·rw[qA2 hl]at O;cases O;cases hl
       ·rw[qA4 hl]at O;exact O
    exact ⟨p,ys,rfl,.inr ⟨SqT.of hH,o' _ G H (Ext.refl I.gh) (.tup hG r')⟩⟩
   ·obtain ⟨p,ys,rfl,hs,r⟩:=Md.lstOf I a rfl;obtain ⟨r',o'⟩:=a0 r o;exact ⟨p,ys,rfl,.inl ⟨hs,λl hl=>Out.newTF I r' hl o'⟩⟩
   ·obtain ⟨p,ys,rfl,hs,r⟩:=Md.lstOf I a rfl;obtain ⟨r',o'⟩:=a0 r o;exact ⟨p,ys,rfl,.inl ⟨hs,λl hl=>Out.newTF I r' hl o'⟩⟩
def f2 (g:Int->Int->Int):List W->R W
 | [.int i,.int j]=>.ok (.int (g i j))
 |_=>.stuck
def tyW:W->Option String
 | .non=>some "NoneType"
 | .bl _=>some "bool"
 | .int _=>some "int"
 | .str _=>some "str"
 | .tup _=>some "tuple"
 | .lst _=>some "list"
 |_=>none
def fIsi:List W->R W
 | [x,.ty T]=>toR ((tyW x).bind λA=>A3 A T)>>=λb=>.ok (.bl b)
 |_=>.stuck
def Cc (I:PIv K H0 G ρ σ H) (m:Md K H0 Ha G H v w .B) (h:tyW w=some A):L2.tyB H v=some A:=by
 cases w <;> first|cases h|skip
 ·rw[m.nonB];rfl
 ·rw[m.blB];rfl
 ·rw[m.intB];rfl
 ·rw[m.strB];rfl
 ·obtain ⟨a,vs,rfl,O,r⟩:=m.tupB I
  show L2.tyO (H a)=_;rw[O];rfl
 ·obtain ⟨a,vs,rfl,O,r⟩:=m.lstB I
  show L2.tyO (H a)=_;rw[O];rfl
def yJ:Cal K .B d rIsi fIsi:=by
 intro EX H0 Hs G H ρ σ Ha vs ws Q I s m o;cases m with
 |nil=>exact o.elim
 | @cons x _ _ _ a t=>
  cases t with
  |nil=>exact o.elim
  | @cons y _ _ _ b t=>
   cases t with
   |cons _ _=>first|exact o.elim | (cases y <;> exact o.elim)
   | nil=>
    cases y <;> first|exact o.elim|skip
    rename_i T
    replace o:Out EX G H (mdW K d H0 Hs) (toR ((tyW x).bind λA=>A3 A T)>>=λb=>.ok (.bl b)) Q:=o
    cases q:tyW x with
    |none=>rw[q]at o;exact o.elim
    | some A=>
     rw[q]at o;replace o:Out EX G H (mdW K d H0 Hs) (toR (A3 A T)>>=λb=>.ok (.bl b)) Q:=o
     cases O:A3 A T with
     |none=>rw[O]at o;exact o.elim
     | some c=>
      rw[O]at o;exact ⟨_,T,by rw[b.tyB],A,Cc I a q,c,O,o _ G H (Ext.refl I.gh) (Md.sca rfl (λ_=>.bl) d)⟩
def fCat (c:Bool):W->W->R W
 | .lst us,.lst vs=>if us.length+vs.length<=1000 then chks c (us++vs) else .stuck
 |_,_=>.stuck
def Reps.rep (r:Reps K F vs ws):∀k:Nat,Reps K F (List.replicate k vs).flatten (List.replicate k ws).flatten
 |0=>.nil
 |k+1=>by rw[qE4,qE4,qG5,qG5];exact r.append (Reps.rep r k)
def qm (c:Bool):W->W->R W
 | .lst us,.int k=>if us.length*k.toNat<=1000 /\ -1000<=k/\k<=1000 then chks c (List.replicate k.toNat us).flatten else .stuck
 |_,_=>.stuck
def Eo:Op2 K (cb c) .F rRep (qm c):=by
 intro EX H0 Hs G H ρ σ Ha Hb x y u v Q I s mx O o;cases u <;> first|exact o.elim|skip
 all_goals (cases v <;> first|exact o.elim|skip)
 rename_i us k
 replace o:Out EX G H (mdW K .F H0 Hs) (if us.length*k.toNat<=1000 /\ -1000<=k/\k<=1000 then chks c (List.replicate k.toNat us).flatten else .stuck) Q:=o
 by_cases hn:us.length*k.toNat<=1000 /\ -1000<=k/\k<=1000
 ·rw [qA2 hn]at o
  have h1:∃a ws,x=.ref a/\H a=some (.lst ws)/\Reps K (if c then G else join H0 G) ws us:=by
   cases c with
   |true=>exact Md.lstC (H:=Ha) I mx
   |false=>exact Md.lstB (H:=Ha) I mx
  have h2:y=.int k:=by
   cases c with
   |true=>exact Md.intB (Md.CB (H:=Hb) I O)
   |false=>exact Md.intB (H:=Hb) O
  obtain ⟨a,xs,rfl,ha,ra⟩:=h1;subst h2;exact ⟨a,k,xs,rfl,rfl,ha,ox,ox,by rw[ra.length];exact W2 hn.1,Out.chks I s (ra.rep _) o⟩
 ·rw[qA4 hn]at o;exact o.elim
def mC (w:W):Rho->R W:=λ_=>.ok w
def b1 (f:W->R W)(ma:Rho->R W):Rho->R W:=λρ=>ma ρ>>=λx=>f x
def b2 (f:W->W->R W)(ma mb:Rho->R W):Rho->R W:=λρ=>ma ρ>>=λx=>mb ρ>>=λy=>f x y
def bA (f:List W->R W)(ma:Rho->R (List W)):Rho->R W:=λρ=>ma ρ>>=λws=>f ws
def bI (f:List W->R (List W))(ma:Rho->R (List W)):Rho->R (List W):=λρ=>ma ρ>>=f
def bS (ma:Rho->R W):Rho->R (List W):=λρ=>ma ρ>>=D5
def aN:Rho->R (List W):=λ_=>.ok []
def aC (ma:Rho->R W)(I:Rho->R (List W)):Rho->R (List W):=λρ=>ma ρ>>=λx=>I ρ>>=λxs=>.ok (x::xs)
def Y4 (ma:Rho->R W):Rho->R W:=λρ=>ma ρ>>=chk
def g9 (ma:Rho->R W):Rho->R Bool:=λρ=>ma ρ>>=toB
def jC (a b:Rho->R Bool):Rho->R Bool:=λρ=>hZ (a ρ) (b ρ)
def gL (a b:Rho->R Bool):Rho->R Bool:=λρ=>rOr (a ρ) (b ρ)
def M4 (a:Rho->R Bool):Rho->R Bool:=λρ=>pC (a ρ)
def jO (a b:Rho->R W):Rho->R W:=λρ=>dg (a ρ) (b ρ)
def vOr (a b:Rho->R W):Rho->R W:=λρ=>kF (a ρ) (b ρ)
def pb (a:Rho->R W):Rho->R W:=λρ=>jD (a ρ)
def vIf (c:Rho->R Bool)(a b:Rho->R W):Rho->R W:=λρ=>c ρ>>=λt=>if t then a ρ else b ρ
def Ca (f I:W->W->R W)(ma mb mc:Rho->R W):Rho->R W:=λρ=>ma ρ>>=λx=>mb ρ>>=λy=>f x y>>=λz=>toB z>>=λc=>if c then mc ρ>>=λu=>I y u else .ok (.bl false)
def x4 (ma:Rho->R (List W)):Rho->R W:=λρ=>ma ρ>>=λws=>lim ws.length (.tup ws)
def D8 (ma:Rho->R (List W)):Rho->R W:=λρ=>ma ρ>>=λws=>lim ws.length (.lst ws)
def pN:Rho->R (Option Int):=λ_=>.ok none
def pS (m:Rho->R W):Rho->R (Option Int):=λρ=>m ρ>>=jF
def vSl (c:Bool)(m:Rho->R W)(O I:Rho->R (Option Int)):Rho->R W:=λρ=>m ρ>>=λx=>O ρ>>=λl=>I ρ>>=λu=>toR (lstOf x)>>=λws=>chks c (J8 ws l u)
def l6 (n:Nat)(I:Rho->R (List W))(mg:W->Rho->Option Rho)(mc:Rho->R Bool)(me:Rho->R W):Rho->R W:=λρ=>I ρ>>=λws=>k7 n mg mc me ws ρ
def yes:Rho->R Bool:=λ_=>.ok true
def sNx:Rho->R Fl:=λρ=>.ok (.nx ρ)
def HF (m:Rho->R W):Rho->R Fl:=λρ=>m ρ>>=λ_=>.ok (.nx ρ)
def i0 (m:Rho->R W):Rho->R Fl:=λρ=>m ρ>>=λw=>.ok (.rt w)
def HC:Rho->R Fl:=λ_=>.ok (.rt .non)
def sV (i:Nat)(m:Rho->R W):Rho->R Fl:=λρ=>m ρ>>=λw=>.ok (.nx (ρ.set i (.val w)))
def sU (i:Nat)(m:Rho->R W):Rho->R Fl:=λρ=>m ρ>>=λw=>.ok (.nx (ρ.set i (.par w)))
def sF (i:Nat)(m:Rho->R W):Rho->R Fl:=λρ=>m ρ>>=λw=>.ok (.nx (ρ.set i (O3 w)))
def sG (mg:W->Rho->Option Rho)(m:Rho->R W):Rho->R Fl:=λρ=>m ρ>>=λw=>toR (mg w ρ)>>=λI=>.ok (.nx I)
def D9 (I:Rho->R (List W))(mg:W->Rho->Option Rho)(mb:Rho->R Fl):Rho->R Fl:=λρ=>I ρ>>=λws=>D6 mg mb ws ρ
def aY (i:Nat)(m:Rho->R Fl):Rho->R Fl:=λρ=>m (frz i ρ)
def kx:Rho->R Fl:=λ_=>.stuck
def sBk:Rho->R Fl:=λρ=>.ok (.bk ρ)
def sCt:Rho->R Fl:=λρ=>.ok (.ct ρ)
def _root_.L2.PE.mono {X:Cx}{e:Expr}{t t':TE}(h:PE X e t)(hm:∀σ H Q,t' σ H Q->t σ H Q):PE X e t':=λpins s σ H Q I q=>h pins s σ H Q I (hm σ H Q q)
def _root_.L2.PT.mono {X:Cx}{e:Expr}{t t':TT}(h:PT X e t)(hm:∀σ H Q,t' σ H Q->t σ H Q):PT X e t':=λpins s σ H Q I q=>h pins s σ H Q I (hm σ H Q q)
def _root_.L2.PW.mono {X:Cx}{e:Expr}{t t':TT}(h:PW X e t)(hm:∀σ H Q,t' σ H Q->t σ H Q):PW X e t':=λwh pins s σ H Q I q=>h wh pins s σ H Q I (hm σ H Q q)
def _root_.L2.PA.mono {X:Cx}{es:List Expr}{t t':TA}(h:PA X es t)(hm:∀σ H Q,t' σ H Q->t σ H Q):PA X es t':=λpos pins s σ H Q I q=>h pos pins s σ H Q I (hm σ H Q q)
def _root_.L2.PS.mono {X:Cx}{st:Stmt}{t t':TS}(h:PS X st t)(hm:∀D σ H,t' D σ H->t D σ H):PS X st t':=λpins s σ H D I q=>h pins s σ H D I (hm D σ H q)
def _root_.L2.PSs.mono {X:Cx}{O:List Stmt}{t t':TS}(h:PSs X O t)(hm:∀D σ H,t' D σ H->t D σ H):PSs X O t':=λpins s σ H D I q=>h pins s σ H D I (hm D σ H q)
def _root_.L2.PI.mono {X:Cx}{e:Expr}{tg:Expr}{t t':TI}(h:PI X tg e t)(hm:∀σ H Q,t' σ H Q->t σ H Q):PI X tg e t':=λpins s σ H Q I q=>h pins s σ H Q I (hm σ H Q q)
def _root_.L2.PO.mono {X:Cx}{O:Option Expr}{t t':TO}(h:PO X O t) (hm:∀σ H Q,t' σ H Q->t σ H Q):PO X O t':=by
 intro pins s σ H Q I q;exact h pins s σ H Q I (hm σ H Q q)
def v7 {X:Cx}{K:Frag}{EX:EXT}{e:Expr}{ma:Rho->R W}(h:PE X e (tM K EX .F ma)):PE X e (tM K EX .V ma):=h.mono λ_ _ _ q=>Aq q
def kL (h:PE X e (tM K EX .V ma)):PE X e (tM K EX .U ma):=h.mono λ_ _ _ q=>An q
def DM (h:PE X e (tM K EX .V ma)):PE X e (tM K EX .C ma):=h.mono λ_ _ _ q=>Ao q
def h7 {X:Cx}{K:Frag}{EX:EXT}{e:Expr}{ma:Rho->R W}(h:PE X e (tM K EX .F ma)):PE X e (tM K EX .C ma):=h.mono λ_ _ _ q=>Ar q
def j5 {X:Cx}{K:Frag}{EX:EXT}{e:Expr}{ma:Rho->R W}(h:PE X e (tM K EX .U ma)):PE X e (tM K EX .B ma):=h.mono λ_ _ _ q=>Ap q
def l7 {X:Cx}{K:Frag}{EX:EXT}{e:Expr}{ma:Rho->R W}(h:PE X e (tM K EX .C ma)):PE X e (tM K EX .B ma):=h.mono λ_ _ _ q=>As q
def W8 (h:PE X e (tM K EX .U ma)):PE X e (tM K EX .V (Y4 ma)):=h.mono λ_ _ _ q=>ly (.inr rfl) q
def DK (h:PE X e (tM K EX .U ma)):PE X e (tM K EX .F (Y4 ma)):=h.mono λ_ _ _ q=>ly (.inl rfl) q
def qv {X:Cx}{K:Frag}{EX:EXT}{pos:Pos}(d:Mode)(i:Nat){x:Str}(hN:X.N[i]?=some x:=by rfl)(O:Vis X.env.scope x:=by first|exact Or.inl rfl|exact Or.inr (Or.inl rfl)|exact Or.inr (Or.inr rfl))(hd:(x == ("__debug__" : Str))=false:=by decide)(I:(x == ("__classdict__" : Str))=false:=by decide):PE X (.Name x pos) (tM K EX d (b8 d i)):=(P0 hN O hd I).mono λ_ _ _ q=>jL q
def d9 {X:Cx}{K:Frag}{EX:EXT}{d:Mode}{pos:Pos}{i j}:PE X (.Constant (.int i) j pos) (tM K EX d (mC (.int i))):=pe_int.mono λ_ _ _ q=>aR rfl (λ_=>.int) q
def O8 {t j}:PE X (.Constant (.bool t) j pos) (tM K EX d (mC (.bl t))):=pe_bl.mono λ_ _ _ q=>aR rfl (λ_=>.bl) q
def x9 {j}:PE X (.Constant .none j pos) (tM K EX d (mC .non)):=pe_non.mono λ_ _ _ q=>aR rfl (λ_=>.non) q
def M6 {x j}:PE X (.Constant (.str x) j pos) (tM K EX d (mC (.str x))):=pe_str.mono λ_ _ _ q=>aR rfl (λ_=>.str) q
def Dy {X:Cx}{K:Frag}{EX:EXT}{d:Mode}{pos:Pos}{x:Str}{n:String}(O:Gl X x) (hm:X.mg x=none) (I:bootBuiltins x=some (.type n)) (hn:x ≠ "__name__" := by decide) (hd:(x == ("__debug__" : Str))=false:=by decide):PE X (.Name x pos) (tM K EX d (mC (.ty n))):=
 (Aa (v:=.ty n) O hm I rfl hn hd).mono λ_ _ _ q=>aR rfl (λ_=>.ty) q
def j9 {X:Cx}{K:Frag}{EX:EXT}{d b:Mode}{a c:Expr}{pos:Pos}{ma mb:Rho->R W}{op:Operator}{r:R2}{f:W->W->R W}(I:OpR X (binaryOp op) r) (O:Op2 K b d r f) (ha:PE X a (tM K EX b ma)) (hb:PE X c (tM K EX b mb)):PE X (.BinOp a op c pos) (tM K EX d (b2 f ma mb)):=
 (HS I ha hb).mono λ_ _ _ q=>mI O q
def di (O:OpR X (compareOp op) r) (I:Op2 K b d r f) (ha:PE X a (tM K EX b ma)) (hb:PE X c (tM K EX b mb)) (hm:behindInMarks op c=false:=by first|exact lq _|rfl):PE X (.Compare a [op] [c] pos) (tM K EX d (b2 f ma mb)):=
 (zZ O ha hb hm).mono λ_ _ _ q=>mI I q
def i8 {X:Cx}{K:Frag}{EX:EXT}{b:Mode}{a c:Expr}{pos:Pos}{ma mb:Rho->R W}{op:CmpOp}{r:R2}{f:W->W->R W}(O:OpR X (compareOp op) r) (hr:Op2 K b .B r f) (ha:PE X a (tM K EX b ma)) (hb:PE X c (tM K EX b mb)) (hm:behindInMarks op c=false:=by first|exact lq _|rfl):PT X (.Compare a [op] [c] pos) (tT K EX (g9 (b2 f ma mb))):=
 (zQ O ha hb hm).mono λσ H Q q=>by
  obtain ⟨H0,G,ρ,I,o⟩:=q
  have:=uH (ma:=b2 f ma mb) ⟨H0,G,ρ,I,o⟩
  exact mI hr this
def kH (O:UnR X (unaryOp op) r) (I:Op1 K b d r f) (ha:PE X a (tM K EX b ma)):PE X (.UnaryOp op a pos) (tM K EX d (b1 f ma)):=
 (HR O ha).mono λ_ _ _ q=>c_un I q
def F8 (ha:PE X a (tM K EX .B ma)) (I:∀whole,isTrue a X.env whole=(do let v <- whole;standAt a.pos;holding [v] (truthy v)):=by intro _;rfl):PT X a (tT K EX (g9 ma)):=
 (DP ha I).mono λ_ _ _ q=>c_tB q
def nT (ha:PT X a (tT K EX ta)):PW X (.BoolOp .And [a] pos) (tT K EX ta):=zP ha
def so (ha:PT X a (tT K EX ta)):PW X (.BoolOp .Or [a] pos) (tT K EX ta):=DN ha
def sr {rest:List Expr}(ha:PT X a (tT K EX ta))(I:PW X (.BoolOp .And (b::rest) pos) (tT K EX tb)):PW X (.BoolOp .And (a::b::rest) pos) (tT K EX (jC ta tb)):=(DO ha I).mono λ_ _ _ q=>IU q
def jE {rest:List Expr}(ha:PT X a (tT K EX ta))(I:PW X (.BoolOp .Or (b::rest) pos) (tT K EX tb)):PW X (.BoolOp .Or (a::b::rest) pos) (tT K EX (gL ta tb)):=(HK ha I).mono λ_ _ _ q=>c_or q
def L6 (ha:PT X a (tT K EX ta)):PT X (.UnaryOp .Not a pos) (tT K EX (M4 ta)):=(DQ ha).mono λ_ _ _ q=>II q
def pH {op}(h:PE X a (tM K EX d ma)):PE X (.BoolOp op [a] pos) (tM K EX d ma):=Ea h
def pI {rest:List Expr}(ha:PE X a (tM K EX .B ma))(I:PE X (.BoolOp .And (b::rest) pos) (tM K EX d mb)):PE X (.BoolOp .And (a::b::rest) pos) (tM K EX d (jO ma mb)):=(Eg ha I).mono λ_ _ _ q=>GW q
def yk (ha:PE X a (tM K EX .B ma)):PE X (.UnaryOp .Not a pos) (tM K EX d (pb ma)):=(Eb ha).mono λ_ _ _ q=>GM q
def ig (O:PT X t (tT K EX ta))(ha:PE X a (tM K EX d ma))(I:PE X c (tM K EX d mb)):PE X (.IfExp t a c pos) (tM K EX d (vIf ta ma mb)):=(wu O ha I).mono λ_ _ _ q=>c_if q
def b9 {X:Cx}{K:Frag}{EX:EXT}{d:Mode}:PA X [] (tA K EX d aN):=pa_nil.mono λ_ _ _ q=>IJ q
def b7 {X:Cx}{K:Frag}{EX:EXT}{d:Mode}{e:Expr}{es:List Expr}{ma:Rho->R W}{I:Rho->R (List W)}(ha:PE X e (tM K EX d ma))(O:PA X es (tA K EX d I))(hs:starEach (e::es) X.env=(false,eval e X.env)::starEach es X.env:=by rfl):PA X (e::es) (tA K EX d (aC ma I)):=(dl ha O hs).mono λ_ _ _ q=>GT q
def x8 {X:Cx}{K:Frag}{EX:EXT}{es:List Expr}{pos:Pos}{I:Rho->R (List W)}{x1}(h:PA X es (tA K EX .V I)):PE X (.Tuple es x1 pos) (tM K EX .F (x4 I)):=(sJ h).mono λ_ _ _ q=>ID q
def kI {x1}(h:PA X es (tA K EX .U mr)):PE X (.Tuple es x1 pos) (tM K EX .U (x4 mr)):=(sJ h).mono λ_ _ _ q=>GE q
def K3 {X:Cx}{K:Frag}{EX:EXT}{es:List Expr}{pos:Pos}{I:Rho->R (List W)}(h:PA X es (tA K EX .V I)):PE X (.List es pos) (tM K EX .F (D8 I)):=(Ec h).mono λ_ _ _ q=>IK q
def g5 {X:Cx}{K:Frag}{EX:EXT}{a c:Expr}{pos:Pos}{ma mb:Rho->R W}(ha:PE X a (tM K EX .B ma)) (I:PE X c (tM K EX .B mb)) (hs:iO c:=by exact λ_ _=>rfl) (O:X.K=K:=by rfl):PE X (.Subscript a c pos) (tM K EX .U (b2 fIx ma mb)):=by
 subst O;exact (yq tN ha I hs).mono λ_ _ _ q=>mI Es q
def Z3 {X:Cx}{K:Frag}{EX:EXT}{a c:Expr}{pos:Pos}{ma mb:Rho->R W}(ha:PE X a (tM K EX .C ma)) (I:PE X c (tM K EX .C mb)) (hs:iO c:=by exact λ_ _=>rfl) (O:X.K=K:=by rfl):PE X (.Subscript a c pos) (tM K EX .V (b2 fIx ma mb)):=by
 subst O;exact (yq tN ha I hs).mono λ_ _ _ q=>mI Er q
def ic {X:Cx}{K:Frag}{EX:EXT}:PO X none (U3 K EX pN):=po_none.mono λ_ _ _ q=>xN q
def ib {X:Cx}{K:Frag}{EX:EXT}{e:Expr}{ma:Rho->R W}(h:PE X e (tM K EX .B ma)):PO X (some e) (U3 K EX (pS ma)):=(zT h).mono λ_ _ _ q=>GL q
def we {X:Cx}{K:Frag}{EX:EXT}{e:Expr}{pos:Pos}{ma:Rho->R W}(k:Bool){lo hi:Option Expr}{p2:Pos}{I O:Rho->R (Option Int)}(he:PE X e (tM K EX (cb k) ma)) (hl:PO X lo (U3 K EX I)) (hu:PO X hi (U3 K EX O)) (hK:X.K=K:=by rfl):PE X (.Subscript e (.Slice lo hi none p2) pos) (tM K EX .F (vSl k ma I O)):=by
 subst hK;exact (kP zk he hl hu).mono λ_ _ _ q=>c_sl q
def x5 {X:Cx}{K:Frag}{EX:EXT}{d b:Mode}{e:Expr}{es:List Expr}{pos:Pos}{mr:Rho->R (List W)}{x:Str}{id:String}{r:List V->Hp->VK->Prop}{f:List W->R W}{p:Pos}(hc:K8 X (.builtin id) r) (hr:Cal K b d r f) (hg:Gl X x) (hm:X.mg x=none) (hv:bootBuiltins x=some (.builtin id)) (ha:PA X (e::es) (tA K EX b mr)) (hn:x ≠ "__name__" := by decide) (I:(x == ("__debug__" : Str))=false:=by decide) (he:starEach (e::es) X.env=(false,eval e X.env)::starEach es X.env:=by rfl) (O:(backTo pos (starEach es X.env)).any (·.1)=false:=by rfl):
  PE X (.Call (.Name x p) (e::es) [] pos) (tM K EX d (bA f mr)):=(wv hc hg hm hv ha hn I he O).mono λ_ _ _ q=>xO hr q
def O7 {X:Cx}{K:Frag}{EX:EXT}{d b:Mode}{e:Expr}{es:List Expr}{pos:Pos}{mr:Rho->R (List W)}{x:Str}{T:String}{r:List V->Hp->VK->Prop}{f:List W->R W}{p:Pos}(hc:K8 X (.type T) r) (hr:Cal K b d r f) (hg:Gl X x) (hm:X.mg x=none) (hv:bootBuiltins x=some (.type T)) (ha:PA X (e::es) (tA K EX b mr)) (hn:x ≠ "__name__" := by decide) (I:(x == ("__debug__" : Str))=false:=by decide) (he:starEach (e::es) X.env=(false,eval e X.env)::starEach es X.env:=by rfl) (O:(backTo pos (starEach es X.env)).any (·.1)=false:=by rfl):
  PE X (.Call (.Name x p) (e::es) [] pos) (tM K EX d (bA f mr)):=(sL hc hg hm hv ha hn I he O).mono λ_ _ _ q=>xO hr q
def B3 (I:X.K=K:=by rfl):K8 X (.builtin "len") (λxs H Q=>∃p ys,xs = [.ref p]/\(SqL K H p ys\/SqT K H p ys)/\Q (.int ys.length) H):=by subst I;exact mF
def G8 (I:X.K=K:=by rfl):K8 X (.type "tuple") (λxs H Q=>∃p ys,xs = [.ref p]/\((SqL K H p ys/\∀l,H l=none->Q (.ref l) (upd H l (.tup ys)))\/(SqT K H p ys/\Q (.ref p) H))):=by subst I;exact jz
def L8 {X:Cx}{K:Frag}{d:Mode}{e:Expr}{es:List Expr}{pos:Pos}{mr:Rho->R (List W)}{k:Nat}{f:Addr}{fd:FuncData}{ps:List Str}{x:Str}{p:Pos}{n N:Nat}{m:Rho->R Fl}(F:FnOk X.prog X.w X.K X.mg X.base CX0 k f fd ps (spM K n d (g8 n N m))) (hd:d=.F\/d=.V) (hr:Room k X.A) (hg:Gl X x) (hm:X.mg x=some (.ref f)) (hk:PySem.W.keepIn X.K (.ref f)=true) (hb:Binds X.K fd ps []) (ha:PA X (e::es) (tA K (λ_ _=>False) .B mr)) (I:(x == ("__debug__" : Str))=false:=by decide) (he:starEach (e::es) X.env=(false,eval e X.env)::starEach es X.env:=by rfl) (O:(backTo pos (starEach es X.env)).any (·.1)=false:=by rfl):
  PE X (.Call (.Name x p) (e::es) [] pos) (tM K (λ_ _=>False) d (bA (g8 n N m) mr)):=
 (nZ F hr hg hm hk hb .nil pL ha I he O).mono λ_ _ _ q=>GU hd (λws h=>vK ws h) (λ_ _ z=>z) q
def ym (h:PE X e (tM K EX (gM lp .U) ma))(I:X.K=K:=by rfl):PI X tg e (tIt K EX lp .U (bS ma)):=by subst I;exact (HQ h).mono λ_ _ _ q=>IN (.inr rfl) q
def L7 {X:Cx}{K:Frag}{EX:EXT}{a:Expr}{pos:Pos}{I:Rho->R (List W)}{tg:Expr}{lp:Bool}{p:Pos}(hg:Gl X "range") (hm:X.mg "range" = none) (ha:PA X [a] (tA K EX .B I)) (O:starEach [a] X.env = [(false,eval a X.env)]:=by rfl):PI X tg (.Call (.Name "range" p) [a] [] pos) (tIt K EX lp .U (bI Q0 I)):=
 (sI hg hm ha O).mono λ_ _ _ q=>GI (.inr rfl) q
def yj {X:Cx}{K:Frag}{EX:EXT}{a:Expr}{es:List Expr}{pos:Pos}{O:Rho->R (List W)}{lp:Bool}{elts:List Expr}{p tp:Pos}{k:Nat}(hg:Gl X "zip") (hm:X.mg "zip" = none) (ha:PA X (a::es) (tA K EX (gM lp .U) O)) (hK:X.K=K:=by rfl) (hs:starEach (a::es) X.env=(false,eval a X.env)::starEach es X.env:=by rfl) (I:(backTo pos (starEach es X.env)).any (·.1)=false:=by rfl):
  PI X (.Tuple elts k tp) (.Call (.Name "zip" p) (a::es) [] pos) (tIt K EX lp .U (bI K9 O)):=by subst hK;exact (DY hg hm ha hs I).mono λ_ _ _ q=>IC (.inr rfl) q
def DJ (S:g6 X.env.scope cs X.N N') (hc:X.calm=true) (hi:PI X tg iter (tIt K EX false dd mi)) (hg:∀cl ex s H,PG (j8 X cs cl N' ex s H) tg g) (I:Gt K dd g mg) (hk:E9 X.N.length g) (O:∀cl ex s H,PIf (j8 X cs cl N' ex s H) ifs (tT K EX ta)) (he:∀cl ex s H,PE (j8 X cs cl N' ex s H) elt (tM K EX .V ma)) (hs:∀x,foldedSetIterable iter X.env x=pure x:=by intro _;rfl):PE X (.ListComp elt [⟨tg,iter,ifs,0⟩] cs pos) (tM K EX .F (l6 N'.length mi mg ta ma)):=
 (zY S hc hi hg hk O he hs).mono λ_ _ _ q=>mJ I q
def Dz {X:Cx}{K:Frag}{EX:EXT}{d:Mode}{pos:Pos}{ma:Rho->R W}{ta:Rho->R Bool}{i:Nat}{y:Str}{py:Pos}{cs:Scope}{N':List Str}{tg iter O:Expr}{a0:List Expr}{dd:Mode}{g:TG}{mg:W->Rho->Option Rho}{mi:Rho->R (List W)}{I:Pos}(S:g6 X.env.scope cs X.N N') (hc:X.calm=true) (hi:PI X tg iter (tIt K EX false dd mi)) (hg:∀cl ex s H,PG (j8 X cs cl N' ex s H) tg g) (a3:Gt K dd g mg) (hk:E9 X.N.length g) (ht:∀cl ex s H,PIf (j8 X cs cl N' ex s H) a0 (tT K EX ta)) (he:∀cl ex s H,PE (j8 X cs cl N' ex s H) O (tM K EX .V ma)) (hN:X.N.Nodup) (hy:X.N[i]?=some y) (hl:Loc X.env.scope y) (a4:swapsWith (.ListComp O [⟨tg,iter,a0,0⟩] cs I) (some (.Name y py)) pos.line X.env=pure true:=by rfl) (hf:X.fn y=true\/X.env.scope.names.lookup y=some .local:=by first|exact .inl rfl|exact .inr rfl|assumption) (hs:∀x,foldedSetIterable iter X.env x=pure x:=by intro _;rfl):PS X (.Assign [.Name y py] (.ListComp O [⟨tg,iter,a0,0⟩] cs I) pos) (tSt K EX d (sF i (l6 N'.length mi mg ta ma))):=
 (zR S hc hi hg hk ht he hN hy hl a4 hf hs).mono λD σ H q=>by
  have:=mH (m:=l6 N'.length mi mg ta ma) q
  exact mJ a3 this
def n8 {X:Cx}{K:Frag}{EX:EXT}:PIf X [] (tT K EX yes):=λpins s σ H Q I q=>zV pins s σ H Q I (by obtain ⟨H0,G,ρ,O,o⟩:=q;exact o true G H (Ext.refl O.gh) rfl)
def sv (h:PT X c (tT K EX ta)):PIf X [c] (tT K EX ta):=zU h
def m7 {X:Cx}{K:Frag}{EX:EXT}{d:Mode}:PSs X [] (tSt K EX d sNx):=pss_nil.mono λ_ _ _ q=>GN q
def c7 {X:Cx}{K:Frag}{EX:EXT}{d:Mode}{st:Stmt}{I:List Stmt}{m n:Rho->R Fl}(h1:PS X st (tSt K EX d m))(O:PSs X I (tSt K EX d n)):PSs X (st::I) (tSt K EX d (e8 m n)):=(kM h1 O).mono λ_ _ _ q=>IG q
def c9 {X:Cx}{K:Frag}{EX:EXT}{d:Mode}{st:Stmt}{m:Rho->R Fl}(I:PS X st (tSt K EX d m)):PSs X [st] (tSt K EX d m):=nV I
def aZ {X:Cx}{K:Frag}{EX:EXT}{d:Mode}{st:Stmt}{m:Rho->R Fl}{i:Nat}(h:PS X st (tSt K EX d m)):PS X st (tSt K EX d (aY i m)):=h.mono λ_ _ _ q=>IO q
def DI:PS X (.Continue pos) (tSt K EX d sCt):=ps_continue.mono λ_ _ _ q=>GS q
def nU:PS X st (tSt K EX d kx):=ps_never.mono λ_ _ _ q=>BC q
def g7 {X:Cx}{K:Frag}{EX:EXT}{d:Mode}{e:Expr}{pos:Pos}{ma:Rho->R W}(I:PE X e (tM K EX d ma)):PS X (.Return (some e) pos) (tSt K EX d (i0 ma)):=(sx I).mono λ_ _ _ q=>yH q
def S7 {X:Cx}{K:Frag}{EX:EXT}{d:Mode}{pos:Pos}(i:Nat){x:Str}{p:Pos}(hd:d=.F\/d=.V)(hN:X.N[i]?=some x:=by rfl)(hv:Vis X.env.scope x:=by first|exact Or.inl rfl|exact Or.inr (Or.inl rfl)|exact Or.inr (Or.inr rfl))(I:(x == ("__debug__" : Str))=false:=by decide)(O:(x == ("__classdict__" : Str))=false:=by decide):PS X (.Return (some (.Name x p)) pos) (tSt K EX d (B8 d i)):=(sx (P0 hN hv I O)).mono λ_ _ _ q=>xM hd q
def t9 {X:Cx}{K:Frag}{EX:EXT}{d:Mode}{e:Expr}{pos:Pos}{ma:Rho->R W}{i:Nat}{x:Str}{pos':Pos}(hN:X.N.Nodup) (hi:X.N[i]?=some x) (I:Loc X.env.scope x) (he:PE X e (tM K EX .V ma)) (hs:swapsWith e (some (.Name x pos')) pos.line X.env=pure false:=by rfl) (O:X.fn x=true\/X.env.scope.names.lookup x=some .local:=by first|exact .inl rfl|exact .inr rfl|assumption):
  PS X (.Assign [.Name x pos'] e pos) (tSt K EX d (sV i ma)):=(fN hN hi I he hs O).mono λ_ _ _ q=>GF q
def fM {X:Cx}{K:Frag}{EX:EXT}{d:Mode}{e:Expr}{pos:Pos}{ma:Rho->R W}{i:Nat}{x:Str}{pos':Pos}(hN:X.N.Nodup) (hi:X.N[i]?=some x) (I:Loc X.env.scope x) (he:PE X e (tM K EX .U ma)) (hs:swapsWith e (some (.Name x pos')) pos.line X.env=pure false:=by rfl) (O:X.fn x=true\/X.env.scope.names.lookup x=some .local:=by first|exact .inl rfl|exact .inr rfl|assumption):
  PS X (.Assign [.Name x pos'] e pos) (tSt K EX d (sU i ma)):=(fN hN hi I he hs O).mono λ_ _ _ q=>GG q
def j6 {X:Cx}{K:Frag}{EX:EXT}{d:Mode}{e:Expr}{pos:Pos}{ma:Rho->R W}{i:Nat}{x:Str}{pos':Pos}(hN:X.N.Nodup) (hi:X.N[i]?=some x) (I:Loc X.env.scope x) (he:PE X e (tM K EX .F ma)) (hs:swapsWith e (some (.Name x pos')) pos.line X.env=pure false:=by rfl) (O:X.fn x=true\/X.env.scope.names.lookup x=some .local:=by first|exact .inl rfl|exact .inr rfl|assumption):
  PS X (.Assign [.Name x pos'] e pos) (tSt K EX d (sF i ma)):=(fN hN hi I he hs O).mono λ_ _ _ q=>mH q
def HJ {X:Cx}{K:Frag}{EX:EXT}{d b:Mode}{e:Expr}{pos:Pos}{ma:Rho->R W}{tg:Expr}{g:TG}{mg:W->Rho->Option Rho}(O:PE X e (tM K EX b ma)) (hg:PG X tg g) (I:Gt K b g mg) (hs:swapsWithSole [tg] e pos.line X.env=pure false:=by rfl) (hw:swappedStores [tg] e X.env=pure none:=by rfl) (h1:(assignEach [tg] X.env).map (·.2) = [assign tg X.env]:=by rfl):PS X (.Assign [tg] e pos) (tSt K EX d (sG mg ma)):=
 (sy O hg hs hw h1).mono λ_ _ _ q=>IS I q
def Z4 {X:Cx}{K:Frag}{EX:EXT}{d:Mode}{e:Expr}{pos:Pos}{ma:Rho->R W}{i:Nat}{x:Str}{p apos I:Pos}(hN:X.N[i]?=some x) (hv:Vis X.env.scope x) (ha:PE X e (tM K EX .V ma)) (hd:(x == ("__debug__" : Str))=false:=by decide) (a4:(x == ("__classdict__" : Str))=false:=by decide) (O:attributeBase (.Name x p) "append" X.env (eval (.Name x p) X.env)=eval (.Name x p) X.env:=by rfl) (a3:((backTo I (starEach [e] X.env)).all (λx=>!x.1)&&(backToKw I (keywordEach [] X.env)).all (λx=>x.1.isSome)
   && decide (([e]:List Expr).length+([]:List Keyword).length+(if ([]:List Keyword).isEmpty then 0 else 1)<30))=true:=by rfl) (a0:(apos.endLine == I.line)=true:=by rfl) (hs:starEach [e] X.env=(false,eval e X.env)::starEach [] X.env:=by rfl) (a5:swapsWith (.Call (.Attribute (.Name x p) "append" apos) [e] [] I) none pos.line X.env=pure false:=by rfl):
  PS X (.Expr (.Call (.Attribute (.Name x p) "append" apos) [e] [] I) pos) (tSt K EX d (U6 i ma)):=(dj (iY (P0 hN hv hd a4) ha O a3 a0 hs) a5).mono λ_ _ _ q=>IT q
def n4 {X:Cx}{K:Frag}{EX:EXT}{d:Mode}{pos:Pos}{ta:Rho->R Bool}{m n:Rho->R Fl}{c:Expr}{x y:List Stmt}(hc:PT X c (tT K EX ta))(ha:PSs X x (tSt K EX d m))(I:PSs X y (tSt K EX d n)):PS X (.If c x y pos) (tSt K EX d (mIf ta m n)):=(yo hc ha I).mono λ_ _ _ q=>IL q
def aE (O:PassesOwn (model X.prog X.w) X.A X.env X.xe)(hc:PT X c (tT K EX ta))(I:PSs X body (tSt K EX d m)):PS X (.While c body [] pos) (tSt K EX d (J3 ta m)):=(wk O hc I).mono λ_ _ _ q=>BB q
def C3 {X:Cx}{K:Frag}{EX:EXT}{d:Mode}{pos:Pos}{m:Rho->R Fl}{tg iter:Expr}{body:List Stmt}{dd:Mode}{g:TG}{mg:W->Rho->Option Rho}{O:Rho->R (List W)}(hp:PassesOwn (model X.prog X.w) X.A X.env X.xe)(hc:X.calm=true)(hi:PI X tg iter (tIt K EX true dd O))(hg:PG X tg g)(I:Gt K dd g mg)(hb:PSs X body (tSt K EX d m))(hs:∀x,foldedSetIterable iter X.env x=pure x:=by intro _;rfl):PS X (.For tg iter body [] pos) (tSt K EX d (D9 O mg m)):=(DS hp hc hi hg hb hs).mono λ_ _ _ q=>IP I q
def yn {X:Cx}{K:Frag}{EX:EXT}{d:Mode}{e:Expr}{pos:Pos}{ma:Rho->R W}{i:Nat}{x:Str}{op:Operator}{f:Int->Int->Int}{pos':Pos}(hN:X.N.Nodup) (hi:X.N[i]?=some x) (hx:Loc X.env.scope x) (O:PE X e (tM K EX .B ma)) (I:PIp X op (ipI f)) (hf:X.fn x=true\/X.env.scope.names.lookup x=some .local:=by first|exact .inl rfl|exact .inr rfl|assumption):
  PS X (.AugAssign (.Name x pos') op e pos) (tSt K EX d (ix i f ma)):=(DT hN hi hx O I hf).mono λ_ _ _ q=>IR q
def pG {X:Cx}{K:Frag}{EX:EXT}{d:Mode}{e:Expr}{pos:Pos}{ma mb:Rho->R W}{i:Nat}{x:Str}{k:Expr}{p I:Pos}(hN:X.N[i]?=some x) (hv:Vis X.env.scope x) (hk:PE X k (tM K EX .B mb)) (O:PE X e (tM K EX .V ma)) (hd:(x == ("__debug__" : Str))=false:=by decide) (a0:(x == ("__classdict__" : Str))=false:=by decide) (hg:PG X (.Subscript (.Name x p) k I) (gSub (P8 i) (tM K EX .B mb) rSetL)) (hs:swapsWithSole [.Subscript (.Name x p) k I] e pos.line X.env=pure false:=by rfl) (hw:swappedStores [.Subscript (.Name x p) k I] e X.env=pure none:=by rfl):PS X (.Assign [.Subscript (.Name x p) k I] e pos) (tSt K EX d (fg i mb ma)):=
 (sy O hg hs hw).mono λ_ _ _ q=>IF q
abbrev gLt (i j:Int):W:=.bl (decide (i<j))
abbrev gLe (i j:Int):W:=.bl (decide (i<=j))
abbrev gGt (i j:Int):W:=.bl (decide (j<i))
abbrev gGe (i j:Int):W:=.bl (decide (j<=i))
abbrev E1 (i j:Int):W:=.int (i+j)
abbrev gSub (i j:Int):W:=.int (i-j)
abbrev v5 (i j:Int):W:=.int (i*j)
abbrev Q8 (i j:Int):W:=.int (i%j)
abbrev cK (i j:Int):W:=.int (i/j)
abbrev fq (i j:Int):W:=.int (i^j.toNat)
abbrev X3 (i:Int):W:=.int (-i)
abbrev FC (i j:Int):Int:=if j>i then j else i
abbrev FB (i j:Int):Int:=if j<i then j else i
abbrev qk (i j:Int):Int:=i+j
abbrev Ir (i j:Int):Int:=i-j
abbrev P4 (_ j:Int):Prop:=0<j
instance (i j:Int):Decidable (CMul i j):=by unfold CMul;infer_instance
instance (i j:Int):Decidable (da i j):=by unfold da;infer_instance
instance (i j:Int):Decidable (Y5 i j):=by unfold Y5;infer_instance
instance (i j:Int):Decidable (yQ i j):=by unfold yQ;infer_instance
def vOf:W->Option V
 | .non=>some .non
 | .bl b=>some (.bl b)
 | .int i=>some (.int i)
 | .str x=>some (.str x)
 |_=>none
def xz (u v:W):Option Bool:=match vOf u,vOf v with
 |some x,some y=>if kq x y then some (decide (x=y)) else none
 |_,_=>none
def o6 (neg:Bool) (u v:W):R W:=match xz u v with
 |some b=>.ok (.bl (if neg then !b else b))
 |none=>.stuck
def jA (h:Md K H0 Ha G H v w .B) (e:vOf w=some x):v=x:=by
 cases w <;> first|cases e|skip
 ·exact h.nonB
 ·exact h.blB
 ·exact h.intB
 ·exact h.strB
def D2:Op2 K .B d rEq (o6 false):=by
 intro EX H0 Hs G H ρ σ Ha Hb x y u v Q I s mx my o;unfold o6 xz at o;cases O:vOf u with
 |none=>rw[O]at o;exact o.elim
 | some p=>
  cases hv:vOf v with
  |none=>rw[O,hv]at o;exact o.elim
  | some q=>
   rw[O,hv]at o;cases jA mx O;cases jA my hv;dsimp only at o;by_cases c:kq x y=true
   ·rw [qA2 c]at o
    exact ⟨c,o _ G H (Ext.refl I.gh) (Md.sca rfl (λ_=>.bl) d)⟩
   ·rw[qA4 c]at o;exact o.elim
def Ep:Op2 K .B d rNe (o6 true):=by
 intro EX H0 Hs G H ρ σ Ha Hb x y u v Q I s mx my o;unfold o6 xz at o;cases O:vOf u with
 |none=>rw[O]at o;exact o.elim
 | some p=>
  cases hv:vOf v with
  |none=>rw[O,hv]at o;exact o.elim
  | some q=>
   rw[O,hv]at o;cases jA mx O;cases jA my hv;dsimp only at o;by_cases c:kq x y=true
   ·rw [qA2 c]at o
    exact ⟨c,o _ G H (Ext.refl I.gh) (Md.sca rfl (λ_=>.bl) d)⟩
   ·rw[qA4 c]at o;exact o.elim
mutual
def pd:W->PyData
 | .non=>.none
 | .bl b=>.bool b
 | .int i=>.int i
 | .str x=>.str x
 | .ty _=>.none
 | .exc _ _=>.none
 | .cls _=>.none
 | .tup ws=>.tuple (pds ws)
 | .lst ws=>.list (pds ws)
 | .scr ws=>.list (pds ws)
def pds:List W->List PyData
 | []=>[]
 |w::ws=>pd w::pds ws
end
mutual
def shp:Nat->W->Bool
 |_,.non=>true
 |_,.bl _=>true
 |_,.int _=>true
 |_,.str x=>PyData.strOk x
 |n+1,.tup ws=>U4 n ws
 |n+1,.lst ws=>U4 n ws
 |n+1,.scr ws=>U4 n ws
 |_,_=>false
def U4:Nat->List W->Bool
 |_,[]=>true
 |n,w::ws=>shp n w&&U4 n ws
end
def fJ:∀(w:W) (n:Nat),shp n w=true->(pd w).canLay0=true/\(pd w).depth<=n:=by
 intro w;have tl:∀(ws:List W) (c:List PyData->PyData),(∀l,(c l).canLay0=PyData.canLayAll0 l)->(∀l,(c l).depth=PyData.depthAll l+1)->(∀n:Nat,U4 n ws=true->PyData.canLayAll0 (pds ws)=true/\PyData.depthAll (pds ws)<=n)->∀n:Nat,(match n with|0=>false|n+1=>U4 n ws)=true->(c (pds ws)).canLay0=true/\(c (pds ws)).depth<=n:=λws c h1 O I n h=>by
  cases n with
  |zero=>cases h
  |succ n=>have:=I n h;exact ⟨by rw[h1];exact this.1,by rw[O];exact qM4 this.2⟩
 have fl:∀{n:Nat}{w:W}{P:Prop},shp n w=false->shp n w=true->P:=λh1 O=>by rw[h1]at O;cases O
 induction w using W.rec (motive_2:=λws=>∀n:Nat,U4 n ws=true->PyData.canLayAll0 (pds ws)=true/\PyData.depthAll (pds ws)<=n) with
 |non=>exact λn _=>⟨rfl,qD1 _⟩
 |bl b=>exact λn _=>⟨rfl,qD1 _⟩
 |int i=>exact λn _=>⟨rfl,qD1 _⟩
 |str x=>exact λn h=>⟨by cases n <;> exact h,qD1 _⟩
 |ty a=>exact λn h=>fl (by cases n <;> rfl) h
 |exc a b=>exact λn h=>fl (by cases n <;> rfl) h
 |cls a=>exact λn h=>fl (by cases n <;> rfl) h
 |tup ws I=>exact λn h=>tl ws .tuple (λ_=>rfl) (λ_=>rfl) I n (by cases n <;> exact h)
 |lst ws I=>exact λn h=>tl ws .list (λ_=>rfl) (λ_=>rfl) I n (by cases n <;> exact h)
 |scr ws I=>exact λn h=>tl ws .list (λ_=>rfl) (λ_=>rfl) I n (by cases n <;> exact h)
 |nil=>exact ⟨rfl,qD1 _⟩
 | cons w ws h1 O=>
  rename_i n h
  have h':shp n w=true/\U4 n ws=true:=(qG4 _ _).mp h;have a:=h1 n h'.1;have b:=O n h'.2;exact ⟨by show (PyData.canLay0 _&&PyData.canLayAll0 _)=true;rw[a.1,b.1];rfl,Nat.max_le.mpr ⟨a.2,b.2⟩⟩
def nK (ws:List W) (n:Nat) (h:U4 n ws=true):PyData.canLayAll0 (pds ws)=true/\PyData.depthAll (pds ws)<=n:=by
 have:=fJ (.tup ws) (n+1) h
 exact ⟨this.1,qJ0 this.2⟩
def Rep.reads {σ:St}(I:Inv X pins σ H s) (n:Nat) (r:Rep X.K H x w):shp n w=true->RelV x u->∃O,Reads s.heap u (pd w) O:=by
 have fl:∀{n:Nat}{w:W}{P:Prop},shp n w=false->shp n w=true->P:=λh1 h2=>by rw[h1]at h2;cases h2
 induction r using Rep.rec (motive_2:=λxs ws _=>∀(us:List Value) (n:Nat),U4 n ws=true->Vals xs us->∃O,ReadsAll s.heap us (pds ws) O) generalizing u n with
 |non=>intro _ r;cases r;exact ⟨_,.none⟩
 |bl=>intro _ r;cases r;exact ⟨_,.bool _⟩
 |int=>intro _ r;obtain ⟨t,rfl⟩:=r;exact ⟨_,.int _ _⟩
 |str=>intro _ r;obtain ⟨t,rfl⟩:=r;exact ⟨_,.str _ _⟩
 |ty=>exact λh _=>fl (by cases n <;> rfl) h
 |exc=>exact λh _=>fl (by cases n <;> rfl) h
 |cls=>exact λh _=>fl (by cases n <;> rfl) h
 | tup ha _ ih=>
  intro h r;cases r;cases n with
  |zero=>cases h
  | succ n=>
   obtain ⟨its,rv,⟨o,e,c,k,dd⟩,_⟩:=I.tuple (SqT.of ha);obtain ⟨O,q⟩:=ih _ n h rv;exact ⟨_,.tuple e c dd (by simpa using q)⟩
 | lst ha _ ih=>
  intro h r;cases r;cases n with
  |zero=>cases h
  | succ n=>
   obtain ⟨its,rv,pl,_⟩:=I.list (SqL.of ha);obtain ⟨o,e,c,k,dd⟩:=pl.isList;obtain ⟨O,q⟩:=ih _ n h rv;exact ⟨_,.list e c dd (by simpa using q)⟩
 | scr ha _ ih=>
  intro h r;cases r;cases n with
  |zero=>cases h
  | succ n=>
   obtain ⟨its,rv,pl,_⟩:=I.list ha;obtain ⟨o,e,c,k,dd⟩:=pl.isList;obtain ⟨O,q⟩:=ih _ n h rv;exact ⟨_,.list e c dd (by simpa using q)⟩
 |nil=>rename_i us n _ r;cases r;exact ⟨_,.nil⟩
 | cons _ _ h1 h2=>
  rename_i us n h r
  cases r with
  | cons r1 r2=>
   have h':=(qG4 _ _).mp h;obtain ⟨O,q1⟩:=h1 n h'.1 r1;obtain ⟨bs,q2⟩:=h2 _ n h'.2 r2;exact ⟨_,.cons q1 q2⟩
def eqW (u v:W):Bool:=PyData.eqv (pd u) (pd v)
def vZ (K:Frag)(neg:Bool):R2:=λx y H Q=>∃u v,Rep K H x u/\Rep K H y v/\shp 8 u=true/\shp 8 v=true/\Q (.bl (if neg then !eqW u v else eqW u v)) H
def Y7 (h:shp 8 w=true):SeqAt.shaped (pd w)=true:=by
 obtain ⟨a,b⟩:=fJ w 8 h;unfold SeqAt.shaped;rw[a,Bool.true_and];exact qO8 (qD7 b Qz)
def fR (hu:X.A.units+64<cLine):OpR X (compareOp .Eq) (vZ X.K false):=by
 intro pins s σ H x y v u Q I rx ry h;obtain ⟨a,b,ra,rb,sa,O,q⟩:=h;obtain ⟨as,qa⟩:=Rep.reads I 8 ra sa rx;obtain ⟨bs,qb⟩:=Rep.reads I 8 rb O ry;exact PyProof.Rows.eq_dataH qa qb (Y7 sa) (Y7 O) hu ⟨.bl (eqW a b),H,I,rfl,q⟩
def Ej (hu:X.A.units+64<cLine):OpR X (compareOp .NotEq) (vZ X.K true):=by
 intro pins s σ H x y v u Q I rx ry h;obtain ⟨a,b,ra,rb,sa,O,q⟩:=h;obtain ⟨as,qa⟩:=Rep.reads I 8 ra sa rx;obtain ⟨bs,qb⟩:=Rep.reads I 8 rb O ry;exact PyProof.Rows.ne_dataH qa qb (Y7 sa) (Y7 O) hu ⟨.bl (!eqW a b),H,I,rfl,q⟩
def fEq (neg:Bool)(u v:W):R W:=if shp 8 u&&shp 8 v then .ok (.bl (if neg then !eqW u v else eqW u v)) else .stuck
def cq:Op2 K .B d (vZ K neg) (fEq neg):=by
 intro EX H0 Hs G H ρ σ Ha Hb x y u v Q I s mx my o;unfold fEq at o;by_cases c:(shp 8 u&&shp 8 v)=true
 ·rw [qA2 c]at o
  have O:shp 8 u=true/\shp 8 v=true:=by simpa using c
  exact ⟨u,v,mx.whole I,my.whole I,O.1,O.2,o _ G H (Ext.refl I.gh) (Md.sca rfl (λ_=>.bl) d)⟩
 ·rw[qA4 c]at o;exact o.elim
def aj:W->Bool->Bool
 | .bl a,b=>a == b
 |_,_=>false
def fIsB (neg:Bool):W->W->R W
 |u,.bl b=>.ok (.bl (if neg then !aj u b else aj u b))
 |_,_=>.stuck
def ak (I:Room k A):A.units+64<cLine:=I.units
def G9 (r:Vals [x] us):∃u,us = [u]/\RelV x u:=by
 cases r with
 |cons a t=>cases t;exact ⟨_,rfl,a⟩
def cJ {s:Shared}{h':Heap}(hk:∀b u,b ∉ [s.heap.objs.size]->(s.heap.push o).get? b=some u->h'.get? b=some u):∀b u,s.heap.get? b=some u->h'.get? b=some u:=λb u e=>
 hk b u (by simp;exact qC8 (qB4 e)) (qA5 _ e)
def jN {α:Type}{f:α->V}{g:α->Value->Prop}(hg:∀a u,RelV (f a) u->g a u){I:List α}(r:Vals (I.map f) its){i:Nat}(h:its.toArray[i]?=some v):∃a,I[i]?=some a/\g a v:=by
 have h':its[i]?=some v:=by simpa using h
 induction I generalizing its i with
 |nil=>cases r;simp at h'
 | cons a I O=>
  cases r with
  | cons q t=>
   cases i with
   |zero=>simp at h';subst h';exact ⟨a,rfl,hg _ _ q⟩
   |succ i=>simpa using O t (i:=i) (by simpa using h') (by simpa using h')
def bN {σ:St}(I:Inv X pins σ H s) (hc:X.calm=true) (hp:H p=some (.lst xs)):∃its:List Value,Vals xs its/\s.heap.IsList p its.toArray/\xs.length=its.toArray.size/\p≠s.heap.objs.size /\
  Walks X.prog X.w X.A.in1 s.heap.objs.size [s.heap.objs.size,p] [s.heap.objs.size] its.toArray.size (λi v=>its.toArray[i]?=some v) (λi h=>h.IsListIter s.heap.objs.size p i/\h.IsList p its.toArray):=by
 obtain ⟨its,rv,pl,hz⟩:=I.list (SqL.of hp);obtain ⟨o,e,_⟩:=pl.isList;have O:p≠s.heap.objs.size:=qC8 (qB4 e);exact ⟨its,rv,pl.isList,by rw[qB8];exact rv.length,O,Walks.list (show X.A.in1.handled=none from I.ok.hd hc) _ p O _⟩
def all_range {bs:List Bool}:(List.range bs.length).all (λi=>bs.getD i false)=bs.all id:=by
 rw[qK3,qE3,qE3];constructor
 ·intro h x I;obtain ⟨i,hi,e⟩:=qE7.mp I
  have:=h i (by simpa using hi)
  rw[qA0]at this;simpa [hi,e]using this
 ·intro h i hi;have hi:i<bs.length:=by simpa using hi
  rw[qA0];simpa [hi]using h bs[i] (qF0 hi)
def any_range {bs:List Bool}:(List.range bs.length).any (λi=>bs.getD i false)=bs.any id:=by
 rw[qK3,qI3,qI3];constructor
 ·rintro ⟨i,hi,h⟩;have hi:i<bs.length:=by simpa using hi
  rw[qA0]at h;exact ⟨bs[i],qF0 hi,by simpa [hi]using h⟩
 ·rintro ⟨x,I,h⟩;obtain ⟨i,hi,e⟩:=qE7.mp I;refine ⟨i,by simpa using hi,?_⟩;rw[qA0];simpa [hi,e]using h
def jU {X:Cx}{bs:List Bool}(rv:Vals (bs.map V.bl) its):TruthOf X.prog X.w A (λi v=>its.toArray[i]?=some v) (λi=>bs.getD i false):=λi v s' Q' E O hq=>by
 obtain ⟨b,hb,e⟩:=jN (f:=V.bl) (g:=λb u=>u=.bool b) (λb u r=>r) rv O;subst e
 have:bs.getD i false=b:=by rw[qA0,hb];rfl
 have I:Q' (bs.getD i false) s':=hq;rw[this]at I;exact qQ0 I
def uG (hc:X.calm=true):K8 X (.builtin "all") (λxs H Q=>∃(p:Addr) (bs:List Bool),xs = [.ref p]/\H p=some (.lst (bs.map V.bl))/\Q (.bl (bs.all id)) H):=by
 intro pins s σ H xs us Q I r h;obtain ⟨p,bs,rfl,hp,q⟩:=h;obtain ⟨u,rfl,rx⟩:=G9 r;cases rx;obtain ⟨its,rv,O,hlen,a0,Wk⟩:=bN I hc hp;rw[qA6]at hlen;refine call_all_walk (qQ5 O ⟨_,_,_,_,_,_,_,rfl,Wk,⟨⟨_,qC2 _ rfl,rfl,rfl⟩,O.push _⟩,jU rv,λh' tk hk=>?_⟩);rw[<- hlen,all_range];exact ⟨.bl (bs.all id),H,I.kept (t':=tk) (cJ hk),rfl,q⟩
def cV (hc:X.calm=true):K8 X (.builtin "any") (λxs H Q=>∃(p:Addr) (bs:List Bool),xs = [.ref p]/\H p=some (.lst (bs.map V.bl))/\Q (.bl (bs.any id)) H):=by
 intro pins s σ H xs us Q I r h;obtain ⟨p,bs,rfl,hp,q⟩:=h;obtain ⟨u,rfl,rx⟩:=G9 r;cases rx;obtain ⟨its,rv,O,hlen,a0,Wk⟩:=bN I hc hp;rw[qA6]at hlen;refine call_any_walk (qQ5 O ⟨_,_,_,_,_,_,_,rfl,Wk,⟨⟨_,qC2 _ rfl,rfl,rfl⟩,O.push _⟩,jU rv,λh' tk hk=>?_⟩);rw[<- hlen,any_range];exact ⟨.bl (bs.any id),H,I.kept (t':=tk) (cJ hk),rfl,q⟩
def Y3:List W->Option (List Bool)
 | []=>some []
 | .bl b::ws=>(Y3 ws).map (b::·)
 |_=>none
def BG (bs:List Bool):Y3 (bs.map W.bl)=some bs:=by
 induction bs with
 |nil=>rfl
 |cons b bs I=>rw[qC1,Y3,I];rfl
def Reps.bls (r:Reps K F vs ws):Y3 ws=some bs->vs=bs.map V.bl:=
 Reps.ind (P:=λvs ws=>∀bs,Y3 ws=some bs->vs=bs.map V.bl) (λbs h=>by cases h;rfl) (λ{v w vs ws} r _ ih bs h=>by
  cases w <;> first|cases h|skip
  rename_i b
  have e:v=.bl b:=r.inv;subst e;have h':(Y3 ws).map (b::·)=some bs:=h;cases q:Y3 ws with
  |none=>rw[q]at h';cases h'
  |some cs=>rw[q]at h';cases h';rw[ih cs q];rfl) r bs
def aM (g:List Bool->Bool):List W->R W
 | [.lst ws]=>toR (Y3 ws)>>=λbs=>.ok (.bl (g bs))
 |_=>.stuck
def dL:Cal K .B d (λxs H Q=>∃(p:Addr) (bs:List Bool),xs = [.ref p]/\H p=some (.lst (bs.map V.bl))/\Q (.bl (g bs)) H) (aM g):=by
 intro EX H0 Hs G H ρ σ Ha vs ws Q I s m o;cases m with
 |nil=>exact o.elim
 | @cons w v a3 a0 a t=>
  cases t with
  |cons _ _=>first|exact o.elim | (cases w <;> exact o.elim)
  | nil=>
   cases w <;> first|exact o.elim|skip
   rename_i ws
   obtain ⟨p,ys,rfl,O,r⟩:=a.lstB I;replace o:Out EX G H (mdW K d H0 Hs) (toR (Y3 ws)>>=λbs=>.ok (.bl (g bs))) Q:=o
   cases q:Y3 ws with
   |none=>rw[q]at o;exact o.elim
   | some bs=>
    rw[q]at o;rw[Reps.bls r q]at O;exact ⟨p,bs,rfl,O,o _ G H (Ext.refl I.gh) (Md.sca rfl (λ_=>.bl) d)⟩
def qj (bs:List Bool):Bool:=bs.all id
def M9 (bs:List Bool):Bool:=bs.any id
def GY:bootBuiltins "all" = some (.builtin "all"):=by decide +kernel
def mL:bootBuiltins "any" = some (.builtin "any"):=by decide +kernel
def GX:bootBuiltins "sum" = some (.builtin "sum"):=by decide +kernel
def uE (hc:X.calm=true):K8 X (.builtin "sum") (λxs H Q=>∃(p:Addr) (ns:List Int),xs = [.ref p]/\H p=some (.lst (ns.map V.int))/\Q (.int ns.sum) H):=by
 intro pins s σ H xs us Q I r h;obtain ⟨p,ns,rfl,hp,q⟩:=h;obtain ⟨u,rfl,rx⟩:=G9 r;cases rx;obtain ⟨its,rv,hl,hlen,a4,Wk⟩:=bN I hc hp;rw[qA6]at hlen;have pre:∀(ms:List Int) (k:Nat),k<=ms.length->preSum (λi=>ms.getD i 0) k=(ms.take k).sum:=by
  intro ms k
  induction k with
  |zero=>intro _;simp [preSum]
  | succ k ih=>
   intro hk;rw[preSum,ih ox,List.take_succ_eq_append_getElem (by omega:k<ms.length),List.sum_append];have a0:k<ms.length:=ox;simp [qA0,a0]
 refine call_sum_walkAnyS (qQ5 hl ⟨_,_,_,_,_,_,_,(λi=>ns.getD i 0),rfl,Wk.toS,⟨⟨_,qC2 _ rfl,rfl,rfl⟩,hl.push _⟩,λb hb=>?_,λi v hv=>?_,λs' t' O=>?_⟩)
 ·obtain ⟨o,e,_⟩:=id hl;have a3:=qB4 e;simp at hb;rcases hb with rfl|rfl
  ·simp [Heap.push]
  ·exact qB6 a3 (by simp [Heap.push])
 ·obtain ⟨n,hn,t,e⟩:=jN (f:=V.int) (g:=λn u=>∃t,u=.int n t) (λb u r=>r) rv hv;refine ⟨t,?_⟩
  show v=Value.int (ns.getD i 0) t;rw[e,qA0,hn];rfl
 ·rw [<- hlen,pre ns ns.length (qB5 _),qK0]
  obtain ⟨hh,g,dd,tk,os⟩:=s';obtain rfl:g=s.gens:=O.gens;obtain rfl:dd=s.drawn:=O.drawn;obtain rfl:os=s.os:=O.os;exact ⟨.int ns.sum,H,I.kept (t':=tk) (cJ O.heap),⟨t',rfl⟩,q⟩
def o7:List W->Option (List Int)
 | []=>some []
 | .int b::ws=>(o7 ws).map (b::·)
 |_=>none
def ints_map (bs:List Int):o7 (bs.map W.int)=some bs:=by
 induction bs with
 |nil=>rfl
 |cons b bs I=>rw[qC1,o7,I];rfl
def Reps.ints (r:Reps K F vs ws):o7 ws=some bs->vs=bs.map V.int:=
 Reps.ind (P:=λvs ws=>∀bs,o7 ws=some bs->vs=bs.map V.int) (λbs h=>by cases h;rfl) (λ{v w vs ws} r _ ih bs h=>by
  cases w <;> first|cases h|skip
  rename_i b
  have e:v=.int b:=r.inv;subst e;have h':(o7 ws).map (b::·)=some bs:=h;cases q:o7 ws with
  |none=>rw[q]at h';cases h'
  |some cs=>rw[q]at h';cases h';rw[ih cs q];rfl) r bs
def qq (g:List Int->Int):List W->R W
 | [.lst ws]=>toR (o7 ws)>>=λbs=>.ok (.int (g bs))
 |_=>.stuck
def Hi:Cal K .B d (λxs H Q=>∃(p:Addr) (ns:List Int),xs = [.ref p]/\H p=some (.lst (ns.map V.int))/\Q (.int (g ns)) H) (qq g):=by
 intro EX H0 Hs G H ρ σ Ha vs ws Q I s m o;cases m with
 |nil=>exact o.elim
 | @cons w v a3 a0 a t=>
  cases t with
  |cons _ _=>first|exact o.elim | (cases w <;> exact o.elim)
  | nil=>
   cases w <;> first|exact o.elim|skip
   rename_i ws
   obtain ⟨p,ys,rfl,O,r⟩:=a.lstB I;replace o:Out EX G H (mdW K d H0 Hs) (toR (o7 ws)>>=λbs=>.ok (.int (g bs))) Q:=o
   cases q:o7 ws with
   |none=>rw[q]at o;exact o.elim
   | some bs=>
    rw[q]at o;rw[Reps.ints r q]at O;exact ⟨p,bs,rfl,O,o _ G H (Ext.refl I.gh) (Md.sca rfl (λ_=>.int) d)⟩
def xk (ns:List Int):Int:=ns.sum
def fAbs:List W->R W
 | [.int i]=>.ok (.int (if i<0 then -i else i))
 |_=>.stuck
def FU:List W->R W
 | [.int i]=>.ok (.int i)
 | [.bl k]=>.ok (.int (if k then 1 else 0))
 |_=>.stuck
def fStr:List W->R W
 | [.int i]=>if i.natAbs.log2<1920 then .ok (.str (toString i)) else .stuck
 |_=>.stuck
def mExt (i:Nat) (c:Bool) (m:Rho->R W):Rho->R Fl:=λρ=>match ρ[i]? with
 | some (.own ws)=>m ρ>>=λw=>(match w with
  | .lst us=>if ws.length+us.length<=1000 then (if c||j7 us then .ok (.nx (ρ.set i (.own (ws++us)))) else .stuck) else .stuck
  |_=>.stuck)
 |_=>.stuck
def lK (i:Nat):Rho->R Fl:=λρ=>match ρ[i]? with
 |some (.own ws)=>.ok (.nx (ρ.set i (.own ws.reverse)))
 |_=>.stuck
def IH (h:tSt K EX d (lK i) D σ H):fF (Cn K "list" rReverse (P8 i)) D σ H:=by
 obtain ⟨H0,G,ρ,I,o⟩:=h;unfold lK at o
 split at o
 ·rename_i ws e
  obtain ⟨a,vs,es,ha,O,h0,r⟩:=I.own_at e;exact ⟨.ref a,es,.inl ⟨rfl,vs,SqL.of ha⟩,a,vs,rfl,rfl,ha,o G σ _ (Same.refl _) (I.own_upd e es r.reverse)⟩
 ·exact o.elim
def HH {X:Cx}{K:Frag}{EX:EXT}{d:Mode}{pos:Pos}{i:Nat}{x:Str}{p apos I:Pos}(hN:X.N[i]?=some x) (hv:Vis X.env.scope x) (hK:X.K=K:=by rfl) (hd:(x == ("__debug__" : Str))=false:=by decide) (a4:(x == ("__classdict__" : Str))=false:=by decide) (O:attributeBase (.Name x p) "reverse" X.env (eval (.Name x p) X.env)=eval (.Name x p) X.env:=by rfl) (a0:(apos.endLine == I.line)=true:=by rfl) (a3:swapsWith (.Call (.Attribute (.Name x p) "reverse" apos) [] [] I) none pos.line X.env=pure false:=by rfl):
  PS X (.Expr (.Call (.Attribute (.Name x p) "reverse" apos) [] [] I) pos) (tSt K EX d (lK i)):=by
 subst hK;exact (dj (Ed qS6 PySem.F.slot_list_reverse PySem.F.type_list_reverse pV (P0 hN hv hd a4) O a0) a3).mono λ_ _ _ q=>IH q
def C0 {X:Cx}{K:Frag}{EX:EXT}{e tg:Expr}{ma:Rho->R W}(h:PE X e (tM K EX .B ma))(I:X.K=K:=by rfl):PI X tg e (tIt K EX false .U (bS ma)):=ym (lp:=false) h I
def S8 (h:PE X e (tM K EX .U ma))(I:X.K=K:=by rfl):PI X tg e (tIt K EX true .U (bS ma)):=ym (lp:=true) h I
def aD {X:Cx}{K:Frag}{EX:EXT}{a:Expr}{es:List Expr}{pos:Pos}{O:Rho->R (List W)}{elts:List Expr}{p tp:Pos}{k:Nat}(hg:Gl X "zip") (hm:X.mg "zip" = none) (ha:PA X (a::es) (tA K EX .B O)) (hK:X.K=K:=by rfl) (hs:starEach (a::es) X.env=(false,eval a X.env)::starEach es X.env:=by rfl) (I:(backTo pos (starEach es X.env)).any (·.1)=false:=by rfl):
  PI X (.Tuple elts k tp) (.Call (.Name "zip" p) (a::es) [] pos) (tIt K EX false .U (bI K9 O)):=yj (lp:=false) hg hm ha hK hs I
def sk {X:Cx}{K:Frag}{EX:EXT}{a:Expr}{es:List Expr}{pos:Pos}{O:Rho->R (List W)}{elts:List Expr}{p tp:Pos}{k:Nat}(hg:Gl X "zip") (hm:X.mg "zip" = none) (ha:PA X (a::es) (tA K EX .U O)) (hK:X.K=K:=by rfl) (hs:starEach (a::es) X.env=(false,eval a X.env)::starEach es X.env:=by rfl) (I:(backTo pos (starEach es X.env)).any (·.1)=false:=by rfl):
  PI X (.Tuple elts k tp) (.Call (.Name "zip" p) (a::es) [] pos) (tIt K EX true .U (bI K9 O)):=yj (lp:=true) hg hm ha hK hs I
def Ip:Sl->Bool
 | .own _=>true
 | .dic _=>true
 | .dik _=>true
 |_=>false
def noOwn (ρ:Rho):Bool:=ρ.all λs=>!Ip s
def sCU (i:Nat)(f:List W->R W)(ma:Rho->R (List W)):Rho->R Fl:=λρ=>if noOwn ρ then (ma ρ>>=λws=>f ws>>=λw=>.ok (.nx (ρ.set i (.par w)))) else .stuck
def ny:bootBuiltins "reversed" = some (.type "reversed"):=by decide +kernel
def revW:List W->R (List W)
 | [.lst ws]=>.ok ws.reverse
 |_=>.stuck
def int_at {ns:List Int}(rv:Vals (ns.map V.int) its){i:Nat}(h:its.toArray[i]?=some v):∃t,v=.int (ns.getD i 0) t:=by
 obtain ⟨n,hn,t,e⟩:=jN (f:=V.int) (g:=λn u=>∃t,u=.int n t) (λb u r=>r) rv h;exact ⟨t,by rw[e,qA0,hn];rfl⟩
def lt2 {s:Shared}(e:s.heap.get? p=some u):∀b ∈ [s.heap.objs.size,p],b<(s.heap.push o).objs.size:=λb O=>by
 have I:=qB4 e;simp at O;rcases O with rfl|rfl
 ·simp [Heap.push]
 ·exact qB6 I (by simp [Heap.push])
def seqI:W->Option (List Int)
 | .lst ws=>o7 ws
 | .tup ws=>o7 ws
 |_=>none
def yC (g:List Int->Int):List W->R W
 | [w]=>toR (seqI w)>>=λns=>if 0<ns.length then .ok (.int (g ns)) else .stuck
 |_=>.stuck
end TP
namespace HT
open PySem PySem.Spec PyProof.Rows
def Z7:typeLookup (.type "tuple") (dunderR "mul")=pure (some (.builtin "tuple.__rmul__")):=by rw[typeLookup_type,qT7];kernel_rfl
def noFill_tuple_mul:fillsNumberSlot (.type "tuple") "mul" = pure false:=
 PySem.fillsNumberSlot_seq (id := "tuple.__mul__") (r:=some (.builtin "tuple.__rmul__")) F.slot_tuple_mul.lookup (by decide +kernel) Z7 (by decide +kernel)
def repeat_tuple:seqRepeat? (.type "tuple")=pure (some (.builtin "tuple.__mul__")):=by
 unfold seqRepeat?;rw[PySem.seqSlot_of (T := "tuple") (name := "__mul__") (id := "tuple.__mul__") F.slot_tuple_mul.lookup (by decide +kernel),PySem.seqSlot_of (T := "tuple") (name := "__rmul__") (id := "tuple.__rmul__") Z7 (by decide +kernel)];rfl
def rmul_declines (a:Int) (t:Tok) (l:Addr) (items:Array Value) (n:Nat) (dd:Option Addr) (sl:Array (Option Value)) :
  Meets (Builtin.«int.__rmul__» ⟨[.int a t,.ref l],[]⟩) (λ_ R s=>s.heap.get? l=some { cls:=.type "tuple",dict:=dd,data:=.seq items n,slots:=sl }/\R (.ok (.ret Value.notImplemented)) s):=
 .of_wp λprog w A R s h=>by obtain ⟨hp,g,d,O,os⟩:=s;obtain ⟨I,h⟩:=h;wp_walk;exact ⟨_,rfl,h⟩
def tuple_mul1 (l:Addr) (items:Array Value) (n:Nat) (dd:Option Addr) (sl:Array (Option Value)) (u:Tok) :
  Meets (Builtin.«tuple.__mul__» ⟨[.ref l,.int 1 u],[]⟩) (λ_ R s=>s.heap.get? l=some { cls:=.type "tuple",dict:=dd,data:=.seq items n,slots:=sl }/\R (.ok (.ret (.ref l))) s):=
 .of_wp λprog w A R s h=>by
  obtain ⟨hp,g,d,tk,os⟩:=s;obtain ⟨I,h⟩:=h;have O:=AutoSeq1.idx_int
  wp_walk using qR4 I;exact ⟨_,rfl,h⟩
def tuple_mul2 (l:Addr) (items:Array Value) (n:Nat) (dd:Option Addr) (sl:Array (Option Value)) (k:Int) (u:Tok) (hc:¬ (decide (k < -(2^63))||decide (k≥2^63))=true)
  (hi:¬ (items.isEmpty||k == 1)=true) (h0:¬ (decide (k<=0)||items.isEmpty)=true) (hm:¬ (items.size*k>(2^63-1)/8)) (hz:¬ Builtin.Tuple.tupleTooMany (items.size*k)=true) (O:((List.replicate k.toNat items).foldl (·++·) #[]).size<=sizeLine) :
  Meets (Builtin.«tuple.__mul__» ⟨[.ref l,.int k u],[]⟩) (λ_ R s=>s.heap.get? l=some { cls:=.type "tuple",dict:=dd,data:=.seq items n,slots:=sl }/\R (.ok (.ret (.ref s.heap.objs.size))) { s with heap:=s.heap.push { cls:=.type "tuple",data:=.seq ((List.replicate k.toNat items).foldl (·++·) #[]) } }):=
 .of_wp λprog w A R s h=>by
  obtain ⟨hp,g,d,tk,os⟩:=s;obtain ⟨I,h⟩:=h;have f1:=AutoSeq1.idx_int
  wp_walk using qR4 I
  rw[qA4 hc]
  wp_walk using qR4 I
  rw[qA4 hm]
  wp_walk using qR4 I
  exact ⟨_,rfl,h⟩
end HT
namespace TP
open PySem L2 PySem.Spec PyProof.Rows
def len_reps {α:Type}(xs:List α):∀k:Nat,(List.replicate k xs).flatten.length=k*xs.length
 |0=>by simp
 |k+1=>by rw[qE4,qG5,qC6,len_reps xs k,Nat.succ_mul,Nat.add_comm]
def gf (its:List Value):∀(m:Nat) (I:List Value),List.foldl (λO x2=>O++x2) I.toArray (List.replicate m its.toArray)=(I++(List.replicate m its).flatten).toArray
 |0,I=>Qy
 |m+1,I=>by rw[qE4,List.foldl_cons,List.append_toArray,gf its m (I++its),qE4,qG5,qL0]
def yg (K:Frag):R2:=λx y H Q=>∃a k xs,x=.ref a/\y=.int k/\SqT K H a xs/\xs ≠ []/\1<=k/\k<2^63/\xs.length*k.toNat<=sizeLine /\
 (k=1->Q (.ref a) H)/\(k≠1->∀l,H l=none->Q (.ref l) (upd H l (.tup (List.replicate k.toNat xs).flatten)))
def oa {X:Cx}{K:Frag}(hK:X.K=K:=by rfl):OpR X (binaryOp .Mult) (yg K):=by
 subst hK;intro pins s σ H x y v u Q I rx ry h;obtain ⟨l,k,xs,rfl,rfl,hH,a3,h1,h2,hz,q1,q2⟩:=h;cases rx;obtain ⟨t,rfl⟩:=ry;obtain ⟨its,r,p,_⟩:=I.tuple hH;obtain ⟨⟨cls,dd,data,sl⟩,ho,hc,n,hd⟩:=id p;simp only at hc hd;subst hc hd;have a0:its ≠ []:=λz=>a3 (r.nil_iff.mp z);refine wpAny_binaryOp_repeat_ref (T := "tuple") (U := "int") Qz ⟨_,ho,rfl⟩ (λs'=>typeIs_int s' k t) HT.noFill_tuple_mul F.fills_int_mul qU3 HT.repeat_tuple F.slot_int_index.lookup
  (qR2 qU3 (typeIs_int s k t) F.entry_int_rmul (F.args_int_rmul_2 _ _) (HT.rmul_declines k t l its.toArray n dd sl)
   ⟨ho,rfl,⟨_,ho,rfl⟩,?_⟩)
 by_cases e:k=1
 ·subst e;exact qR2 F.slot_tuple_mul ⟨_,ho,rfl⟩ F.entry_tuple_mul (F.args_tuple_mul_2 _ _) (HT.tuple_mul1 l its.toArray n dd sl t) ⟨ho,.ref l,H,I,rfl,q1 rfl⟩
 ·have O:List.foldl (λx1 x2=>x1++x2) #[] (List.replicate k.toNat its.toArray)=(List.replicate k.toNat its).flatten.toArray:=by
   have:=gf its k.toNat []
   rw[List.nil_append]at this;exact this
  have hlen:its.length*k.toNat<=sizeLine:=by rw[<- r.length];exact hz
  have hsz:(its.toArray.size:Int)*k<=(sizeLine:Nat):=by
   have e2:((its.length*k.toNat:Nat):Int)=(its.toArray.size:Int)*k:=by
    rw[Int.natCast_mul,qM9 ox,qB8]
   rw[<- e2];exact_mod_cast hlen
  have a4:((sizeLine:Nat):Int)<=(2^63-1)/8:=Qz;refine qR2 F.slot_tuple_mul ⟨_,ho,rfl⟩ F.entry_tuple_mul (F.args_tuple_mul_2 _ _) (HT.tuple_mul2 l its.toArray n dd sl k t ?_ ?_ ?_ ?_ ?_ ?_) ⟨ho,?_⟩
  ·simp only [Bool.or_eq_true,qR1];omega
  ·simp [a0,e]
  ·simp only [Bool.or_eq_true,qR1];rintro (z|z)
   ·omega
   ·simp [a0]at z
  ·omega
  ·simp only [Builtin.Tuple.tupleTooMany,qR1];omega
  ·rw[O,qB8,len_reps,Nat.mul_comm];exact hlen
  ·rw [O]
   refine ⟨.ref s.heap.objs.size,_,I.laid (t':=s.toks) (o:=.tup (List.replicate k.toNat xs).flatten) (λb ob q=>qA5 _ q) (qB5 _) ?_,rfl,q2 e _ (I.hok.fresh (qB5 _))⟩;exact ⟨by rw[len_reps,Nat.mul_comm];exact hz,_,r.rep k.toNat,IsTup.new _ _⟩
def fRepT:W->W->R W
 | .tup us,.int k=>if us ≠ []/\us.length*k.toNat<=1000/\1<=k/\k<=1000 then .ok (.tup (List.replicate k.toNat us).flatten) else .stuck
 |_,_=>.stuck
def og {K:Frag}:Op2 K .C .F (yg K) fRepT:=by
 intro EX H0 Hs G H ρ σ Ha Hb x y u v Q I s mx my o;cases u <;> first|exact o.elim|skip
 all_goals (cases v <;> first|exact o.elim|skip)
 rename_i us k
 replace o:Out EX G H (mdW K .F H0 Hs) (if us ≠ []/\us.length*k.toNat<=1000/\1<=k/\k<=1000 then .ok (.tup (List.replicate k.toNat us).flatten) else .stuck) Q:=o
 by_cases hn:us ≠ []/\us.length*k.toNat<=1000/\1<=k/\k<=1000
 ·rw [qA2 hn]at o
  obtain ⟨O,hz,h1,h2⟩:=hn;have hy:y=.int k:=Md.intB (Md.CB (H:=Hb) I my);subst hy;obtain ⟨a,vs,rfl,h,r⟩:=(Md.repC mx λ_=>W.noConfusion).inv;refine ⟨_,k,_,rfl,rfl,SqT.of (I.gh _ _ h),?_,h1,ox,by rw[r.length];exact W2 hz,?_,?_⟩
  ·intro z
   have:=r.length
   rw[z]at this;exact O (qG9 this.symm)
  ·intro e;subst e;refine o _ G H (Ext.refl I.gh) (.tup h ?_);simpa using r
  ·intro _ l hl;exact Out.newTF I (r.rep _) hl o
 ·rw[qA4 hn]at o;exact o.elim
end TP
namespace TP
open PySem PySem.W PyProof.Rows
section
variable (r:Nat->Int)
def runK {α:Type}:KasT α->α
 | .ret a=>a
 | .ask i j k=>runK (k (decide (r i<r j)))
def S6 (f:α->KasT β) (t:KasT α):runK r (t.bind f)=runK r (f (runK r t)):=by
 induction t with
 |ret _=>rfl
 |ask i j k I=>exact I _
def gC {k:Bool->KasT α}(h:r i<r j):runK r (.ask i j k)=runK r (k true):=congrArg (λb=>runK r (k b)) (qO8 h)
def dM {k:Bool->KasT α}(h:¬ r i<r j):runK r (.ask i j k)=runK r (k false):=congrArg (λb=>runK r (k b)) (qO7 h)
def ky (p:Array Nat)(k:Nat):Int:=r (p.getD k 0)
def gc (h:p[k]?=q[l]?):ky r p k=ky r q l:=by
 unfold ky;rw[qF6,qF6,h]
def lP (I:j<=p.size) (k:Nat):ky r (kas_rev p i j) k=if i<=k/\k<j then ky r p (i+j-1-k) else ky r p k:=by
 have e:=getElem?_mirror_all (i:=i) I k;by_cases h:i<=k/\k<j
 ·rw[qA2 h]at e ⊢;exact gc r e
 ·rw[qA4 h]at e ⊢;exact gc r e
def EE (O:k<p.size) (hd:d<=k) (i:Nat):ky r (bubble p k d) i=if i=k-d then ky r p k else if k-d<i/\i<=k then ky r p (i-1) else ky r p i:=by
 have e:=getElem?_bubble O d hd i;by_cases h:i=k-d
 ·rw[qA2 h]at e ⊢;exact gc r e
 ·rw [qA4 h]at e ⊢
  by_cases I:k-d<i/\i<=k
  ·rw[qA2 I]at e ⊢;exact gc r e
  ·rw[qA4 I]at e ⊢;exact gc r e
def rev_eq (I:j<=p.size) (h:∀k,i<=k->k<j->ky r p k=c) (k:Nat):ky r (kas_rev p i j) k=ky r p k:=by
 rw[lP r I];by_cases hk:i<=k/\k<j
 ·rw[qA2 hk,h k hk.1 hk.2,h _ ox ox]
 ·rw[qA4 hk]
def up (p:Array Nat)(n:Nat):Prop:=∀k,k+1<n->ky r p k<=ky r p (k+1)
def dn (p:Array Nat)(n:Nat):Prop:=∀k,k+1<n->ky r p (k+1)<=ky r p k
def yX (h:up r p (n+1)) (e:ky r p n<=ky r p (n+1)):up r p (n+2):=λk hk=>by
 rcases qN8 (qJ0 (qJ0 hk)) with q|rfl
 ·exact h k (Nat.succ_lt_succ q)
 ·exact e
def aP (h:dn r p (n+1)) (e:ky r p (n+1)<=ky r p n):dn r p (n+2):=λk hk=>by
 rcases qN8 (qJ0 (qJ0 hk)) with q|rfl
 ·exact h k (Nat.succ_lt_succ q)
 ·exact e
def uQ (p:Array Nat):∀(f m:Nat),up r p (m+1)->∃R,runK r (kas_asc p f (m+1))=R+1/\m<=R/\R<=m+f/\up r p (R+1)/\(R<m+f->ky r p (R+1)<ky r p R):=by
 intro f
 induction f with
 |zero=>exact λm I=>⟨m,rfl,qB5 _,qB5 _,I,λh=>absurd h (qE2 _)⟩
 | succ f O=>
  intro m I;by_cases h:ky r p (m+1)<ky r p m
  ·exact ⟨m,gC r h,qB5 _,qM5 _ _,I,λ_=>h⟩
  ·obtain ⟨R,e,a,b,c,d⟩:=O (m+1) (yX r I (qW3.mp h));have hf:m+1+f=m+(f+1):=qH3 m f;rw[hf]at b d;exact ⟨R,(dM r h).trans e,qJ6 a,b,c,d⟩
def Bv:∀(f:Nat) (p:Array Nat) (m q:Nat),m+1+f<=p.size->q<=m->dn r p (m+1)->(∀k,m+1-(q+1)<=k->k<=m->ky r p k=ky r p m) ->
  ∃p' I q',runK r (kas_desc f p (m+1) q)=(p',I+1,q')/\p'.Perm p/\m<=I/\I<=m+f/\dn r p' (I+1)/\∀k,I+1-(q'+1)<=k->k<=I->ky r p' k=ky r p' I:=by
 intro f
 induction f with
 |zero=>exact λp m q _ _ hd he=>⟨p,m,q,rfl,.refl _,qB5 _,qB5 _,hd,he⟩
 | succ f ih=>
  intro p m q hz hq hd he;have hf:m+1+f=m+(f+1):=qH3 m f;have a0:m+1+1+f<=p.size:=by rw[qH3 (m+1) f];exact hz
  by_cases h:ky r p (m+1)<ky r p m
  ·have e0:runK r (kas_desc (f+1) p (m+1) q)=runK r (if q>0 then kas_desc f (kas_rev p (m+1-(q+1)) (m+1)) (m+1+1) 0 else kas_desc f p (m+1+1) 0):=gC r h;by_cases a3:q>0
   ·have O:=rev_eq r (p:=p) (i:=m+1-(q+1)) (j:=m+1) (c:=ky r p m) (qD7 (qM5 _ _) hz) λk a b=>he k a (qJ7 b);obtain ⟨p',I,q',e,h1,h2,h3,h5⟩:=ih (kas_rev p (m+1-(q+1)) (m+1)) (m+1) 0 (by rw[kas_rev_size];exact a0) (qD1 _) (aP r (λk hk=>by rw[O,O];exact hd k hk) (by rw[O,O];exact qN9 h)) λk a b=>by rw[qN5 b a]
    rw[e0,qA2 a3];rw[hf]at h3;exact ⟨p',I,q',e,h1.trans (mirror_perm _ _ _ _),qJ6 h2,h3,h5⟩
   ·obtain ⟨p',I,q',e,h1,h2,h3,h5⟩:=ih p (m+1) 0 a0 (qD1 _) (aP r hd (qN9 h)) λk a b=>by rw[qN5 b a]
    rw[e0,qA4 a3];rw[hf]at h3;exact ⟨p',I,q',e,h1,qJ6 h2,h3,h5⟩
  ·by_cases h2:ky r p m<ky r p (m+1)
   ·exact ⟨p,m,q,(dM r h).trans (gC r h2),.refl _,qB5 _,qM5 _ _,hd,he⟩
   ·have ee:ky r p (m+1)=ky r p m:=Int.le_antisymm (qW3.mp h2) (qW3.mp h);obtain ⟨p',I,q',e,h1,a4,h3,h5⟩:=ih p (m+1) (q+1) a0 (qM4 hq) (aP r hd (Int.le_of_eq ee)) λk a b=>by
     rcases qN8 b with b|rfl
     ·rw[ee];exact he k (by rw[Nat.add_sub_add_right]at a;exact a) (qJ7 b)
     ·rfl
    rw[hf]at h3;exact ⟨p',I,q',(dM r h).trans ((dM r h2).trans e),h1,qJ6 a4,h3,h5⟩
def qy (nrem:Nat)(p:Array Nat)(R:Nat×Array Nat):Prop:=R.2.Perm p/\R.1<=nrem/\up r R.2 R.1
def jV (hn:m+1<=nrem) (hz:nrem<=p.size) (hd:dn r p (m+1)):qy r nrem p (runK r (kas_tail3 (m+1) nrem p)):=by
 unfold kas_tail3;rw[S6];have hm:=qD7 hn hz;have I:up r (kas_rev p 0 (m+1)) (m+1):=λk hk=>by
  rw[lP r hm,lP r hm,qA2 ⟨qD1 _,qO1 hk⟩,qA2 ⟨qD1 _,hk⟩,qU5,Nat.add_sub_cancel];have e:m-k=m-(k+1)+1:=(Nat.succ_pred_eq_of_pos (Nat.sub_pos_of_lt (Nat.lt_of_succ_lt_succ hk))).symm;rw[e];exact hd _ (by rw[<- e];exact Nat.lt_succ_of_le (Nat.sub_le _ _))
 obtain ⟨R,e,a,b,c,_⟩:=uQ r (kas_rev p 0 (m+1)) (nrem-(m+1)) m I;rw[e];exact ⟨mirror_perm _ _ _ _,by show R+1<=nrem;omega,c⟩
def eB (hn:m+1<=nrem) (hz:nrem<=p.size) (hd:dn r p (m+1)):qy r nrem p (runK r (kas_descPart m nrem p)):=by
 unfold kas_descPart;rw[S6];obtain ⟨p',I,q',e,h1,h2,h3,h5,h6⟩:=Bv r (nrem-(m+1)) p m 0 (by rw[qN0 hn];exact hz) (qD1 _) hd λk a b=>by rw[qN5 b a]
 rw[e]
 show qy r nrem p (runK r (if q'>0 then kas_tail3 (I+1) nrem (kas_rev p' (I+1-(q'+1)) (I+1)) else kas_tail3 (I+1) nrem p'));have hm:I+1<=nrem:=ox;have O:nrem<=p'.size:=by rw[h1.size_eq];exact hz
 by_cases hq:q'>0
 ·rw [qA2 hq]
  have a0:=rev_eq r (p:=p') (i:=I+1-(q'+1)) (j:=I+1) (c:=ky r p' I) (qD7 hm O) λk a b=>h6 k a (qJ7 b);obtain ⟨t1,t2⟩:=jV r (p:=kas_rev p' (I+1-(q'+1)) (I+1)) hm (by rw[kas_rev_size];exact O) λk hk=>by rw[a0,a0];exact h5 k hk
  exact ⟨(t1.trans (mirror_perm _ _ _ _)).trans h1,t2⟩
 ·rw [qA4 hq]
  obtain ⟨t1,t2⟩:=jV r hm O h5;exact ⟨t1.trans h1,t2⟩
def ax (h:up r p n):∀j i,i<=j->j<n->ky r p i<=ky r p j:=by
 intro j
 induction j with
 |zero=>intro i a _;rw[Nat.le_zero.mp a];exact qF3 _
 | succ j I=>
  intro i a b;rcases qN8 a with q|rfl
  ·exact qG1 (I i (qJ7 q) (qO1 b)) (h j b)
  ·exact qF3 _
def uv (h2:2<=nrem) (hz:nrem<=p.size):qy r nrem p (runK r (kas_count nrem p)):=by
 unfold kas_count;rw[S6];obtain ⟨R,e,_,b,c,d⟩:=uQ r p (nrem-1) 0 λk hk=>absurd hk (Nat.not_lt_of_le (qM4 (qD1 k)));have e:runK r (kas_asc p (nrem-1) 1)=R+1:=e;rw[e];by_cases e1:R+1=nrem
 ·rw [qA2 (beq_iff_eq.mpr e1)]
  exact ⟨.refl _,Nat.le_of_eq e1,c⟩
 ·rw [qA4 λq=>e1 (beq_iff_eq.mp q)]
  have hR:R+1+1<=nrem:=ox;have a0:=d ox;by_cases h1:R+1>1
  ·rw [qA2 h1]
   by_cases h:ky r p 0<ky r p R
   ·have q:runK r (KasT.ask (p.getD 0 0) (p.getD (R+1-1) 0) λc=>if c=true then .ret (R+1,p) else kas_descPart (R+1) nrem (kas_rev p 0 (R+1)))=(R+1,p):=gC r h;rw[q];exact ⟨.refl _,qJ6 hR,c⟩
   ·have q:runK r (KasT.ask (p.getD 0 0) (p.getD (R+1-1) 0) λc=>if c=true then .ret (R+1,p) else kas_descPart (R+1) nrem (kas_rev p 0 (R+1)))=runK r (kas_descPart (R+1) nrem (kas_rev p 0 (R+1))):=dM r h;rw[q];have I:∀k,k<R+1->ky r p k=ky r p 0:=λk hk=>
     Int.le_antisymm (qG1 (ax r c R k (qJ7 hk) (qD2 _)) (qW3.mp h)) (ax r c k 0 (qD1 _) hk)
    have O:=rev_eq r (p:=p) (i:=0) (j:=R+1) (c:=ky r p 0) (qD7 (qJ6 hR) hz) λk _ hk=>I k hk;obtain ⟨t1,t2⟩:=eB r (p:=kas_rev p 0 (R+1)) (m:=R+1) hR (by rw[kas_rev_size];exact hz) (aP r (λk hk=>by rw[O,O,I _ hk,I k (qO1 hk)];exact qF3 _) (by rw[O,O];exact qN9 a0));exact ⟨t1.trans (mirror_perm _ _ _ _),t2⟩
  ·rw [qA4 h1]
   have a3:R=0:=ox;exact eB r hR hz (aP r (λk hk=>absurd hk (by rw[a3];exact Nat.not_lt_of_le (qM4 (qD1 k)))) (qN9 a0))
def wo (hu:up r p k):∀(f l h:Nat),h-l<=f->l<=h->h<=k->(∀i,i<l->ky r p i<=ky r p k)->(∀i,h<=i->i<k->ky r p k<ky r p i) ->
  ∃R,runK r (kas_place p k f l h)=R/\R<=k/\(∀i,i<R->ky r p i<=ky r p k)/\∀i,R<=i->i<k->ky r p k<ky r p i:=by
 intro f
 induction f with
 | zero=>
  intro l h hf hl hk a b;have e:h=l:=ox;subst e;exact ⟨h,rfl,hk,a,b⟩
 | succ f ih=>
  intro l h hf hl hk a b;by_cases O:l≥h
  ·have e:h=l:=qN5 O hl;subst e;exact ⟨h,by show runK r (if h≥h then .ret h else _)=h;rw[qA2 (qB5 _)];rfl,hk,a,b⟩
  ·obtain ⟨md,I⟩:∃md,md=(l+h)/2:=⟨_,rfl⟩;have m1:l<=md:=by rw[I];exact (Nat.le_div_iff_mul_le Qz).mpr (by rw[Nat.mul_two];exact Nat.add_le_add_left hl _)
   have m2:md<h:=by rw[I];exact (Nat.div_lt_iff_lt_mul Qz).mpr (by rw[Nat.mul_two];exact Nat.add_lt_add_right (Nat.lt_of_not_le O) _)
   have m3:md-l<=f:=qJ7 (qB6 (Nat.sub_lt_sub_right m1 m2) hf);have m4:h-(md+1)<=f:=qD7 (Nat.sub_le_sub_left (qM4 m1) h) (Nat.pred_le_pred hf);have e0:runK r (kas_place p k (f+1) l h)=runK r (.ask (p.getD k 0) (p.getD md 0) λc=>if c=true then kas_place p k f l md else kas_place p k f (md+1) h):=by
    rw[I]
    show runK r (if l≥h then .ret l else _)=_;rw[qA4 O]
   by_cases c:ky r p k<ky r p md
   ·obtain ⟨R,e,x⟩:=ih l md m3 m1 (qD7 (qN6 m2) hk) a λi x y=>Int.lt_of_lt_of_le c (ax r hu i md x y);exact ⟨R,e0.trans ((gC r c).trans e),x⟩
   ·obtain ⟨R,e,x⟩:=ih (md+1) h m4 m2 hk (λi x=>qG1 (ax r hu md i (qJ7 x) (qB6 m2 hk)) (qW3.mp c)) b;exact ⟨R,e0.trans ((dM r c).trans e),x⟩
def GZ:∀(f:Nat) (p:Array Nat) (k:Nat),k+f<=p.size->up r p k->(runK r (kas_bin f p k)).Perm p/\up r (runK r (kas_bin f p k)) (k+f):=by
 intro f
 induction f with
 |zero=>exact λp k _ hu=>⟨.refl _,hu⟩
 | succ f ih=>
  intro p k hz hu;obtain ⟨l,e,p1,p2,p3⟩:=wo r hu k 0 k (qB5 _) (qD1 _) (qB5 _) (λi x=>absurd x (qE5 _)) λi x y=>absurd y (Nat.not_lt_of_le x);have e0:runK r (kas_bin (f+1) p k)=runK r (kas_bin f (bubble p k (k-l)) (k+1)):=by
   show runK r ((kas_place p k k 0 k).bind _)=_;rw[S6,e]
  have hf:k+(f+1)=k+1+f:=(qH3 k f).symm;rw[hf]at hz;have I:=λi=>EE r (p:=p) (k:=k) (d:=k-l) (qB6 (qD2 k) (qD7 (qM5 _ _) hz)) (Nat.sub_le _ _) i;rw[Nat.sub_sub_self p1]at I;have ih:=ih (bubble p k (k-l)) (k+1) (by rw[bubble_size];exact hz) λi hi=>by
   rw[I,I];have hi:=Nat.lt_of_succ_lt_succ hi;rcases qO2 i l with c|c|c
   ·rw [qA4 (qC8 c),qA4 λz=>Nat.lt_asymm z.1 c]
    by_cases O:i+1=l
    ·rw[qA2 O];exact p2 i c
    ·have c3:i+1<l:=Nat.lt_of_le_of_ne c O;rw[qA4 O,qA4 λz=>Nat.lt_asymm z.1 c3];exact hu i (qB6 c3 p1)
   ·subst c;rw[qA2 rfl,qA4 (Nat.succ_ne_self _),qA2 ⟨qD2 _,hi⟩];exact qN9 (p3 i (qB5 _) hi)
   ·have O:=qE9 c;rw[qA4 (qJ3 c),qA2 ⟨c,qN6 hi⟩,qA4 (qJ3 O),qA2 ⟨O,hi⟩];cases i with
    |zero=>exact absurd c (qE5 _)
    |succ j=>exact hu j hi
  rw[e0,hf];exact ⟨ih.1.trans (bubble_perm _ _ _),ih.2⟩
def de (h2:2<=n):(runK r (kas_sort n)).Perm (List.toArray (List.range n))/\up r (runK r (kas_sort n)) n:=by
 unfold kas_sort;rw[S6];have c:=uv r (p:=List.toArray (List.range n)) (nrem:=n) h2 Qy;generalize runK r (kas_count n (List.toArray (List.range n)))=R at c
 obtain ⟨O,c2,I⟩:=c;by_cases h:R.1<n
 ·rw [qA2 h]
  have hm:max R.1 1<=n:=Nat.max_le.mpr ⟨c2,qJ6 h2⟩;have b:=GZ r (n-max R.1 1) R.2 (max R.1 1) (by rw[qN0 hm,O.size_eq];simp) λk hk=>I k ox;rw[qN0 hm]at b;exact ⟨b.1.trans O,b.2⟩
 ·rw [qA4 h]
  rw[qN5 c2 (qW4.mp h)]at I;exact ⟨O,I⟩
end
end TP
namespace TP
open PySem L2
def iQ (hh:A.handled=none) (u:Sub) (I:u.l≠u.i) (its:Array Value):
  Draws prog w A u.i [u.i,u.l] its.size (λi v=>its[i]?=some v) (λi h=>u.At h i/\u.Src h its) where
 live:=λ_ _ st=>by obtain ⟨o,e,_⟩:=st.1.obj;exact ⟨o,e⟩
 frame:=λ_ _ _ st hk=>⟨st.1.keep λo e=>hk u.i Qy o e,st.2.keep λo e=>hk u.l Qy o e⟩
 item:=λi s Q E hi st hQ=>Sub.item st.1 st.2 (x:=its[i]) (by simp [hi]) λh' a O=>hQ _ h' s.toks (by simp [hi]) ⟨a,st.2.keep λo e=>O.extBut _ _ I e⟩ O
 done:=λs Q E st hE=>Sub.ends hh st.1 st.2 Qy hE
def nr (l:Addr) (its:Array Value) (m:Nat) (a0:Option Addr) (sl:Array (Option Value)) :
  Meets (Builtin.«enumerate.__new__» ⟨[.type "enumerate",.ref l],[]⟩) (λ_ R s=>s.heap.get? l=some { cls:=.type "tuple",dict:=a0,data:=.seq its m,slots:=sl } /\
   R (.ok (.ret (.ref (s.heap.push { cls:=.type "tuple_iterator",data:=.fields #[.ref l,.int 0 0] }).objs.size)))
    { s with heap:=(s.heap.push { cls:=.type "tuple_iterator",data:=.fields #[.ref l,.int 0 0] }).push { cls:=.type "enumerate",data:=.fields #[.none,.bool false,.ref s.heap.objs.size,rawInt 0,.none,.none] } }):=
 .of_wp λprog w A R s I=>by
  obtain ⟨hp,g,d,tk,os⟩:=s;obtain ⟨O,I⟩:=I;have a3:=sub_enumerate;have hT:Heap.IsTuple (Shared.heap ⟨hp,g,d,tk,os⟩) l its:=⟨_,O,rfl,m,rfl⟩
  wp_walk using qH4 O
  refine wpAny_stack_any λstk=>qO6 ?_
  split
  ·rename_i cc _ _ _ _ _
   cases (cc == Value.type "enumerate") <;>
   ·wp_walk using qH4 O,qS0 hT
    exact ⟨_,rfl,I⟩
  ·wp_walk using qH4 O,qS0 hT
   exact ⟨_,rfl,I⟩
def qD (hL:s.heap.IsTuple l its) (a4:∀h',IsEnum h' (s.heap.objs.size+1) s.heap.objs.size 0 .none->h'.IsTupleIter s.heap.objs.size l 0->(∀b o,s.heap.get? b=some o->h'.get? b=some o)->Q (.ref (s.heap.objs.size+1)) { s with heap:=h' }):
  wpAny (model prog w) A (call (.type "enumerate") [.ref l]) Q E s:=by
 obtain ⟨⟨c,a0,dt,sl⟩,hl,hc,m,hd⟩:=hL;have a3:c=.type "tuple" := hc;have O:dt=.seq its m:=hd;subst a3 O;refine callType_new F.called_enumerate Qz (F.typeCall_enumerate_1 _) (F.newCall_enumerate_1 _) (λobj=>F.args_object_init_2 obj _) F.entry_enumerate_new (nr l its m a0 sl) ⟨hl,?_⟩;generalize I:s.heap.push { cls:=.type "tuple_iterator",data:=.fields #[.ref l,.int 0 0] }=P
 have hz:P.objs.size=s.heap.objs.size+1:=by rw[<- I];exact qI4 ..
 have hi:P.get? s.heap.objs.size=some { cls:=.type "tuple_iterator",data:=.fields #[.ref l,.int 0 0] }:=by rw[<- I];exact qC2 _ rfl
 have hk:∀b o,s.heap.get? b=some o->P.get? b=some o:=λb o e=>by rw[<- I];exact qA5 _ e
 show _/\_;have en:IsEnum (P.push { cls:=.type "enumerate",data:=.fields #[.none,.bool false,.ref s.heap.objs.size,rawInt 0,.none,.none] }) (s.heap.objs.size+1) s.heap.objs.size 0 .none:=by rw[<- hz];exact qC2 _ rfl
 rw[hz];exact ⟨⟨_,en,rfl⟩,a4 _ en ⟨_,qA5 _ hi,rfl,rfl⟩ λb o e=>qA5 _ (hk b o e)⟩
def uF (O:SrcAt s.heap (t,l,its)) (I:∀h',IsEnum h' (s.heap.objs.size+1) s.heap.objs.size 0 .none->(L2.Sub.mk t s.heap.objs.size l).At h' 0->(∀b o,s.heap.get? b=some o->h'.get? b=some o)->Q (.ref (s.heap.objs.size+1)) { s with heap:=h' }):
  wpAny (model prog w) A (call (.type "enumerate") [.ref l]) Q E s:=by
 unfold SrcAt at O;cases t with
 |true=>exact qD O λh' a b c=>I h' a (by unfold Sub.At;exact b) c
 |false=>exact call_enumerate_list O λh' a b _ c=>I h' a (by unfold Sub.At;exact b) c
def ItE (K:Frag) (t:Bool) (a:Addr):It:=
  ⟨fun i H=>∃xs x,Sq K H t a xs/\xs[i]?=some x,
   λi H x H'=>∃p y,x=.ref p/\H p=none/\H'=upd H p (.tup [.int (i:Int),y])/\∀xs,Sq K H t a xs->xs[i]?=some y,
   λi H=>∃xs,Sq K H t a xs/\xs.length=i⟩
abbrev eTn (e:Addr)(u:Sub)(i:Nat)(h:Heap):Prop:=(∃I,IsEnum h e u.i (i:Int) I)/\u.At h i
def rp (a6:e≠u.i):
  Turn P w K (.Tuple elts k tp) (ItE K u.t u.l) [e,u.i] e (eTn e u) where
 mem:=Qy
 obj:=λi h st b O=>by
  obtain ⟨⟨a5,he⟩,ha⟩:=st;simp only [qB3,qE1,qR0]at O;rcases O with rfl|rfl
  ·exact ⟨_,he,λv q=>by cases q⟩
  ·obtain ⟨o,q,d⟩:=ha.obj;exact ⟨o,q,λv z=>by rw[d]at z;cases z⟩
 keep:=λi h h' st kp=>⟨st.1.imp λa5 he=>kp e Qy _ he,st.2.keep λo q=>kp u.i Qy o q⟩
 item:=by
  intro X hP hw hK hc i pins s σ H E I hf st hg;subst hP hw hK;obtain ⟨⟨a5,he⟩,ha⟩:=st;obtain ⟨xs,x,hq,hx⟩:=hg;obtain ⟨its,rv,a3⟩:=Sq.src I hq;obtain ⟨v,hv,rx⟩:=rv.get hx;have fe:=hf e Qy;have fi:=hf u.i Qy;have a7:u.l≠u.i:=Sq.ne I hq fi;have b4:u.l≠e:=Sq.ne I hq fe;have hi:i<its.toArray.size:=by have:=(qB0.mp hv).1;simpa using this
  refine wpAny_pyNext_enum_itemD (iQ (prog:=X.prog) (w:=X.w) (show X.A.in1.handled=none from I.ok.hd hc) u a7 its.toArray) he ⟨ha,a3⟩ hi a6 (by simp only [qB3,qE1,qR0,not_or];exact ⟨a6,Ne.symm b4⟩) λy h1 tk hy z1 s1 p1 z2 k1=>?_;have ey:y=v:=by
   have e1:its[i]?=some y:=by simpa using hy
   rw[hv]at e1;cases e1;rfl
  subst ey;refine ⟨_,rfl,wpAny_letOwnedTupleGo_enum z1 λh2 e2 sb2=>?_⟩;have a8:e<s.heap.objs.size:=qB4 he;have b3:u.i<s.heap.objs.size:=by obtain ⟨o,q,_⟩:=ha.obj;exact qB4 q
  have kp:∀b o,b≠e->b≠u.i->s.heap.get? b=some o->h2.get? b=some o:=λb o b1 b2 q=>sb2.extBut _ _ b1 (k1 b o b1 b2 q);have a0:H s.heap.objs.size=none:=I.hok.fresh (qB5 _);have trk:∀b c,H b=some c->b≠e/\b≠u.i:=λb c q=>⟨λz=>(by subst z;rw[fe.1]at q;cases q),λz=>(by subst z;rw[fi.1]at q;cases q)⟩;have b0:h2.get? s.heap.objs.size=some { cls:=.type "tuple",data:=.seq #[.int i tk,y] }:=sb2.extBut _ _ (qJ3 a8) p1;have ab:Vals [.int (i:Int),x] [.int i tk,y]:=.cons ⟨tk,rfl⟩ (.cons rx .nil);refine ⟨.ref s.heap.objs.size,upd H s.heap.objs.size (.tup [.int (i:Int),x]),?_,rfl,⟨_,_,rfl,a0,rfl,?_⟩,⟨⟨y,?_⟩,?_⟩,λb O=>?_⟩
  ·show Inv X pins σ _ { s with heap:=h2,toks:=tk+1 };refine I.step (g':=s.gens) (t':=tk+1) (d':=s.drawn) (ch:=[e,u.i]) (λb O=>?_) (λb o _ _ hc q _=>kp b o ?_ ?_ q) (λb o _ _ hc q _=>⟨o.slots,kp b o ?_ ?_ q⟩) (λb o hc q n=>?_) (λb o hc q=>⟨o,kp b o ?_ ?_ q⟩) (λb ys q=>?_) (λb o c q=>?_) (λb ps q=>?_) (λm hm=>?_) ?_ I.bare
   ·simp only [qB3,qE1,qR0]at O;rcases O with rfl|rfl
    ·exact ⟨fe.2.2.2.1,fe.2.1,fe.2.2.2.2.1,fe.2.2.2.2.2⟩
    ·exact ⟨fi.2.2.2.1,fi.2.1,fi.2.2.2.2.1,fi.2.2.2.2.2⟩
   all_goals first
    | (intro z;exact hc (by simp [z];done))
    |skip
   ·rw[c8 (qC8 (qB4 q))];exact n
   ·rw[c8 (f7 q a0)];exact q
   ·rw[c8 (f7 q a0)];exact q
   ·rw[c8 (f7 q a0)];exact q
   ·obtain ⟨o,es,ep,ho,r⟩:=hm;exact ⟨o,es,ep,kp _ o (Ne.symm fe.2.1) (Ne.symm fi.2.1) ho,r⟩
   ·intro b c q;by_cases O:b=s.heap.objs.size
    ·subst O;rw[i9]at q;cases q;exact ⟨(show 2<=sizeLine by decide),_,ab,⟨_,b0,rfl,_,rfl⟩⟩
    ·rw [c8 O]at q
     refine (I.hok b c q).stay (λd v a4 z=>?_) (λd z=>by rw[c8 (f7 z a0)];exact z) λd ys z=>by rw[c8 (f7 z a0)];exact z
     rcases a4 with rfl|a4
     ·exact kp _ v (trk _ _ q).1 (trk _ _ q).2 z
     ·exact kp _ v (trk _ _ a4).1 (trk _ _ a4).2 z
  ·intro ys a9;rw[Sq.inj I a9 hq];exact hx
  ·have:((i+1:Nat):Int)=(i:Int)+1:=ox
   rw[this];exact e2
  ·exact s1.1.keep λo q=>sb2.extBut _ _ (Ne.symm a6) q
  ·have:b≠s.heap.objs.size:=by
    simp only [qB3,qE1,qR0]at O;rcases O with rfl|rfl
    ·exact qC8 a8
    ·exact qC8 b3
   rw[c8 this];exact (hf b O).1
 done:=by
  intro X hP hw hK hc i pins s σ H E I hf st hg;subst hP hw hK;obtain ⟨⟨a5,he⟩,ha⟩:=st;obtain ⟨xs,hq,hn⟩:=hg;obtain ⟨its,rv,a3⟩:=Sq.src I hq;have fe:=hf e Qy;have fi:=hf u.i Qy;have a7:u.l≠u.i:=Sq.ne I hq fi;have hsz:its.toArray.size=i:=by have:=rv.length;simp;omega
  subst hsz;refine wpAny_pyNext_enum_endD (iQ (prog:=X.prog) (w:=X.w) (show X.A.in1.handled=none from I.ok.hd hc) u a7 its.toArray) he ⟨ha,a3⟩ λh' eb=>⟨rfl,?_⟩;obtain ⟨f0,f1,f2,f3,f4,f5⟩:=fi;exact I.turned (t':=s.toks) (λb o O q=>eb b o O q) f0 f1 f3 f4 f5
 self:=λA i s Q E st h=>by
  obtain ⟨⟨a5,he⟩,_⟩:=st;exact wpAny_pyIter_enum he h
def yy (K:Frag)(ta:TA):TI:=λσ H R=>ta σ H λvs H1=>∃t a xs,vs = [.ref a]/\Sq K H1 t a xs/\R (ItE K t a) H1
def mK:bootBuiltins "enumerate" = some (.type "enumerate"):=by decide +kernel
def nY (hg:Gl X "enumerate") (hm:X.mg "enumerate" = none) (ha:PA X [a] ta) (hs:starEach [a] X.env = [(false,eval a X.env)]:=by rfl):PI X (.Tuple elts k tp) (.Call (.Name "enumerate" p) [a] [] pos) (yy X.K ta):=by
 intro pins s σ H R I h;refine qP6 (L9 I hg hm mK ?_ Qz Qz);refine qH8 (thn (ha pos pins s σ H _ I h) λus s1 a0=>?_) hs Qo;obtain ⟨vs,H1,I1,r1,t,b,xs,e1,hq,q⟩:=a0;subst e1;obtain ⟨u,rfl,ru⟩:=G9 r1;cases ru;obtain ⟨its,rv,O⟩:=Sq.src I1 hq;refine uF (t:=t) (its:=its.toArray) (by unfold SrcAt;unfold Sub.Src at O;exact O) λh' he hA hk=>wpAny_pyIter_enum he ?_;have I2:Inv X pins σ H1 { s1 with heap:=h' }:=I1.kept (t':=s1.toks) hk;have TE:=rp (P:=X.prog) (w:=X.w) (K:=X.K) (elts:=elts) (k:=k) (tp:=tp) (e:=s1.heap.objs.size+1) (u:=⟨t,s1.heap.objs.size,b⟩) (neN (by show s1.heap.objs.size+1≠s1.heap.objs.size;omega));refine ⟨_,_,_,_,H1,rfl,I2,TE,⟨⟨_,he⟩,hA⟩,λc hc=>?_,q⟩;have a3:s1.heap.objs.size<=c:=by
  simp only [qB3,qE1,qR0]at hc;rcases hc with rfl|rfl
  ·omega
  ·exact qB5 _
 exact I1.fpOk (H':=H1) a3 (I1.hok.fresh a3)
def P3:List W->R (List W)
 | [w]=>match D5 w with
  | .ok xs=>.ok (xs.mapIdx λi x=>W.tup [.int (i:Int),x])
  |_=>.stuck
 |_=>.stuck
def tQ (he:e=.V\/e=.U) (s1:Sq K Z t a xs) (r1:Reps K (fz e H0 G) xs us):cZ K e H0 Z G (ItE K t a) (us.mapIdx λi x=>W.tup [.int (i:Int),x]):=by
 have l1:=r1.length;have O:∀H,Same Z H->Sq K H t a xs:=λH z=>Sq.same z s1;refine ⟨λi H hi z=>?_,λH z=>⟨xs,O H z,by rw[qO0,l1]⟩,λi H x H' w hw z y G2 ρ σ I sg=>?_⟩
 ·rw [qO0]at hi
  exact ⟨xs,xs[i]'ox,O H z,Qy⟩
 ·obtain ⟨p,y1,rfl,hp,rfl,hy⟩:=y;obtain ⟨w1,e1,q1⟩:=Reps.get' r1 (hy xs (O H z));have a0:w=.tup [.int (i:Int),w1]:=by
   rw[qU6,e1]at hw;cases hw;rfl
  subst a0;obtain ⟨x1,x2⟩:=hX (Hs:=H) he I hp (.cons .int (.cons (q1.same (N7 sg)) .nil));exact ⟨_,x1,x2⟩
def uI (he:e=.V\/e=.U) (h:tIt K EX lp e (λρ=>ma ρ>>=P3) σ H Rr):yy K (tA K EX (gM lp e) ma) σ H Rr:=by
 refine eO h (λH0 G ρ G1 H1 xs ws us I e1 O q o=>?_) (λws e z=>?_)
 ·have I1:=I.ext e1;unfold P3 at q
  split at q
  ·rename_i w
   cases hw:D5 w with
   |stuck=>rw[hw]at q;cases q
   |ex _=>rw[hw]at q;cases q
   | ok ls=>
    rw[hw]at q;cases q;cases O with
    | cons a1 O=>
     cases O;obtain ⟨t1,p1,v1,rfl,q1,r1⟩:=Md.src he I1 a1 hw;exact ⟨t1,p1,v1,rfl,F3 (lN I1) q1,o _ G1 H1 e1 (tQ he q1 r1)⟩
  ·cases q
 ·unfold P3 at z
  split at z
  ·split at z <;> cases z
  ·cases z
def sw {X:Cx}{K:Frag}{EX:EXT}{a:Expr}{pos:Pos}{I:Rho->R (List W)}{elts:List Expr}{p tp:Pos}{k:Nat}(hg:Gl X "enumerate") (hm:X.mg "enumerate" = none) (ha:PA X [a] (tA K EX .B I)) (O:X.K=K:=by rfl) (hs:starEach [a] X.env = [(false,eval a X.env)]:=by rfl):PI X (.Tuple elts k tp) (.Call (.Name "enumerate" p) [a] [] pos) (tIt K EX false .U (bI P3 I)):=by
 subst O;exact (nY hg hm ha hs).mono λ_ _ _ q=>uI (lp:=false) (.inr rfl) q
def kK {X:Cx}{K:Frag}{EX:EXT}{a:Expr}{pos:Pos}{I:Rho->R (List W)}{elts:List Expr}{p tp:Pos}{k:Nat}(hg:Gl X "enumerate") (hm:X.mg "enumerate" = none) (ha:PA X [a] (tA K EX .U I)) (O:X.K=K:=by rfl) (hs:starEach [a] X.env = [(false,eval a X.env)]:=by rfl):PI X (.Tuple elts k tp) (.Call (.Name "enumerate" p) [a] [] pos) (tIt K EX true .U (bI P3 I)):=by
 subst O;exact (nY hg hm ha hs).mono λ_ _ _ q=>uI (lp:=true) (.inr rfl) q
def inW (u:W):W->Option Bool
 | .tup ws=>some ((pds ws).any λy=>PyData.eqv y (pd u))
 | .lst ws=>some ((pds ws).any λy=>PyData.eqv y (pd u))
 | .scr ws=>some ((pds ws).any λy=>PyData.eqv y (pd u))
 |_=>none
def rIn (K:Frag)(neg:Bool):R2:=λx y H Q=>∃u v b,Rep K H x u/\Rep K H y v/\shp 8 u=true/\shp 8 v=true/\inW u v=some b/\Q (.bl (if neg then !b else b)) H
def HY (hu:X.A.units+64<cLine):OpR X (compareOp .In) (rIn X.K false):=by
 intro pins s σ H x y v u Q I rx ry h;obtain ⟨a,c,b,ra,rc,sa,sc,e,q⟩:=h;obtain ⟨as,O⟩:=Rep.reads I 8 ra sa rx;obtain ⟨bs,qb⟩:=Rep.reads I 8 rc sc ry;have la:=fJ a 8 sa;cases c <;> first | (cases e;done)|skip
 all_goals
  rename_i ws
  have lc:=nK ws 7 sc;have hm:X.A.units+1+min (PyData.depthAll (pds ws)) (pd a).depth<cLine:=by have:=qN4 (PyData.depthAll (pds ws)) (pd a).depth;omega
  cases e
 ·exact SeqAt.in_tuple_reads qb O lc.1 la.1 hm ⟨.bl _,H,I,rfl,q⟩
 ·exact SeqAt.in_list_reads qb O lc.1 la.1 hm ⟨.bl _,H,I,rfl,q⟩
 ·exact SeqAt.in_list_reads qb O lc.1 la.1 hm ⟨.bl _,H,I,rfl,q⟩
def fIn (neg:Bool) (u v:W):R W:=if shp 8 u&&shp 8 v then (match inW u v with
 |some b=>.ok (.bl (if neg then !b else b))
 |none=>.stuck) else .stuck
def Id:Op2 K .B d (rIn K neg) (fIn neg):=by
 intro EX H0 Hs G H ρ σ Ha Hb x y u v Q I s mx my o;unfold fIn at o;by_cases c:(shp 8 u&&shp 8 v)=true
 ·rw [qA2 c]at o
  have c':shp 8 u=true/\shp 8 v=true:=by simpa using c
  cases O:inW u v with
  |none=>rw[O]at o;exact o.elim
  | some b=>
   rw[O]at o;exact ⟨u,v,b,mx.whole I,my.whole I,c'.1,c'.2,O,o _ G H (Ext.refl I.gh) (Md.sca rfl (λ_=>.bl) d)⟩
 ·rw[qA4 c]at o;exact o.elim
def lexLt:List Int->List Int->Bool
 | [],[]=>false
 | [],_::_=>true
 |_::_,[]=>false
 |a::as,b::bs=>if a=b then lexLt as bs else decide (a<b)
def aJ:∀a,lexLt a a=false
 | []=>rfl
 |x::a=>by unfold lexLt;rw[qA2 rfl];exact aJ a
def cH:∀a b c,lexLt a b=true->lexLt b c=true->lexLt a c=true
 | [],[],_,h,_=>by cases h
 | [],_::_,[],_,h=>by cases h
 | [],_::_,_::_,_,_=>rfl
 |_::_,[],_,h,_=>by cases h
 |_::_,_::_,[],_,h=>by cases h
 | x::a,y::b,z::c,O,I=>by
  unfold lexLt at O I ⊢;by_cases e1:x=y
  ·subst e1;rw[qA2 rfl]at O;by_cases e2:x=z
   ·subst e2;rw[qA2 rfl]at I ⊢;exact cH a b c O I
   ·rw[qA4 e2]at I ⊢;exact I
  ·rw [qA4 e1]at O
   have O:=qO9 O;by_cases e2:y=z
   ·subst e2;rw[qA4 e1];exact qO8 O
   ·rw [qA4 e2]at I
    have I:=qO9 I;rw[qA4 ox];exact qO8 ox
def du:∀a b,lexLt a b=false->lexLt b a=false->a=b
 | [],[],_,_=>rfl
 | [],_::_,h,_=>by cases h
 |_::_,[],_,h=>by cases h
 | x::a,y::b,O,I=>by
  unfold lexLt at O I;by_cases e:x=y
  ·subst e;rw[qA2 rfl]at O I;rw[du a b O I]
  ·rw [qA4 e]at O
   rw[qA4 (λz=>e z.symm)]at I;have O:=qQ2 O;have I:=qQ2 I;omega
def K2 (ss:List (List Int))(i:Nat):Int:=((ss.countP λx=>lexLt x (ss.getD i [])):Nat)
def uC {α:Type}{p q:α->Bool}:∀{l:List α},(∀x∈l,p x=true->q x=true)->(∃x∈l,q x=true/\p x=false)->l.countP p<l.countP q:=by
 intro l
 induction l with
 |nil=>intro _ h;obtain ⟨_,h,_⟩:=h;exact absurd h qE1
 | cons x l ih=>
  intro h h0;obtain ⟨y,I,O,hp⟩:=h0;have h':∀z∈l,p z=true->q z=true:=λz hz=>h z (qA8 _ hz);have le:l.countP p<=l.countP q:=qT8 h';rw[List.countP_cons,List.countP_cons];rcases qB3.mp I with e|I
  ·subst e;rw[qA2 O,hp,qA4 qA9];omega
  ·have:=ih h' ⟨y,I,O,hp⟩
   by_cases c:p x=true
   ·rw[qA2 c,qA2 (h x qB2 c)];omega
   ·rw[qA4 c];split <;> omega
def getD_mem {ss:List (List Int)}(h:i<ss.length):ss.getD i []∈ss:=by
 rw[qA0];simp [h]
def nS (hi:i<ss.length) (hj:j<ss.length):decide (K2 ss i<K2 ss j)=lexLt (ss.getD i []) (ss.getD j []):=by
 cases h:lexLt (ss.getD i []) (ss.getD j []) with
 | true=>
  apply qO8;unfold K2
  have:=uC (l:=ss) (p:=λx=>lexLt x (ss.getD i [])) (q:=λx=>lexLt x (ss.getD j [])) (λx _ I=>cH _ _ _ I h) ⟨_,getD_mem hi,h,aJ _⟩
  omega
 | false=>
  apply qO7;unfold K2
  have:ss.countP (λx=>lexLt x (ss.getD j []))<=ss.countP λx=>lexLt x (ss.getD i []):=by
   apply qT8;intro x _ I;cases O:lexLt (ss.getD j []) (ss.getD i []) with
   |true=>exact cH _ _ _ I O
   |false=>rw[du _ _ h O];exact I
  omega
def cj (ss:List (List Int)):List Nat:=if ss.length<2 then List.range ss.length else (runK (K2 ss) (PySem.W.kas_sort ss.length)).toList
def K1 (ss:List (List Int)):List (List Int):=(cj ss).map λi=>ss.getD i []
def ba (ss:List (List Int)):(cj ss).Perm (List.range ss.length):=by
 unfold cj
 split
 ·exact .refl _
 ·rename_i h
  have:=(de (K2 ss) (n:=ss.length) ox).1
  exact (qK9.mp this).trans Qy
def sh (ss:List (List Int)):(List.range ss.length).map (λi=>ss.getD i [])=ss:=by
 apply qG0
 ·simp
 ·intro i O I;simp [I]
def rB (ss:List (List Int)):(K1 ss).Perm ss:=by
 have:=(ba ss).map λi=>ss.getD i []
 rw[sh]at this;exact this
def zg (ss:List (List Int)):(K1 ss).Pairwise λa b=>lexLt b a=false:=by
 unfold K1;rw[qI7];unfold cj
 split
 ·rename_i h
  have:ss.length=0\/ss.length=1:=ox
  rcases this with e|e <;> rw[e] <;> simp
 ·rename_i h
  have k:=de (K2 ss) (n:=ss.length) ox;have O:=qK9.mp k.1;have hl:(runK (K2 ss) (PySem.W.kas_sort ss.length)).toList.length=ss.length:=by have:=O.length_eq;simpa using this
  have hm:∀x∈(runK (K2 ss) (PySem.W.kas_sort ss.length)).toList,x<ss.length:=λx hx=>by have:=O.mem_iff.mp hx;simpa using this
  have hu:=ax (K2 ss) k.2;generalize runK (K2 ss) (PySem.W.kas_sort ss.length)=p at hl hm hu
  rw[qG8];intro i j hi I a0
  have:=hu j i ox ox
  unfold ky at this;have ei:p.getD i 0=p.toList[i]:=by rw[qF6];simp at hi ⊢;simp [hi]
  have ej:p.getD j 0=p.toList[j]:=by rw[qF6];simp at I ⊢;simp [I]
  rw[ei,ej]at this;rw[<- nS (hm _ (qF0 I)) (hm _ (qF0 hi))];exact qO7 ox
def R1 {α:Type}(n:Nat) (P:α->Prop):PySem.W.KasT α->Prop
 | .ret a=>P a
 | .ask i j k=>i<n/\j<n/\∀b,R1 n P (k b)
def R0 {P':β->Prop}:∀{t:PySem.W.KasT α},R1 n P t->(∀a,P a->R1 n P' (f a))->R1 n P' (t.bind f)
 | .ret a,h,hf=>hf a h
 | .ask i j k,h,hf=>⟨h.1,h.2.1,λb=>R0 (h.2.2 b) hf⟩
def allLt (n:Nat)(p:Array Nat):Prop:=∀x∈p,x<n
def allLt.perm (h:allLt n p)(I:q.Perm p):allLt n q:=λx O=>h x (I.mem_iff.mp O)
def allLt.at (h:allLt n p) (h0:0<n) (k:Nat):p.getD k 0<n:=by
 rw[qF6];cases e:p[k]? with
 |none=>exact h0
 |some x=>exact h x (Array.mem_of_getElem? e)
section
open PySem.W PyProof.Rows
variable {n:Nat}(h0:0<n)
include h0
def iM (h:allLt n p):∀f k,R1 n (λ_=>True) (kas_asc p f k)
 |0,_=>trivial
 |f+1,k=>⟨h.at h0 _,h.at h0 _,λb=>by cases b <;> first|exact iM h f (k+1)|trivial⟩
def bE:∀(f:Nat) (p:Array Nat) (k q:Nat),allLt n p->R1 n (λr:Array Nat×Nat×Nat=>allLt n r.1) (kas_desc f p k q)
 |0,p,k,q,h=>h
 | f+1,p,k,q,h=>by
  refine ⟨h.at h0 _,h.at h0 _,λb=>?_⟩;cases b with
  | true=>
   dsimp only;rw[qA2 rfl]
   split
   ·exact bE f _ _ _ (h.perm (mirror_perm _ _ _ _))
   ·exact bE f _ _ _ h
  | false=>
   dsimp only;rw[qA4 qA9];refine ⟨h.at h0 _,h.at h0 _,λb=>?_⟩;cases b with
   |true=>dsimp only;rw[qA2 rfl];exact h
   |false=>dsimp only;rw[qA4 qA9];exact bE f _ _ _ h
def ju (h:allLt n p):R1 n (λr:Nat×Array Nat=>allLt n r.2) (kas_tail3 k m p):=
 R0 (iM h0 (h.perm (mirror_perm _ _ _ _)) _ _) λ_ _=>h.perm (mirror_perm _ _ _ _)
def cX (h:allLt n p):R1 n (λr:Nat×Array Nat=>allLt n r.2) (kas_descPart k m p):=by
 refine R0 (bE h0 _ _ _ _ h) λr I=>?_
 split
 ·exact ju h0 (I.perm (mirror_perm _ _ _ _))
 ·exact ju h0 I
def uP (h:allLt n p):R1 n (λr:Nat×Array Nat=>allLt n r.2) (kas_count m p):=by
 refine R0 (iM h0 h _ _) λr I=>?_
 split
 ·exact h
 ·split
  ·refine ⟨h.at h0 _,h.at h0 _,λb=>?_⟩;cases b with
   |true=>dsimp only;rw[qA2 rfl];exact h
   |false=>dsimp only;rw[qA4 qA9];exact cX h0 (h.perm (mirror_perm _ _ _ _))
  ·exact cX h0 h
def cW (h:allLt n p):∀f l m,R1 n (λ_=>True) (kas_place p k f l m)
 |0,_,_=>trivial
 | f+1,l,m=>by
  unfold kas_place
  split
  ·trivial
  ·refine ⟨h.at h0 _,h.at h0 _,λb=>?_⟩;cases b with
   |true=>dsimp only;rw[qA2 rfl];exact cW h f _ _
   |false=>dsimp only;rw[qA4 qA9];exact cW h f _ _
def oU:∀(f:Nat) (p:Array Nat) (k:Nat),allLt n p->R1 n (λ_=>True) (kas_bin f p k)
 |0,_,_,_=>trivial
 |f+1,p,k,h=>R0 (cW h0 h _ _ _) λl _=>oU f _ _ (h.perm (bubble_perm _ _ _))
def mO:R1 n (λ_=>True) (kas_sort n):=by
 refine R0 (uP h0 λx O=>by simpa using O) λr I=>?_
 split
 ·exact oU h0 _ _ _ I
 ·trivial
end
def wp_run (hc:∀i j C,i<n->j<n->C (decide (r i<r j)) s->cmp i j C s):
  ∀{t:PySem.W.KasT α},R1 n P t->Q (runK r t) s->t.kasWp cmp Q s
 | .ret _,_,h=>h
 | .ask i j k,a,h=>hc i j _ a.1 a.2.1 (wp_run hc (a.2.2 _) h)
def ai (fin:Bool):List (Int×Int)->Bool
 | []=>fin
 | (a,b)::r=>if a=b then ai fin r else decide (a<b)
def iA:∀xs ys:List Int,ai (decide (xs.length<ys.length)) (xs.zip ys)=lexLt xs ys
 | [],[]=>rfl
 | [],_::_=>by simp [ai,lexLt]
 |_::_,[]=>by simp [ai,lexLt]
 | x::xs,y::ys=>by
  have:=iA xs ys
  simp only [qK2,ai,lexLt,qC5,Nat.add_lt_add_iff_right];rw[this]
section
open PySem.W PyProof.Rows
def tH:∀(xs ys:List Int) (us vs:List Value) (i:Nat),Vals (xs.map V.int) us->Vals (ys.map V.int) vs->Q (ai fin (xs.zip ys)) s->KatLex prog w A true fin Q (us.zip vs) i s
 | [],_,_,_,_,.nil,_,h=>h
 |_::_,[],_,_,_,.cons _ _,.nil,h=>h
 | x::xs,y::ys,_,_,i,.cons r1 t1,.cons r2 t2,h=>by
  obtain ⟨t,rfl⟩:=r1;obtain ⟨u,rfl⟩:=r2;refine kat_cons (wpAny_eqBool_int ?_);simp only [qK2,ai]at h;by_cases e:x=y
  ·rw [qA2 e]at h
   rw[show (x == y)=true by simpa using e];exact kat_yes (tH xs ys _ _ (i+1) t1 t2 h)
  ·rw [qA4 e]at h
   rw[show (x == y)=false by simpa using e];refine kat_no ?_;cases i with
   |zero=>exact oneLt_int h
   |succ i=>exact kat_one _ _ (lt_int h)
def L3 (h:Heap)(v:Value)(xs:List Int):Prop:=∃(a:Addr)(o:Obj)(its:List Value)(m:Nat),v=.ref a/\h.get? a=some o/\o.cls=.type "tuple" /\ o.data=.seq its.toArray m/\Vals (xs.map V.int) its
def AE (hv:L3 s.heap v xs) (hu:L3 s.heap u ys) (h:Q (lexLt xs ys) s):wpAny (model prog w) A (keyLt' (tuples' true) v u) Q E s:=by
 obtain ⟨a,o,its,m,rfl,ho,_,hd,rv⟩:=hv;obtain ⟨b,o2,a3,m2,rfl,a0,_,O,I⟩:=hu;refine kat_lt ho hd a0 O ?_;have l1:=rv.length;have l2:=I.length;rw[qA6]at l1 l2;refine tH xs ys _ _ 0 rv I ?_;simp only [qB8,<- l1,<- l2];rw[iA];exact h
def vk (hv:L3 h v xs) (O:xs ≠ []):∃(a:Addr) (o:Obj) (its:Array Value) (m:Nat) (i:Int) (I:Tok),v=.ref a/\h.get? a=some o/\o.cls=.type "tuple" /\ o.data=.seq its m/\its[0]?=some (.int i I):=by
 obtain ⟨a,o,its,m,e,ho,hc,hd,rv⟩:=hv;cases xs with
 |nil=>exact absurd rfl O
 | cons x xs=>
  cases its with
  |nil=>cases rv
  | cons u its=>
   cases rv with
   | cons r1 _=>
    obtain ⟨I,rfl⟩:=r1;exact ⟨a,o,_,m,x,I,e,ho,hc,hd,rfl⟩
def jR:∀{vs:List Value}{ss:List (List Int)},Paired (λv xs=>L3 h v xs/\xs ≠ []) vs ss->∃fs:List Value,KatTups h vs fs/\fs.length=ss.length/\∀f∈fs,∃i t,f=.int i t
 |_,_,.nil=>⟨[],trivial,rfl,λ_ h=>nomatch h⟩
 | _,_,.cons hv t=>by
  obtain ⟨fs,k,hl,hi⟩:=jR t;obtain ⟨a,o,its,m,i,O,e,ho,hc,hd,h0⟩:=vk hv.1 hv.2;subst e;refine ⟨.int i O::fs,KatTups.cons ho hc hd h0 k,by rw[qC5,qC5,hl],λf I=>?_⟩;rcases qB3.mp I with q|I
  ·exact ⟨i,O,q⟩
  ·exact hi f I
end
def E7:∀{I:List α}{bs:List β}{i:Nat},Paired F I bs->i<I.length->∃b,bs[i]?=some b/\F (I.getD i d) b
 |_,_,_,.nil,h=>absurd h (qE5 _)
 |_,_,0,.cons r _,_=>⟨_,rfl,r⟩
 | _,_,i+1,.cons _ t,h=>by
  obtain ⟨b,e,q⟩:=E7 (d:=d) (i:=i) t (by simpa using h);exact ⟨b,by simpa using e,by simpa using q⟩
def dQ {R:β->γ->Prop}:∀{I:List α}{bs:List β}{cs:List γ},Paired F I bs->Paired G I cs->(∀a b c,F a b->G a c->R b c)->Paired R bs cs
 |_,_,_,.nil,.nil,_=>.nil
 |_,_,_,.cons a r,.cons b t,h=>.cons (h _ _ _ a b) (dQ r t h)
section
open PySem.W PyProof.Rows
def C4 {α:Type}(ss:List (List Int))(d:α)(vs:List α):List α:=(cj ss).map λi=>vs.getD i d
def pM {d:α}(O:vs.length=ss.length) (h:ss.length<2):C4 ss d vs=vs:=by
 unfold C4 cj;rw[qA2 h,<- O];apply qG0
 ·simp
 ·intro i h1 I;simp [I]
def kQ (ss:List (List Int)) (d:α) (vs:List α):(C4 ss d vs).length=ss.length:=by
 unfold C4;rw[qA6,(ba ss).length_eq,qF5]
def rC (ho:s.heap.get? a=some (seqObj "list" vs.toArray n)) (hl:vs.length=ss.length) (b0:ss.length<64) (ht:∀h':Heap,(∀b o,b≠a->s.heap.get? b=some o->h'.get? b=some o)->Paired (λv xs=>L3 h' v xs/\xs ≠ []) vs ss) (a5:P (.done (.ret .none)) { s with heap:=sortedHeap s.heap a vs (C4 ss Value.none vs).toArray }):wpAny (model prog w) A (Builtin.«list.sort» ⟨[.ref a],[]⟩) P E s:=by
 rw[list_sort_plain];have ha:=qB4 ho;refine qA1 (listItems_at ho rfl (qA1 (listUpdate_at ho rfl ?_ (by rw[qB8,qP3];omega) (qD1 _))));obtain ⟨ep,hp⟩:∃ep,(s.heap.update a (Obj.mapSeq λ_=>(#[]:Array Value))).get? a=some (seqObj "list" #[] ep):=⟨_,get?_update_seq ho λ_=>#[]⟩;refine qA1 (seqEpoch_at hp rfl (qA1 (qS4 (qA1 (qT3 (qP2 ?_) (qD1 _))) (by show vs.length<=_;rw[qP3];omega))));generalize hh:((s.heap.update a (Obj.mapSeq λ_=>(#[]:Array Value))).push (seqObj "tuple" vs.toArray 0)).push (seqObj "list" #[] 0)=I
 have O:I.get? a=some (seqObj "list" #[] ep):=by rw[<- hh];exact qA5 _ (qA5 _ hp)
 have a8:∀b o,b≠a->s.heap.get? b=some o->I.get? b=some o:=λb o hb e=>by rw[<- hh];exact qA5 _ (qA5 _ (by rw[qN1 _ _ _ _ hb];exact e))
 have Fy:sortedHeap s.heap a vs (C4 ss Value.none vs).toArray=I.update a (Obj.mapSeq λ_=>(C4 ss Value.none vs).toArray):=by rw[<- hh];rfl
 rw[Fy]at a5
 show wpAny (model prog w) A _ P E { s with heap:=I };dsimp only;have ab:vs.toArray.size=vs.length:=Qy;have a6:(C4 ss Value.none vs).toArray.size<=sizeLine+1:=by rw[qB8,kQ,qP3];omega
 by_cases c2:vs.toArray.size<2
 ·rw [qA2 c2,qA2 c2]
  refine qA1 (qO6 ?_);rw[StateT.run_pure];refine qA1 (qO6 ?_);dsimp only;have eo:Array.map (λx=>x.snd) (arrOf (SortSt.mk' general' (vs.toArray.zip vs.toArray) #[] 7 none))=(C4 ss Value.none vs).toArray:=by
   rw[pM hl ox]
   show Array.map (λx=>x.snd) (vs.toArray.zip vs.toArray)=vs.toArray;apply Array.toList_inj.mp;rw[Array.toList_map,Array.toList_zip];apply qG0
   ·simp
   ·intro i h1 h2;simp
  rw[eo];refine qA1 (seqEpoch_at O rfl (qA1 (listUpdate_at O rfl ?_ (qD1 _) a6)));simp only [qV7,qD4,qP1];exact qO6 a5
 ·rw [qA4 c2,qA4 c2]
  have tt:=ht I a8;obtain ⟨fs,kt,fl,fi⟩:=jR tt;refine qA1 (kat_kind (s:={ s with heap:=I }) (T:=.type "int") kt ox (λv hv=>?_) Qz ?_)
  ·obtain ⟨i,t,rfl⟩:=fi v hv;exact Looks.of_pure rfl
  have hw:(kas_sort vs.length).kasWp (kas_ask prog w A (tuples' (Value.type "int" != Value.type "tuple")) vs) (λp s'=>s'={ s with heap:=I }/\p.toList=cj ss) { s with heap:=I }:=by
   refine wp_run (n:=vs.length) (r:=K2 ss) (λi j C hi hj hC=>?_) (mO ox) ⟨rfl,?_⟩
   ·obtain ⟨x,hx,tx⟩:=E7 tt hi;obtain ⟨y,hy,ty⟩:=E7 tt hj;rw[nS ox ox]at hC;have ex:ss.getD i []=x:=by rw[qA0,hx];rfl
    have ey:ss.getD j []=y:=by rw[qA0,hy];rfl
    rw[ex,ey]at hC;exact AE (s:={ s with heap:=I }) tx.1 ty.1 hC
   ·unfold cj;rw[qA4 ox,hl]
  refine qA1 (qP7 (kat_run (Q:=λa0 s'=>s'={ s with heap:=I }/\(arrOf a0).map (·.2)=(C4 ss Value.none vs).toArray/\failedOf a0=none) rfl ox ox (λp a0 s' a1 a2 a3 a4=>⟨a4.1,by rw[kat_snds rfl a2,a4.2];rfl,a3⟩) hw) ?_ λ_ _ e=>e);rintro ⟨⟨⟩,a0⟩ s' ⟨rfl,a7,a9⟩;dsimp only;rw[a7];refine qA1 (seqEpoch_at O rfl (qA1 (listUpdate_at O rfl ?_ (qD1 _) a6)));rw[a9];simp only [qV7,qD4,qP1];exact qO6 a5
def mY (hL:s.heap.IsList l vs.toArray) (hl:vs.length=ss.length) (O:ss.length<64) (ht:Paired (λv xs=>L3 s.heap v xs/\xs ≠ []) vs ss) (I:Q (.ref (s.heap.objs.size+1)) { s with heap:=sortedAll s.heap vs (C4 ss Value.none vs).toArray }):wpAny (model prog w) A (call (.builtin "sorted") [.ref l]) Q E s:=by
 refine Calls.call_function_entry kind_sorted plain_sorted entry_sorted (args_sorted1 _) ?_;unfold Builtin.«sorted»;refine qA1 (m:=checkCount "sorted" 1 1 _) (qO6 (qA1 (collect_list hL (qA1 (qT3 ?_ (by rw[qP3];omega))) (by rw[qP3];omega))));generalize hg:(s.heap.push (seqObj "list" #[] 0)).update s.heap.objs.size (Obj.mapSeq (·++vs.toArray))=g
 have gz:g.objs.size=s.heap.objs.size+1:=by rw[<- hg,Heap.size_update,size_push']
 have gk:∀b o,s.heap.get? b=some o->g.get? b=some o:=λb o e=>by
  have a0:=qB4 e;rw[<- hg,qN1 _ _ _ _ (qC8 a0)];exact qA5 _ e
 have go:(g.push (seqObj "list" vs.toArray 0)).get? (s.heap.objs.size+1)=some (seqObj "list" vs.toArray 0):=by rw[<- gz];exact qC2 _ rfl
 have ea:sortedAll s.heap vs (C4 ss Value.none vs).toArray=sortedHeap (g.push (seqObj "list" vs.toArray 0)) (s.heap.objs.size+1) vs (C4 ss Value.none vs).toArray:=by rw[<- hg];rfl
 rw[ea]at I
 show wpAny _ _ _ _ _ { s with heap:=g.push (seqObj "list" vs.toArray 0) };rw[gz];refine qA1 (qP2 (qQ1 slot_list_sort ⟨_,go,rfl⟩ entry_list_sort (rC go hl O (λh' hk=>?_) ⟨_,rfl,qO6 ⟨_,rfl,I⟩⟩) (args_list_sort _)));refine Paired.mapP ht λv xs hv=>⟨?_,hv.2⟩;obtain ⟨a,o,its,m,rfl,h1,h2,h3,h4⟩:=hv.1;exact ⟨a,o,its,m,rfl,hk a o (qC8 (qE9 (qB4 h1))) (qA5 _ (gk a o h1)),h2,h3,h4⟩
end
def vf (r:Vals ys its) (O:ys.length=ss.length):Vals (C4 ss V.non ys) (C4 ss Value.none its):=P1 λi hi=>by
 have I:i<ys.length:=by have:=(ba ss).mem_iff.mp hi;rw[qH5]at this;omega
 obtain ⟨u,e,q⟩:=E7 (d:=V.non) r I;rw[show its.getD i Value.none=u by rw[qA0,e];rfl];exact q
def jt:bootBuiltins "sorted" = some (.builtin "sorted"):=by decide +kernel
def qB (hK:X.K=K:=by rfl):K8 X (.builtin "sorted") (λxs H Q=>∃p ys ss,xs = [.ref p]/\SqL K H p ys/\Paired (λv zs=>(∃a,v=.ref a/\SqT K H a (zs.map V.int))/\zs ≠ []) ys ss/\ss.length<64/\∀l,H l=none->Q (.ref l) (upd H l (.lst (C4 ss V.non ys)))):=by
 subst hK;intro pins s σ H xs us Q I r h;obtain ⟨p,ys,ss,rfl,hq,ht,O,q⟩:=h;obtain ⟨u,rfl,ru⟩:=G9 r;cases ru;obtain ⟨its,rv,pl,hz⟩:=I.list hq;have hlen:=rv.length;have a6:ys.length=ss.length:=Paired.length ht;have tt:Paired (λv xs=>L3 s.heap v xs/\xs ≠ []) its ss:=dQ rv ht λv u zs r1 r2=>by
  obtain ⟨⟨a,rfl,hs⟩,a5⟩:=r2;cases r1;obtain ⟨a3,a4,⟨o,e,c,k,dd⟩,_⟩:=I.tuple hs;exact ⟨⟨a,o,a3,k,rfl,e,c,dd,a4⟩,a5⟩
 refine mY pl.isList ox O tt ?_;obtain ⟨e,he⟩:=PyProof.Rows.sortedAll_at s.heap its (C4 ss Value.none its).toArray;have a0:s.heap.objs.size<=s.heap.objs.size+1:=qM6 _;refine ⟨.ref (s.heap.objs.size+1),_,I.laid (t':=s.toks) (λb o q=>PyProof.Rows.sortedAll_old q) a0 (show ObjOk X.prog X.w _ _ _ (.lst (C4 ss V.non ys)) from ⟨by rw[kQ];exact qD7 (qN6 O) Qz,C4 ss Value.none its,e,vf rv ox,he⟩),rfl,q _ (I.hok.fresh a0)⟩
def O2:List W->Option (List (List Int))
 | []=>some []
 | .tup ws::r=>match o7 ws,O2 r with
  |some x,some xs=>some (x::xs)
  |_,_=>none
 |_=>none
def eN:∀ss:List (List Int),O2 (ss.map λx=>W.tup (x.map W.int))=some ss
 | []=>rfl
 | x::ss=>by
  show (match o7 (x.map W.int),O2 (ss.map λx=>W.tup (x.map W.int)) with|some x,some xs=>_|_,_=>_)=_;rw[ints_map,eN ss]
def fSort:List W->R W
 | [w]=>match lstOf w with
  | some ws=>match O2 ws with
   |some ss=>if ss.length<64/\ss.all (λx=>!x.isEmpty)=true then .ok (.lst ((K1 ss).map λx=>W.tup (x.map W.int))) else .stuck
   |none=>.stuck
  |none=>.stuck
 |_=>.stuck
def wZ:∀{ws:List W}{x:List Int},o7 ws=some x->ws=x.map W.int:=by
 intro ws
 induction ws with
 |nil=>intro x h;cases h;rfl
 | cons w ws I=>
  intro x h;cases w <;> first | (cases h;done)|skip
  rename_i i
  have h':(o7 ws).map (i::·)=some x:=h;cases hw:o7 ws with
  |none=>rw[hw]at h';cases h'
  |some bs=>rw[hw]at h';rw[I hw,<- Option.some.inj h'];rfl
def jS:∀{ws:List W}{ss:List (List Int)},O2 ws=some ss->ws=ss.map λx=>W.tup (x.map W.int):=by
 intro ws
 induction ws with
 |nil=>intro ss h;cases h;rfl
 | cons w r ih=>
  intro ss h;cases w <;> first | (cases h;done)|skip
  rename_i ws
  have h':(match o7 ws,O2 r with|some x,some xs=>some (x::xs)|_,_=>none)=some ss:=h;cases I:o7 ws with
  |none=>rw[I]at h';cases h'
  | some x=>
   cases O:O2 r with
   |none=>rw[I,O]at h';cases h'
   |some xs=>rw[I,O]at h';rw[wZ I,ih O,<- Option.some.inj h'];rfl
def jc:∀ns:List Int,j7 (ns.map W.int)=true
 | []=>rfl
 |n::ns=>by rw[qC1];simp only [j7,noL,jc ns,qL3]
def eZ:∀ss:List (List Int),j7 (ss.map λx=>W.tup (x.map W.int))=true
 | []=>rfl
 |x::ss=>by rw[qC1];simp only [j7,noL,jc x,eZ ss,qL3]
def iW:∀{ys:List V}{ss:List (List Int)},Reps K F ys (ss.map λx=>W.tup (x.map W.int))->(∀x∈ss,x ≠ [])->Paired (λv I=>(∃a,v=.ref a/\F a=some (.tup (I.map V.int)))/\I ≠ []) ys ss
 |_,[],.nil,_=>.nil
 | _,x::ss,.cons r t,hne=>by
  refine .cons ⟨?_,hne x qB2⟩ (iW t λy hy=>hne y (qA8 _ hy));cases r with
  |tup ha O=>exact ⟨_,rfl,by rw[ha,Reps.ints O (ints_map x)]⟩
def hJ:∀{ys:List V}{ws:List W}{i:Nat},Reps K F ys ws->i<ys.length->∃w,ws[i]?=some w/\Rep K F (ys.getD i .non) w
 |_,_,_,.nil,h=>absurd h (qE5 _)
 |_,_,0,.cons r _,_=>⟨_,rfl,r⟩
 | _,_,i+1,.cons _ t,h=>by
  obtain ⟨b,e,q⟩:=hJ (i:=i) t (by simpa using h);exact ⟨b,by simpa using e,by simpa using q⟩
def eV:∀{l:List Nat},(∀i∈l,Rep K F (f i) (g i))->Reps K F (l.map f) (l.map g)
 | [],_=>.nil
 |_::_,h=>.cons (h _ qB2) (eV λb I=>h b (qA8 _ I))
def vU (r:Reps K F ys (ss.map λx=>W.tup (x.map W.int))):Reps K F (C4 ss V.non ys) ((K1 ss).map λx=>W.tup (x.map W.int)):=by
 have O:=r.length;rw[qA6]at O;unfold K1 C4;rw[qB9];refine eV λi hi=>?_;have I:i<ss.length:=by have:=(ba ss).mem_iff.mp hi;rwa [qH5]at this
 obtain ⟨w,e,q⟩:=hJ (i:=i) r ox;rw[qA7]at e
 have:ss[i]?=some (ss.getD i []):=by rw[qA0];simp [I]
 rw[this]at e;cases e;exact q
def Hg:Cal K (cb c) .F (λxs H Q=>∃p ys ss,xs = [.ref p]/\SqL K H p ys/\Paired (λv O=>(∃a,v=.ref a/\SqT K H a (O.map V.int))/\O ≠ []) ys ss/\ss.length<64/\∀l,H l=none->Q (.ref l) (upd H l (.lst (C4 ss V.non ys)))) fSort:=by
 intro EX H0 Hs G H ρ σ Ha vs ws Q I s m o;cases m with
 |nil=>exact o.elim
 | cons a t=>
  cases t with
  |cons _ _=>exact o.elim
  | nil=>
   rename_i w v
   unfold fSort at o;cases hl:lstOf w with
   |none=>simp only [hl]at o;exact o.elim
   | some us=>
    simp only [hl]at o;cases ht:O2 us with
    |none=>simp only [ht]at o;exact o.elim
    | some ss=>
     simp only [ht]at o;by_cases hc:ss.length<64/\ss.all (λx=>!x.isEmpty)=true
     ·rw [qA2 hc]at o
      obtain ⟨p,ys,rfl,hs,r⟩:=Md.lstOf I a hl;rw[jS ht]at r;have a0:∀x∈ss,x ≠ []:=λx hx=>by
       have:=qE3.mp hc.2 x hx
       intro e;subst e;simp at this
      have sm:Same (if c then G else join H0 G) H:=by
       cases c with
       |true=>rw[qA2 rfl];exact I.gh
       |false=>rw[qA4 qA9];exact I.join_H
      refine ⟨p,ys,ss,rfl,hs,Paired.mapP (iW r a0) λv O h=>⟨?_,h.2⟩,hc.1,Out.chks (EX:=EX) (c:=c) I s (vU r) ?_⟩
      ·obtain ⟨b,e,q⟩:=h.1;exact ⟨b,e,SqT.of (sm _ _ q)⟩
      ·have e:TP.chks c ((K1 ss).map λx=>W.tup (x.map W.int))=.ok (.lst ((K1 ss).map λx=>W.tup (x.map W.int))):=by
        unfold TP.chks;rw[eZ,qU7,qA2 rfl]
       rw[e];exact o
     ·rw[qA4 hc]at o;exact o.elim
set_option maxHeartbeats 2000000
def vm (l b:Addr) (O:Array Value) (m m2:Nat) (dd a0:Option Addr) (sl a3:Array (Option Value)) :
  Meets (Builtin.«tuple.__add__» ⟨[.ref l,.ref b],[]⟩) (λ_ R s=>s.heap.get? l=some { cls:=.type "tuple",dict:=dd,data:=.seq #[] m,slots:=sl }/\s.heap.get? b=some { cls:=.type "tuple",dict:=a0,data:=.seq O m2,slots:=a3 }/\R (.ok (.ret (.ref b))) s):=
 .of_wp λprog w A R s I=>by
  obtain ⟨hp,g,d,tk,os⟩:=s;obtain ⟨hl,hb,I⟩:=I;have g1:=AutoSeq1.sub_tuple_tuple
  wp_walk using qH4 hl,qH4 hb
  exact ⟨_,rfl,I⟩
def Ce (l b:Addr) (us vs:List Value) (m m2:Nat) (dd a5:Option Addr) (sl a6:Array (Option Value)) (xs ys:List Int) (rx:Vals (xs.map V.int) us) (ry:Vals (ys.map V.int) vs) :
  Meets (Builtin.«tuple.__lt__» ⟨[.ref l,.ref b],[]⟩) (λ_ R s=>s.heap.get? l=some { cls:=.type "tuple",dict:=dd,data:=.seq us.toArray m,slots:=sl }/\s.heap.get? b=some { cls:=.type "tuple",dict:=a5,data:=.seq vs.toArray m2,slots:=a6 }/\R (.ok (.ret (.bool (lexLt xs ys)))) s):=
 .of_wp fun prog w A R s a0=>by
  obtain ⟨hp,g,d,tk,os⟩:=s;obtain ⟨hl,hb,a0⟩:=a0;have g1:=AutoSeq1.sub_tuple_tuple;have l1:=rx.length;have l2:=ry.length;rw[qA6]at l1 l2
  wp_walk using qH4 hl,qH4 hb,wpAny_forIn_list _ (λrest b s'=>b.1=none/\s'=⟨hp,g,d,tk,os⟩/\∃(I ts:List Int) (us vs:List Value),rest=us.zip vs/\Vals (I.map V.int) us/\Vals (ts.map V.int) vs/\R (.ok (.ret (.bool (ai (decide (xs.length<ys.length)) (I.zip ts))))) ⟨hp,g,d,tk,os⟩) _
  case turn=>
   rintro ⟨y,x⟩ rest b s' ⟨a3,rfl,I,ts,a4,a7,hz,r1,r2,O⟩;cases I with
   |nil=>cases r1;cases hz
   | cons z I=>
    cases ts with
    |nil=>cases r2;cases a4 <;> cases hz
    | cons t ts=>
     cases r1 with
     | cons a1 r1=>
      cases r2 with
      | cons a2 r2=>
       obtain ⟨k1,rfl⟩:=a1;obtain ⟨k2,rfl⟩:=a2;rw[qK2]at hz;injection hz with h1 h2
       injection h1 with h3 h4
       subst h3 h4 h2;simp only [qK2,ai]at O;refine qA1 (wpAny_eqBool_int ?_);by_cases e:z=t
       ·rw [qA2 e]at O
        rw[show (z == t)=true by simpa using e]
        wp_walk
        exact ⟨rfl,rfl,I,ts,_,_,rfl,r1,r2,O⟩
       ·rw [qA4 e]at O
        rw[show (z == t)=false by simpa using e];rw[qA2 (show (!false)=true from rfl)];refine qA1 (qS3 (qA1 (PyProof.Rows.lt_int ?_)))
        wp_walk
        exact ⟨_,rfl,O⟩
  case fin=>
   rintro ⟨b1,b2⟩ s' ⟨a3,rfl,I,ts,a4,a7,hz,r1,r2,O⟩;simp only at a3;subst a3;have hk:ai (decide (xs.length<ys.length)) (I.zip ts)=decide (xs.length<ys.length):=by
    cases I with
    |nil=>rfl
    | cons z I=>
     cases ts with
     |nil=>rfl
     |cons t ts=>cases r1;cases r2;cases hz
   rw[hk]at O
   wp_walk
   refine ⟨_,rfl,?_⟩;simpa [Builtin.Tuple.tupleCompareSizes,<- l1,<- l2]using O
  case h=>
   exact ⟨rfl,rfl,xs,ys,us,vs,rfl,rx,ry,by rw[iA];exact a0⟩
def yi (K:Frag):R2:=λx y H Q=>yh K x y H Q\/∃a b ys,x=.ref a/\y=.ref b/\SqT K H a []/\SqT K H b ys/\Q (.ref b) H
def ij (hK:X.K=K:=by rfl):OpR X (binaryOp .Add) (yi K):=by
 subst hK;intro pins s σ H x y v u Q I rx ry h;rcases h with h|⟨a,b,ys,rfl,rfl,ha,hb,q⟩
 ·exact Ad pins s σ H x y v u Q I rx ry h
 ·cases rx;cases ry;obtain ⟨its,r1,⟨⟨c1,d1,t1,a7⟩,o1,a4,n1,O⟩,_⟩:=I.tuple ha;obtain ⟨a5,r2,⟨⟨c2,d2,t2,a6⟩,o2,a3,n2,a0⟩,_⟩:=I.tuple hb;cases r1;simp only at a4 O a3 a0;subst a4 O a3 a0;exact concat_meets ⟨_,o1,rfl⟩ ⟨_,o2,rfl⟩ noFill_tuple_add seq_tuple_add qT0 qS5 (qR8 _ _) (vm a b a5.toArray n1 n2 d1 d2 a7 a6) ⟨o1,o2,.ref b,H,I,rfl,q⟩
def fCatT:W->W->R W
 | .tup us,.tup vs=>if us.length+vs.length<=1000/\j7 us=true/\j7 vs=true then .ok (.tup (us++vs)) else .stuck
 |_,_=>.stuck
def im:Op2 K .B .F (yi K) fCatT:=by
 intro EX H0 Hs G H ρ σ Ha Hb x y u v Q I s mx O o;cases u <;> first|exact o.elim|skip
 all_goals (cases v <;> first|exact o.elim|skip)
 rename_i us vs
 replace o:Out EX G H (mdW K .F H0 Hs) (if us.length+vs.length<=1000/\j7 us=true/\j7 vs=true then .ok (.tup (us++vs)) else .stuck) Q:=o
 by_cases hn:us.length+vs.length<=1000/\j7 us=true/\j7 vs=true
 ·rw [qA2 hn]at o
  obtain ⟨hz,n1,n2⟩:=hn;rcases mx with mx|⟨_,_,_,_,e2,_⟩
  ·rcases O with O|⟨_,_,_,_,e2,_⟩
   ·have cx:=Rep.clean I mx (by simpa [noL]using n1);have cy:=Rep.clean I O (by simpa [noL]using n2);cases cx with
    | tup ha ra=>
     cases cy with
     | tup hb rb=>
      have l1:=ra.length;have l2:=rb.length;by_cases he:us = []
      ·subst he;cases ra;exact .inr ⟨_,_,_,rfl,rfl,SqT.of (I.gh _ _ ha),SqT.of (I.gh _ _ hb),o _ G H (Ext.refl I.gh) (.tup hb rb)⟩
      ·refine .inl ⟨_,_,_,_,rfl,rfl,SqT.of (I.gh _ _ ha),SqT.of (I.gh _ _ hb),λz=>?_,by rw[l1,l2];exact W2 hz,λz=>?_,λ_ p hp=>?_⟩
       ·subst z;cases ra;exact he rfl
       ·subst z;cases rb;rw[qG3]at o;exact o _ G H (Ext.refl I.gh) (.tup ha ra)
       ·exact Out.newTF I (ra.append rb) hp o
   ·cases e2
  ·cases e2
 ·rw[qA4 hn]at o;exact o.elim
end TP
namespace L2
open PySem PySem.Spec PyProof.Rows
end L2
namespace TP
open PySem L2
end TP
namespace HT
open PySem PyProof.Rows
def getItem_tuple_all {lo:Option Int}(O:IsTup s.heap t items) (hs:s.heap.IsSliceOf sl vl vu .none) (pl:IsPart vl lo) (pu:IsPart vu hi) (hw:sIx items.size 0 lo=0/\sIx items.size items.size hi=items.size) (h:Q (.ref t) s) (hsz:items.size<=sizeLine):wpAny (model prog w) A (getItem (.ref t) (.ref sl)) Q E s:=by
 have hj:sIx items.size items.size hi<=items.size:=rS _ _ (qB5 _) hi;obtain ⟨os,a3,a4,a5⟩:=id hs;have a0:s.TypeIs (.ref sl) "slice" := ⟨os,a3,a4⟩;unfold getItem
 try with_reducible refine qP2 ?_
 first|refine qA1 (qO6 ?_)|skip
 refine qA1 (wpAny_sequenceKey O.typeIs Qz ?_);refine qA1 (qP9 (name:=Str.ofString "__getitem__") O.typeIs qJ2
  (qQ1 qJ2 O.typeIs entry_tuple_getitem ?_ (args_tuple_getitem _ _)))
 show wpAny _ _ (Builtin.Tuple.tupleItemsOf (.ref t)>>=_) _ _ s;refine qA1 (tupleItemsOf_ O ?_);refine qA1 (wpAny_typeOf a0 ?_);rw[qA2 Qz];refine qA1 (W6 hs pl pu ?_);have I:(((sIx items.size 0 lo:Nat):Int) == 0&&(1:Int) == 1&&(sIx items.size items.size hi-sIx items.size 0 lo) == items.size)=true:=by
  rw[hw.1,hw.2];simp
 show wpAny _ _ (if (((sIx items.size 0 lo:Nat):Int) == 0&&(1:Int) == 1&&(sIx items.size items.size hi-sIx items.size 0 lo) == items.size)=true then _ else _) _ _ s;rw[qA2 I];unfold Builtin.Tuple.tupleIsExact
 wp_walk using wpAny_typeOf O.typeIs
 exact ⟨_,rfl,qO6 h⟩
end HT
namespace TP
open PySem L2
def vX (K:Frag):V->Option Int->Option Int->Hp->VK->Prop:=λx lo hi H Q=>∃a xs,x=.ref a/\SqT K H a xs/\(HT.sIx xs.length 0 lo=0/\HT.sIx xs.length xs.length hi=xs.length)/\Q (.ref a) H
def zj:L2.SlR X (vX X.K):=by
 intro pins s σ H x v vl vu lo hi sl Q I rx hs pl pu h;obtain ⟨a,xs,rfl,hx,hw,q⟩:=h;cases rx;obtain ⟨its,r,O,hz⟩:=I.tuple hx;have hlen:its.toArray.size=xs.length:=by rw[qB8];exact r.length.symm
 refine ⟨"tuple",_,PyProof.Rows.slot_tuple_getitem.lookup,O.typeIs,?_⟩;exact HT.getItem_tuple_all O hs pl pu (by rw[hlen];exact hw) ⟨.ref a,H,I,rfl,q⟩ (by rw[hlen];exact hz)
def Ds (K:Frag):V->Option Int->Option Int->Hp->VK->Prop:=λx lo hi H Q=>Dq K x lo hi H Q\/vX K x lo hi H Q
def zh:L2.SlR X (Ds X.K):=L2.SlR.or Cr zj
def Rst (x:R W) (l u:R (Option Int)):R W:=x>>=λx=>l>>=λl=>u>>=λu=>(match x with
 | .tup ws=>if j7 ws=true then .ok (.tup (J8 ws l u)) else .stuck
 |_=>.stuck)
def eL (m:Rho->R W)(O I:Rho->R (Option Int)):Rho->R W:=λρ=>Rst (m ρ) (O ρ) (I ρ)
def xF (h:HT.sIx ws.length 0 lo=0/\HT.sIx ws.length ws.length hi=ws.length):J8 ws lo hi=ws:=by
 unfold J8;rw[h.1,h.2,List.drop_zero,Nat.sub_zero,qK0]
def IE (h:tM K EX .F (eL m ml mh) σ H Q):tSl (Ds K) (tM K EX .B m) (U3 K EX ml) (U3 K EX mh) σ H Q:=by
 obtain ⟨H0,G,ρ,I,o⟩:=h;unfold eL Rst at o;refine ⟨H0,G,ρ,I,Out.bind o λx G1 H1 w e1 m1 o1=>⟨H0,G1,ρ,I.ext e1,Out.bind o1 λl' G2 H2 l e2 m2 o2=>⟨H0,G2,ρ,(I.ext e1).ext e2,Out.bind o2 λu' G3 H3 u e3 m3 O=>?_⟩⟩⟩;subst m2;subst m3;have I3:=((I.ext e1).ext e2).ext e3;cases w <;> first|exact O.elim|skip
 rename_i ws
 dsimp only at O;by_cases hn:j7 ws=true
 ·rw [qA2 hn]at O
  have mx:=(m1.move e2).move e3;rcases mx with mx|⟨_,_,_,_,z,_⟩
  ·have cx:=Rep.clean I3 mx (by simpa [noL]using hn);cases cx with
   | tup ha ra=>
    rename_i a vs
    have l1:=ra.length;by_cases hw:HT.sIx vs.length 0 l'=0/\HT.sIx vs.length vs.length u'=vs.length
    ·refine .inr ⟨a,vs,rfl,SqT.of (I3.gh _ _ ha),hw,?_⟩;rw[xF (by rw[<- l1];exact hw)]at O;exact O _ G3 H3 (Ext.refl I3.gh) (.tup ha ra)
    ·exact .inl ⟨a,vs,rfl,SqT.of (I3.gh _ _ ha),hw,λp hp=>Out.newTF I3 (ra.cut l' u') hp O⟩
  ·cases z
 ·rw[qA4 hn]at O;exact O.elim
def pF {X:Cx}{K:Frag}{EX:EXT}{e:Expr}{pos:Pos}{ma:Rho->R W}{lo hi:Option Expr}{p2:Pos}{I O:Rho->R (Option Int)}(he:PE X e (tM K EX .B ma)) (hl:PO X lo (U3 K EX I)) (hu:PO X hi (U3 K EX O)) (hK:X.K=K:=by rfl):PE X (.Subscript e (.Slice lo hi none p2) pos) (tM K EX .F (eL ma I O)):=by
 subst hK;exact (kP zh he hl hu).mono λ_ _ _ q=>IE q
def nA (m:Rho->R W)(O I:Rho->R (Option Int))(ρ:Rho):eL m O I ρ=Rst (m ρ) (O ρ) (I ρ):=rfl
def Ho (h:j7 ws=true) (l u:Option Int):Rst (.ok (.tup ws)) (.ok l) (.ok u)=.ok (.tup (J8 ws l u)):=by
 show (if j7 ws=true then _ else _)=_;rw[qA2 h]
def iz:W->Option (List Int)
 | .tup ws=>o7 ws
 |_=>none
def lT (ns:List Int):iz (.tup (ns.map W.int))=some ns:=ints_map ns
abbrev X2 (k:List Int):List Key:=k.map Sum.inl
def xa (e:X2 a=X2 b):a=b:=by
 have:=congrArg (List.map λx:Key=>match x with | .inl i=>i | .inr _=>0) e
 simpa [X2,Function.comp_def]using this
def EK (k:List Int):(X2 k).map kV=k.map V.int:=by rw[qB9];rfl
def AN (r:Rep K F v w) (e:iz w=some k):∃b,v=.ref b/\F b=some (.tup ((X2 k).map kV)):=by
 cases r <;> first|cases e|skip
 rename_i a vs ws h r
 refine ⟨a,rfl,?_⟩;rw[EK,<- Reps.ints r e];exact h
def lR (I:PIv K H0 G ρ σ H) (m:Md K H0 Hs G H v w .B) (e:iz w=some k):∃b,v=.ref b/\H b=some (.tup ((X2 k).map kV)):=by
 rcases m with r|⟨a,vs,ws,_,rfl,_⟩
 ·obtain ⟨b,e1,O⟩:=AN r e;exact ⟨b,e1,I.join_H _ _ O⟩
 ·cases e
def any_keys {kvs:List (List Key×V)}{ks:List (List Int)}(hk:kvs.map (·.1)=ks.map λk=>k.map Sum.inl):(kvs.any λkv=>decide (kv.1=X2 k))=decide (k∈ks):=by
 rw[qK3,qI3,qQ8];constructor
 ·rintro ⟨p,I,q⟩;have e:=qO9 q
  have:p.1∈ks.map λk=>k.map Sum.inl:=by rw[<- hk];exact qB1.mpr ⟨p,I,rfl⟩
  obtain ⟨j,hj,O⟩:=qB1.mp this;rw[<- xa (O.trans e)];exact hj
 ·intro h
  have:X2 k∈kvs.map (·.1):=by rw[hk];exact qB1.mpr ⟨k,h,rfl⟩
  obtain ⟨p,I,e⟩:=qB1.mp this;exact ⟨p,I,qO8 e⟩
def mR (ks:List (List Int))(k:List Int):List (List Int):=if k∈ks then ks else ks ++ [k]
def wU (hk:kvs.map (·.1)=ks.map λk=>k.map Sum.inl):(putK kvs (X2 k) v).map (·.1)=(mR ks k).map λk=>k.map Sum.inl:=by
 unfold putK mR;rw[any_keys hk];by_cases h:k∈ks
 ·rw [qA2 (qO8 h),qA2 h,<- hk,qB9]
  refine qF1 λp _=>?_
  show (if p.1=X2 k then (p.1,v) else p).1=p.1
  split <;> rfl
 ·rw[qA4 (by simpa using h),qA4 h,qC3,qC3,hk];rfl
def PIv.updD (I:PIv K H0 G ρ σ H) (ha:H a=some (.dT kvs)) (hg:G a=none) (h0:H0 a=none) (nd:∀(j:Nat) (ks:List (List Int)),ρ[j]?=some (.dic ks)->σ[j]?≠some (some (.ref a))):PIv K H0 G ρ σ (upd H a (.dT kvs')):=by
 refine ⟨I.g0,I.gl,λb o q=>by rw[c8 (f7 q hg)];exact I.gh b o q,λb o q=>by rw[c8 (f7 q h0)];exact I.hh b o q,I.len,λj x o h1 h2=>?_,I.ne⟩
 have:=I.sl j x o h1 h2
 cases x with
 | own us=>
  obtain ⟨b,a0,eb,hb,a3,O,rb⟩:=this;have a4:b≠a:=by
   rintro rfl;rw[ha]at hb;cases hb
  exact ⟨b,a0,eb,by rw[c8 a4];exact hb,a3,O,rb⟩
 | dic ks=>
  obtain ⟨b,a0,eb,hb,a3,O,rb⟩:=this;subst eb;have a4:b≠a:=by
   rintro rfl;exact nd j ks h1 h2
  exact ⟨b,a0,rfl,by rw[c8 a4];exact hb,a3,O,rb⟩
 | dik ks=>
  obtain ⟨b,a0,eb,hb,a3,O,rb⟩:=this;have a4:b≠a:=by
   rintro rfl;rw[ha]at hb;cases hb
  exact ⟨b,a0,eb,by rw[c8 a4];exact hb,a3,O,rb⟩
 |un=>exact this
 |val _=>exact this
 |par _=>exact this
 |iop _ _=>exact this
 |hz _=>exact this
def PIv.setD (I:PIv K H0 G ρ σ H) (ha:H a=some (.dT kvs)) (hg:G a=none) (h0:H0 a=none) (hk:kvs.map (·.1)=ks.map λk=>k.map Sum.inl):PIv K H0 G (ρ.set i (.dic ks)) (σ.set i (some (.ref a))) H where
 g0:=I.g0
 gl:=I.gl
 gh:=I.gh
 hh:=I.hh
 len:=by rw[qF4,qF4];exact I.len
 sl j x o h1 h2:=by
  by_cases O:i=j
  ·subst O;rw[qD5]at h1 h2;simp only [qP0]at h1 h2
   split at h1 <;> split at h2 <;> simp only [qH1,reduceCtorEq]at h1 h2
   subst h1;subst h2;exact ⟨a,kvs,rfl,ha,hg,h0,hk⟩
  ·rw[qB7 O]at h1 h2;exact I.sl j x o h1 h2
 ne a b ws us c hab h1 h2 h3 h4:=by
  have na:i≠a:=by
   rintro rfl;rw[qD5]at h1;simp only [qP0]at h1
   split at h1 <;> simp at h1
  have nb:i≠b:=by
   rintro rfl;rw[qD5]at h2;simp only [qP0]at h2
   split at h2 <;> simp at h2
  rw[qB7 na]at h1 h3;rw[qB7 nb]at h2 h4;exact I.ne a b ws us c hab h1 h2 h3 h4
def PIv.dic_at {i:Nat}(I:PIv K H0 G ρ σ H) (e:ρ[i]?=some (.dic ks)):∃a kvs,σ[i]?=some (some (.ref a))/\H a=some (.dT kvs)/\G a=none/\H0 a=none/\kvs.map (·.1)=ks.map λk=>k.map Sum.inl:=by
 have hi:i<σ.length:=by rw[<- I.len];exact (qB0.mp e).1
 have es:σ[i]?=some σ[i]:=Qy;obtain ⟨a,kvs,O,r⟩:=I.sl i _ _ e es;exact ⟨a,kvs,by rw[es,O],r⟩
def br:Sl->Bool
 | .dic _=>true
 |_=>false
def jG (ρ:Rho):Bool:=ρ.all λs=>!br s
def wG {ρ:Rho}(h:jG (ρ.set i .un)=true) (O:i≠j):ρ[j]?≠some (.dic ks):=λe=>by
 have I:(ρ.set i .un)[j]?=some (.dic ks):=by rw[qB7 O];exact e
 have:=qE3.mp h _ (qD3 I)
 simp [br]at this
def PIv.dic_upd (I:PIv K H0 G ρ σ H) (e:ρ[i]?=some (.dic ks)) (es:σ[i]?=some (some (.ref a))) (one:jG (ρ.set i .un)=true) (hk:kvs'.map (·.1)=ks'.map λk=>k.map Sum.inl):
  PIv K H0 G (ρ.set i (.dic ks')) σ (upd H a (.dT kvs')):=by
 obtain ⟨a',kvs,ev,ha,hg,h0,_⟩:=I.sl i _ _ e es;cases ev;refine ⟨I.g0,I.gl,λb o q=>by rw[c8 (f7 q hg)];exact I.gh b o q,λb o q=>by rw[c8 (f7 q h0)];exact I.hh b o q,by rw[qF4];exact I.len,λj x o O h2=>?_,λp q a6 us c a7 O h2 h3 h4=>?_⟩
 ·by_cases hj:i=j
  ·subst hj;rw[qD5]at O;simp only [qP0]at O
   split at O <;> simp only [qH1,reduceCtorEq]at O
   subst O;rw[es]at h2;cases h2;exact ⟨a,kvs',rfl,i9,hg,h0,hk⟩
  ·rw [qB7 hj]at O
   have:=I.sl j x o O h2
   cases x with
   | own us=>
    obtain ⟨b,a3,eb,hb,a4,a0,rb⟩:=this;have a5:b≠a:=by
     rintro rfl;rw[ha]at hb;cases hb
    exact ⟨b,a3,eb,by rw[c8 a5];exact hb,a4,a0,rb⟩
   |dic ls=>exact absurd O (wG one hj)
   | dik ks=>
    obtain ⟨b,a3,eb,hb,a4,a0,rb⟩:=this;have a5:b≠a:=by
     rintro rfl;rw[ha]at hb;cases hb
    exact ⟨b,a3,eb,by rw[c8 a5];exact hb,a4,a0,rb⟩
   |un=>exact this
   |val _=>exact this
   |par _=>exact this
   |iop _ _=>exact this
   |hz _=>exact this
 ·have na:i≠p:=by
   rintro rfl;rw[qD5]at O;simp only [qP0]at O
   split at O <;> simp at O
  have nb:i≠q:=by
   rintro rfl;rw[qD5]at h2;simp only [qP0]at h2
   split at h2 <;> simp at h2
  rw[qB7 na]at O;rw[qB7 nb]at h2;exact I.ne p q a6 us c a7 O h2 h3 h4
def inD (o:Option Sl) (w:W) (neg:Bool):R Bool:=match o with
 | some (.dic ks)=>(match iz w with
  |some k=>.ok (if neg then !decide (k∈ks) else decide (k∈ks))
  |none=>.stuck)
 |_=>.stuck
def mIn (neg:Bool)(i:Nat)(I:Rho->R W):Rho->R Bool:=λρ=>I ρ>>=λw=>inD ρ[i]? w neg
def IQ (h:tT K EX (mIn false i mk) σ H Q):tB (Cm (tM K EX .B mk) (P8 i)) σ H Q:=by
 obtain ⟨H0,G,ρ,I,o⟩:=h;refine ⟨H0,G,ρ,I,Out.bind (md:=mdW K .B H0 H) o λy G1 H1 w e1 m1 O=>?_⟩;have I1:=I.ext e1;unfold inD at O
 split at O
 ·rename_i ks e
  split at O
  ·rename_i k ek
   obtain ⟨a,kvs,es,ha,hg,h0,hk⟩:=I1.dic_at e;obtain ⟨b,rfl,hb⟩:=lR I1 m1 ek;refine ⟨.ref a,es,a,_,rfl,DGet.t ha hb,_,rfl,?_⟩;rw[<- eK,any_keys hk];exact O _ G1 H1 (Ext.refl I1.gh) rfl
  ·exact O.elim
 ·exact O.elim
def putD (ks:List (List Int)) (i:Nat) (w:W) (ρ:Rho):R Fl:=match iz w with
 |some k=>if jG (ρ.set i .un)=true/\ks.length<1000 then .ok (.nx (ρ.set i (.dic (mR ks k)))) else .stuck
 |none=>.stuck
def jJ (o:Option Sl) (I rk:R W) (i:Nat) (ρ:Rho):R Fl:=match o with
 |some (.dic ks)=>I>>=λ_=>rk>>=λw=>putD ks i w ρ
 |_=>.stuck
def ga (i:Nat)(I me:Rho->R W):Rho->R Fl:=λρ=>jJ ρ[i]? (me ρ) (I ρ) i ρ
def GQ (h:tSt K EX d (ga i mk me) D σ H):ye (P8 i) (tM K EX .B mk) (tM K EX .B me) D σ H:=by
 obtain ⟨H0,G,ρ,I,o⟩:=h;unfold ga jJ at o
 split at o
 ·rename_i ks e
  refine ⟨H0,G,ρ,I,OutS.bind I o λv G1 H1 w1 e1 m1 o1=>?_⟩;have I1:=I.ext e1;obtain ⟨a,kvs,es,ha,hg,h0,hk⟩:=I1.dic_at e;refine ⟨.ref a,es,H0,G1,ρ,I1,OutS.bind I1 o1 λy G2 H2 w e2 m2 O=>?_⟩;have I2:=I1.ext e2;unfold putD at O
  split at O
  ·rename_i k ek
   split at O
   ·rename_i hc
    obtain ⟨b,rfl,hb⟩:=lR I2 m2 ek;have hl:kvs.length=ks.length:=by have:=congrArg List.length hk;simpa using this
    refine ⟨a,_,rfl,DPut.t (e2.hh a _ ha) hb (qB6 (show kvs.length<1000 by omega) Qz),?_⟩;exact O G2 σ _ (Same.refl _) (I2.dic_upd e es hc.1 (wU hk))
   ·exact O.elim
  ·exact O.elim
 ·exact o.elim
def newD (i:Nat) (w:W) (ρ:Rho):R Fl:=match iz w with
 |some k=>.ok (.nx (ρ.set i (.dic [k])))
 |none=>.stuck
def jH (i:Nat)(I me:Rho->R W):Rho->R Fl:=λρ=>I ρ>>=λw=>me ρ>>=λ_=>newD i w ρ
def nH (I O:TE):TE:=λσ H Q=>∀p,H p=none->I σ (upd H p (.dT [])) λx H1=>O σ H1 λy H2=>H2 p=some (.dT [])/\∃b k,x=.ref b/\H2 b=some (.tup (k.map kV))/\Q (.ref p) (upd H2 p (.dT [(k,y)]))
def GR (h:tSt K EX d (jH i mk me) D σ H):af (nH (tM K EX .B mk) (tM K EX .B me)) (K5 i) D σ H:=by
 obtain ⟨H0,G,ρ,I,o⟩:=h;intro p hp;have a5:G p=none:=by
  cases q:G p with
  |none=>rfl
  |some u=>rw[I.gh p u q]at hp;cases hp
 have a4:H0 p=none:=by
  cases q:H0 p with
  |none=>rfl
  |some u=>rw[I.hh p u q]at hp;cases hp
 have su:Same H (upd H p (.dT [])):=λb u q=>by rw[c8 (f7 q hp)];exact q
 have x0:Ext G H G (upd H p (.dT [])):=⟨Same.refl G,su,I.gh.trans su,λ_ _ _ _ e=>e⟩;have I0:=I.ext x0;have o':OutS K EX d H0 G (mk ρ>>=λw=>me ρ>>=λ_=>newD i w ρ) D:=o;refine ⟨H0,G,ρ,I0,OutS.bind I0 o' λx G1 H1 w O m1 o1=>?_⟩;have I1:=I0.ext O;refine ⟨H0,G1,ρ,I1,OutS.bind I1 o1 λy G2 H2 w2 e2 m2 o2=>?_⟩;have I2:=I1.ext e2;have a3:H2 p=some (.dT []):=e2.hh p _ (O.hh p _ i9);have a0:G2 p=none:=e2.keep p _ (O.hh p _ i9) rfl (O.keep p _ i9 rfl a5);refine ⟨a3,?_⟩;unfold newD at o2
 split at o2
 ·rename_i k ek
  obtain ⟨b,rfl,hb⟩:=lR I1 m1 ek;refine ⟨b,X2 k,rfl,e2.hh b _ hb,?_⟩;refine o2 G2 _ _ (Same.refl _) (PIv.setD (I2.updD a3 a0 a4 λj ks O e2=>?_) i9 a0 a4 rfl);obtain ⟨c,kvs,ec,hc,_⟩:=I.sl j _ _ O e2;cases ec;rw[hp]at hc;cases hc
 ·exact o2.elim
def sK (hu:X.A.units+1<cLine) (hk:PE X k tk) (hv:PE X v tv):PE X (.Dict [some k] [v] pos) (nH tk tv):=by
 intro pins s σ H Q I q;have hn:=I.hok.fresh (qB5 s.heap.objs.size);have I1:=I.laid (a:=s.heap.objs.size) (o:=.dT []) (h':=s.heap.push { cls:=.type "dict",data:=.dict #[] }) (t':=s.toks) (λ_ _ q=>qA5 _ q) (qB5 _) (xB s.heap I.big);refine wpAny_Dict_any rfl rfl Qy (Nat.le_of_ble_eq_true rfl) ?_;refine pairTrees_cons_walk (thn (hk pins _ σ _ _ I1 (q _ hn)) λu s1 ⟨x,H1,I2,rx,q1⟩=>thn (hv pins s1 σ H1 _ I2 q1) λw2 s2 ⟨y,H2,I3,ry,e,b,kk,ex,eb,q2⟩=>pairTrees_nil_walk ?_);subst ex;obtain rfl:u=Value.ref b:=rx;obtain ⟨z,hd,xs,O,dd⟩:=yF I3.hok e;cases O;unfold storeAll;rw[qK5];refine qA1 (qA1 (wpAny_dictSet_heap (knd:=tupleKind (z8 X.prog X.w)) (hsz:=qD1 _) (show (tupleKind (z8 X.prog X.w)).room X.A from qO1 hu) (gd I3.hok eb) dd λh' a0 hs=>qO6 ?_))
 show wpAny _ _ (forIn [] PUnit.unit _) _ _ _;rw[qM1];refine qO6 ⟨.ref s.heap.objs.size,_,?_,rfl,q2⟩;obtain ⟨qo,es,ep,hq,h2,h3,h4,_,h5⟩:=a0;refine iJ I3 (by rw[e];exact True.intro) hs ⟨qo,hq⟩ ⟨Nat.succ_le_of_lt Qz,hd,_,(KT.put (H:=H2) (kvs:=[]) (xs:=[]) .nil kk eb ry).keeps λc ys ec=>?_,qo,es,ep,hq,h2,h3,h4,h5⟩;rw[c8 (yt ec e (λz=>nomatch z))];exact ec
def DH {X:Cx}{K:Frag}{EX:EXT}{d:Mode}{k v:Expr}{pos:Pos}{O me:Rho->R W}{i:Nat}{x:Str}{pos' I:Pos}(hu:X.A.units+64<cLine) (hN:X.N.Nodup) (hi:X.N[i]?=some x) (hx:Loc X.env.scope x) (hk:PE X k (tM K EX .B O)) (hv:PE X v (tM K EX .B me)) (hs:swapsWith (.Dict [some k] [v] pos) (some (.Name x pos')) I.line X.env=pure false:=by rfl) (hf:X.fn x=true\/X.env.scope.names.lookup x=some .local:=by first|exact Or.inl rfl|exact Or.inr rfl|assumption):
  PS X (.Assign [.Name x pos'] (.Dict [some k] [v] pos) I) (tSt K EX d (jH i O me)):=(fN hN hi hx (sK ox hk hv) hs hf).mono λ_ _ _ q=>GR q
def HI {X:Cx}{K:Frag}{EX:EXT}{k:Expr}{pos:Pos}{O:Rho->R W}{i:Nat}{x:Str}{p:Pos}(hu:X.A.units+64<cLine)(hN:X.N[i]?=some x)(hv:Vis X.env.scope x)(hk:PE X k (tM K EX .B O))(hd:(x == ("__debug__" : Str))=false:=by decide)(I:(x == ("__classdict__" : Str))=false:=by decide)(hm:behindInMarks .In (.Name x p)=false:=by rfl):PT X (.Compare k [.In] [.Name x p] pos) (tT K EX (mIn false i O)):=(DR (Eh ox hk (P0 hN hv hd I)) hm).mono λ_ _ _ q=>IQ q
def DG {X:Cx}{K:Frag}{EX:EXT}{d:Mode}{e k:Expr}{pos:Pos}{O me:Rho->R W}{i:Nat}{x:Str}{p p2:Pos}(hu:X.A.units+64<cLine)(hN:X.N[i]?=some x)(hv:Vis X.env.scope x)(hk:PE X k (tM K EX .B O))(he:PE X e (tM K EX .B me))(hd:(x == ("__debug__" : Str))=false:=by decide)(I:(x == ("__classdict__" : Str))=false:=by decide)(hs:swapsWith e (some (.Subscript (.Name x p) k p2)) pos.line X.env=pure false:=by rfl):PS X (.Assign [.Subscript (.Name x p) k p2] e pos) (tSt K EX d (ga i O me)):=(zS ox (P0 hN hv hd I) hk he hs).mono λ_ _ _ q=>GQ q
set_option maxHeartbeats 2000000
def tF (neg:Bool)(i:Nat)(I:Rho->R W)(ρ:Rho):mIn neg i I ρ=(I ρ>>=λw=>inD ρ[i]? w neg):=rfl
def tY (ks:List (List Int))(k:List Int):inD (some (.dic ks)) (.tup (k.map W.int)) false=.ok (decide (k∈ks)):=by unfold inD;rw[lT];rfl
def lM (i:Nat)(I me:Rho->R W)(ρ:Rho):ga i I me ρ=jJ ρ[i]? (me ρ) (I ρ) i ρ:=rfl
def fw (ks:List (List Int)) (w:W) (k:List Int) (i:Nat) (ρ:Rho) (h:jG (ρ.set i .un)=true) (I:ks.length<1000):jJ (some (.dic ks)) (.ok w) (.ok (.tup (k.map W.int))) i ρ=.ok (.nx (ρ.set i (.dic (mR ks k)))):=by
 show putD ks i (.tup (k.map W.int)) ρ=_;unfold putD;rw[lT];exact qA2 ⟨h,I⟩
def wN (i:Nat)(I me:Rho->R W)(ρ:Rho):jH i I me ρ=(I ρ>>=λw=>me ρ>>=λ_=>newD i w ρ):=rfl
def oj (i:Nat)(k:List Int)(ρ:Rho):newD i (.tup (k.map W.int)) ρ=.ok (.nx (ρ.set i (.dic [k]))):=by unfold newD;rw[lT]
def f9 {X:Cx}{K:Frag}{EX:EXT}{d:Mode}{p:Pos}{es:List Expr}{I:Rho->R (List W)}{i j}(O:PA X es (tA K EX d I)):PA X (.Constant (.int i) j p::es) (tA K EX d (aC (mC (.int i)) I)):=b7 d9 O Qo
def kJ {X:Cx}{K:Frag}{EX:EXT}{a0 a1 a2 a3 a4 a5}{u0 u1 u2 u3 u4 u5}{p0 I p2 p3 O p5:Pos}{pos:Pos}:PE X (.List [.Constant (.int a0) u0 p0,.Constant (.int a1) u1 I,.Constant (.int a2) u2 p2,.Constant (.int a3) u3 p3,.Constant (.int a4) u4 O,.Constant (.int a5) u5 p5] pos) (tM K EX .F (D8 (aC (mC (.int a0)) (aC (mC (.int a1)) (aC (mC (.int a2)) (aC (mC (.int a3)) (aC (mC (.int a4)) (aC (mC (.int a5)) aN)))))))):=by
 refine K3 ?_;refine f9 ?_;refine f9 ?_;refine f9 ?_;refine f9 ?_;refine f9 ?_;refine f9 ?_;exact b9
def DE {X:Cx}{K:Frag}{EX:EXT}{a0 a1 a2 a3 a4 a5 a6 a7}{u0 u1 u2 u3 u4 u5 u6 u7}{p0 I p2 p3 p4 p5 O p7:Pos}{pos:Pos}:PE X (.List [.Constant (.int a0) u0 p0,.Constant (.int a1) u1 I,.Constant (.int a2) u2 p2,.Constant (.int a3) u3 p3,.Constant (.int a4) u4 p4,.Constant (.int a5) u5 p5,.Constant (.int a6) u6 O,.Constant (.int a7) u7 p7] pos) (tM K EX .F (D8 (aC (mC (.int a0)) (aC (mC (.int a1)) (aC (mC (.int a2)) (aC (mC (.int a3)) (aC (mC (.int a4)) (aC (mC (.int a5)) (aC (mC (.int a6)) (aC (mC (.int a7)) aN)))))))))):=by
 refine K3 ?_;refine f9 ?_;refine f9 ?_;refine f9 ?_;refine f9 ?_;refine f9 ?_;refine f9 ?_;refine f9 ?_;refine f9 ?_;exact b9
def zM {X:Cx}{K:Frag}{EX:EXT}{a0 a1 a2 a3 a4 a5 a6 a7 a8 a9 a10}{u0 u1 u2 u3 u4 u5 u6 u7 u8 u9 u10}{p0 p1 p2 p3 p4 p5 p6 p7 p8 O I:Pos}{pos:Pos}:PE X (.List [.Constant (.int a0) u0 p0,.Constant (.int a1) u1 p1,.Constant (.int a2) u2 p2,.Constant (.int a3) u3 p3,.Constant (.int a4) u4 p4,.Constant (.int a5) u5 p5,.Constant (.int a6) u6 p6,.Constant (.int a7) u7 p7,.Constant (.int a8) u8 p8,.Constant (.int a9) u9 O,.Constant (.int a10) u10 I] pos) (tM K EX .F (D8 (aC (mC (.int a0)) (aC (mC (.int a1)) (aC (mC (.int a2)) (aC (mC (.int a3)) (aC (mC (.int a4)) (aC (mC (.int a5)) (aC (mC (.int a6)) (aC (mC (.int a7)) (aC (mC (.int a8)) (aC (mC (.int a9)) (aC (mC (.int a10)) aN))))))))))))):=by
 refine K3 ?_;refine f9 ?_;refine f9 ?_;refine f9 ?_;refine f9 ?_;refine f9 ?_;refine f9 ?_;refine f9 ?_;refine f9 ?_;refine f9 ?_;refine f9 ?_;refine f9 ?_;exact b9
end TP
namespace TB
open PySem PySem.W
def bits_of {ns:List Int}(h:WData.layableAll [WData.list (ns.map WData.int)]=true):∀x∈ns,Builtin.Int.intBits x<=1048576:=λx O=>by
 have h1:(WData.list (ns.map WData.int)).layable=true:=by simpa [WData.layableAll]using h
 have h2:(WData.list (ns.map WData.int)).weight<=2^20:=(layableW_iff.mp h1).2.2;have I:∀ms:List Int,x∈ms->Builtin.Int.intBits x<=WData.weightAll (ms.map WData.int):=by
  intro ms
  induction ms with
  |nil=>intro z;cases z
  | cons m ms ih=>
   intro z;rw[qC1]
   show _<=WData.weight (.int m)+1+WData.weightAll (ms.map WData.int);rcases qB3.mp z with e|e
   ·subst e
    have:WData.weight (.int x)=Builtin.Int.intBits x:=Qo
    omega
   ·have:=ih e
    omega
 exact qD7 (I ns O) (by simpa [WData.weight]using h2)
end TB
namespace Att
open PySem PySem.W PySem.Calls PyProof.Rows
def attach_callB {l:OpenLaw}(hn:l.most=some n) (a5:d.params.defaults = []) (call:∀(w:World) (s₀ I:Shared) (mg mb:Str->Option Value) (fa:Addr) (o:Obj) (pm cd doc:Value) (a:Addr) (vs:List Value) (ns:List Int),
   Ground q loose [] XP w s₀ mg mb I.heap->YP w I.heap ->
   I.heap.get? fa=some o->o.data=.func (docDef d.name d.params d.body d.scope pm cd doc)->I.heap.CodeRec cd d.name->mg d.name=some (.ref fa) ->
   I.heap.get? a=some { cls:=.type "list",data:=.seq vs.toArray }->IntsAre vs ns->ns.length<=n->(∀x∈ns,Builtin.Int.intBits x<=1048576)->I.gens=#[] ->
   codeAny (model l.prog w) callerA (.call (.ref fa) ⟨[.ref a],[]⟩) (λr s'=>r=.ok (.ret (.bool true))/\OldK I.heap s'.heap/\s'.os=I.os/\AllBare s'.gens) I):
  WalkO q loose XP YP l.row.toRowW d [] (λf vs=>PySem.call f vs):=by
 intro w s₀ I mg mb G Y fa o pm cd doc dV kV ho hd a7 hD a6 hg args vals as a3 a0 a8 a4 a9;obtain rfl:dV=.none:=Dflts.none hD a5;obtain rfl:kV=.none:=Dflts.noKw hD;obtain ⟨a,vs,ns,rfl,rfl,O,hints,hlen⟩:=rQ hn a3 a4;refine enter_call (codeAny_mono (call w s₀ I mg mb fa o pm cd doc a vs ns G Y ho (fd_plain hd) a7 a6 O hints hlen (TB.bits_of a0) hg) λr s' hq=>?_);obtain ⟨rfl,h2,h3,h4⟩:=hq;exact ⟨.inl ⟨.bool true,.bool true,[],rfl,λ_=>rfl,.bool true,sD l _,λ_=>⟨List.Pairwise.nil,λ_ hm=>(nomatch hm)⟩⟩,h2,h3,h4⟩
end Att
namespace L2
open PySem PySem.Spec PyProof.Rows
def vc {l:PySem.W.OpenLaw}{K:Params->Frag}{CX:World->CXT}{sp:World->Sp}(hn:l.most=some n) (a4:n<=sizeLine) (a3:d.params.defaults = []) (hr:Room k callerA) (hY:∀(w:World) (h:Heap),YP w h->(K w.params).In h) (hT:∀(w:World) (h:Heap),YP w h->∀p∈lamT,h.get? p.1=some { cls:=.none,data:=.fields #[] }/\isCodeTable h p.1/\(K w.params).lookup p.1=none/\lamT.lookup p.1=some p.2) (F:∀(w:World) (mg:Str->Option Value) (fa:Addr) (h:Heap),(K w.params).In h->h.Ns mainGlobals mg->mg d.name=some (.ref fa) ->
   ∃ fd:FuncData,(∀(s:Shared) (u:Value),BindsTo s fd ⟨[u],[]⟩ [(x,u)]) /\
    ∀base:Heap,(K w.params).In base->base.Ns mainGlobals mg->FnOk l.prog w (K w.params) mg base (CX w) k fa fd [x] (sp w)) (a0:∀(w:World) (H:Hp) (a:Addr) (ns:List Int),ns.length<=n->(∀x∈ns,Builtin.Int.intBits x<=1048576)->qQ H->SqL (K w.params) H a (ns.map V.int)->sp w [.ref a] H (λv _=>v=.bl true) λ_ _ _=>False) (a5:∀(w:World) (H:Hp) (s:Shared) (e:Value) (s':Shared),CX w [] H s (λ_ _ _=>False) e s'->False):
  PySem.W.WalkO q loose XP YP l.row.toRowW d [] (λf vs=>PySem.call f vs):=by
 refine Att.attach_callB hn a3 λw s₀ O mg mb fa o pm cd doc a vs ns G Y ho hd a8 a6 I hints hlen a7 hg=>?_;have KX:=hY w _ Y;obtain ⟨fd,hb,hF⟩:=F w mg fa _ KX G.T.g a6;exact wS KX G.T.g G.T.b G.T.builtins G.T.nolimit hg G.T.bmain (hT w _ Y) I hints (qD7 hlen a4) hr hF hb (λH hO hS=>a0 w H a ns hlen a7 hO hS) λH e s'=>a5 w H O e s'
def walk_ofKB {l:PySem.W.OpenLaw}{K:Params->Frag}{sp:Frag->Sp}(hn:l.most=some n) (a0:n<=sizeLine) (O:d.params.defaults = []) (hr:Room k callerA) (hY:∀(w:World) (h:Heap),YP w h->(K w.params).In h) (hT:∀(w:World) (h:Heap),YP w h->∀p∈lamT,h.get? p.1=some { cls:=.none,data:=.fields #[] }/\isCodeTable h p.1/\(K w.params).lookup p.1=none/\lamT.lookup p.1=some p.2) (F:∀(w:World) (mg:Str->Option Value) (fa:Addr) (h:Heap),(K w.params).In h->h.Ns mainGlobals mg->mg d.name=some (.ref fa) ->
   ∃ fd:FuncData,(∀(s:Shared) (u:Value),BindsTo s fd ⟨[u],[]⟩ [(x,u)]) /\
    ∀base:Heap,(K w.params).In base->base.Ns mainGlobals mg->FnOk l.prog w (K w.params) mg base CX k fa fd [x] (sp (K w.params))) (I:∀(K:Frag) (H:Hp) (a:Addr) (ns:List Int),ns.length<=n->(∀x∈ns,Builtin.Int.intBits x<=1048576)->qQ H->SqL K H a (ns.map V.int)->sp K [.ref a] H (λv _=>v=.bl true) λ_ _ _=>False) (a3:∀(H:Hp) (s:Shared) (e:Value) (s':Shared),CX [] H s (λ_ _ _=>False) e s'->False):
  PySem.W.WalkO q loose XP YP l.row.toRowW d [] (λf vs=>PySem.call f vs):=
 vc (K:=K) (CX:=λ_=>CX) (sp:=λw=>sp (K w.params)) hn a0 O hr hY hT F (λw H a ns h1 hb h2 h3=>I (K w.params) H a ns h1 hb h2 h3) λ_ H s e s'=>a3 H s e s'
end L2
namespace TP
open PySem L2
def CMulB (i j:Int):Prop:=CMul i j\/Builtin.Int.intBits i+Builtin.Int.intBits j<=134217728
instance (i j:Int):Decidable (CMulB i j):=by unfold CMulB;infer_instance
def CMulB.ok (h:CMulB i j):IntMulOk i j:=by
 rcases h with h|h
 ·exact h.ok
 ·exact IntMulOk.of_le (qB5 _) (qB5 _) h
def C5:OpR X (binaryOp .Mult) (rI CMulB λi j=>.int (i*j)):=opI λ_ _ _ _ _ _ _ hc q=>PyProof.Rows.mul_int q hc.ok
def tj {i j:Int}(h:-18446744073709551616<i/\i<18446744073709551616):fI CMulB v5 (.int i) (.int j)=.ok (.int (i*j)):=by
 show (if CMulB i j then _ else _)=_;exact qA2 (.inl (.inl h))
def tf {i j:Int}(h:-18446744073709551616<j/\j<18446744073709551616):fI CMulB v5 (.int i) (.int j)=.ok (.int (i*j)):=by
 show (if CMulB i j then _ else _)=_;exact qA2 (.inl (.inr h))
def cw {i j:Int}(h:Builtin.Int.intBits i+Builtin.Int.intBits j<=134217728):fI CMulB v5 (.int i) (.int j)=.ok (.int (i*j)):=by
 show (if CMulB i j then _ else _)=_;exact qA2 (.inr h)
def AL (G:FnOk P w K mg base CX0 k f fd ps (spM K 1 d F)) (h:∀ns:List Int,ns.length<=63->(∀x∈ns,Builtin.Int.intBits x<=1048576)->F [.scr (ns.map W.int)]=.ok (.bl true)):FnOk P w K mg base CX0 k f fd ps (λvs H Q _=>∃(a:Addr) (ns:List Int),vs = [.ref a]/\SqL K H a (ns.map V.int)/\ns.length<=63/\(∀x∈ns,Builtin.Int.intBits x<=1048576)/\∀H',Q (.bl true) H'):=
 G.imp λvs H Q E I=>by
  obtain ⟨a,ns,e,hs,O,hb,q⟩:=I;subst e;refine ⟨rfl,[.scr (ns.map W.int)],.cons (.scr hs ?_) .nil,?_⟩
  ·clear hs O hb
   induction ns with
   |nil=>exact .nil
   |cons n ns ih=>exact .cons .int ih
  ·rw [h ns O hb]
   intro v G' H' _ _ _ m;have e:v=.bl true:=by
    cases d <;> first | (cases m;rfl) | (rcases m with m|⟨_,_,_,_,z,_⟩ <;> first | (cases m;rfl)|cases z)
   subst e;exact q H'
end TP
namespace TL
open PySem
def Et:typeLookup (.type "list_reverseiterator") "__len__" = pure none:=by rw[typeLookup_type,qT7];kernel_rfl
def xh:typeLookup (.type "list_reverseiterator") "__length_hint__" = pure (some (.builtin "list_reverseiterator.__length_hint__")):=by rw[typeLookup_type,qT7];kernel_rfl
def sub_self:isSubtype (.type "list_reverseiterator") (.type "list_reverseiterator")=pure true:=by rw[isSubtype_type];kernel_rfl
def xf (a0:s.heap.IsRevIter I l i) (h:Q false s):wpAny (model prog w) A (Builtin.List.listLengthHint (.ref I)) Q E s:=by
 have O:=a0.typeIs;unfold Builtin.List.listLengthHint;refine qA1 (wpAny_specialOf O Et ?_)
 show wpAny _ _ (specialOf (Value.ref I) (Str.ofString "__length_hint__")>>=_) _ _ _;refine qA1 (wpAny_specialOf O xh ?_);have a3:splitId "list_reverseiterator.__length_hint__" = some ("list_reverseiterator","__length_hint__"):=by decide +kernel
 dsimp only;rw[a3];dsimp only;refine qA1 (wpAny_isInstance (T := "list_reverseiterator") (b:=true) O sub_self ?_);rw[qA4 (show ¬ ((!true)=true) by decide)];refine wpAny_ite_split (λ_=>?_) (λa4=>absurd (by decide +kernel) a4);rw[qA4 (show ¬ ((Value.builtin "list_reverseiterator.__length_hint__" == Value.builtin "range_iterator.__length_hint__")=true) by decide)];exact qO6 h
def Bp (a3:Value) (hh:A.handled=none) (ab:l≠I) (a0:s.heap.IsRevIter I l ((items.size:Int)-1)) (hl:s.heap.IsList l items) (a5:S≠I) (a8:S≠l) (hn:items.size<=sizeLine) (hS:s.heap.get? S=some { cls:=.type "list",data:=.seq #[] c₀ }) (hR:∀h' tk O c',(∀b o,b≠S->b≠I->s.heap.get? b=some o->h'.get? b=some o)->h'.get? S=some { cls:=.type "list",dict:=none,data:=.seq O c',slots:=#[] }->ItemsOf (λi v=>items[items.size-1-i]?=some v) O items.size->R (.ok (.ret a3)) { s with heap:=h',toks:=tk }):
  wpAny (model prog w) A.in1 (Builtin.List.listExtendWith (.ref S) (.ref I) a3)
   (λfin s'=>match fin with | .done f=>R (.ok f) s' | .again c'=>c'.quiet=true/\codeAny (model prog w) A c' R s') (λe s'=>R (.error e) s') s:=by
 have W:=(Walks.listRev (prog:=prog) (w:=w) (A:=A.in1) hh I l ab items).toS;have a6:S ∉ [I,l]:=by simp [a5,a8]
 unfold Builtin.List.listExtendWith;refine qA1 (wpAny_typeOf a0.typeIs ?_);have h1:Builtin.List.listSameRef (.ref S) (.ref I)=false:=by simp [Builtin.List.listSameRef,a5]
 have h2:(Value.type "list_reverseiterator" == Value.type "list")=false/\(Value.type "list_reverseiterator" == Value.type "tuple")=false:=Qz;rw[h1,h2.1,h2.2];simp only [Bool.or_false,qD4,qP1];refine qA1 (wpAny_pyIter_revIter a0 ?_);refine qA1 (qP2 (xf a0 ?_));refine wpAny_ite_split (λb0=>absurd b0 (by decide +kernel)) (λ_=>?_);refine qO6 ⟨qT4 F.plain_extend_loop _,?_⟩;refine codeAny_extend_loopS W hn S a6 a3 items.size 0 s #[] c₀ rfl (qD1 _) ⟨qD1 _,by simpa using a0,hl⟩ hS (ItemsOf.nil _) λs' O c' hm a7 a4=>?_;rw[Moved.eq_with hm];exact hR s'.heap s'.toks O c' (λb o hb a9 e=>hm.heap b o (by simp [hb,a9]) e) a7 a4
def call_list_rev (hh:A.handled=none) (b5:l≠I) (b6:s.heap.IsRevIter I l ((items.size:Int)-1)) (hl:s.heap.IsList l items) (hn:items.size<=sizeLine) (hQ:∀h' tk O c',(∀b o,b≠I->s.heap.get? b=some o->h'.get? b=some o)->h'.get? s.heap.objs.size=some { cls:=.type "list",dict:=none,data:=.seq O c',slots:=#[] }->ItemsOf (λi v=>items[items.size-1-i]?=some v) O items.size->Q (.ref s.heap.objs.size) { s with heap:=h',toks:=tk }):
  wpAny (model prog w) A (call (.type "list") [.ref I]) Q E s:=by
 obtain ⟨oi,hi,ab⟩:=id b6;obtain ⟨ol,a7,a8⟩:=id hl;have b3:s.heap.objs.size≠I:=λe=>absurd (qB4 hi) (by rw[<- e];exact qE2 _);have b4:s.heap.objs.size≠l:=λe=>absurd (qB4 a7) (by rw[<- e];exact qE2 _);refine callType_codes (Q₁:=λobj a0=>obj=.ref s.heap.objs.size/\a0={ s with heap:=s.heap.push { cls:=.type "list",data:=.seq #[] } }) F.called_list (F.typeCall_list_1 _) F.entry_list_init (code_list_new _ ⟨rfl,rfl⟩) λobj a0 a5=>?_;obtain ⟨rfl,rfl⟩:=a5;have hS:(s.heap.push { cls:=.type "list",data:=.seq #[] }).get? s.heap.objs.size=some { cls:=.type "list",data:=.seq #[] }:=qC2 _ rfl;refine ⟨⟨_,hS,rfl⟩,F.args_list_init_2 _ _,?_⟩
 show wpAny _ _ (do let a9 <- Builtin.List.listItems (.ref s.heap.objs.size);Builtin.List.listUpdate (.ref s.heap.objs.size) (λ_=>#[]);letGo a9.toList.reverse;Builtin.List.listExtendWith (.ref s.heap.objs.size) (.ref I) .none) _ _ _;refine qA1 ?_;unfold Builtin.List.listItems;refine qA1 (qP8 hS rfl (qO6 ?_))
 show wpAny _ _ (updateSeq s.heap.objs.size (λ_=>#[])>>=λ_=>letGo (#[]:Array Value).toList.reverse>>=λ_=>Builtin.List.listExtendWith (.ref s.heap.objs.size) (.ref I) .none) _ _ _;refine qA1 (qQ7 hS rfl ?_);have a3:=qK4 (Obj.mapSeq (λ_=>(#[]:Array Value))) hS rfl;have a4:∀b o,s.heap.get? b=some o->((s.heap.push { cls:=.type "list",data:=.seq #[] }).update s.heap.objs.size (Obj.mapSeq (λ_=>(#[]:Array Value)))).get? b=some o:=λb o e=>by
  have hb:b≠s.heap.objs.size:=λz=>absurd (qB4 e) (by rw[z];exact qE2 _);exact (qL5 _ _ (Ne.symm hb)).trans (qA5 _ e)
 refine qA1 (qQ9 ?_);refine Bp (s:={ s with heap:=(s.heap.push { cls:=.type "list",data:=.seq #[] }).update s.heap.objs.size (Obj.mapSeq (λ_=>(#[]:Array Value))) }) .none hh b5 ⟨oi,a4 _ _ hi,ab⟩ ⟨ol,a4 _ _ a7,a8⟩ b3 b4 hn a3 λh' tk O c' hk b0 a6=>?_;refine ⟨rfl,hQ h' tk O c' (λb o hb e=>hk b o (λz=>absurd (qB4 e) (by rw[z];exact qE2 _)) hb (a4 b o e)) b0 a6⟩
end TL
namespace TP
open PySem L2
def se {its:List Value}(h:ItemsOf (λi v=>its.toArray[its.toArray.size-1-i]?=some v) acc its.toArray.size):acc.toList=its.reverse:=by
 obtain ⟨O,h2⟩:=h;have I:its.toArray.size=its.length:=qB8;rw[I]at O;apply qG0
 ·rw[qM8,qC0,O]
 ·intro i q1 q2;have hi:i<acc.size:=by simpa using q1
  have:=h2 i acc[i] (Array.getElem?_eq_getElem hi)
  rw[I]at this;rw[List.getElem_reverse,Array.getElem_toList];have e:its.toArray[its.length-1-i]?=some (its[its.length-1-i]'ox):=Qy;rw[e]at this;exact (Option.some.inj this).symm
def tRv (K:Frag)(f:List V->HO)(ta:TA):TE:=λσ H Q=>ta σ H λvs H1=>∃a xs,vs = [.ref a]/\SqL K H1 a xs/\∀p,H1 p=none->Q (.ref p) (upd H1 p (f xs.reverse))
def zX {X:Cx}{a:Expr}{ta:TA}{p pos p2 O:Pos}(hc:X.calm=true) (a9:Gl X "list") (ab:X.mg "list" = none) (hg:Gl X "reversed") (hm:X.mg "reversed" = none) (ha:PA X [a] ta) (hs:starEach [a] X.env = [(false,eval a X.env)]:=by rfl) (a6:starEach [.Call (.Name "reversed" p2) [a] [] O] X.env = [(false,eval (.Call (.Name "reversed" p2) [a] [] O) X.env)]:=by rfl):PE X (.Call (.Name "list" p) [.Call (.Name "reversed" p2) [a] [] O] [] pos) (tRv X.K .lst ta):=by
 intro pins s σ H Q I h;refine qP6 (L9 I a9 ab oS ?_ Qz Qz);refine qH8 ?_ a6 Qo;rw[a6]
 show wpAny _ _ (spliced [(false,eval (.Call (.Name "reversed" p2) [a] [] O) X.env)]) _ _ s;refine Calls.spliced_cons ?_;refine qP6 (L9 I hg hm ny ?_ Qz Qz);refine qH8 (thn (ha O pins s σ H _ I h) λus s1 a7=>?_) hs Qo;obtain ⟨vs,H1,I1,r1,q1⟩:=a7;obtain ⟨b,xs,e,hq,q⟩:=q1;subst e;obtain ⟨u,rfl,ru⟩:=G9 r1;cases ru;obtain ⟨its,rv,pl,hz⟩:=I1.list hq;have hl:=rv.length;have hsz:its.toArray.size<=sizeLine:=by rw[qB8,<- hl];exact hz
 obtain ⟨ol,a4,a8⟩:=id pl.isList;have b0:b≠s1.heap.objs.size:=λz=>absurd (qB4 a4) (by rw[z];exact qE2 _);refine call_reversed_list pl.isList (Calls.spliced_nil ?_);refine TL.call_list_rev (s:={ s1 with heap:=s1.heap.push (revObj b ((its.toArray.size:Int)-1)) }) (I1.ok.hd hc) b0 ⟨_,qC2 _ rfl,rfl,rfl⟩ ⟨ol,qA5 _ a4,a8⟩ hsz λh' tk b3 c' hk hS a3=>?_;have e1:=se a3;have a0:∀b o,s1.heap.get? b=some o->h'.get? b=some o:=λb o e=>hk b o (λz=>absurd (qB4 e) (by rw[z];exact qE2 _)) (qA5 _ e);have a5:s1.heap.objs.size<=(s1.heap.push (revObj b ((its.toArray.size:Int)-1))).objs.size:=by rw[show (s1.heap.push (revObj b ((its.toArray.size:Int)-1))).objs.size=s1.heap.objs.size+1 from by simp [Heap.push]];omega
 refine ⟨.ref (s1.heap.push (revObj b ((its.toArray.size:Int)-1))).objs.size,_,I1.laid (t':=tk) a0 a5 (show ObjOk X.prog X.w _ h' _ (.lst xs.reverse) from ⟨by rw[qC0];exact hz,its.reverse,c',Vals.reverse rv,?_⟩),rfl,q _ (I1.hok.fresh a5)⟩;rw[<- e1];simpa using hS
def gn:List W->R W
 | [w]=>match w with
  | .lst ws=>chks false ws.reverse
  |_=>.stuck
 |_=>.stuck
def GP (h:tM K EX .F (bA gn ma) σ H Q):tRv K .lst (tA K EX .B ma) σ H Q:=by
 obtain ⟨H0,G,ρ,I,o⟩:=h;replace o:Out EX G H (mdW K .F H0 H) (ma ρ>>=gn) Q:=o
 refine ⟨H0,G,ρ,I,Out.bind o λxs G1 H1 ws e1 m1 O=>?_⟩;have I1:=I.ext e1;cases m1 with
 |nil=>exact O.elim
 | cons a t=>
  cases t with
  |cons _ _=>exact O.elim
  | nil=>
   rename_i w v
   cases w <;> first|exact O.elim|skip
   rename_i us
   obtain ⟨p,vs,rfl,hs,r⟩:=a.lstB I1;exact ⟨p,vs,rfl,SqL.of hs,Out.chks I1 e1.hh (c:=false) (by rw[qA4 qA9];exact r.reverse) O⟩
def DD {X:Cx}{K:Frag}{EX:EXT}{a:Expr}{pos:Pos}{mr:Rho->R (List W)}{p p2 I:Pos}(hc:X.calm=true) (a0:Gl X "list") (a3:X.mg "list" = none) (hg:Gl X "reversed") (hm:X.mg "reversed" = none) (ha:PA X [a] (tA K EX .B mr)) (hK:X.K=K:=by rfl) (hs:starEach [a] X.env = [(false,eval a X.env)]:=by rfl) (O:starEach [.Call (.Name "reversed" p2) [a] [] I] X.env = [(false,eval (.Call (.Name "reversed" p2) [a] [] I) X.env)]:=by rfl):PE X (.Call (.Name "list" p) [.Call (.Name "reversed" p2) [a] [] I] [] pos) (tM K EX .F (bA gn mr)):=by
 subst hK;exact (zX hc a0 a3 hg hm ha hs O).mono λ_ _ _ q=>GP q
def oF (ns:List Int):gn [.lst (ns.map W.int)]=.ok (.lst (ns.reverse.map W.int)):=by
 have hn:∀l:List Int,j7 (l.map W.int)=true:=λl=>by induction l with|nil=>rfl|cons a l I=>simpa [j7,noL]using I
 show TP.chks false (ns.map W.int).reverse=_;rw[<- qL2];unfold TP.chks;rw[hn,qU7,qA2 rfl]
def iB (u:W)(ws:List W):Option Nat:=(pds ws).findIdx? λy=>PyData.eqv y (pd u)
def kG (K:Frag):V->List V->Hp->VK->Prop:=λx vs H Q=>∃u ws y j,vs = [y]/\Rep K H y u/\Rep K H x (.lst ws)/\shp 8 u=true/\shp 8 (.lst ws)=true/\iB u ws=some j/\j<1000/\Q (.int (j:Int)) H
def wI (hu:X.A.units+64<cLine):MtR X "list.index" (kG X.K):=by
 intro pins s σ H x vs v us Q I rx rv h;obtain ⟨u,ws,y,j,rfl,ry,rc,su,sc,hj,a8,q⟩:=h;obtain ⟨uy,rfl,rr⟩:=rv.one;obtain ⟨as,qa⟩:=Rep.reads I 8 ry su rr;obtain ⟨bs,qb⟩:=Rep.reads I 8 rc sc rx;have la:=fJ u 8 su;have lc:=nK ws 7 sc;have hm:X.A.units+1+min (PyData.depthAll (pds ws)) (pd u).depth<cLine:=by have:=qN4 (PyData.depthAll (pds ws)) (pd u).depth;omega
 have qb:Reads s.heap v (.list (pds ws)) bs:=qb;cases qb with
 | list h1 h2 h3 h4=>
  rename_i a o items n as'
  obtain ⟨oc,od,a3,osl⟩:=o;have h2:oc=.type "list" := h2;have h3:a3=.seq items n:=h3;subst h2 h3;have a0:=SeqAt.readsAll_map (pds ws) _ _ lc.1 h4;have a4:=SeqAt.items_eqAt (A:=X.A) h4 qa lc.1 la.1 hm;unfold iB at hj;rw[<- a0,List.findIdx?_map,List.findIdx?_eq_some_iff_getElem]at hj;obtain ⟨a7,ht,a6⟩:=hj;have O:j<items.size:=by simpa using a7
  refine qR2 PySem.F.slot_list_index ⟨_,h1,rfl⟩ PySem.F.entry_list_index (PySem.F.args_list_index_2 _ _) (SeqAt.list_indexAt a items n od osl uy (λz=>PyData.eqv (SeqAt.readOf s.heap z) (pd u)) j O ox (by simpa using ht) (λm a9 a5=>by simpa using a6 m a5)) ⟨h1,a4,?_⟩;exact ⟨.int (j:Int),H,I.tok _,⟨_,rfl⟩,q⟩
def lV (ws:List W) (u:W):R W:=if (shp 8 u&&shp 8 (.lst ws))=true then (match iB u ws with
 |some j=>if j<1000 then .ok (.int (j:Int)) else .stuck
 |none=>.stuck) else .stuck
def Rix (x:R W) (y:R W):R W:=x>>=λx=>(match x with
 | .lst ws=>y>>=λy=>lV ws y
 |_=>.stuck)
def lL (mo me:Rho->R W):Rho->R W:=λρ=>Rix (mo ρ) (me ρ)
def oy (mo me:Rho->R W)(ρ:Rho):lL mo me ρ=Rix (mo ρ) (me ρ):=rfl
def uU (ws:List W)(u:W):Rix (.ok (.lst ws)) (.ok u)=lV ws u:=rfl
def BD (h:tM K EX d (lL mo me) σ H Q):tBM K "list" (kG K) (tM K EX .B mo) (tA K EX .B (aC me aN)) σ H Q:=by
 obtain ⟨H0,G,ρ,I,o⟩:=h;unfold lL Rix at o;refine ⟨H0,G,ρ,I,Out.bind o λx G1 H1 w e1 m1 o1=>?_⟩;have I1:=I.ext e1;cases w <;> first|exact o1.elim|skip
 rename_i ws
 obtain ⟨p,vs,rfl,hs,_⟩:=m1.lstB I1;refine ⟨.inl ⟨rfl,vs,SqL.of hs⟩,H0,G1,ρ,I1,?_⟩;have a0:Out EX G1 H1 (mdW K .B H0 H1) (me ρ) λy H2=>kG K (.ref p) [y] H2 Q:=Out.bind (md:=mdW K .B H0 H1) o1 λy G2 H2 u e2 m2 O=>by
  have I2:=I1.ext e2;unfold lV at O;by_cases c:(shp 8 u&&shp 8 (.lst ws))=true
  ·rw [qA2 c]at O
   have c':shp 8 u=true/\shp 8 (.lst ws)=true:=by simpa using c
   cases hj:iB u ws with
   |none=>rw[hj]at O;exact O.elim
   | some j=>
    rw[hj]at O;by_cases hl:j<1000
    ·dsimp only at O;rw[qA2 hl]at O;exact ⟨u,ws,y,j,rfl,m2.whole I2,(m1.move e2).whole I2,c'.1,c'.2,hj,hl,O _ G2 H2 (Ext.refl I2.gh) (Md.sca rfl (λ_=>.int) d)⟩
    ·dsimp only at O;rw[qA4 hl]at O;exact O.elim
  ·rw[qA4 c]at O;exact O.elim
 show Out EX G1 H1 (mdA K .B H0 H1) (me ρ>>=λw=>aN ρ>>=λws=>.ok (w::ws)) _
 revert a0
 cases me ρ with
 |stuck=>exact id
 |ex e=>exact id
 | ok u=>
  intro a0 v G2 H2 e2 m2;cases m2 with
  |cons a t=>cases t;exact a0 _ G2 H2 e2 a
def zN {X:Cx}{K:Frag}{EX:EXT}{d:Mode}{o e:Expr}{apos I:Pos}{mo me:Rho->R W}(hu:X.A.units+64<cLine) (ho:PE X o (tM K EX .B mo)) (he:PE X e (tM K EX .B me)) (hK:X.K=K:=by rfl) (a0:attributeBase o "index" X.env (eval o X.env)=eval o X.env:=by rfl) (a4:((backTo I (starEach [e] X.env)).all (λx=>!x.1)&&(backToKw I (keywordEach [] X.env)).all (λx=>x.1.isSome)
   && decide (([e]:List Expr).length+([]:List Keyword).length+(if ([]:List Keyword).isEmpty then 0 else 1)<30))=true:=by rfl) (a3:(apos.endLine == I.line)=true:=by rfl) (hs:starEach [e] X.env=(false,eval e X.env)::starEach [] X.env:=by rfl) (O:(backTo I (starEach [] X.env)).any (·.1)=false:=by rfl):
  PE X (.Call (.Attribute o "index" apos) [e] [] I) (tM K EX d (lL mo me)):=by
 subst hK;exact (HU qS6 PySem.F.slot_list_index PySem.F.type_list_index (wI hu) ho (b7 he b9 hs) a0 a4 a3 hs O).mono λ_ _ _ q=>BD q
def OutW (K:Frag) (EX:EXT) (d:Mode) (H0:Hp) (r:R Fl) (D:Ends):Prop:=match r with
 | .ok (.nx ρ)=>∀G' I H',PIv K H0 G' ρ I H'->D.nx I H'
 | .ok (.bk ρ)=>∀G' I H',PIv K H0 G' ρ I H'->D.bk I H'
 | .ok (.ct ρ)=>∀G' I H',PIv K H0 G' ρ I H'->D.ct I H'
 | .ok (.rt w)=>∀v G' H',Same G' H'->Same H0 H'->(∀a o,H0 a=some o->isL o=true->G' a=none)->Md K H0 H0 G' H' v w d->D.rt v H'
 | .ex e=>∀H',Same H0 H'->EX e H'
 | .stuck=>False
def tStW (K:Frag)(EX:EXT)(d:Mode)(m:Rho->R Fl):TS:=λD σ H=>∃H0 G ρ,PIv K H0 G ρ σ H/\OutW K EX d H0 (m ρ) D
def R9:upd H a o a=some o:=by unfold upd;rw[qA2 rfl]
def clS:Sl->Sl
 | .un=>.un
 | .val w=>if noL w=true then .val w else .un
 | .par w=>if noL w=true then .val w else .un
 | .own ws=>if j7 ws=true then .own ws else .un
 | .dic ks=>.dic ks
 | .dik ks=>.dik ks
 | .iop p ws=>if j7 ws=true then .iop p ws else .un
 | .hz _=>.un
def subS (i j:Nat)(us I:List W)(ρ:Rho):Rho:=(ρ.map clS).set i (.val (.tup (us.set j (.lst I))))
set_option maxHeartbeats 2000000
def Hx (p:Addr)(H0 H1:Hp):Prop:=(∀a,a≠p->H1 a=H0 a)/\∃vs,H1 p=some (.lst vs)
def OutIo (K:Frag) (EX:EXT) (p:Addr) (H0:Hp) (r:R Fl) (D:Ends):Prop:=match r with
 | .ok (.nx ρ)=>∀I G' O H',Hx p H0 I->PIv K I G' ρ O H'->D.nx O H'
 | .ok (.bk ρ)=>∀I G' O H',Hx p H0 I->PIv K I G' ρ O H'->D.rt .non H'
 | .ex e=>∀H',EX e H'
 |_=>False
def tStI (K:Frag)(EX:EXT)(p:Addr)(m:Rho->R Fl):TS:=λD σ H=>∃H0 G ρ,PIv K H0 G ρ σ H/\(∃vs,H0 p=some (.lst vs))/\OutIo K EX p H0 (m ρ) D
def nbR:R Fl->R Fl
 | .ok (.nx ρ)=>.ok (.nx ρ)
 | .ex e=>.ex e
 |_=>.stuck
def nb (m:Rho->R Fl):Rho->R Fl:=λρ=>nbR (m ρ)
def Hx.refl (h:∃vs,H0 p=some (.lst vs)):Hx p H0 H0:=⟨λ_ _=>rfl,h⟩
def Hx.trans (h:Hx p A B)(g:Hx p B C):Hx p A C:=⟨λa q=>(g.1 a q).trans (h.1 a q),g.2⟩
def OutIo.move (s:Hx p H0 H0') (o:OutIo K EX p H0 r D):OutIo K EX p H0' r D:=by
 cases r with
 |stuck=>exact o
 |ex e=>exact o
 | ok f=>
  cases f with
  |nx O=>exact λA G' I H' h I'=>o A G' I H' (s.trans h) I'
  |bk O=>exact λA G' I H' h I'=>o A G' I H' (s.trans h) I'
  |ct O=>exact o
  |rt w=>exact o
def OutIo.bind {md:α->β->Hp->Hp->Prop}(o:OutIo K EX p H0 (m>>=k) D) (h:∀x G1 H1 w,Ext G H G1 H1->md w x G1 H1->OutIo K EX p H0 (k w) D->Q1 x H1):Out EX G H md m Q1:=by
 cases m with
 |ok w=>exact λv G' H' e q=>h v G' H' w e q o
 |ex e=>exact λH' _=>o H'
 |stuck=>exact o
def tStI.toS (h:tStI K EX p (nb m) D σ H):tSt K EX d m D σ H:=by
 obtain ⟨H0,G,ρ,I,hp,o⟩:=h;refine ⟨H0,G,ρ,I,?_⟩;unfold nb at o
 revert o
 cases m ρ with
 |stuck=>exact id
 |ex e=>exact λo H' _=>o H'
 | ok f=>
  cases f with
  |nx O=>exact λo G' a0 H' _ I'=>o H0 G' a0 H' (Hx.refl hp) I'
  |bk O=>exact λo=>o.elim
  |ct O=>exact λo=>o.elim
  |rt w=>exact λo=>o.elim
def GH (h:tStI K EX p (e8 m n) D σ H):vt (tStI K EX p m) (tStI K EX p n) D σ H:=by
 obtain ⟨H0,G,ρ,I,hp,o⟩:=h;refine ⟨H0,G,ρ,I,hp,?_⟩;unfold e8 at o
 revert o
 cases m ρ with
 |stuck=>exact id
 |ex e=>exact id
 | ok f=>
  cases f with
  |nx O=>exact λo A G' a0 H' s I'=>⟨A,G',O,I',s.2,OutIo.move s o⟩
  |_=>exact id
def IM (h:tStI K EX p (mIf c m n) D σ H):vv (tT K EX c) (tStI K EX p m) (tStI K EX p n) D σ H:=by
 obtain ⟨H0,G,ρ,I,hp,o⟩:=h;refine ⟨H0,G,ρ,I,OutIo.bind o λx G1 H1 w e1 m1 O=>?_⟩;cases m1;cases x with
 |true=>exact ⟨H0,G1,ρ,I.ext e1,hp,O⟩
 |false=>exact ⟨H0,G1,ρ,I.ext e1,hp,O⟩
def pA:Rho->R Fl:=λρ=>.ok (.bk ρ)
def GJ (h:tStI K EX p pA D σ H):tRetN D σ H:=by
 obtain ⟨H0,G,ρ,I,O,o⟩:=h;exact o H0 G σ H (Hx.refl O) I
def clI:Sl->Sl
 | .un=>.un
 | .val w=>.val w
 | .par w=>if noL w=true then .val w else .un
 | .own ws=>.own ws
 | .dic ks=>.dic ks
 | .dik ks=>.dik ks
 | .iop _ _=>.un
 | .hz _=>.un
def Bx (h:clI s=.own ws):s=.own ws:=by
 cases s with
 |un=>cases h
 |val w=>cases h
 | par w=>
  by_cases c:noL w=true
  ·rw[clI,qA2 c]at h;cases h
  ·rw[clI,qA4 c]at h;cases h
 |own us=>exact h
 |dic ks=>cases h
 |dik ks=>cases h
 |iop q us=>cases h
 |hz _=>cases h
def appI (i:Nat)(p:Addr)(ws:List W)(ρ:Rho):Rho:=(ρ.map clI).set i (.iop p ws)
def PIv.appI (I:PIv K H0 G ρ σ H) (hi:i<ρ.length) (es:σ[i]?=some (some (.ref p))) (hp:H0 p=some (.lst vs)) (rv:Reps K G vs' ws):PIv K (upd H0 p (.lst vs')) G (appI i p ws ρ) σ (upd H p (.lst vs')):=by
 have gp:G p=none:=I.gl p _ hp rfl;refine ⟨λb o hb hl=>?_,λb o hb hl=>?_,λb o hb=>?_,λb o hb=>?_,?_,λk x o h1 h2=>?_,λx y u1 u2 c a7 h1 h2 h3 h4=>?_⟩
 ·by_cases q:b=p
  ·subst q;rw[R9]at hb;cases hb;cases hl
  ·rw[c8 q]at hb;exact I.g0 b o hb hl
 ·by_cases q:b=p
  ·subst q;exact gp
  ·rw[c8 q]at hb;exact I.gl b o hb hl
 ·have q:b≠p:=by rintro rfl;rw[gp]at hb;cases hb
  rw[c8 q];exact I.gh b o hb
 ·by_cases q:b=p
  ·subst q;rw[R9]at hb ⊢;exact hb
  ·rw[c8 q]at hb ⊢;exact I.hh b o hb
 ·unfold TP.appI;rw[qF4,qA6];exact I.len
 ·unfold TP.appI at h1;by_cases q:i=k
  ·subst q;rw[qG2 (by rw[qA6];exact hi)]at h1;cases h1;rw[es]at h2;cases h2;exact ⟨rfl,vs',R9,rv⟩
  ·rw [qB7 q,qA7]at h1
   obtain ⟨s,hs,rfl⟩:=qF9.mp h1;have a3:=I.sl k s o hs h2;cases s with
   |un=>trivial
   |val w=>exact a3
   | par w=>
    rw[clI];by_cases c:noL w=true
    ·rw [qA2 c]
     obtain ⟨v,ev,r⟩:=a3;exact ⟨v,ev,Rep.clean I r c⟩
    ·rw[qA4 c];trivial
   | own ws=>
    obtain ⟨b,a4,eb,hb,a5,O,rb⟩:=a3;have a0:b≠p:=by rintro rfl;rw[hp]at O;cases O
    exact ⟨b,a4,eb,by rw[c8 a0];exact hb,a5,by rw[c8 a0];exact O,rb⟩
   | dic ks=>
    obtain ⟨b,a4,eb,hb,a5,O,rb⟩:=a3;have a0:b≠p:=by rintro rfl;rw[hp]at O;cases O
    exact ⟨b,a4,eb,by rw[c8 a0];exact hb,a5,by rw[c8 a0];exact O,rb⟩
   | dik ks=>
    obtain ⟨b,a4,eb,hb,a5,O,rb⟩:=a3;have a0:b≠p:=by rintro rfl;rw[hp]at O;cases O
    exact ⟨b,a4,eb,by rw[c8 a0];exact hb,a5,by rw[c8 a0];exact O,rb⟩
   |iop q us=>trivial
   |hz _=>trivial
 ·have a6:∀{k:Nat}{u:List W},(TP.appI i p ws ρ)[k]?=some (.own u)->ρ[k]?=some (.own u):=λ{k u} hk=>by
   unfold TP.appI at hk;by_cases q:i=k
   ·subst q;rw[qG2 (by rw[qA6];exact hi)]at hk;cases hk
   ·rw [qB7 q,qA7]at hk
    obtain ⟨s,hs,h⟩:=qF9.mp hk;rw[hs,Bx h]
  exact I.ne x y u1 u2 c a7 (a6 h1) (a6 h2) h3 h4
def dr (p:Addr) (i:Nat) (m:Rho->R W):Rho->R Fl:=λρ=>match ρ[i]? with
 |some (.iop q ws)=>m ρ>>=λw=>if q=p/\ws.length<1000 then .ok (.nx (appI i p (ws ++ [w]) ρ)) else .stuck
 |_=>.stuck
def GV (h:tStI K EX p (dr p i m) D σ H):fF (vw (P8 i) (tM K EX .V m)) D σ H:=by
 obtain ⟨H0,G,ρ,I,hp,o⟩:=h;unfold dr at o
 split at o
 ·rename_i q ws e
  have hi:=(qB0.mp e).1;have hs:i<σ.length:=by rw[<- I.len];exact hi
  have es:σ[i]?=some σ[i]:=Qy;obtain ⟨ev,vs,h0,r⟩:=I.sl i _ _ e es;have hq:=I.hh q _ h0;refine ⟨.ref q,by rw[es,ev],q,rfl,⟨vs,hq⟩,H0,G,ρ,I,OutIo.bind o λx G1 H1 w e1 m1 o1=>?_⟩;by_cases O:q=p/\ws.length<1000
  ·rw [qA2 O]at o1
   obtain ⟨rfl,O⟩:=O;have h1:=e1.hh q _ hq;dsimp only;rw[h1];dsimp only;have hlen:vs.length=ws.length:=r.length;exact ⟨qB6 (by omega:vs.length<1000) Qz,o1 _ G1 σ _ ⟨λa ha=>c8 ha,_,R9⟩ ((I.ext e1).appI hi (by rw[es,ev]) h0 ((r.same e1.gg).snoc m1))⟩
  ·rw[qA4 O]at o1;exact o1.elim
 ·exact o.elim
def ioR (p:Addr) (ρ:Rho):R (List W):=match (ρ[1]?:Option Sl) with
 |some (.iop q cs)=>if q=p then .ok cs else .stuck
 |_=>.stuck
def Y9 (n N:Nat) (m:Addr->Rho->R Fl) (p:Addr) (w1:W) (cs wr:List W):R (List W):=if wr.length+2=n/\j7 cs=true then (match m p (.par w1::.iop p cs::(wr.map Sl.par++List.replicate (N-n) Sl.un)) with
 | .ok (.nx ρ)=>ioR p ρ
 | .ok (.bk ρ)=>ioR p ρ
 |_=>.stuck) else .stuck
open Classical in
def F1 (n N:Nat)(m:Addr->Rho->R Fl)(w1:W)(cs wr:List W):R (List W):=if h:∃I,∀p,Y9 n N m p w1 cs wr=.ok I then .ok (Classical.choose h) else .stuck
def dP (h:F1 n N m w1 cs wr=.ok cs') (p:Addr):Y9 n N m p w1 cs wr=.ok cs':=by
 unfold F1 at h
 split at h
 ·rename_i q
  cases h;exact Classical.choose_spec q p
 ·cases h
def rZ (h:∀p,Y9 n N m p w1 cs wr=.ok I):F1 n N m w1 cs wr=.ok I:=by
 have O:∃I,∀p,Y9 n N m p w1 cs wr=.ok I:=⟨I,h⟩;unfold F1;rw[dif_pos O]
 have:=Classical.choose_spec O (0:Nat)
 rw[h]at this;cases this;rfl
def sd:F1 n N m w1 cs wr=.stuck\/∃I,F1 n N m w1 cs wr=.ok I:=by
 unfold F1
 split
 ·exact .inr ⟨_,rfl⟩
 ·exact .inl rfl
def iT (h:Y9 n N m p w1 cs wr=.ok cs'):wr.length+2=n/\j7 cs=true:=by
 unfold Y9 at h;by_cases e:wr.length+2=n/\j7 cs=true
 ·exact e
 ·rw[qA4 e]at h;cases h
def gO (K:Frag) (n:Nat) (f:W->List W->List W->R (List W)):Sp:=λvs H Q _=>vs.length=n/\∃v1 p vr w1 cs wr us I,vs=v1::.ref p::vr/\H p=some (.lst us)/\Rep K H v1 w1/\Reps K H vr wr/\Reps K H us cs/\f w1 cs wr=.ok I /\
 ∀H' O G',(∀a o,a≠p->H a=some o->H' a=some o)->H' p=some (.lst O)->Same G' H'->(∀a o,H a=some o->isL o=true->G' a=none)->Reps K G' O I->Q .non H'
def PIv.toIop (I:PIv K H0 G ρ σ H) (hi:i<ρ.length) (es:σ[i]?=some (some (.ref p))) (hp:H0 p=some (.lst us)) (r:Reps K G us cs):PIv K H0 G (ρ.set i (.iop p cs)) σ H:=by
 refine ⟨I.g0,I.gl,I.gh,I.hh,by rw[qF4];exact I.len,λk x o O h2=>?_,λx y u1 u2 c a3 O h2 h3 h4=>?_⟩
 ·by_cases q:i=k
  ·subst q;rw[qG2 hi]at O;cases O;rw[es]at h2;cases h2;exact ⟨rfl,us,hp,r⟩
  ·rw [qB7 q]at O
   exact I.sl k x o O h2
 ·have a0:∀{k:Nat}{u:List W},(ρ.set i (.iop p cs))[k]?=some (.own u)->ρ[k]?=some (.own u):=λ{k u} hk=>by
   by_cases q:i=k
   ·subst q;rw[qG2 hi]at hk;cases hk
   ·rw[qB7 q]at hk;exact hk
  exact I.ne x y u1 u2 c a3 (a0 O) (a0 h2) h3 h4
def BF (h:gO K n (F1 n Nl.length m) vs H Q E):∃p,tStI K (λ_ _=>False) p (m p) { nx:=λ_ H'=>Q .non H',rt:=Q } (L2.start Nl vs) H:=by
 obtain ⟨hl,v1,p,vr,w1,cs,wr,us,a6,rfl,hp,r1,rr,ru,hf,hq⟩:=h;have a0:=dP hf p;obtain ⟨hn,a4⟩:=iT a0;have ra:Reps K H (v1::.ref p::vr) (w1::.lst cs::wr):=.cons r1 (.cons (.lst hp ru) rr);have I0:=PIv.begin (k:=Nl.length-n) (k':=Nl.length-n) ra rfl;have a8:Reps K (bf H) us cs:=Reps.clean I0 (by rw[jm];exact ru) a4;have I1:=I0.toIop (i:=1) (p:=p) (cs:=cs) (us:=us) Qy rfl hp a8;refine ⟨p,H,bf H,Sl.par w1::.iop p cs::(wr.map Sl.par++List.replicate (Nl.length-n) Sl.un),?_,⟨us,hp⟩,?_⟩
 ·have e:L2.start Nl (v1::.ref p::vr)=((v1::.ref p::vr).map some++List.replicate (Nl.length-n) none):=by unfold L2.start;rw[hl]
  rw[e];exact I1
 ·unfold Y9 at a0;rw[qA2 ⟨hn,a4⟩]at a0;have fin:∀ρ,ioR p ρ=.ok a6->∀O G' I H',Hx p H O->PIv K O G' ρ I H'->Q .non H':=λρ hr O G' I H' hx I'=>by
   unfold ioR at hr
   split at hr
   ·rename_i q cs2 e2
    by_cases e3:q=p
    ·rw [qA2 e3]at hr
     cases hr;subst e3;have hi:1<I.length:=by rw[<- I'.len];exact (qB0.mp e2).1
     obtain ⟨_,a7,a5,r'⟩:=I'.sl 1 _ _ e2 (show I[1]?=some I[1] by simp);refine hq H' a7 G' (λa o ha hb=>I'.hh a o (by rw[hx.1 a ha];exact hb)) (I'.hh _ _ a5) I'.gh (λa o hb hl=>?_) r';by_cases e4:a=q
     ·subst e4;exact I'.gl a _ a5 rfl
     ·exact I'.gl a o (by rw[hx.1 a e4];exact hb) hl
    ·rw[qA4 e3]at hr;cases hr
   ·cases hr
  revert a0
  cases m p (.par w1::.iop p cs::(wr.map Sl.par++List.replicate (Nl.length-n) Sl.un)) with
  |stuck=>exact λh=>nomatch h
  |ex e=>exact λh=>nomatch h
  | ok f=>
   cases f with
   |nx a3=>exact λh O G' I H' hx I'=>fin a3 h O G' I H' hx I'
   |bk a3=>exact λh O G' I H' hx I'=>fin a3 h O G' I H' hx I'
   |ct a3=>exact λh=>nomatch h
   |rt w=>exact λh=>nomatch h
def mIO (i:Nat) (f:W->List W->List W->R (List W)) (m1:Rho->R W) (O:Rho->R (List W)):Rho->R Fl:=λρ=>match ρ[i]? with
 |some (.own cs)=>m1 ρ>>=λw1=>O ρ>>=λwr=>f w1 cs wr>>=λI=>.ok (.nx (ρ.set i (.own I)))
 |_=>.stuck
def BE (hf:∀w1 cs wr,f w1 cs wr=.stuck\/∃a6,f w1 cs wr=.ok a6/\wr.length+2=n) (h:tSt K EX d (mIO i f m1 mr) D σ H):
  fF (pj (gO K n f) [] E (aT (tM K EX .B m1) (aT (P8 i) (tA K EX .B mr)))) D σ H:=by
 obtain ⟨H0,G,ρ,I,o⟩:=h;unfold mIO at o
 split at o
 ·rename_i cs e
  obtain ⟨a,vs,es,ha,hg,h0,r⟩:=I.own_at e;refine ⟨H0,G,ρ,I,OutS.bind I o λx G1 H1 w1 e1 m1 o1=>⟨.ref a,es,H0,G1,ρ,I.ext e1,OutS.bind (I.ext e1) o1 λxs G2 H2 wr e2 m2 o2=>?_⟩⟩;have I2:=(I.ext e1).ext e2;rcases hf w1 cs wr with hs|⟨a6,hs,hn⟩
  ·rw[hs]at o2;exact o2.elim
  rw[hs,R.ok_bind]at o2;have rx:=MdA.whole I2 m2;have a0:H2 a=some (.lst vs):=e2.hh _ _ (e1.hh _ _ ha);have a8:G2 a=none:=e2.keep _ _ (e1.hh _ _ ha) rfl (e1.keep _ _ ha rfl hg);have r2:Reps K G2 vs cs:=(r.same e1.gg).same e2.gg
  show gO K n f ((x::.ref a::xs) ++ []) H2 (λ_ H1=>D.nx σ H1) E;rw[qG3];refine ⟨?_,x,a,xs,w1,cs,wr,vs,a6,rfl,a0,(m1.move e2).whole I2,rx,r2.same I2.gh,hs,λH' ab G' k1 k2 gH cl rr=>?_⟩
  ·rw[qC5,qC5,rx.length];exact hn
  have c1:G' a=none:=cl a _ a0 rfl;have hk:∀b o,G2 b=some o->H' b=some o:=λb o q=>k1 b o (by rintro rfl;rw[a8]at q;cases q) (I2.gh b o q);have sB:Same G2 (both G2 G'):=λb o q=>by unfold both;rw[q]
  have b3:Same G' (both G2 G'):=λb o q=>by
   unfold both;cases q1:G2 b with
   |none=>exact q
   | some u=>
    have a1:=hk b u q1;rw[gH b o q]at a1;exact a1.symm
  have b0:Same (both G2 G') H':=λb o q=>by
   unfold both at q;cases q1:G2 b with
   |none=>rw[q1]at q;exact gH b o q
   |some u=>rw[q1]at q;cases q;exact hk b _ q1
  have bn:∀b o,H2 b=some o->isL o=true->G2 b=none->both G2 G' b=none:=λb o q l g=>by unfold both;rw[g];exact cl b o q l
  have hi:=(qB0.mp e).1;refine o2 (both G2 G') σ H' sB ⟨λb o q l=>sB b o (I2.g0 b o q l),λb o q l=>bn b o (I2.hh b o q) l (I2.gl b o q l),b0,λb o q=>k1 b o (by rintro rfl;rw[h0]at q;cases q) (I2.hh b o q),by rw[qF4];exact I2.len,λk y o h1 h2=>?_,λx1 y1 u1 u2 c b5 h1 h2 h3 h4=>?_⟩
  ·by_cases q:i=k
   ·subst q;rw[qG2 hi]at h1;cases h1;rw[es]at h2;cases h2;exact ⟨a,ab,rfl,k2,bn a _ a0 rfl a8,h0,rr.same b3⟩
   ·rw [qB7 q]at h1
    have O:=I2.sl k y o h1 h2;cases y with
    |un=>trivial
    |val w=>obtain ⟨v,ev,r⟩:=O;exact ⟨v,ev,r.same sB⟩
    |par w=>obtain ⟨v,ev,r⟩:=O;exact ⟨v,ev,r.same (w6 sB)⟩
    | own ws=>
     obtain ⟨b,us2,eb,hb,a3,a5,rb⟩:=O;subst eb;have a4:b≠a:=by
      rintro rfl;exact I.ne i k cs ws b q e h1 es h2
     exact ⟨b,us2,rfl,k1 b _ a4 hb,bn b _ hb rfl a3,a5,rb.same sB⟩
    | dic ks=>
     obtain ⟨b,us2,eb,hb,a3,a5,rb⟩:=O;have a4:b≠a:=by
      rintro rfl;rw[a0]at hb;cases hb
     exact ⟨b,us2,eb,k1 b _ a4 hb,bn b _ hb rfl a3,a5,rb⟩
    | dik ks=>
     obtain ⟨b,us2,eb,hb,a3,a5,rb⟩:=O;have a4:b≠a:=by
      rintro rfl;rw[a0]at hb;cases hb
     exact ⟨b,us2,eb,k1 b _ a4 hb,bn b _ hb rfl a3,a5,rb⟩
    |iop q us=>obtain ⟨ev,b4,b6,r1⟩:=O;exact ⟨ev,b4,b6,r1.same sB⟩
    |hz w=>obtain ⟨v,ev,r⟩:=O;exact ⟨v,ev,r.same (w6 (Z5 sB))⟩
  ·have a7:∀{k:Nat}{u:List W},(ρ.set i (.own a6))[k]?=some (.own u)->∃u',ρ[k]?=some (.own u'):=λ{k u} hk=>by
    by_cases q:i=k
    ·subst q;exact ⟨cs,e⟩
    ·rw[qB7 q]at hk;exact ⟨u,hk⟩
   obtain ⟨v1,a9⟩:=a7 h1;obtain ⟨v2,c0⟩:=a7 h2;exact I.ne x1 y1 v1 v2 c b5 a9 c0 h3 h4
 ·exact o.elim
def q_i {X:Cx}{K:Frag}{EX:EXT}{d:Mode}{m:Rho->R Fl}{st:Stmt}{p:Addr}(h:PS X st (tSt K EX d m)):PS X st (tStI K EX p (nb m)):=h.mono λ_ _ _ q=>q.toS
def DF {X:Cx}{K:Frag}{EX:EXT}{d:Mode}{m:Rho->R Fl}{I:List Stmt}{p:Addr}(h:PSs X I (tSt K EX d m)):PSs X I (tStI K EX p (nb m)):=h.mono λ_ _ _ q=>q.toS
def dh (O:PS X st (tStI K EX p m))(I:PSs X sts (tStI K EX p n)):PSs X (st::sts) (tStI K EX p (e8 m n)):=(kM O I).mono λ_ _ _ q=>GH q
def ie (I:PS X st (tStI K EX p m)):PSs X [st] (tStI K EX p m):=nV I
def yl (hc:PT X c (tT K EX ta))(ha:PSs X x (tStI K EX p m))(I:PSs X y (tStI K EX p n)):PS X (.If c x y pos) (tStI K EX p (mIf ta m n)):=(yo hc ha I).mono λ_ _ _ q=>IM q
def DB:PS X (.Return none pos) (tStI K EX p pA):=ps_retN.mono λ_ _ _ q=>GJ q
def DL {X:Cx}{K:Frag}{EX:EXT}{e:Expr}{pos:Pos}{ma:Rho->R W}{p:Addr}{i:Nat}{x:Str}{p1 apos I:Pos}(hN:X.N[i]?=some x) (hv:Vis X.env.scope x) (ha:PE X e (tM K EX .V ma)) (hd:(x == ("__debug__" : Str))=false:=by decide) (a4:(x == ("__classdict__" : Str))=false:=by decide) (O:attributeBase (.Name x p1) "append" X.env (eval (.Name x p1) X.env)=eval (.Name x p1) X.env:=by rfl) (a3:((backTo I (starEach [e] X.env)).all (λx=>!x.1)&&(backToKw I (keywordEach [] X.env)).all (λx=>x.1.isSome)
   && decide (([e]:List Expr).length+([]:List Keyword).length+(if ([]:List Keyword).isEmpty then 0 else 1)<30))=true:=by rfl) (a0:(apos.endLine == I.line)=true:=by rfl) (hs:starEach [e] X.env=(false,eval e X.env)::starEach [] X.env:=by rfl) (a5:swapsWith (.Call (.Attribute (.Name x p1) "append" apos) [e] [] I) none pos.line X.env=pure false:=by rfl):
  PS X (.Expr (.Call (.Attribute (.Name x p1) "append" apos) [e] [] I) pos) (tStI K EX p (dr p i ma)):=(dj (iY (P0 hN hv hd a4) ha O a3 a0 hs) a5).mono λ_ _ _ q=>GV q
def zO {X:Cx}{K:Frag}{d:Mode}{e:Expr}{es:List Expr}{pos:Pos}{ma:Rho->R W}{mr:Rho->R (List W)}{i k:Nat}{y:Str}{p1 O I:Pos}{f:Addr}{fd:FuncData}{ps:List Str}{x:Str}{n N:Nat}{m:Addr->Rho->R Fl}(hN:X.N[i]?=some y) (hv:Vis X.env.scope y) (F:FnOk X.prog X.w X.K X.mg X.base CX0 k f fd ps (gO K n (F1 n N m))) (hr:Room k X.A) (hg:Gl X x) (hm:X.mg x=some (.ref f)) (hk:PySem.W.keepIn X.K (.ref f)=true) (hb:Binds X.K fd ps []) (h1:PE X e (tM K (λ_ _=>False) .B ma)) (h2:PA X es (tA K (λ_ _=>False) .B mr)) (hd:(y == ("__debug__" : Str))=false:=by decide) (a6:(y == ("__classdict__" : Str))=false:=by decide) (a5:(x == ("__debug__" : Str))=false:=by decide) (he:starEach (e::.Name y O::es) X.env=(false,eval e X.env)::starEach (.Name y O::es) X.env:=by rfl) (a4:starEach (.Name y O::es) X.env=(false,eval (.Name y O) X.env)::starEach es X.env:=by rfl) (a0:(backTo I (starEach (.Name y O::es) X.env)).any (·.1)=false:=by rfl) (a3:swapsWith (.Call (.Name x p1) (e::.Name y O::es) [] I) none pos.line X.env=pure false:=by rfl):
  PS X (.Expr (.Call (.Name x p1) (e::.Name y O::es) [] I) pos) (tSt K (λ_ _=>False) d (mIO i (F1 n N m) ma mr)):=
 (dj (nZ F hr hg hm hk hb .nil pL (dl h1 (dl (P0 hN hv hd a6) h2 a4) he) a5 he a0) a3).mono λ_ _ _ q=>BE (λw1 cs wr=>by
  rcases sd (n:=n) (N:=N) (m:=m) (w1:=w1) (cs:=cs) (wr:=wr) with h|⟨cs',h⟩
  ·exact .inl h
  ·exact .inr ⟨cs',h,(iT (dP h (0:Nat))).1⟩) q
def mIns (i:Nat) (m:Rho->R W):Rho->R Fl:=λρ=>match ρ[i]? with
 |some (.own ws)=>m ρ>>=λw=>if ws.length<1000 then .ok (.nx (ρ.set i (.own (w::ws)))) else .stuck
 |_=>.stuck
def r9:List (List Int)->List (List Int)->Bool
 | [],[]=>false
 | [],_::_=>true
 |_::_,[]=>false
 |a::as,b::bs=>if a=b then r9 as bs else lexLt a b
def lO:∀a,r9 a a=false
 | []=>rfl
 |x::a=>by unfold r9;rw[qA2 rfl];exact lO a
def iy:∀a b c,r9 a b=true->r9 b c=true->r9 a c=true
 | [],[],_,h,_=>by cases h
 | [],_::_,[],_,h=>by cases h
 | [],_::_,_::_,_,_=>rfl
 |_::_,[],_,h,_=>by cases h
 |_::_,_::_,[],_,h=>by cases h
 | x::a,y::b,z::c,h1,h2=>by
  unfold r9 at h1 h2 ⊢;by_cases e1:x=y
  ·subst e1;rw[qA2 rfl]at h1;by_cases I:x=z
   ·subst I;rw[qA2 rfl]at h2 ⊢;exact iy a b c h1 h2
   ·rw[qA4 I]at h2 ⊢;exact h2
  ·rw [qA4 e1]at h1
   by_cases I:y=z
   ·subst I;rw[qA4 e1];exact h1
   ·rw [qA4 I]at h2
    have O:=cH _ _ _ h1 h2;by_cases e3:x=z
    ·subst e3;rw[aJ]at O;cases O
    ·rw[qA4 e3];exact O
def bj:∀a b,r9 a b=false->r9 b a=false->a=b
 | [],[],_,_=>rfl
 | [],_::_,h,_=>by cases h
 |_::_,[],_,h=>by cases h
 | x::a,y::b,h1,h2=>by
  unfold r9 at h1 h2;by_cases e:x=y
  ·subst e;rw[qA2 rfl]at h1 h2;rw[bj a b h1 h2]
  ·rw [qA4 e]at h1
   rw[qA4 (λz=>e z.symm)]at h2;exact absurd (du _ _ h1 h2) e
def M5 (ss:List (List (List Int)))(i:Nat):Int:=((ss.countP λx=>r9 x (ss.getD i [])):Nat)
def ud {ss:List (List (List Int))}(h:i<ss.length):ss.getD i []∈ss:=by
 rw[qA0];simp [h]
def kC (hi:i<ss.length) (hj:j<ss.length):decide (M5 ss i<M5 ss j)=r9 (ss.getD i []) (ss.getD j []):=by
 cases h:r9 (ss.getD i []) (ss.getD j []) with
 | true=>
  apply qO8;unfold M5
  have:=uC (l:=ss) (p:=λx=>r9 x (ss.getD i [])) (q:=λx=>r9 x (ss.getD j [])) (λx _ I=>iy _ _ _ I h) ⟨_,ud hi,h,lO _⟩
  omega
 | false=>
  apply qO7;unfold M5
  have:ss.countP (λx=>r9 x (ss.getD j []))<=ss.countP λx=>r9 x (ss.getD i []):=by
   apply qT8;intro x _ I;cases O:r9 (ss.getD j []) (ss.getD i []) with
   |true=>exact iy _ _ _ I O
   |false=>rw[bj _ _ h O];exact I
  omega
def Q3 (ss:List (List (List Int))):List Nat:=if ss.length<2 then List.range ss.length else (runK (M5 ss) (PySem.W.kas_sort ss.length)).toList
def N6 (ss:List (List (List Int))):(Q3 ss).Perm (List.range ss.length):=by
 unfold Q3
 split
 ·exact .refl _
 ·rename_i h
  have:=(de (M5 ss) (n:=ss.length) ox).1
  exact (qK9.mp this).trans Qy
def Ab (ss:List (List (List Int))):(Q3 ss).Pairwise λi j=>r9 (ss.getD j []) (ss.getD i [])=false:=by
 unfold Q3
 split
 ·rename_i h
  have:ss.length=0\/ss.length=1:=ox
  rcases this with e|e <;> rw[e] <;> simp
 ·rename_i h
  have k:=de (M5 ss) (n:=ss.length) ox;have O:=qK9.mp k.1;have hl:(runK (M5 ss) (PySem.W.kas_sort ss.length)).toList.length=ss.length:=by have:=O.length_eq;simpa using this
  have hm:∀x∈(runK (M5 ss) (PySem.W.kas_sort ss.length)).toList,x<ss.length:=λx hx=>by have:=O.mem_iff.mp hx;simpa using this
  have hu:=ax (M5 ss) k.2;generalize runK (M5 ss) (PySem.W.kas_sort ss.length)=p at hl hm hu
  rw[qG8];intro i j hi I a0
  have:=hu j i ox ox
  unfold ky at this;have ei:p.getD i 0=p.toList[i]:=by rw[qF6];simp at hi ⊢;simp [hi]
  have ej:p.getD j 0=p.toList[j]:=by rw[qF6];simp at I ⊢;simp [I]
  rw[ei,ej]at this;rw[<- kC (hm _ (qF0 I)) (hm _ (qF0 hi))];exact qO7 ox
def x6 {α:Type}(ks:List (List (List Int)))(d:α)(vs:List α):List α:=((Q3 ks.reverse).map λi=>vs.reverse.getD i d).reverse
def kR (ks:List (List (List Int))) (d:α) (vs:List α):(x6 ks d vs).length=ks.length:=by
 unfold x6;rw[qC0,qA6,(N6 ks.reverse).length_eq,qF5,qC0]
def iV {α:Type}(d:α) (vs:List α):(List.range vs.length).map (λi=>vs.getD i d)=vs:=by
 apply qG0
 ·simp
 ·intro i O I;simp [I]
def sN {d:α}(I:vs.length=ks.length):(x6 ks d vs).Perm vs:=by
 unfold x6;refine (qL9 _).trans ?_
 have:=(N6 ks.reverse).map λi=>vs.reverse.getD i d
 rw[show ks.reverse.length=vs.reverse.length by rw[qC0,qC0,I],iV]at this;exact this.trans (qL9 _)
def fm (fin:Bool):List (List Int×List Int)->Bool
 | []=>fin
 | (a,b)::r=>if a=b then fm fin r else lexLt a b
def oB:∀xs ys:List (List Int),fm (decide (xs.length<ys.length)) (xs.zip ys)=r9 xs ys
 | [],[]=>rfl
 | [],_::_=>by simp [fm,r9]
 |_::_,[]=>by simp [fm,r9]
 | x::xs,y::ys=>by
  have:=oB xs ys
  simp only [qK2,fm,r9,qC5,Nat.add_lt_add_iff_right];rw[this]
section
open PySem.W PyProof.Rows
def items_int:∀{xs:List Int}{its:List Value},Vals (xs.map V.int) its->ItemsAre (intKind prog w) xs its:=by
 intro xs
 induction xs with
 |nil=>intro its h;cases h;exact .nil
 | cons x xs I=>
  intro its h;cases h with
  | cons r t=>
   obtain ⟨O,rfl⟩:=r;exact .cons (by simp [intKind,Value.isInt]) (I t)
def Bq (hu:A.units<cLine) (hv:L3 s.heap v xs) (hw:L3 s.heap u ys) (h:Q (decide (xs=ys)) s):wpAny (model prog w) A (eqBool v u) Q E s:=by
 obtain ⟨a,o,its,m,rfl,ho,hc,hd,rv⟩:=hv;obtain ⟨b,o2,a4,m2,rfl,a3,a0,I,O⟩:=hw;exact wpAny_eqBool_tuple (knd:=intKind prog w) hu ⟨o,_,m,ho,hc,hd,by simpa using items_int rv⟩ ⟨o2,_,m2,a3,a0,I,by simpa using items_int O⟩ h
def AG (hu:A.units+64<cLine) (hv:L3 s.heap v xs) (hw:L3 s.heap u ys) (h:Q (lexLt xs ys) s):wpAny (model prog w) A (compareOp .Lt v u) (PySem.W.BoolBack Q) E s:=by
 obtain ⟨a,⟨c1,d1,t1,a6⟩,its,m,rfl,ho,hc,hd,rv⟩:=hv;obtain ⟨b,⟨c2,d2,t2,a5⟩,a3,m2,rfl,a0,O,I,a4⟩:=hw;simp only at hc hd O I;subst hc hd O I;exact richCompare_meets_room (op:=.Lt) ⟨_,ho,rfl⟩ ⟨_,a0,rfl⟩ PySem.F.slot_tuple_lt PySem.F.entry_tuple_lt (PySem.F.args_tuple_lt_2 _ _) (Ce a b its a3 m m2 d1 d2 a6 a5 xs ys rv a4) ⟨ho,a0,(λx=>nomatch x),h⟩ ox
def AJ (hu:A.units+64<cLine):∀(xs ys:List (List Int)) (us vs:List Value) (i:Nat),Paired (L3 s.heap) us xs->Paired (L3 s.heap) vs ys->Q (fm fin (xs.zip ys)) s->KatLex prog w A false fin Q (us.zip vs) i s:=by
 intro xs
 induction xs with
 |nil=>intro ys us vs i a b h;cases a;exact h
 | cons x xs ih=>
  intro ys us vs i a b h;cases a with
  | cons O t1=>
   cases ys with
   |nil=>cases b;exact h
   | cons y ys=>
    cases b with
    | cons I t2=>
     simp only [qK2,fm]at h;refine kat_cons (Bq ox O I ?_);by_cases e:x=y
     ·rw [qA2 e]at h
      rw[qO8 e];exact kat_yes (ih ys _ _ (i+1) t1 t2 h)
     ·rw [qA4 e]at h
      rw[qO7 e];exact kat_no (kat_one _ _ (AG hu O I h))
def mS (h:Heap)(v:Value)(xs:List (List Int)):Prop:=∃(a:Addr)(o:Obj)(its:List Value)(m:Nat),v=.ref a/\h.get? a=some o/\o.cls=.type "tuple" /\ o.data=.seq its.toArray m/\Paired (L3 h) its xs
def AH (hu:A.units+64<cLine) (hv:mS s.heap v xs) (hw:mS s.heap u ys) (h:Q (r9 xs ys) s):wpAny (model prog w) A (keyLt' (tuples' false) v u) Q E s:=by
 obtain ⟨a,o,its,m,rfl,ho,_,hd,rv⟩:=hv;obtain ⟨b,o2,a3,m2,rfl,a0,_,O,I⟩:=hw;refine kat_lt ho hd a0 O ?_;have l1:=Paired.length rv;have l2:=Paired.length I;refine AJ hu xs ys _ _ 0 rv I ?_;simp only [qB8,l1,l2];rw[oB];exact h
def jT:∀{vs:List Value}{ss:List (List (List Int))},Paired (λv xs=>mS h v xs/\xs ≠ []) vs ss->∃fs:List Value,KatTups h vs fs/\fs.length=ss.length/\∀f∈fs,∃x,L3 h f x
 |_,_,.nil=>⟨[],trivial,rfl,λ_ h=>nomatch h⟩
 | _,_,.cons hv t=>by
  obtain ⟨fs,k,hl,hi⟩:=jT t;obtain ⟨⟨a,o,its,m,rfl,ho,hc,hd,rv⟩,O⟩:=hv;cases rv with
  |nil=>exact absurd rfl O
  | cons r1 r2=>
   rename_i v0 x0 l1 l2
   refine ⟨v0::fs,KatTups.cons ho hc hd Qy k,by rw[qC5,qC5,hl],λf I=>?_⟩;rcases qB3.mp I with q|I
   ·subst q;exact ⟨_,r1⟩
   ·exact hi f I
end
def fE (k:List (List Int)):List W:=k.map λx=>W.tup (x.map W.int)
def kW (k:List (List Int)):W:=.tup (fE k)
def keyOf:R W->Option (List (List Int))
 | .ok (.tup us)=>(match O2 us with
  |some (a::k)=>some (a::k)
  |_=>none)
 |_=>none
def E8 (f:List W->R W):List W->Option (List (List (List Int)))
 | []=>some []
 | w::r=>match keyOf (f [w]),E8 f r with
  |some k,some ks=>some (k::ks)
  |_,_=>none
def jl (h:keyOf r=some k):r=.ok (kW k)/\k ≠ []:=by
 unfold keyOf at h
 split at h
 ·rename_i us
  split at h
  ·rename_i a k' e
   cases h;rw[jS e];exact ⟨rfl,Qy⟩
  ·cases h
 ·cases h
def bp (h:E8 f (w::r)=some ks):∃k I,ks=k::I/\f [w]=.ok (kW k)/\k ≠ []/\E8 f r=some I:=by
 unfold E8 at h
 split at h
 ·rename_i k I e1 e2
  cases h;exact ⟨k,I,rfl,(jl e1).1,(jl e1).2,e2⟩
 ·cases h
def cI:∀{ws:List W}{ks:List (List (List Int))},E8 f ws=some ks->ks.length=ws.length
 | [],_,h=>by cases h;rfl
 | w::r,_,h=>by
  obtain ⟨k,I,rfl,_,_,e⟩:=bp h;rw[qC5,qC5,cI e]
def lQ:∀{ws:List W}{ks:List (List (List Int))},E8 f ws=some ks->∀k∈ks,k ≠ []
 | [],_,h=>by cases h;simp
 | w::r,_,h=>by
  obtain ⟨k,O,rfl,_,hn,e⟩:=bp h;intro x I;rcases qB3.mp I with rfl|I
  ·exact hn
  ·exact lQ e x I
def inK (X:Cx):Cx:={ X with A:=X.A.in1.in1,xe:=λ_ _=>False }
def Fq {σ:L2.St}(I:Inv X pins σ H s):Inv (inK X) pins σ H s:=
 ⟨⟨I.ok.mod,I.ok.kind,I.ok.glob,I.ok.blt,I.ok.above,I.ok.inj,I.ok.has,I.ok.cab,I.ok.hd,I.ok.frames,I.ok.stk,I.ok.exf,I.ok.bs,I.ok.bsz,I.ok.noex,I.ok.exfs,I.ok.funs,I.ok.frf,I.ok.tab⟩,I.os,I.bare,I.base,I.loc,I.cell,I.free,I.freeC,I.pin,I.hok,I.len⟩
def AR {σ:L2.St}(I:Inv (inK X) pins σ H s):Inv X pins σ H s:=
 ⟨⟨I.ok.mod,I.ok.kind,I.ok.glob,I.ok.blt,I.ok.above,I.ok.inj,I.ok.has,I.ok.cab,I.ok.hd,I.ok.frames,I.ok.stk,I.ok.exf,I.ok.bs,I.ok.bsz,I.ok.noex,I.ok.exfs,I.ok.funs,I.ok.frf,I.ok.tab⟩,I.os,I.bare,I.base,I.loc,I.cell,I.free,I.freeC,I.pin,I.hok,I.len⟩
def tW {σ:L2.St}(I:Inv X pins σ H s) (k:∀b o,b≠D->s.heap.get? b=some o->h'.get? b=some o) (hn:H D=none) (hL:D≠X.env.locals) (h1:X.s₀.heap.objs.size<=D) (h2:∀x c,X.env.cells.lookup x=some c->c≠D) (h3:∀p∈X.pn++pins,p.1≠D) (hz:ys.length<=sizeLine) (hv:Vals ys its) (e:h'.get? D=some { cls:=.type "list",data:=.seq its.toArray n }):
  Inv X pins σ (upd H D (.lst ys)) { s with heap:=h',toks:=t' }:=by
 have O:∀b u,H b=some u->b≠D:=λb u e z=>by rw[z,hn]at e;cases e
 refine I.step (g':=s.gens) (d':=s.drawn) (ch:=[D]) (λb hb=>?_) (λb o _ _ hc e _=>k b o (λz=>hc (by simp [z])) e) (λb o _ _ hc e _=>⟨o.slots,k b o (λz=>hc (by simp [z])) e⟩) (λb _ hc _ n=>by rw[c8 (λz=>hc (by simp [z]))];exact n)
  (λb o hc e=>⟨o,k b o (λz=>hc (by simp [z])) e⟩) (λb _ e=>by rw[c8 (O b _ e)];exact e) (λb _ _ e=>by rw[c8 (O b _ e)];exact e) (λb _ e=>by rw[c8 (O b _ e)];exact e) (λm hm=>?_) (λb u e1=>?_) I.bare
 ·have e:b=D:=by simpa using hb
  subst e;exact ⟨.inr h1,hL,h2,h3⟩
 ·obtain ⟨o,es,ep,ho,r⟩:=hm;exact ⟨o,es,ep,k _ o (Ne.symm hL) ho,r⟩
 ·by_cases q:b=D
  ·subst q;rw[R9]at e1;cases e1;exact ⟨hz,its,n,hv,e⟩
  ·rw [c8 q]at e1
   refine (I.hok b u e1).stay (λc v hc q'=>k c v ?_ q') (λc q'=>by rw[c8 (O c _ q')];exact q') λc _ q'=>by rw[c8 (O c _ q')];exact q'
   rcases hc with z|z
   ·rw[z];exact q
   ·exact O c _ z
section
open PySem.W PyProof.Rows
def wV {K:Frag}{σ:L2.St}(c3:Y.xe=λ_ _=>False) (F:FnOk Y.prog Y.w Y.K Y.mg Y.base CX0 k f fd ps (spM K 1 .F (g8 1 N m))) (hr:Room k Y.A) (hb:Binds Y.K fd ps []) (a5:∀(x:Value) (s:Shared) (P:Value->Shared->Prop) (C:Shared->Prop),wpAny (model Y.prog Y.w) Y.A (call (.ref f) [x]) P (λ_ _=>False) s ->
   (∀u s',P u s'->∃its n,s'.heap.get? kS=some (seqObj "list" its n)/\its.size<64/\C { s' with heap:=s'.heap.update kS (Obj.mapSeq (·.push u)) })->wpAny (model Y.prog Y.w) Y.A (body x ⟨⟩) (λr s'=>r=.yield ⟨⟩/\C s') E s):
  ∀ (r:List Value) (yr:List V) (wr:List W) (kr:List (List (List Int))) (kvs:List V) (kd:List (List (List Int))) (s:Shared) (H G:Hp),Inv Y pn σ H s->Vals yr r->Reps K G yr wr->E8 (g8 1 N m) wr=some kr ->
   H kS=some (.lst kvs)->Same G H->G kS=none->Reps K G kvs (kd.map kW)->kvs.length+r.length<64 ->
   wpAny (model Y.prog Y.w) Y.A (forIn r PUnit.unit body) (λ_ s'=>∃H' G' a0,Inv Y pn σ H' s'/\H' kS=some (.lst a0)/\Same G G'/\Same G' H'/\G' kS=none/\Reps K G' a0 ((kd++kr).map kW)) E s
 := by
 intro r
 induction r with
 | nil=>
  intro yr wr kr kvs kd s H G I rv a4 hk hS sG gk rk hl;cases rv;cases a4;rw[qM1];cases hk;rw[qG3];exact qO6 ⟨H,G,kvs,I,hS,Same.refl G,sG,gk,rk⟩
 | cons x r ih=>
  intro yr wr kr kvs kd s H G I rv a4 hk hS sG gk rk hl;obtain ⟨y,yr,rfl,rx,rr⟩:∃y a8,yr=y::a8/\RelV y x/\Vals a8 r:=by
   cases rv with
   |cons a b=>exact ⟨_,_,rfl,a,b⟩
  obtain ⟨w,wr,rfl,ry,b5⟩:∃w a7,wr=w::a7/\Rep K G y w/\Reps K G yr a7:=by
   cases a4 with
   |cons a b=>exact ⟨_,_,rfl,a,b⟩
  obtain ⟨a3,c1,rfl,hf,cc,c4⟩:=bp hk;rw[qC5]at hl;rw[qK5];have call:=rY (X:=Y) (us:=[x]) (vs:=[y]) (E:=λ_ _ _=>False) (Q:=λv H2=>∃G2,Same H H2/\Same G2 H2/\G2 kS=none/\Rep K G2 v (kW a3)) F hr hb .nil pL I (.cons rx .nil) ⟨rfl,[w],.cons (ry.same sG) .nil,by
   rw[hf];exact λv G2 H2 s1 s2 cl md=>⟨G2,s1,s2,cl kS _ hS rfl,md⟩⟩
  rw[c3]at call;refine qA1 (qP7 (a5 x s _ (λab=>∃H3 G3 O,Inv Y pn σ H3 ab/\H3 kS=some (.lst O)/\O.length=kvs.length+1/\Same G G3/\Same G3 H3/\G3 kS=none/\Reps K G3 O ((kd ++ [a3]).map kW)) call λu s' hp=>?_) (λq s' hq=>?_) λ_ _ x=>x)
  ·obtain ⟨v,H2,I2,rv,G2,sH,s2,g2,r2⟩:=hp;have a6:=sH _ _ hS;obtain ⟨z,its,n,rI,hlen,e⟩:=I2.lstM a6;refine ⟨its.toArray,n,e,by rw[qB8];omega,?_⟩;have sB:Same G (both G G2):=λb o q=>by unfold both;rw[q]
   have c2:Same G2 (both G G2):=λb o q=>by
    unfold both;cases q1:G b with
    |none=>exact q
    | some u=>
     have a1:=sH b u (sG b u q1);rw[s2 b o q]at a1;exact a1.symm
   have b3:Same (both G G2) H2:=λb o q=>by
    unfold both at q;cases q1:G b with
    |none=>rw[q1]at q;exact s2 b o q
    |some u=>rw[q1]at q;cases q;exact sH b _ (sG b _ q1)
   have bk:both G G2 kS=none:=by unfold both;rw[gk];exact g2
   refine ⟨upd H2 kS (.lst (kvs ++ [v])),both G G2,kvs ++ [v],I2.lset (t':=s'.toks) (its':=its ++ [u]) a6 e Qy (rI.append (.cons rv .nil)) (by rw[qC6,qF7,qP3];omega),R9,by rw[qC6,qF7],sB,λb o q=>?_,bk,?_⟩
   ·rw[c8 (f7 q bk)];exact b3 b o q
   ·rw [qC3]
    exact (rk.same sB).append (.cons (r2.same c2) .nil)
  ·obtain ⟨rfl,H3,G3,O,I3,c0,c5,s3,b0,g3,r3⟩:=hq
   show wpAny (model Y.prog Y.w) Y.A (forIn r PUnit.unit body) _ E s';refine qP7 (ih yr wr c1 O (kd ++ [a3]) s' H3 G3 I3 rr (b5.same s3) c4 c0 b0 g3 r3 ox) (λ_ ab hq=>?_) λ_ _ x=>x;obtain ⟨H4,G4,a9,I4,b6,s4,b4,g4,r4⟩:=hq;exact ⟨H4,G4,a9,I4,b6,s3.trans s4,b4,g4,by rw[qL0]at r4;exact r4⟩
def EJ {K:Frag}{σ:L2.St}(hK:Y.K=K) (I:Inv Y pn σ H s) (sG:Same G H) (r:Rep K G v (kW k)) (ru:RelV v u):mS s.heap u k:=by
 subst hK;obtain ⟨a0,a6,rfl,h0,r0⟩:=r.inv
 ·cases ru;obtain ⟨its,rv,⟨o,e,c,n,dd⟩,_⟩:=I.tuple (SqT.of (sG _ _ h0));refine ⟨_,o,its,n,rfl,e,c,dd,?_⟩;have go:∀{vs:List V}{its:List Value}{k:List (List Int)},Vals vs its->Reps Y.K G vs (k.map λx=>W.tup (x.map W.int))->Paired (L3 s.heap) its k:=by
   intro vs its k
   induction k generalizing vs its with
   |nil=>intro a b;have b:vs = []:=b.inv;subst b;cases a;exact .nil
   | cons x k ih=>
    intro a b;obtain ⟨v1,a7,rfl,b1,b2⟩:=b.inv
    ·cases a with
     | cons a1 a2=>
      refine .cons ?_ (ih a2 b2);obtain ⟨a3,a8,rfl,h1,r1⟩:=b1.inv
      ·cases a1;have e1:=Reps.ints r1 (ints_map x);subst e1;obtain ⟨O,a5,⟨o2,e2,c2,n2,a4⟩,_⟩:=I.tuple (SqT.of (sG _ _ h1));exact ⟨_,o2,O,n2,rfl,e2,c2,a4,a5⟩
  exact go rv r0
def AM {K:Frag}{σ:L2.St}(hK:Y.K=K) (I:Inv Y pn σ H s) (sG:Same G H):∀{vs:List V}{its:List Value}{ks:List (List (List Int))},Vals vs its->Reps K G vs (ks.map kW)->(∀k∈ks,k ≠ [])->Paired (λv xs=>mS s.heap v xs/\xs ≠ []) its ks:=by
 intro vs its ks
 induction ks generalizing vs its with
 |nil=>intro a b _;cases b;cases a;exact .nil
 | cons x k ih=>
  intro a b hn;cases b with
  | cons b1 b2=>
   cases a with
   |cons O a2=>exact .cons ⟨EJ hK I sG b1 O,hn x qB2⟩ (ih a2 b2 λk hk=>hn k (qA8 _ hk))
end
section
open PySem.W PyProof.Rows
def fQ:∀{as I:List Value}{bs O:List α},Paired F as bs->Paired F I O->Paired F (as++I) (bs++O)
 |_,_,_,_,.nil,h=>h
 |_,_,_,_,.cons a t,h=>.cons a (fQ t h)
def vP {F:Value->α->Prop}(h:Paired F as bs):Paired F as.reverse bs.reverse:=by
 induction h with
 |nil=>exact .nil
 | cons a _ I=>
  rw[qI6,qI6];exact fQ I (.cons a .nil)
def rD {K:Frag}{σ:L2.St}(hK:Y.K=K) (hu:Y.A.units+64<cLine) (I:Inv Y ((D,seqObj "list" #[] e1)::pins) σ H s) (b4:Y.s₀.heap.objs.size<=D) (b6:∀p∈Y.pn++pins,p.1≠D) (cn:D≠kS) (hS:H kS=some (.lst kvs)) (sG:Same G H) (gk:G kS=none) (rk:Reps K G kvs (ks.map kW)) (c0:∀k∈ks,k ≠ []) (rv:Vals ys vs) (hl:ks.length=vs.length) (a9:vs.length<64) (h:∀s' H',Inv Y pins σ H' s'->Same G H'->H' D=some (.lst (x6 ks V.non ys))->P (.done (.ret .none)) s'):∀its n,s.heap.get? kS=some (seqObj "list" its n)->wpAny (model Y.prog Y.w) Y.A (ksk_end D true vs.toArray e1 (.ref kS) its) P E s:=by
 intro its n hits;obtain ⟨z,kl,n',rI,hlen,e⟩:=I.lstM hS;rw[e]at hits;cases hits;have a5:kl.length=vs.length:=by rw[<- hlen,rk.length,qA6,hl]
 have cv:ys.length=vs.length:=rv.length;obtain ⟨pD,nD,c3,cy,_⟩:=I.pin (D,seqObj "list" #[] e1) (qC7 _ qB2);have pD:s.heap.get? D=some (seqObj "list" #[] e1):=pD;have nD:H D=none:=nD
 -- the tail
 have tail:∀st:SortSt,failedOf st=none->(arrOf st).map (·.2)=(((Q3 ks.reverse).map λi=>vs.reverse.getD i Value.none)).toArray->wpAny (model Y.prog Y.w) Y.A (ksk_tail D true e1 (.ref kS) st) P E s:=λst hf c4=>by
  have a7:((Q3 ks.reverse).map λi=>vs.reverse.getD i Value.none).toArray.reverse=(x6 ks Value.none vs).toArray:=by unfold x6;simp
  have I1:=I.lset (t':=s.toks) (f:=λ_=>#[]) (its':=[]) (ys:=[]) hS e rfl .nil (qD1 _);obtain ⟨p1,n1,_⟩:=I1.pin (D,seqObj "list" #[] e1) (qC7 _ qB2);have I2:=I1.pins_of (pins':=pins) λp hp=>I1.pin p (qC7 _ (qA8 _ hp));have hsz:(x6 ks Value.none vs).toArray.size<=sizeLine:=by rw[qB8,kR,qP3];omega
  unfold ksk_tail;dsimp only;rw[c4,qA2 rfl,a7];refine qA1 (listUpdate_at e rfl ?_ (by rw[qB8,qP3];omega) (qD1 _));refine qA1 (qQ9 ?_);refine qA1 (seqEpoch_at p1 rfl ?_);refine qA1 (listUpdate_at p1 rfl ?_ (qD1 _) (Nat.le_succ_of_le hsz));rw[hf];simp only [qV7,qD4,qP1];refine qO6 (h _ (upd (upd H kS (.lst [])) D (.lst (x6 ks V.non ys))) (tW (s:={ s with heap:=s.heap.update kS (Obj.mapSeq λ_=>(#[]:Array Value)) }) (t':=s.toks) (its:=x6 ks Value.none vs) (n:=_) I2 (λb o hb q=>(qL5 _ _ (Ne.symm hb)).trans q) n1 c3 b4 (λx c hc=>?_) b6 (by rw[kR,qP3];omega) ?_ (get?_update_seq p1 λ_=>(x6 ks Value.none vs).toArray)) (λb o q=>?_) R9)
  ·rintro rfl;obtain ⟨v,o,ho,hd⟩:=I1.cell x _ hc;have cc:_=some (seqObj "list" #[] e1):=p1;rw[cc]at ho;cases ho;cases hd
  ·unfold x6;have b3:Vals ys.reverse vs.reverse:=rv.reverse;refine Vals.reverse (P1 λi hi=>?_);have c1:i<ys.reverse.length:=by
    have:=(N6 ks.reverse).mem_iff.mp hi
    rw[qH5,qC0]at this;rw[qC0];omega
   obtain ⟨u,eu,q⟩:=E7 (d:=V.non) b3 c1;rw[show vs.reverse.getD i Value.none=u by rw[qA0,eu];rfl];exact q
  ·have c5:b≠D:=by rintro rfl;rw[sG b o q]at nD;cases nD
   have b0:b≠kS:=by rintro rfl;rw[gk]at q;cases q
   rw[c8 c5,c8 b0];exact sG b o q
 have a0:((List.toArray kl).zip vs.toArray).reverse=(List.toArray kl.reverse).zip (List.toArray vs.reverse):=kat_pairs true a5;unfold ksk_end;dsimp only;rw[qA2 rfl,qA2 rfl,a0];refine qA1 (qS3 ?_);by_cases c2:vs.toArray.size<2
 ·rw [qA2 c2,qA2 c2]
  refine qA1 (qO6 ?_);rw[StateT.run_pure];refine qA1 (qO6 ?_);dsimp only;refine tail _ rfl ?_;have cp:vs.length<2:=by simpa using c2
  have e3:(Q3 ks.reverse).map (λi=>vs.reverse.getD i Value.none)=vs.reverse:=by
   unfold Q3;rw[qA2 (by rw[qC0];omega),show ks.reverse.length=vs.reverse.length by rw[qC0,qC0,hl],iV]
  rw[e3]
  show Array.map (λx=>x.snd) ((List.toArray kl.reverse).zip (List.toArray vs.reverse))=vs.reverse.toArray;apply Array.toList_inj.mp;rw[Array.toList_map,Array.toList_zip];apply qG0
  ·simp [a5]
  ·intro i h1 h2;simp
 ·rw [qA4 c2,qA4 c2]
  have h2:2<=vs.length:=by simpa using c2
  have tt:=AM hK I sG rI rk c0;obtain ⟨fs,kt,fl,fi⟩:=jT tt;have a8:=vP tt;refine qA1 (kat_kind (T:=.type "tuple") kt ox (λv hv=>?_) Qz ?_)
  ·obtain ⟨x,a,o,its,m,rfl,ho,hc,_⟩:=fi v hv;rw[<- hc];exact (Looks.ld ho).andThen .now
  have a6:kl.reverse.length=vs.reverse.length:=by rw[qC0,qC0,a5]
  have hw:(kas_sort vs.reverse.length).kasWp (kas_ask Y.prog Y.w Y.A (tuples' (Value.type "tuple" != Value.type "tuple")) kl.reverse) (λp s'=>s'=s/\p.toList=Q3 ks.reverse) s:=by
   refine wp_run (n:=vs.reverse.length) (r:=M5 ks.reverse) (λi j C hi hj hC=>?_) (mO (by rw[qC0];omega)) ⟨rfl,?_⟩
   ·rw [<- a6]at hi hj
    obtain ⟨x,hx,tx⟩:=E7 (d:=Value.none) a8 hi;obtain ⟨y,hy,ty⟩:=E7 (d:=Value.none) a8 hj;have cx:ks.reverse.length=kl.reverse.length:=by rw[qC0,qC0];omega
    rw[kC ox ox]at hC;have ex:ks.reverse.getD i []=x:=by rw[qA0,hx];rfl
    have ey:ks.reverse.getD j []=y:=by rw[qA0,hy];rfl
    rw[ex,ey]at hC;exact AH hu tx.1 ty.1 hC
   ·unfold Q3;rw[qA4 (by rw[qC0];omega),show ks.reverse.length=vs.reverse.length by rw[qC0,qC0,hl]]
  refine qA1 (qP7 (kat_run (Q:=λO s'=>s'=s/\(arrOf O).map (·.2)=((Q3 ks.reverse).map λi=>vs.reverse.getD i Value.none).toArray/\failedOf O=none) a6 (by rw[qC0];exact h2) (by rw[qC0];exact a9) (λp O s' a1 a2 a3 a4=>⟨a4.1,by rw[kat_snds a6 a2,a4.2],a3⟩) hw) ?_ λ_ _ e=>e);rintro ⟨⟨⟩,O⟩ s' ⟨rfl,b5,ab⟩;exact tail O ab b5
def pp {K:Frag}{σ:L2.St}(b0:Y.xe=λ_ _=>False) (hK:Y.K=K) (F:FnOk Y.prog Y.w Y.K Y.mg Y.base CX0 k f fd ps (spM K 1 .F (g8 1 N m))) (hr:Room k Y.A) (hb:Binds Y.K fd ps []) (I:Inv Y ((D,seqObj "list" #[] e1)::pins) σ H s) (b3:Y.s₀.heap.objs.size<=D) (a9:∀p∈Y.pn++pins,p.1≠D) (ab:D≠kS) (hS:H kS=some (.lst [])) (sG:Same G H) (gk:G kS=none) (rv:Vals ys vs) (a5:Reps K G ys ws) (O:E8 (g8 1 N m) ws=some ks) (a3:vs.length<64) (h:∀s' H',Inv Y pins σ H' s'->Same G H'->H' D=some (.lst (x6 ks V.non ys))->P (.done (.ret .none)) s'):wpAny (model Y.prog Y.w) Y.A (ksk_rest D (.ref f) true vs.toArray e1 (.ref kS)) P E s:=by
 have hl:ks.length=vs.length:=by rw[cI O,<- a5.length,rv.length]
 unfold ksk_rest;refine qA1 (qS3 ?_)
 first
  |rw[List.forIn_toArray]
  | (rw[<- Array.forIn_toList];simp only [List.toList_toArray])
  |rw[<- Array.forIn_toList]
 refine qA1 (qP7 (wV (kS:=kS) (E:=E) b0 F hr hb (λx s' Pc C hc hP=>?_) vs ys ws ks [] [] s H G I rv a5 O hS sG gk .nil (by simpa using a3)) (λ_ s' hd=>?_) λ_ _ x=>x)
 ·refine qA1 (wpAny_attempt (qP7 hc (λu a0 hk=>?_) λ_ _ hF=>hF.elim));obtain ⟨its,n,a6,hz,hC⟩:=hP u a0 hk;dsimp only;refine qA1 (listUpdate_at a6 rfl ?_ (by rw[qP3];omega) (qD7 (Nat.le_of_eq (Array.size_push ..)) (by rw[qP3];omega)));exact qO6 ⟨rfl,hC⟩
 ·obtain ⟨H',G',b4,I',a4,s1,s2,g',r'⟩:=hd;obtain ⟨z,kl,n',rI,hlen,e⟩:=I'.lstM a4;refine qA1 (listItems_at e rfl ?_);exact rD hK (by have:=hr.units;omega) I' b3 a9 ab a4 s2 g' (by simpa using r') (lQ O) rv hl a3 (λa0 a8 a7 q1 q2=>h a0 a8 a7 (s1.trans q1) q2) _ _ e
end
section
open PySem.W PyProof.Rows
def qC {K:Frag}(F:FnOk X.prog X.w X.K X.mg X.base CX0 k f fd ps (spM K 1 .F (g8 1 N m))) (hr:Room (k+2) X.A) (hb:Binds X.K fd ps []) (hK:X.K=K){σ:L2.St}(I:Inv X pins σ H s) (hq:SqL K H p ys) (a4:Reps K H ys ws) (b4:E8 (g8 1 N m) ws=some ks) (c1:ws.length<64) (h:∀l H',H l=none->Same H H'->H' l=some (.lst (x6 ks V.non ys))->Q (.ref l) H'):
  wpAny (model X.prog X.w) X.A (call (.builtin "sorted") [.ref p] [(Str.ofString "key",.ref f),(Str.ofString "reverse",.bool true)]) (EP X pins σ Q) X.xe s:=by
 subst hK;obtain ⟨vs,rv,pl,hz⟩:=I.list hq;have hlen:ys.length=vs.length:=rv.length;have c3:ys.length=ws.length:=a4.length;refine call_function_entry_kw kind_sorted plain_sorted entry_sorted (ksk_s2 _ _ _) ?_;unfold Builtin.«sorted»;refine qA1 (m:=checkCount "sorted" 1 1 _) (qO6 ?_);refine qA1 (collect_list pl.isList ?_ (by rw[qP3];omega));refine qA1 (qT3 ?_ (by rw[qP3];omega));generalize hg:(s.heap.push (seqObj "list" #[] 0)).update s.heap.objs.size (Obj.mapSeq (·++vs.toArray))=g
 have gz:g.objs.size=s.heap.objs.size+1:=by rw[<- hg,Heap.size_update,size_push']
 have gk:∀b o,s.heap.get? b=some o->g.get? b=some o:=λb o e=>by
  have c0:=qB4 e;rw[<- hg,qN1 _ _ _ _ (qC8 c0)];exact qA5 _ e
 have go:(g.push (seqObj "list" vs.toArray 0)).get? (s.heap.objs.size+1)=some (seqObj "list" vs.toArray 0):=by rw[<- gz];exact qC2 _ rfl
 show wpAny _ _ _ _ _ { s with heap:=g.push (seqObj "list" vs.toArray 0) };rw[gz];refine qA1 (qP2 (wpAny_call_entry_kw slot_list_sort ⟨_,go,rfl⟩ entry_list_sort ?body (ksk_l2 _ _ _)))
 case body=>
  generalize c2:s.heap.objs.size+1=D at *
  show wpAny (model X.prog X.w) X.A.in1.in1 (Builtin.«list.sort» ⟨[.ref D],[(Str.ofString "key",.ref f),(Str.ofString "reverse",.bool true)]⟩) _ _ _;rw[ksk_t2];generalize a7:g.push (seqObj "list" vs.toArray 0)=g2 at *
  have b6:g2.objs.size=D+1:=by rw[<- a7,size_push',gz]
  have a8:∀b o,s.heap.get? b=some o->g2.get? b=some o:=λb o e=>by rw[<- a7];exact qA5 _ (gk b o e)
  obtain ⟨e1,a3⟩:∃e1,(g2.update D (Obj.mapSeq λ_=>(#[]:Array Value))).get? D=some (seqObj "list" #[] e1):=⟨_,get?_update_seq go λ_=>#[]⟩;unfold ksk_tree;refine qA1 (listItems_at go rfl ?_);refine qA1 (listUpdate_at go rfl ?_ (by rw[qB8,qP3];omega) (qD1 _));refine qA1 (seqEpoch_at a3 rfl ?_);refine qA1 (qS4 ?_ (by show vs.length<=_;rw[qP3];omega));refine qA1 (qT3 ?_ (qD1 _));refine qP2 ?_;have O:s.heap.objs.size<=D:=ox;have a6:H D=none:=I.hok.fresh O;generalize a0:(g2.update D (Obj.mapSeq λ_=>(#[]:Array Value))).push (seqObj "tuple" vs.toArray 0)=g3
  have a9:g3.objs.size=D+2:=by rw[<- a0,size_push',Heap.size_update,b6]
  have b0:∀b o,s.heap.get? b=some o->g3.get? b=some o:=λb o e=>by
   rw[<- a0];exact qA5 _ (by rw[qN1 _ _ _ _ (qC8 (qB6 (qB4 e) O))];exact a8 b o e)
  have b3:g3.get? D=some (seqObj "list" #[] e1):=by rw[<- a0];exact qA5 _ a3
  have I3:=I.kept (t':=s.toks) b0;have b5:D≠X.env.locals:=qJ3 (qB6 I.lt O);have I4:=I3.pins_of (pins':=(D,seqObj "list" #[] e1)::pins) λq hq=>by
   rcases qB3.mp hq with rfl|hq
   ·exact ⟨b3,a6,b5,I.nofs O,λv z=>by cases z⟩
   ·exact I3.pin q (qC7 _ hq)
  have a5:H g3.objs.size=none:=I.hok.fresh ox;have I5:=I4.lnew (t':=s.toks) (its:=[]) (ys:=[]) .nil (qD1 _);refine pp (Y:=inK X) (K:=X.K) (G:=H) (ys:=ys) (ws:=ws) (ks:=ks) (kS:=g3.objs.size) rfl rfl F (hr.in1.in1) hb (Fq I5) ?_ ?_ ?_ R9 (λb o q=>?_) a5 rv a4 b4 ox λs' H' I' sH ab=>?_
  ·exact qD7 I.sz O
  ·intro q hq;exact qC8 (qB6 (qB4 (I.pin q hq).1) O)
  ·rw[a9];exact qC8 (Nat.lt_add_of_pos_right Qz)
  ·rw[c8 (f7 q a5)];exact q
  ·exact ⟨_,rfl,qO6 ⟨_,rfl,.ref D,H',AR I',rfl,h D H' a6 sH ab⟩⟩
end
def cO (c:Bool) (f:List W->R W):List W->R W
 | [w]=>(match lstOf w with
  | some ws=>(match E8 f ws with
   |some ks=>if ws.length<64 then chks c (x6 ks W.non ws) else .stuck
   |none=>.stuck)
  |none=>.stuck)
 |_=>.stuck
def sf (r:Reps K F ys ws) (O:ks.length=ws.length):Reps K F (x6 ks V.non ys) (x6 ks W.non ws):=by
 unfold x6;refine Reps.reverse (eV λi hi=>?_);have I:i<ys.reverse.length:=by
  have:=(N6 ks.reverse).mem_iff.mp hi
  have:=r.length
  rw[qH5,qC0]at *;omega
 obtain ⟨w,e,q⟩:=hJ (i:=i) r.reverse I;rw[show ws.reverse.getD i W.non=w by rw[qA0,e];rfl];exact q
def sj (K:Frag)(f:List W->R W):List V->Hp->VK->Prop:=λxs H Q=>∃p ys ws ks,xs = [.ref p]/\SqL K H p ys/\Reps K H ys ws/\E8 f ws=some ks/\ws.length<64/\∀l H',H l=none->Same H H'->H' l=some (.lst (x6 ks V.non ys))->Q (.ref l) H'
def BI:Cal K (cb c) .F (sj K f) (cO c f):=by
 intro EX H0 Hs G H ρ σ Ha vs ws Q I s m o;cases m with
 |nil=>exact o.elim
 | cons a t=>
  cases t with
  |cons _ _=>exact o.elim
  | nil=>
   rename_i w v
   unfold cO at o;cases hl:lstOf w with
   |none=>simp only [hl]at o;exact o.elim
   | some us=>
    simp only [hl]at o;cases ht:E8 f us with
    |none=>simp only [ht]at o;exact o.elim
    | some ks=>
     simp only [ht]at o;by_cases hc:us.length<64
     ·rw [qA2 hc]at o
      obtain ⟨p,ys,rfl,hs,r⟩:=Md.lstOf I a hl;have sm:Same (if c then G else join H0 G) H:=by
       cases c with
       |true=>rw[qA2 rfl];exact I.gh
       |false=>rw[qA4 qA9];exact I.join_H
      refine ⟨p,ys,us,ks,rfl,hs,r.same sm,ht,hc,λl H' hn sH a0=>?_⟩;unfold TP.chks at o;by_cases n:(c||j7 (x6 ks W.non us))=true
      ·rw [qA2 n]at o
       have O:=sf r (cI ht);have r':Reps K G (x6 ks V.non ys) (x6 ks W.non us):=by
        cases c with
        |true=>rw[qA2 rfl]at O;exact O
        |false=>rw[qA4 qA9]at O;exact Reps.clean I O (by simpa using n)
       exact o _ G H' ⟨Same.refl G,sH,I.gh.trans sH,λ_ _ _ _ e=>e⟩ ⟨l,_,rfl,a0,I.gh.free hn,s.free hn,r'⟩
      ·rw[qA4 n]at o;exact o.elim
     ·rw[qA4 hc]at o;exact o.elim
def HP (hg:Gl X x) (hm:X.mg x=some (.ref f)) (O:(x == ("__debug__" : Str))=false:=by decide):PK X [⟨n1,.Name x p,kp1⟩,⟨n2,.Constant (.bool true) kt p2,kp2⟩] (aT (tC (.ref f)) (aT (tC (.bl true)) tNil)):=
 nX (λpins s σ H Q I h=>oz I hg hm ⟨.ref f,H,I,rfl,h⟩ O) (nX pe_bl DX)
def zK {X:Cx}{K:Frag}{EX:EXT}{e:Expr}{pos:Pos}{mr:Rho->R (List W)}{k:Nat}{f:Addr}{fd:FuncData}{ps:List Str}{x y:Str}{p p1 p2 O a0:Pos}{kt:Nat}{N:Nat}{m:Rho->R Fl}{c:Bool}(F:FnOk X.prog X.w X.K X.mg X.base CX0 k f fd ps (spM K 1 .F (g8 1 N m))) (hr:Room (k+2) X.A) (hg:Gl X x) (hm:X.mg x=some (.ref f)) (hb:Binds X.K fd ps []) (b4:Gl X y) (b6:X.mg y=none) (c0:bootBuiltins y=some (.builtin "sorted")) (ha:PA X [e] (tA K EX (cb c) mr)) (hK:X.K=K:=by rfl) (c1:(x == ("__debug__" : Str))=false:=by decide) (hn:y ≠ "__name__" := by decide) (a4:(y == ("__debug__" : Str))=false:=by decide) (he:backTo pos (starEach [e] X.env)=(false,eval e X.env)::backTo pos (starEach [] X.env):=by rfl) (a3:(backTo pos (starEach [e] X.env)).any (·.1)=false:=by rfl) (a6:(backToKw pos (keywordEach [⟨some "key",.Name x p1,O⟩,⟨some "reverse",.Constant (.bool true) kt p2,a0⟩] X.env)).all (·.1.isSome)=true:=by rfl) (b3:(backToKw pos (keywordEach [⟨some "key",.Name x p1,O⟩,⟨some "reverse",.Constant (.bool true) kt p2,a0⟩] X.env)).any (·.1.isNone)=false:=by rfl) (b0:(backToKw pos (keywordEach [⟨some "key",.Name x p1,O⟩,⟨some "reverse",.Constant (.bool true) kt p2,a0⟩] X.env)).filterMap (·.1) = [Str.ofString "key",Str.ofString "reverse"]:=by rfl):
  PE X (.Call (.Name y p) [e] [⟨some "key",.Name x p1,O⟩,⟨some "reverse",.Constant (.bool true) kt p2,a0⟩] pos) (tM K EX .F (bA (cO c (g8 1 N m)) mr)):=by
 intro pins s σ H Q I h;have h:=xO (BI (c:=c) (f:=g8 1 N m)) h;refine qP6 (L9 I b4 b6 c0 ?_ hn a4);refine PyProof.Rows.callWith_kw (thn (ha pos pins s σ H _ I h) λus s1 a5=>?_) he a3 a6 b3;obtain ⟨vs,H1,I1,r1,q1⟩:=a5;refine thn (HP hg hm c1 pos pins s1 σ H1 (λzs H2=>zs = [.ref f,.bl true]/\sj K (g8 1 N m) vs H2 Q) I1 ⟨rfl,q1⟩) λus2 s2 a7=>?_;obtain ⟨zs,H2,I2,rz,hz,q2⟩:=a7;subst hz;obtain ⟨p0,ys,ws,ks,rfl,hq,ab,a8,a9,hQ⟩:=q2;obtain ⟨u,rfl,ru⟩:=G9 r1;cases ru;rw[b0];cases rz with
 | cons r2 rz=>
  cases r2;obtain ⟨u2,rfl,b5⟩:=G9 rz;cases b5;exact qC F hr hb hK I2 hq ab a8 a9 hQ
section
open PySem.W PyProof.Rows
end
end TP
namespace TP
open PySem PyProof.Rows
def kk (rk:Keyed->Int) (xs:Array Keyed) (i:Nat):Int:=match xs[i]? with
 |some p=>rk p
 |none=>0
def sb1 (h0:0<n) (h:n<=A):A-(n-1)=A-n+1:=by
 cases n with
 |zero=>exact absurd h0 (qE2 _)
 |succ m=>exact (Nat.succ_pred_eq_of_pos (Nat.sub_pos_of_lt h)).symm
def sb2 {A:Nat}(h:n<=A)(hk:k<=n):A-k=A-n+(n-k):=(Nat.sub_add_sub_cancel h hk).symm
def sb3 {lo:Nat}(I:q<=x)(h:lo+x-q<=k):x-q<=k-lo:=by rw[qV8 I]at h;exact Nat.le_sub_of_add_le' h
def sb4 {lo:Nat}(I:q<=x)(h:lo+x-q<=k):lo+(k-lo)=k:=qN0 (qD7 (by rw[qV8 I];exact qM5 _ _) h)
def sb5 {lo:Nat}(h:0<j):lo+(j-1)=lo+j-1:=(qV8 h lo).symm
def upL (rk:Keyed->Int)(l:List Keyed):Prop:=l.Pairwise λx y=>rk x<=rk y
structure Mg (rk:Keyed->Int) (t:List Keyed) (out ra rb:List Keyed):Prop where
 perm:(out++(ra++rb)).Perm t
 up:upL rk out
 le:∀x∈out,∀y∈ra++rb,rk x<=rk y
def Gd (rk:Keyed->Int)(t I:List Keyed):Prop:=I.Perm t/\upL rk I
abbrev gS (st:SortSt)(g:Nat):SortSt:=SortSt.mk' (kindOf st) (arrOf st) (pendingOf st) g (failedOf st)
abbrev rn (rk:Keyed->Int)(x:Keyed):Int:=-rk x
abbrev rv (a:Array Keyed):List Keyed:=a.toList.reverse
def nO:(rv a).drop (a.size-k)=(a.toList.take k).reverse:=by
 rw[List.reverse_take];simp
def Gd.rv (h:Gd (rn rk) (rv a++rv b) res.reverse):Gd rk (a.toList++b.toList) res:=by
 refine ⟨?_,?_⟩
 ·refine (qL9 res).symm.trans (h.1.trans ?_);exact List.Perm.append (qL9 _) (qL9 _)
 ·have:=h.2
  unfold upL at this ⊢;rw[qT9]at this;exact this.imp λq=>by
   have q:-_ <= -_:=q;omega
def Fy {out:Array Keyed}{nb:Nat}(h:Gd (rn rk) (rv a++rv b) (out.toList++(rv b).drop (b.size-nb)++(rv a).drop (a.size-na))):Gd rk (a.toList++b.toList) (a.extract 0 na++b.extract 0 nb++out.reverse).toList:=by
 refine Gd.rv ?_;rw[nO,nO]at h;have e:(a.extract 0 na++b.extract 0 nb++out.reverse).toList.reverse=out.toList++(b.toList.take nb).reverse++(a.toList.take na).reverse:=by
  simp [List.extract_eq_take_drop]
 rw[e];exact h
section
variable {prog:Program}{w:World}{A:Around}{E:Value->Shared->Prop}{s:Shared}{a₀:Array Keyed}{κ:SortKind}{rk:Keyed->Int}{arr:Array Keyed}{pd:Array (Nat×Nat×Nat)}{g lo:Nat}
structure Rl (lo:Nat) (arr arr':Array Keyed):Prop where
 perm:arr'.toList.Perm arr.toList
 same:∀k,k<lo->arr'[k]?=arr[k]?
end
end TP
namespace TP
open PySem L2
section
open PySem.W PyProof.Rows
open Classical in
def rkV (vs:List Value)(ss:List (List Int))(p:Keyed):Int:=if h:∃i,i<vs.length/\vs.getD i Value.none=p.1 then K2 ss h.choose else 0
end
def Jh (H:Hp):Prop:=∀a vs,H a≠some (.lst vs)
def OutN (K:Frag) (d:Mode) (O:Hp) (r:R Fl) (D:Ends):Prop:=match r with
 | .ok (.nx ρ)=>∀H0 G' I H',Same O H0->PIv K H0 G' ρ I H'->D.nx I H'
 | .ok (.rt w)=>∀v G' H',Same G' H'->Same O H'->(∀a o,O a=some o->isL o=true->G' a=none)->Md K O O G' H' v w d->D.rt v H'
 |_=>False
def tStN (K:Frag)(EX:EXT)(d:Mode)(m:Rho->R Fl):TS:=λD σ H=>∃I H0 G ρ,Jh I/\Same I H0/\PIv K H0 G ρ σ H/\OutN K d I (m ρ) D
end TP
namespace TP
open PySem L2
open PyProof.Rows (envOfC)
def XE1 (K:Frag)(E:XK):EXT:=λe H=>∀(C:Addr)(od:Option Addr),PySem.W.nsIn K mainGlobals e.cls=some (some (.ref C))->XD H od e.at_->E (.ref C) od H
def spR (K:Frag) (n:Nat) (d:Mode) (f:List W->R W):Sp:=λvs H Q E=>vs.length=n/\∃ws,Reps K H vs ws/\match f ws with
 | .ok w=>∀v G' H',Same H H'->Same G' H'->(∀a o,H a=some o->isL o=true->G' a=none)->Md K H H G' H' v w d->Q v H'
 | .ex e=>∀H',Same H H'->XE1 K E e H'
 | .stuck=>False
def calm (f:List W->R W):List W->R W:=λws=>match f ws with
 | .ok w=>.ok w
 |_=>.stuck
def flUn (j:Nat):Fl->R Fl
 | .nx ρ=>.ok (.nx (ρ.set j .un))
 | .bk ρ=>.ok (.bk (ρ.set j .un))
 | .ct ρ=>.ok (.ct (ρ.set j .un))
 | .rt w=>.ok (.rt w)
def mExc (c:Str)(j:Nat)(mb:Rho->R Fl)(e:XW)(ρ:Rho):R Fl:=if e.cls=c then mb (ρ.set j (.val (.exc e.cls e.at_)))>>=flUn j else .stuck
end TP
namespace TP
open PySem L2
def big8:Int:=2^2000
def V7 (_ j:Int):Prop:=0<j/\j<big8
instance (i j:Int):Decidable (V7 i j):=by unfold V7;infer_instance
def kY:OpR X (binaryOp .FloorDiv) (rI V7 λi j=>.int (i/j)):=opI λi j _ _ _ _ _ hc q=>by
 have h1:(0:Int)<j:=hc.1;have I:j<big8:=hc.2;refine PyProof.Rows.floordiv_int ox (by rw[Int.fdiv_eq_ediv_of_nonneg i ox];exact q) (.inl (PyProof.noPylong_of_log2 ?_));have h3:j.natAbs<2^9000:=by
  have:j.natAbs<2^2000:=by
   have O:(j.natAbs:Int)<2^2000:=by
    rw[Int.natAbs_of_nonneg ox];exact I
   exact_mod_cast O
  exact qB6 this (Nat.pow_le_pow_right Qz Qz)
 by_cases h0:j.natAbs=0
 ·omega
 ·exact (Nat.log2_lt h0).mpr h3
def yR (_ j:Int):Prop:=j≠0/\j.natAbs<2^8999
instance (i j:Int):Decidable (yR i j):=by unfold yR;infer_instance
def yI (_ j:Int):Prop:=j≠0
instance (i j:Int):Decidable (yI i j):=by unfold yI;infer_instance
end TP
namespace HT
open PySem PySem.Spec PyProof.Rows PySem.W
end HT
namespace TP
open PySem L2
section
open PySem.W PyProof.Rows
end
def fh (c:Str->NameKind->Bool) (hc:∀n k,c n k=true->k=.free) (y:Str):∀ns:List (Str×NameKind),ns.lookup y=some .cell\/ns.lookup y=some .free->(ns.map λ(n,k)=>if c n k then (n,NameKind.cell) else (n,k)).lookup y=some .cell\/(ns.map λ(n,k)=>if c n k then (n,NameKind.cell) else (n,k)).lookup y=some .free
 | [],h=>h
 | (n,k)::ns,h=>by
  rw[qC1];dsimp only;rw[qF8]at h;by_cases q:c n k=true
  ·rw [qA2 q,qF8]
   cases e:y == n with
   |true=>exact .inl rfl
   | false=>
    rw[e]at h;exact fh c hc y ns h
  ·rw [qA4 q,qF8]
   cases e:y == n with
   |true=>rw[e]at h;exact h
   | false=>
    rw[e]at h;exact fh c hc y ns h
end TP
namespace L2
open PySem PySem.Spec PyProof.Rows
structure F0 (sc cs:Scope) (N N':List Str) (y:Str):Prop where
 kind:cs.kind=.function
 lay:(∀n cl,cellsFrom n cs.names cl=(y,n)::cl)/\∀h:Heap,pushCells h cs.names=h.push { cls:=.type "cell",data:=.cell none }
 cellY:∀x∈cs.names,x.2=.cell->x.1=y
 isY:cs.names.lookup y=some .cell
 loc:∀x∈cs.names,x.2=.local->cs.names.lookup x.1=some .local
 free:∀x∈cs.names,x.2=.free->sc.names.lookup x.1=some .cell\/sc.names.lookup x.1=some .free
 nd:N'.Nodup
 len:N.length<=N'.length
 same:∀i∈List.range N.length,N'[i]?=N[i]?\/∀x∈N'[i]?,cs.names.lookup x=none
 out:∀x∈N'.take N.length,cs.names.lookup x≠some .local/\cs.names.lookup x≠some .cell
abbrev k6 (X:Cx) (cs:Scope) (y:Str) (cl:List (Str×Addr)) (N':List Str) (ex:List Addr) (s:Shared) (H:Hp):Cx:=
 { X with N:=N',s₀:=s,H₀:=H,env:=compEnvC cs ((y,s.heap.objs.size+1)::cl) s.heap.objs.size X.env,outer:=X.stack,stack:=X.stack,ex:=ex,fn:=λx=>x == y,pn:=[],xe:=λ_ _=>False }
def bi {cl:List (Str×Addr)}(h:((y,c)::cl).lookup x=some d):(x=y/\d=c)\/(x≠y/\cl.lookup x=some d):=by
 rw[qF8]at h
 split at h
 ·rename_i hb
  cases h;exact .inl ⟨by simpa using hb,rfl⟩
 ·rename_i hb
  exact .inr ⟨by simpa using hb,h⟩
def ux {σ:St}{fp:List Addr}(S:F0 X.env.scope cs X.N N' y) (I:Inv X pins σ H s3) (O:∀x c,cl.lookup x=some c->X.env.cells.lookup x=some c) (a6:∀x,(x,NameKind.free)∈cs.names->∃c,cl.lookup x=some c) (hf:∀b∈fp,A7 X pins H b) (b6:∀b∈fp,b<s3.heap.objs.size) (kp:∀b o,s3.heap.get? b=some o->s4.heap.get? b=some o) (hn:s4.heap.Ns s3.heap.objs.size m) (c1:s4.heap.IsCell (s3.heap.objs.size+1) none) (c4:s4.os=s3.os) (hg:s4.gens=s3.gens):Inv (k6 X cs y cl N' fp s3 H) [] (inner N' σ) H s4:=by
 have a5:∀{c:Addr}{v:Option Value},s3.heap.IsCell c v->s4.heap.IsCell c v:=λ{c v} z=>by obtain ⟨o,e,d⟩:=z;exact ⟨o,kp c o e,d⟩
 have b4:∀x c,cl.lookup x=some c->c<s3.heap.objs.size:=λx c e=>by
  obtain ⟨v,z⟩:=I.cell x c (O x c e);exact z.lt
 have b5:∃c,((y,s3.heap.objs.size+1)::cl).lookup y=some c:=⟨s3.heap.objs.size+1,by rw[qF8];simp⟩;refine ⟨⟨I.ok.mod,S.kind,I.ok.glob,I.ok.blt,qB5 _,λx z c h1 h2=>?_,λx hx=>?_,λx c h e=>?_,I.ok.hd,I.ok.frames,.inl rfl,λb hb=>⟨?_,λx c e=>?_⟩,I.bs,qD7 I.ok.bsz I.sz,λb o e hb=>?_,λb hb c3=>?_,I.stack,I.stkFree,I.tab⟩,
  c4,by rw[hg];exact I.bare,Un.kept kp,⟨m,hn,λi x v e1 e2 e3=>?_⟩,λx c e=>?_,I.hok.fresh (qB5 _),λx c e=>?_,λp hp=>absurd (show p∈([]:List (Addr×Obj)) from hp) Qy,I.hok.kept kp,?_⟩
 ·rcases bi h1 with ⟨a1,a2⟩|⟨a1,a2⟩ <;> rcases bi h2 with ⟨b1,b2⟩|⟨b1,b2⟩
  ·rw[a1,b1]
  ·have:=b4 _ _ b2;rw[a2]at this;exact absurd this (qW4.mpr (qM6 _))
  ·have:=b4 _ _ a2;rw[b2]at this;exact absurd this (qW4.mpr (qM6 _))
  ·exact I.ok.inj x z c (O x c a2) (O z c b2)
 ·have a4:(relabel cs X.env).names.lookup x=some .cell\/(relabel cs X.env).names.lookup x=some .free:=hx;rw[w4]at a4
  show ∃c,((y,s3.heap.objs.size+1)::cl).lookup x=some c;by_cases a3:x=y
  ·rw[a3];exact b5
  ·have hb:(x == y)=false:=by simpa using a3
   rw[qF8,hb];cases hl:cs.names.lookup x with
   |none=>rw[hl]at a4;rcases a4 with h|h <;> cases h
   | some k=>
    have hm:=qH0 hl;by_cases hk:k=.free
    ·subst hk;exact a6 x hm
    ·exfalso;have hb:(k == NameKind.free)=false:=by simpa using hk
     rw[hl]at a4;simp only [qN3,hb,qM0,qD4,qP1]at a4;rcases a4 with h|h
     ·cases h;exact a3 (S.cellY _ hm rfl)
     ·cases h;exact hk rfl
 ·have a3:x=y:=by simpa using h
  rcases bi e with ⟨_,a2⟩|⟨a1,_⟩
  ·rw[a2];exact qM6 _
  ·exact absurd a3 a1
 ·intro q;have cc:b=s3.heap.objs.size:=q;exact absurd (b6 b hb) (by rw[cc];exact qE2 _)
 ·rcases bi e with ⟨_,a2⟩|⟨_,a2⟩
  ·intro z;rw[a2]at z
   have:=b6 b hb
   rw[<- z]at this;exact absurd this (qW4.mpr (qM6 _))
  ·exact (hf b hb).2.2.2.2.1 x c (O x c a2)
 ·obtain ⟨f0,f1,f2,f3,f4,f5⟩:=hf b hb;rcases f3 with z|z
  ·exact I.ok.noex b o e z
  ·exact absurd (qB6 (qB4 (I.ok.bs b o e).1) z) (qE2 _)
 ·have ab:b∈frs X.stack:=c3;rcases qB3.mp (I.stkSub b ab) with z|z
  ·exact (hf b hb).2.1 z
  ·exact (hf b hb).2.2.1 z
 ·have b3:=Z8 e2;have hi:i<X.N.length:=by rw[<- I.len];exact (qB0.mp b3).1
  have a9:N'[i]?=some x:=e1;have a0:Vis (relabel cs X.env) x:=e3;have hv:∃k,cs.names.lookup x=some k:=by
   unfold Vis at a0;rw[w4]at a0;cases hl:cs.names.lookup x with
   |none=>rw[hl]at a0;rcases a0 with h|h|h <;> cases h
   |some k=>exact ⟨k,rfl⟩
  obtain ⟨k,hk⟩:=hv;have hN:X.N[i]?=some x:=by
   rcases S.same i (qH5.mpr hi) with q|q
   ·rw[<- q];exact a9
   ·have:=q x (by rw[a9];rfl)
    rw[hk]at this;cases this
  have ho:=S.out x (qD3 (i:=i) (by rw[qR7 hi];exact a9));have c0:k≠.local:=λq=>by subst q;exact ho.1 hk
  have c5:k≠.cell:=λq=>by subst q;exact ho.2 hk
  have hm:=qH0 hk;have a7:k=.free:=by
   unfold Vis at a0;rw[w4,hk]at a0;by_cases a8:k=.free
   ·exact a8
   ·exfalso;have hb:(k == NameKind.free)=false:=by simpa using a8
    simp only [qN3,hb,qM0,qD4,qP1]at a0;rcases a0 with h|h|h
    ·exact c0 (Option.some.inj h)
    ·exact c5 (Option.some.inj h)
    ·exact a8 (Option.some.inj h)
  subst a7;obtain ⟨m0,cn,hl0⟩:=I.loc;have b0:Vis X.env.scope x:=by
   rcases S.free _ hm rfl with h|h
   ·exact .inr (.inl h)
   ·exact .inr (.inr h)
  obtain ⟨u,r,l⟩:=hl0 i x v hN b3 b0;refine ⟨u,r,.inr ⟨?_,?_⟩⟩
  ·show (relabel cs X.env).names.lookup x=some .cell\/(relabel cs X.env).names.lookup x=some .free;rw[w4,hk]
   show some (if _ then _ else _)=_\/some (if _ then _ else _)=_
   split
   ·exact .inl rfl
   ·exact .inr rfl
  ·obtain ⟨c,hc⟩:=a6 x hm;have c2:=O x c hc;have a3:x≠y:=by
    rintro rfl;rw[S.isY]at hk;cases hk
   rcases l with ⟨q,_⟩|⟨_,c',e,z⟩
   ·exfalso;have q':X.env.scope.names.lookup x=some .local:=q;rcases S.free _ hm rfl with h|h <;> (rw[q']at h;cases h)
   ·rw [c2]at e;cases e
    exact ⟨c,by
     have hb:(x == y)=false:=by simpa using a3
     show ((y,s3.heap.objs.size+1)::cl).lookup x=some c;rw[qF8,hb];exact hc,a5 z⟩
 ·rcases bi e with ⟨_,a2⟩|⟨_,a2⟩
  ·rw[a2];exact ⟨none,c1⟩
  ·obtain ⟨v,z⟩:=I.cell x c (O x c a2);exact ⟨v,a5 z⟩
 ·rcases bi e with ⟨_,a2⟩|⟨_,a2⟩
  ·rw[a2];exact I.hok.fresh (qM6 _)
  ·exact I.freeC x c (O x c a2)
 ·unfold inner;rw[qC6,qT6,I.len]
  have:=S.len
  show _=N'.length;omega
def oX {X:Cx}(S:F0 X.env.scope cs X.N N' y) (h:Q { compEnvC cs ((y,s.heap.objs.size+1)::cl) s.heap.objs.size X.env with scope:=cs } { s with heap:=(s.heap.push { cls:=.type "dict",data:=.dict #[] }).push { cls:=.type "cell",data:=.cell none } }):
  wpAny M A (newFunctionEnv cs X.env.globals cl [] X.env.qual none .none (some X.env)) Q E s:=by
 simp only [newFunctionEnv,Option.isSome_some,qP0];refine qA1 (wpAny_alloc ?_);refine qA1 (wpAny_layCells _ (λname kind cells=>by cases I:kind == NameKind.cell <;> simp [I]) _ _ _ _ ?_)
 rw[S.lay.1,S.lay.2,show ({ s with heap:=s.heap.push { cls:=.type "dict",data:=.dict #[] } }:Shared).heap.objs.size=s.heap.objs.size+1 from qI4 ..];rw[qM1];exact qA1 (qO6 (qO6 h))
def FK (a0:∀x c,cl.lookup x=some c->X.env.cells.lookup x=some c) (stk:∀b∈frs X.stack,b∈X.env.locals::X.fs) (a4:∀b∈fp,A7 X pins H3 b) (a3:∀b∈fp,b<s3.heap.objs.size) (hn:∀b∈fp,H' b=none):∀b∈fp,A7 (k6 X cs y cl N' fp s3 H3) [] H' b:=λb O=>by
 obtain ⟨f0,f1,f2,f3,f4,f5⟩:=a4 b O;refine ⟨hn b O,qC8 (a3 b O),λa5=>?_,.inl O,λx c e=>?_,λp hp=>absurd (show p∈([]:List (Addr×Obj)) from hp) Qy⟩
 ·have I:b∈frs X.stack:=a5;rcases qB3.mp (stk b I) with z|z
  ·exact f1 z
  ·exact f2 z
 ·rcases bi e with ⟨_,a2⟩|⟨_,a2⟩
  ·intro z;rw[a2]at z
   have:=a3 b O
   rw[<- z]at this;exact absurd this (qW4.mpr (qM6 _))
  ·exact f4 x c (a0 x c a2)
def qw {σ:St}{Q:Hp->Prop}{W:Nat->Nat->Hp->Prop}(hc:X.calm=true) (hg:PG (k6 X cs y cl N' fp s3 I) tg g) (hk:E9 X.N.length g) (ht:PIf (k6 X cs y cl N' fp s3 I) ifs tc) (he:PE (k6 X cs y cl N' fp s3 I) elt te) (ab:∀x c,cl.lookup x=some c->X.env.cells.lookup x=some c) (I3:Inv X pins σ I s3) (I4:Inv (k6 X cs y cl N' fp s3 I) [] (inner N' σ) I s4) (T:Turn X.prog X.w X.K tg J fp it tn) (st:tn 0 s4.heap) (a7:∀b∈fp,A7 X pins I b) (cx:∀b∈fp,b<s3.heap.objs.size) (w0:W 0 m0 I) (turn:∀i m H2,W i m H2->(J.stop i H2/\Q H2)\/(J.go i H2/\∀x I,J.yld i H2 x I->g x (inner N' σ) I λa8 H4=>tc a8 H4 λb H5=>
   if b=true then te a8 H5 λy H6=>∃ys,H6 D=some (.lst ys)/\ys.length<sizeLine/\∃O,O<m/\W (i+1) O (upd H6 D (.lst (ys ++ [y])))
   else ∃O,O<m/\W (i+1) O H5)) (hR:∀(H':Hp) (s':Shared),Inv X pins σ H' s'->Q H'->(∃m,s'.heap.Ns s3.heap.objs.size m)->A7 X pins H' s3.heap.objs.size->R (.ok .next) s'):
  codeAny (model X.prog X.w) X.A (.compLoop (.ListComp elt [⟨tg,iter,ifs,0⟩] cs pos) 0 (.ref it) (.ref D) (k6 X cs y cl N' fp s3 I).env) R s4:=by
 have a6:∀{H':Hp},(∀b∈fp,H' b=none)->∀b∈fp,A7 (k6 X cs y cl N' fp s3 I) [] H' b:=λhn=>FK ab I3.stkSub a7 cx hn;have cy:(inner N' σ).length=N'.length:=I4.len;refine codeAny_loop rfl (λn s'=>∃i H',Inv (k6 X cs y cl N' fp s3 I) [] (inner N' σ) H' s'/\tn i s'.heap/\(∀b∈fp,H' b=none)/\W i n H') (λn s5 hI=>?_) m0 ⟨0,I,I4,st,λb hb=>(a7 b hb).1,w0⟩;obtain ⟨i,H5,I5,b5,b3,w5⟩:=hI
 show wpAny _ _ ((compTurn (.ListComp elt [⟨tg,iter,ifs,0⟩] cs pos) 0 (.ref it) (.ref D) (k6 X cs y cl N' fp s3 I).env).onRaise _) _ _ s5;refine wpAny_noted ?_;rw[compTurn_list];refine qA1 (qQ4 (qA1 ?_));have a3:∀{α:Type}{t:Sem α}{P:α->Shared->Prop}{E':Value->Shared->Prop}{s:Shared},wpAny (model X.prog X.w) X.A t P (λ_ _=>False) s->wpAny (model X.prog X.w) X.A t P E' s:=λh=>qP7 h (λ_ _ q=>q) λ_ _ q=>q.elim;rcases turn i n H5 w5 with ⟨stop,q⟩|⟨go,step⟩
 ·refine thn (T.done (k6 X cs y cl N' fp s3 I) rfl rfl rfl hc i [] s5 _ H5 _ I5 (a6 b3) b5 stop) λr s6 ⟨hr,I6⟩=>?_;subst hr;refine qO6 ?_;have J6:Inv X pins σ H5 s6:=I3.call' (H':=H5) (ch:=fp) I6.os I6.base I6.hok I6.bare λb hb=>by
   obtain ⟨f0,f1,f2,f3,f4,f5⟩:=a7 b hb;exact ⟨f3,f1,f4,f5⟩
  obtain ⟨m,hn,_⟩:=I6.loc;exact hR H5 s6 J6 q ⟨m,hn⟩ (I3.fpOk (qB5 _) I6.free)
 ·refine thn (T.item (k6 X cs y cl N' fp s3 I) rfl rfl rfl hc i [] s5 _ H5 _ I5 (a6 b3) b5 go) λr s6 ⟨u,hr,h6⟩=>?_;subst hr;refine qA1 (thn h6 λ_ s7 b0=>?_);obtain ⟨x,H7,I7,r7,y7,a4,c2⟩:=b0;have c1:=I7.pinned (a6 c2) (T.obj _ _ a4);refine qA1 (a3 (thn (hg _ s7 _ H7 x u _ c1 r7 (hk x _ H7 _ (step x H7 y7))) λ_ s8 b4=>?_));obtain ⟨a0,H8,I8,q8,l8,k8⟩:=b4;refine qA1 (a3 (thn (ht _ s8 a0 H8 _ I8 q8) λb s9 a9=>?_));obtain ⟨H9,I9,q9⟩:=a9;have again:∀{s':Shared}{H':Hp},Inv (k6 X cs y cl N' fp s3 I) ([]++aF fp s7.heap) a0 H' s'->(∃O,O<n/\W (i+1) O H') ->
    ∃O,O<n/\∃i H',Inv (k6 X cs y cl N' fp s3 I) [] (inner N' σ) H' s'/\tn i s'.heap/\(∀b∈fp,H' b=none)/\W i O H':=λ{s' H'} I' zz96=>by
   obtain ⟨O,hm,w'⟩:=zz96;refine ⟨O,hm,i+1,H',(I'.unpinned).weak (by rw[l8]) (λj v e=>?_),T.keep _ _ _ a4 λb hb o e=>(I'.pin (b,o) (qC7 _ (qC7 _ (K4 hb e)))).1,λb hb=>?_,w'⟩
   ·have hj:j<X.N.length:=by rw[<- I3.len];exact (qB0.mp (Z8 e)).1
    rw[k8 j hj];exact e
   ·obtain ⟨o,e,d⟩:=T.obj _ _ a4 b hb;exact (I'.pin (b,o) (qC7 _ (qC7 _ (K4 hb e)))).2.1
  cases b with
  | false=>
   have a5:∃O,O<n/\W (i+1) O H9:=q9;exact qO6 ⟨rfl,again I9 a5⟩
  | true=>
   have a5:te a0 H9 _:=q9;refine qA1 (qA1 (a3 (thn (he _ s9 a0 H9 _ I9 a5) λv cp b6=>?_)));obtain ⟨y,cv,cc,cn,ys,hD,hy,c4⟩:=b6;refine qA1 (a3 (thn (cz _ cp a0 cv (.ref D) [y] (.ref D) [v] (λ_ H'=>∃O,O<n/\W (i+1) O H') cc rfl (.cons cn .nil) ⟨D,ys,y,rfl,rfl,hD,hy,c4⟩) λ_ d0 c0=>?_));obtain ⟨_,d1,c3,_,c5⟩:=c0;exact qO6 (qO6 ⟨rfl,again c3 c5⟩)
def qx {R:Value->Addr->Result->Shared->Prop}{Q:V->Hp->Prop}(S:F0 X.env.scope cs X.N N' y) (hc:X.calm=true) (hg:∀cl ex s H,PG (k6 X cs y cl N' ex s H) tg g) (hk:E9 X.N.length g) (ht:∀cl ex s H,PIf (k6 X cs y cl N' ex s H) ifs tc) (he:∀cl ex s H,PE (k6 X cs y cl N' ex s H) elt te) (a0:∀x c,cl.lookup x=some c->X.env.cells.lookup x=some c) (a6:∀x,(x,NameKind.free)∈cs.names->∃c,cl.lookup x=some c) (h:PIE X pins σ tg (λJ H1=>∀D,H1 D=none->qS J D g tc te (inner N' σ) H1 (Q (.ref D))) itv s2) (hR:∀(D C:Addr) (H':Hp) (s':Shared),Inv X pins σ H' s'->Q (.ref D) H'->(∃m,s'.heap.Ns C m)->A7 X pins H' C->R (.ref D) C (.ok .next) s'):
  wpAny (model X.prog X.w) X.A (newList []) (λa5 a3=>wpAny (model X.prog X.w) X.A (newFunctionEnv cs X.env.globals cl [] X.env.qual none .none (some X.env)) (λO a4=>
   codeAny (model X.prog X.w) X.A (.compStart (.ListComp elt [⟨tg,iter,ifs,0⟩] cs pos) 0 itv a5 { O with scope:=relabel cs X.env }) (R a5 O.locals) a4) X.xe a3) X.xe s2:=by
 obtain ⟨it,fp,tn,J,H2,e,I2,T,a8,f2,hw⟩:=h;subst e;refine qP5 (oX S ?_);have hD:=I2.hok.fresh (qB5 _);obtain ⟨W,⟨m0,w0⟩,turn⟩:=hw s2.heap.objs.size hD;have I3:Inv X pins σ (upd H2 s2.heap.objs.size (.lst [])) { s2 with heap:=s2.heap.push { cls:=.type "list",dict:=none,data:=.seq ([]:List Value).toArray } }:=I2.lnew (t':=s2.toks) .nil (qD1 _);have I:∀b∈fp,b<s2.heap.objs.size:=λb hb=>by
  obtain ⟨o,e,_⟩:=T.obj 0 _ a8 b hb;exact qB4 e
 have a7:∀b∈fp,A7 X pins (upd H2 s2.heap.objs.size (.lst [])) b:=λb hb=>by
  obtain ⟨f0,r⟩:=f2 b hb;exact ⟨by rw[c8 (qC8 (I b hb))];exact f0,r⟩
 have ab:∀b∈fp,b<(s2.heap.push { cls:=.type "list",dict:=none,data:=.seq ([]:List Value).toArray }).objs.size:=λb hb=>by rw[qI4];exact qE9 (I b hb)
 have kp:∀b o,(s2.heap.push { cls:=.type "list",dict:=none,data:=.seq ([]:List Value).toArray }).get? b=some o->(((s2.heap.push { cls:=.type "list",dict:=none,data:=.seq ([]:List Value).toArray }).push { cls:=.type "dict",data:=.dict #[] }).push { cls:=.type "cell",data:=.cell none }).get? b=some o:=λb o e=>qA5 _ (qA5 _ e);have I4:=ux (cs:=cs) (cl:=cl) (N':=N') (fp:=fp) (s4:={ s2 with heap:=((s2.heap.push { cls:=.type "list",dict:=none,data:=.seq ([]:List Value).toArray }).push { cls:=.type "dict",data:=.dict #[] }).push { cls:=.type "cell",data:=.cell none } }) S I3 a0 a6 a7 ab kp ((Heap.Ns.new _ (.type "dict")).keeps λb o e=>qA5 _ e) ⟨_,by rw[<- qI4];exact qC2 _ rfl,rfl⟩ rfl rfl;have a9:tn 0 (((s2.heap.push { cls:=.type "list",dict:=none,data:=.seq ([]:List Value).toArray }).push { cls:=.type "dict",data:=.dict #[] }).push { cls:=.type "cell",data:=.cell none }):=T.keep 0 _ _ a8 λb hb o e=>kp b o (qA5 _ e);have loop:=qw (R:=R (.ref s2.heap.objs.size) (s2.heap.push { cls:=.type "list",dict:=none,data:=.seq ([]:List Value).toArray }).objs.size) (D:=s2.heap.objs.size) (iter:=iter) (pos:=pos) (it:=it) (Q:=Q (.ref s2.heap.objs.size)) hc (hg cl fp _ _) hk (ht cl fp _ _) (he cl fp _ _) a0 I3 I4 T a9 a7 ab w0 turn λH' s' I' q n f=>hR _ _ H' s' I' q n f;exact codeAny_compStart_list loop (T.self _ 0 _ _ _ a9 loop)
end L2
namespace TP
open PySem L2
def uA (h:g6 cs sc2 N' N2):g6 (k6 X cs y cl N' ex s H).env.scope sc2 (k6 X cs y cl N' ex s H).N N2:=
 ⟨h.kind,h.ncell,h.loc,λx I e=>fh (λn k=>k == NameKind.free&&X.env.scope.kind == .function&&X.env.kindOf n == some .cell) (λn k q=>by
  simp only [qG4,beq_iff_eq]at q;exact q.1.1) x.1 cs.names (h.free x I e),h.nd,h.len,h.same,h.out⟩
end TP
namespace L2
open PySem PySem.Spec PyProof.Rows
def wm {X:Cx}{cs:Scope}{N':List Str}{yc:Str}{tg iter a0:Expr}{O:List Expr}{wi:TI}{g:TG}{tc:TT}{te:TE}{pos:Pos}{i:Nat}{y:Str}{py a3:Pos}(S:F0 X.env.scope cs X.N N' yc) (hc:X.calm=true) (hi:PI X tg iter wi) (hg:∀cl ex s H,PG (k6 X cs yc cl N' ex s H) tg g) (hk:E9 X.N.length g) (ht:∀cl ex s H,PIf (k6 X cs yc cl N' ex s H) O tc) (he:∀cl ex s H,PE (k6 X cs yc cl N' ex s H) a0 te) (hN:X.N.Nodup) (hy:X.N[i]?=some y) (hl:Loc X.env.scope y) (a9:swapsWith (.ListComp a0 [⟨tg,iter,O,0⟩] cs pos) (some (.Name y py)) a3.line X.env=pure true:=by rfl) (hf:X.fn y=true\/X.env.scope.names.lookup y=some .local:=by first|exact .inl rfl|exact .inr rfl|assumption) (hs:∀x,foldedSetIterable iter X.env x=pure x:=by intro _;rfl):PS X (.Assign [.Name y py] (.ListComp a0 [⟨tg,iter,O,0⟩] cs pos) a3) (af (jB N' wi g tc te) (K5 i)):=by
 intro pins s σ H Q I h;obtain ⟨cl,e,h1,h2,_⟩:=V6 (env:=X.env) cs.names [] (λx hx hk=>I.ok.has x.1 (S.free x hx hk)) (λ_ _ z=>nomatch z);have a4:closureFor cs X.env=pure cl:=by
  simp only [closureFor];rw[e];rfl
 rw[exec_Assign_Name_used _ _ _ _ a9];refine qA1 (qQ4 (qA1 ?_))
 show wpAny _ _ (comprehension (.ListComp a0 [⟨tg,iter,O,0⟩] cs pos) cs X.env _ (newList []) false (eval iter X.env) (some (assign (.Name y py) X.env))>>=_) _ _ s;refine qA1 (thn (qS1 (use:=some (assign (.Name y py) X.env)) (Q:=λ_ s'=>SP X pins Q .next s') rfl hs a4 S.kind S.loc (thn (hi pins s σ H _ I h) λv s1 q1=>thn q1 λb3 s2 q2=>?_)) λ_ s' q=>qO6 (qO6 q));refine qx (R:=λa7 C=>compPost (model X.prog X.w) X.A X.xe (some (assign (.Name y py) X.env)) (λ_ s'=>SP X pins Q .next s') a7 C) (Q:=λx H1=>K5 i x σ H1 Q.nx) S hc hg hk ht he h1 h2 q2 λD C H' s' I' q n f=>?_;obtain ⟨m,hn⟩:=n;obtain ⟨f0,f1,f2,f3,f4,f5⟩:=f
 show wpAny _ _ (assign (.Name y py) X.env (.ref D)) _ _ _;refine wpAny_assign_Name (bT (v:=.ref D) (u:=.ref D) I' hN hy hl rfl (λab a6 a5=>?_) hf);obtain ⟨a,sb,ha⟩:=a5;have a8:C≠a:=by
  rcases ha with rfl|ha
  ·exact f1
  ·exact λq=>f4 _ _ ha q.symm
 refine ⟨m,hn.sameBut sb a8,λh' b0=>?_⟩;exact ⟨_,H',a6.turned (t':=ab.toks) (λb o hb e=>b0.extBut b o hb e) f0 f1 f3 f4 f5,q⟩
end L2
namespace TP
open PySem L2
def zL {X:Cx}{K:Frag}{EX:EXT}{d:Mode}{pos:Pos}{ma:Rho->R W}{ta:Rho->R Bool}{i:Nat}{y:Str}{py:Pos}{cs:Scope}{N':List Str}{yc:Str}{tg iter O:Expr}{a0:List Expr}{dd:Mode}{g:TG}{mg:W->Rho->Option Rho}{mi:Rho->R (List W)}{I:Pos}(S:F0 X.env.scope cs X.N N' yc) (hc:X.calm=true) (hi:PI X tg iter (tIt K EX false dd mi)) (hg:∀cl ex s H,PG (k6 X cs yc cl N' ex s H) tg g) (a3:Gt K dd g mg) (hk:E9 X.N.length g) (ht:∀cl ex s H,PIf (k6 X cs yc cl N' ex s H) a0 (tT K EX ta)) (he:∀cl ex s H,PE (k6 X cs yc cl N' ex s H) O (tM K EX .V ma)) (hN:X.N.Nodup) (hy:X.N[i]?=some y) (hl:Loc X.env.scope y) (a4:swapsWith (.ListComp O [⟨tg,iter,a0,0⟩] cs I) (some (.Name y py)) pos.line X.env=pure true:=by rfl) (hf:X.fn y=true\/X.env.scope.names.lookup y=some .local:=by first|exact .inl rfl|exact .inr rfl|assumption) (hs:∀x,foldedSetIterable iter X.env x=pure x:=by intro _;rfl):PS X (.Assign [.Name y py] (.ListComp O [⟨tg,iter,a0,0⟩] cs I) pos) (tSt K EX d (sF i (l6 N'.length mi mg ta ma))):=
 (wm S hc hi hg hk ht he hN hy hl a4 hf hs).mono λD σ H q=>by
  have:=mH (m:=l6 N'.length mi mg ta ma) q
  exact mJ a3 this
end TP
namespace L2
open PySem PySem.Spec PyProof.Rows
abbrev L0 (I:Pos):Arguments:={ posonlyargs:=[],args:=[{ arg := "one",annotation:=none,pos:=I }],vararg:=none,kwonlyargs:=[],kw_defaults:=[],kwarg:=none,defaults:=[] }
abbrev lamS:Scope:={ kind:=.function,names:=[("one",.local),("held",.free)],isGenerator:=false,isCoroutine:=false }
abbrev J4 (I p2 O:Pos):Expr:=.Subscript (.Name "held" I) (.Name "one" p2) O
def Kp (h h':Heap):Prop:=∀b o,h.get? b=some o->h'.get? b=some o
def mX (s:Shared) (k:Int)(v:Value)(s':Shared):Prop:=∃h' I t,v=.int k t/\s'={ s with heap:=h',toks:=I }/\Kp s.heap h'
def xL (I:A.depth<recursionLimit) (ho:s.heap.get? f=some (PySem.W.kla_obj "<lambda>" qual (L0 pa) (J4 p1 p2 p3) lamS cl pm c' ctv)) (a5:s.heap.CodeRec (.ref c') qual) (lim:s.heap.NoLimit) (a4:cl.lookup (Str.ofString "held")=some c) (hc:s.heap.IsCell c (some (.ref b))) (hl:s.heap.IsList b its) (h0:0<=i) (a0:i<2^63) (hx:its[i.toNat]?=some (.int k t')):
  wpAny (model prog w) A (call (.ref f) [.int i t]) (mX s k) (λ_ _=>False) s:=by
 refine wpAny_call (PySem.W.kla_callFunE I ho rfl rfl rfl rfl a5 ?_);rw[show bindArgs (PySem.W.kla_fn "<lambda>" qual (L0 pa) (J4 p1 p2 p3) lamS cl pm (.ref c') ctv) ⟨[Value.int i t],[]⟩=(pure [(Str.ofString "one",Value.int i t)]:Sem (List (Str×Value))) from rfl];refine qO6 (wpAny_newFunctionEnv (show ∀x∈lamS.names,x.2≠.cell by decide) (λx hx=>?_) (λh1 a3 O=>⟨lim.fresh _ O,?_⟩) rfl)
 ·have e:x=(Str.ofString "one",Value.int i t):=by simpa using hx
  rw[e];rfl
 have hk:Kp s.heap h1:=λb o e=>O.extBut b o (qC8 (qB4 e)) (qA5 _ e)
 show codeAny _ _ (.expr (J4 p1 p2 p3) (PySem.W.envX qual lamS s.heap.objs.size f (.ref c') cl)) _ _;refine PySem.W.kla_codeExpr (Subscript_ (wpAny_Name (wpAny_loadName_free rfl rfl a4 (hc.keeps hk) (wpAny_Name (qU0 rfl rfl a3 rfl (item_listR (let ⟨o,e,q⟩:=hl;⟨o,hk _ _ e,q⟩) h0 a0 hx ?_))))));exact ⟨h1,_,t',rfl,rfl,hk⟩
def tu (a v:Value):argsOk "min" ⟨[a],[(Str.ofString "key",v),(Str.ofString "default",.none)]⟩:=by unfold argsOk;kernel_rfl
structure qT (vs:List Value) (kf:Nat->Int) (j i:Nat) (v:Value):Prop where
 at_:vs[i]?=some v
 lt:i<j
 least:∀n,n<j->kf i<=kf n/\(n<i->kf i<kf n)
def KpB (S I:Addr)(g h:Heap):Prop:=∀b o,b≠S->b≠I->g.get? b=some o->h.get? b=some o
abbrev om (I f S:Addr):Args:=⟨[.ref I,.ref f,.ref S],[(Str.ofString "default",.none)]⟩
def Ez {s:Shared}(hh:A.handled=none) (hl:s.heap.IsList l vs.toArray) (a7:l≠I) (a8:l≠S) (a5:S≠I) (turn:∀i v,vs[i]?=some v->∀(h:Heap) (tk:Nat),KpB S I s.heap h->wpAny (model prog w) A.in1 (call (.ref f) [v]) (mX { s with heap:=h,toks:=tk } (kf i)) (λ_ _=>False) { s with heap:=h,toks:=tk }) (hR:∀v h tk,KpB S I s.heap h->((vs = []/\v=.none)\/∃i,qT vs kf vs.length i v)->R (.ok (.ret v)) { s with heap:=h,toks:=tk }):
  ∀ (r j:Nat) (h:Heap) (tk:Nat) (its:Array Value) (c:Nat),vs.length-j=r->j<=vs.length->KpB S I s.heap h->h.get? S=some (seqObj "list" its c)->h.IsListIter I l j ->
   ((j=0/\its=#[])\/∃i vb tb,its=#[vb,.int (kf i) tb]/\qT vs kf j i vb) ->
   codeAny (model prog w) A (.builtin "min.loop" (om I f S)) R { s with heap:=h,toks:=tk }:=by
 have nm:(toString "min" ++ toString ".loop" : String) = "min.loop" := Qz;have Wk:=Walks.list (prog:=prog) (w:=w) (A:=A.in1) hh I l a7 vs.toArray;have sz:vs.toArray.size=vs.length:=qB8 ..;intro r
 induction r with
 | zero=>
  intro j h tk its c hr hj kp gS gI st;have ej:j=vs.length:=ox;have gl:h.IsList l vs.toArray:=by
   obtain ⟨o,e,q⟩:=hl;exact ⟨o,kp l o a8 a7 e,q⟩
  refine codeAny_builtin PySem.F.entry_min_loop ?_;rw[Around.under_plainId qJ1 _]
  show wpAny _ A.in1 (seqItems? (.ref S)>>=_) _ _ _;refine qA1 (qP8 gS rfl ?_)
  show wpAny _ A.in1 (tryCatch (pyNext (.ref I)) _>>=_) _ _ _;refine qA1 (wpAny_tryCatch (Wk.done _ _ _ ⟨by rw[sz,<- ej];exact gI,gl⟩ λh' ab k'=>?_));have a0:KpB S I s.heap h':=λb o n1 n2 e=>k' b o (by simpa using n2) (kp b o n1 n2 e);have a4:=k' S _ (by simpa using a5) gS;rcases st with ⟨e0,e1⟩|⟨i,vb,tb,e1,O⟩
  ·subst e1;refine qA1 (qS3 (qO6 ?_));exact hR _ _ _ a0 (.inl ⟨qG9 ox,rfl⟩)
  ·subst e1;have s1:=qJ9 h' S (Obj.mapSeq λ_=>(#[]:Array Value))
   show wpAny _ A.in1 (updateSeq S (λ_=>#[])>>=_) _ _ _;refine qA1 (qQ7 a4 rfl (qA1 (qQ9 (qO6 ?_))));exact hR _ _ _ (λb o n1 n2 e=>(s1.2 b n1).trans (a0 b o n1 n2 e)) (.inr ⟨i,by rw[<- ej];exact O⟩)
 | succ r ih=>
  intro j h tk its c hr hj kp gS gI st;have lt:j<vs.length:=ox;have gl:h.IsList l vs.toArray:=by
   obtain ⟨o,e,q⟩:=hl;exact ⟨o,kp l o a8 a7 e,q⟩
  refine codeAny_builtin PySem.F.entry_min_loop ?_;rw[Around.under_plainId qJ1 _]
  show wpAny _ A.in1 (seqItems? (.ref S)>>=_) _ _ _;refine qA1 (qP8 gS rfl ?_)
  show wpAny _ A.in1 (tryCatch (pyNext (.ref I)) _>>=_) _ _ _;refine qA1 (wpAny_tryCatch (Wk.item j _ _ _ (by rw[sz];exact lt) ⟨gI,gl⟩ λv h' ab hP b4 k'=>?_));have hv:vs[j]?=some v:=by simpa using hP
  have a0:KpB S I s.heap h':=λb o n1 n2 e=>k' b o (by simpa using n2) (kp b o n1 n2 e);have a4:=k' S _ (by simpa using a5) gS;have b5:=b4.1
  show wpAny _ A.in1 (tryCatch (holding [v] (call (.ref f) [v])) _>>=_) _ _ _;refine qA1 (wpAny_tryCatch (qP2 (qP7 (turn j v hv h' ab a0) (λx s2 q2=>?_) λ_ _ q=>q.elim)));obtain ⟨h2,b6,t2,rfl,rfl,k2⟩:=q2;have b0:KpB S I s.heap h2:=λb o n1 n2 e=>k2 b o (a0 b o n1 n2 e);have a3:=k2 S _ a4;have a9:h2.IsListIter I l (j+1):=by
   obtain ⟨o,e,q⟩:=b5;exact ⟨o,k2 _ _ e,q⟩
  -- the new one is put
  have put:∀(h3:Heap) (a6:Nat),h3=h2.update S (Obj.mapSeq λ_=>#[v,.int (kf j) t2])->qT vs kf (j+1) j v->codeAny (model prog w) A (.builtin "min.loop" (om I f S)) R { s with heap:=h3,toks:=a6 }:=λh3 a6 e3 O=>by
   subst e3;have s1:=qJ9 h2 S (Obj.mapSeq λ_=>#[v,.int (kf j) t2]);obtain ⟨c2,b3⟩:∃c2,(h2.update S (Obj.mapSeq λ_=>#[v,.int (kf j) t2])).get? S=some (seqObj "list" #[v,.int (kf j) t2] c2):=⟨_,get?_update_seq a3 λ_=>#[v,.int (kf j) t2]⟩;refine ih (j+1) _ a6 _ c2 ox ox (λb o n1 n2 e=>(s1.2 b n1).trans (b0 b o n1 n2 e)) b3 ?_ (.inr ⟨j,v,t2,rfl,O⟩);obtain ⟨o,e,q⟩:=a9;exact ⟨o,(s1.2 I a5.symm).trans e,q⟩
  rcases st with ⟨e0,e1⟩|⟨i,vb,tb,e1,O⟩
  ·subst e1 e0
   show wpAny _ A.in1 (updateSeq S (λ_=>#[v,.int (kf 0) t2])>>=_) _ _ _;refine qA1 (qQ7 a3 rfl ?_);rw[nm];exact qO6 ⟨qT4 qJ1 _,put _ _ rfl ⟨hv,qD2 _,λn hn=>by
    have:n=0:=ox
    subst this;exact ⟨qF3 _,λq=>absurd q (qE2 _)⟩⟩⟩
  ·subst e1
   show wpAny _ A.in1 (tryCatch (holding [v,.int (kf j) t2] (richCompare .Lt (.int (kf j) t2) (.int (kf i) tb)>>=_)) _>>=_) _ _ _;refine qA1 (wpAny_tryCatch (qP2 (qA1 (CmpOf.ints_lt (prog:=prog) (w:=w) (A:=A.in1) (P:=λi v=>∃t,v=.int (kf i) t) kf (λ_ _ q=>q) j i _ _ _ _ _ ⟨t2,rfl⟩ ⟨tb,rfl⟩ ?_))));refine qA1 (qP2 (qQ0 ?_));refine qA1 (qQ9 (qO6 ?_));by_cases lt2:kf j<kf i
   ·simp only [lt2,decide_true,qP0];refine qA1 (qQ7 a3 rfl (qA1 (qQ9 ?_)));rw[nm];exact qO6 ⟨qT4 qJ1 _,put _ _ rfl ⟨hv,qD2 _,λn hn=>by
     by_cases e:n=j
     ·subst e;exact ⟨qF3 _,λq=>absurd q (qE2 _)⟩
     ·have b1:=O.least n ox;exact ⟨by have:=b1.1;omega,λ_=>by have:=b1.1;omega⟩⟩⟩
   ·simp only [lt2,decide_false,qD4,qP1];refine qA1 (qQ9 ?_);rw[nm];refine qO6 ⟨qT4 qJ1 _,ih (j+1) _ _ _ c ox ox b0 a3 a9 (.inr ⟨i,vb,tb,rfl,O.at_,by have:=O.lt;omega,λn hn=>?_⟩)⟩;by_cases e:n=j
    ·subst e;exact ⟨ox,λq=>absurd q (by have:=O.lt;omega)⟩
    ·exact O.least n ox
def wL (hh:A.handled=none) (hl:s.heap.IsList l vs.toArray) (turn:∀i v,vs[i]?=some v->∀(h:Heap) (I:Nat),Kp s.heap h->wpAny (model prog w) A.in1 (call (.ref f) [v]) (mX { s with heap:=h,toks:=I } (kf i)) (λ_ _=>False) { s with heap:=h,toks:=I }) (hQ:∀v h I,Kp s.heap h->((vs = []/\v=.none)\/∃i,qT vs kf vs.length i v)->Q v { s with heap:=h,toks:=I }):
  wpAny (model prog w) A (call (.builtin "min") [.ref l] [(Str.ofString "key",.ref f),(Str.ofString "default",.none)]) Q E s:=by
 have nm:(toString "min" ++ toString ".loop" : String) = "min.loop" := Qz;obtain ⟨ol,a0,_⟩:=id hl;have O:l<s.heap.objs.size:=qB4 a0;refine kmk_tree PySem.F.kind_min PySem.F.plain_min PySem.F.entry_min (tu _ _) ?_
 show wpAny _ A.in1 (Builtin.Builtins.bindParams "min" ["key","default"] 0 ⟨[],[(Str.ofString "key",.ref f),(Str.ofString "default",.none)]⟩>>=_) _ _ s;refine qA1 (wpAny_of_eq (show Builtin.Builtins.bindParams "min" ["key","default"] 0 ⟨[],[(Str.ofString "key",.ref f),(Str.ofString "default",.none)]⟩=pure [some (.ref f),some .none] from rfl) ?_);refine qA1 (qO6 (qA1 (qQ5 hl (qA1 (qT3 ?_ (qD1 _))))));rw[nm];have zI:(s.heap.push { cls:=.type "list_iterator",data:=.fields #[.ref l,.int 0 0] }).objs.size=s.heap.objs.size+1:=qI4 ..;have kp:∀h,KpB (s.heap.push { cls:=.type "list_iterator",data:=.fields #[.ref l,.int 0 0] }).objs.size s.heap.objs.size s.heap h->Kp s.heap h:=λh q b o e=>q b o (by rw[zI];exact qC8 (qE9 (qB4 e))) (qC8 (qB4 e)) e;refine qO6 ⟨qT4 qJ1 _,Ez (vs:=vs) (kf:=kf) (l:=l) hh hl (qC8 O) (by rw[zI];exact qC8 (qE9 O)) (by rw[zI];exact qJ3 (qD2 _))
  (λi v e h I q=>turn i v e h I (kp h q)) (λv h I q d=>hQ v h I (kp h q) d) _ 0 _ _ #[] 0 rfl (qD1 _) (λb o _ _ e=>qA5 _ (qA5 _ e)) (qC2 _ rfl) ⟨_,qA5 _ (qC2 _ rfl),rfl,rfl⟩ (.inl ⟨rfl,rfl⟩)⟩
def wT {σ:St}(I:Inv X pins σ H s) (hT:(tb,k)∈lamT) (hC:PySem.W.codeHdIn X.K c tb=true) (a0:X.env.code=.ref c) (hq:X.env.qual++Str.ofString "<lambda>" = k.2.2) (c3:lpos.line=k.1) (ab:lpos.col=k.2.1) (hz:X.env.scope.names.lookup (Str.ofString "held")=some .cell) (h:∀(f c':Addr) (cl:List (Str×Addr)) (pm O:Value) (H':Hp) (s':Shared),Inv X pins σ H' s'->(∀a o,H a=some o->H' a=some o)->s'.heap.get? f=some (PySem.W.kla_obj (Str.ofString "<lambda>") (X.env.qual++Str.ofString "<lambda>") (L0 pa) (J4 p1 p2 p3) lamS cl pm c' O) ->
   s'.heap.CodeRec (.ref c') (X.env.qual++Str.ofString "<lambda>")->(∀x d,cl.lookup x=some d->X.env.cells.lookup x=some d)->(∃d,cl.lookup (Str.ofString "held")=some d)->Q (.ref f) s'):
  wpAny (model X.prog X.w) X.A (eval (.Lambda (L0 pa) (J4 p1 p2 p3) lamS lpos) X.env) Q X.xe s:=by
 have a6:=I.tab _ hT;obtain ⟨ps,gP,st⟩:=I.hok _ _ a6;have gP:s.heap.get? tb=some (PySem.W.tabObj ps):=gP;have C:PySem.W.CodeHd s.heap c tb:=PySem.W.codeHd_of_K I.kIn hC;have a5:s.heap.Ns mainGlobals X.mg:=I.mod.glob.keeps I.bk;obtain ⟨bm,ob,b1,b2,b3,b4,b5,b6⟩:=I.mod.bmain;have b3:=I.bk _ _ b3;have c4:mainGlobals≠tb:=λq=>by
  obtain ⟨o,es,ep,e,d,_⟩:=a5;rw[q,gP]at e;cases e;cases d
 have cn:bm≠tb:=λq=>by rw[q,gP]at b3;cases b3;cases b4
 have c5:bm≠mainGlobals:=λq=>by
  obtain ⟨o,es,ep,e,d,_⟩:=a5;rw[q,e]at b3;cases b3;rw[d]at b6;cases b6
 have hB:s.heap.BuiltinsAt X.mg tb:=⟨bm,ob,b1,b2,c5,cn,b3,b4,b5,b6⟩;obtain ⟨cl,e,h1,h2,_⟩:=V6 (env:=X.env) lamS.names [] (λx hx hk=>by
  rcases qB3.mp hx with rfl|hx
  ·cases hk
  ·rw [qC4.mp hx]
   exact I.ok.has _ (.inl hz)) (λ_ _ z=>nomatch z)
 have a4:closureFor lamS X.env=pure cl:=by
  simp only [closureFor];rw[e];rfl
 have a3:∃d,cl.lookup (Str.ofString "held")=some d:=h2 _ (qA8 _ qB2);have cp:tb<s.heap.objs.size:=qB4 gP;refine PySem.W.kla_eval rfl ?_;rcases st with e0|⟨c',oc,e0,hown,hne,goc,lc⟩
 ·subst e0;refine PySem.W.kla_makeFunction a4 I.ok.glob a5 a0 C gP trivial rfl c4 hB λc' O h' tk hx a9 cx a8 c0=>?_;obtain ⟨c2,oc,vs,t,e2,c1,hd,hv⟩:=id a8;cases e2;have cc:H c'=none:=I.hok.fresh a9;have kp:∀b o,b≠tb->s.heap.get? b=some o->(h'.push (PySem.W.kla_obj (Str.ofString "<lambda>") (X.env.qual++Str.ofString "<lambda>") (L0 pa) (J4 p1 p2 p3) lamS cl ((X.mg "__name__").getD .none) c' O)).get? b=some o:=λb o n e=>qA5 _ (hx b o n e);have same:∀a o,H a=some o->upd H c' (.own tb) a=some o:=λa o e=>by rw[c8 (f7 e cc)];exact e
  have b0:∀b,H b=none->b≠tb:=λb n z=>by rw[z,a6]at n;cases n
  have I':Inv X pins σ (upd H c' (.own tb)) { s with heap:=h'.push (PySem.W.kla_obj (Str.ofString "<lambda>") (X.env.qual++Str.ofString "<lambda>") (L0 pa) (J4 p1 p2 p3) lamS cl ((X.mg "__name__").getD .none) c' O),toks:=tk }:=by
   refine I.un ⟨λb o e n _ _=>kp b o (b0 b n) e,λb o e n _ _=>⟨o.slots,kp b o (b0 b n) e⟩,λb o e n _=>?_,λb o e _=>?_,λb xs q=>same _ _ q,λb o u q=>same _ _ q,λb y q=>same _ _ q⟩ λb u q=>?_
   ·rw[c8 (qC8 (qB6 (qB4 e) a9))];exact n
   ·by_cases z:b=tb
    ·rw[z];exact ⟨_,qA5 _ c0⟩
    ·exact ⟨o,kp b o z e⟩
   ·by_cases z:b=c'
    ·subst z;rw[i9]at q;cases q;exact ⟨oc,qA5 _ c1⟩
    ·rw [c8 z]at q
     by_cases y:b=tb
     ·subst y;rw[a6]at q;cases q;refine ⟨_,qA5 _ c0,.inr ⟨c',oc,?_,i9,qJ3 (qB6 cp a9),qA5 _ c1,vs,t,hd,by rw[<- hq];exact hv⟩⟩;rw[c3,ab];simp
     ·refine (I.hok b u q).stay (λd v a7 e'=>kp d v ?_ e') (λd q'=>same _ _ q') λd xs q'=>same _ _ q';rcases a7 with rfl|a7
      ·exact y
      ·rintro rfl;rw[a6]at a7;cases a7
  exact h _ c' cl _ O _ _ I' same (qC2 _ rfl) (a8.push _) h1 a3
 ·subst e0;refine PySem.W.kla_makeFunctionHit a4 I.ok.glob a5 a0 C gP ?_ (cv:=.ref c') ?_ hB λO h' tk hk hsz=>?_
  ·exact trivial
  ·rw [<- c3,<- ab]
   exact codeAmong_snoc [] trivial rfl
  ·have kp:Kp s.heap (h'.push { cls:=.type "function",data:=.func (PySem.W.kla_fn (Str.ofString "<lambda>") (X.env.qual++Str.ofString "<lambda>") (L0 pa) (J4 p1 p2 p3) lamS cl ((X.mg "__name__").getD .none) (.ref c') O) }):=λb o e=>qA5 _ (hk b o e);refine h _ c' cl _ O H _ (I.un (Un.kept kp) (I.hok.kept kp)) (λ_ _ e=>e) (qC2 _ rfl) ?_ h1 a3;obtain ⟨vs,t,d1,d2⟩:=lc;exact ⟨c',oc,vs,t,rfl,kp _ _ goc,d1,by rw[hq];exact d2⟩
def bg (I:Int->Int)(O:List Int):Option Int:=O.find? λi=>O.all λx=>decide (I i<=I x)
def tq {n:Nat}(h:is[n]?=some i) (I:∀m j,is[m]?=some j->key i<=key j/\(m<n->key i<key j)):bg key is=some i:=by
 unfold bg;rw[List.find?_eq_some_iff_append];obtain ⟨hn,e⟩:=qB0.mp h;refine ⟨?_,is.take n,is.drop (n+1),?_,λa ha=>?_⟩
 ·rw [qE3]
  intro x hx;obtain ⟨m,hm,ex⟩:=qE7.mp hx;exact qO8 (I m x (by rw[qA3 hm,ex])).1
 ·rw[<- e,List.getElem_cons_drop,List.take_append_drop]
 ·obtain ⟨m,hm,O⟩:=qE7.mp ha;rw[qH9]at hm;rw[qO3]at O;have q:=(I m a (by rw[qA3 ox,O])).2 ox;rw[qV9,qW0];exact ⟨i,qD3 h,by simp;omega⟩
def vO:Option Int->V
 |none=>.non
 |some i=>.int i
def xZ (K:Frag) (j:Nat) (ta:TA):TE:=λσ H Q=>ta σ H λvs H1=>∃(l b:Addr) (I ks:List Int),vs = [.ref l]/\SqL K H1 l (I.map V.int)/\σ[j]?=some (some (.ref b))/\SqL K H1 b (ks.map V.int)/\(∀i∈I,0<=i/\i<(ks.length:Int)) /\
 ∀H2:Hp,(∀a o,H1 a=some o->H2 a=some o)->Q (vO (bg (λi=>ks.getD i.toNat 0) I)) H2
def SqL.more {K:Frag}(h:SqL K H1 a xs) (I:∀a o,H1 a=some o->H2 a=some o):SqL K H2 a xs:=by
 rcases h with (h|⟨o,h⟩)|h
 ·exact .inl (.inl (I _ _ h))
 ·exact .inl (.inr ⟨o,I _ _ h⟩)
 ·exact .inr h
def bO {O:List Int}(r:Vals (O.map V.int) its){n:Nat}(h:O[n]?=some i):∃t,its[n]?=some (.int i t):=by
 obtain ⟨w,e,I⟩:=r.get (i:=n) (x:=V.int i) (by rw[qA7,h];rfl);obtain ⟨t,rfl⟩:=I;exact ⟨t,e⟩
def zW {X:Cx}{tb c:Addr}{k:Nat×Nat×Str}{pa p1 p2 p3 O p p4 pos a3 a4:Pos}{a:Expr}{ta:TA}{j kt:Nat}(hT:(tb,k)∈lamT) (hC:PySem.W.codeHdIn X.K c tb=true) (a8:X.env.code=.ref c) (hq:X.env.qual++Str.ofString "<lambda>" = k.2.2) (cn:O.line=k.1) (c5:O.col=k.2.1) (hz:X.env.scope.names.lookup (Str.ofString "held")=some .cell) (hN:X.N[j]?=some (Str.ofString "held")) (a6:X.calm=true){kr:Nat}(hr:Room (kr+2) X.A) (hg:Gl X "min") (hm:X.mg "min" = none) (ha:PA X [a] ta) (he:backTo pos (starEach [a] X.env)=(false,eval a X.env)::backTo pos (starEach [] X.env):=by rfl) (a5:(backTo pos (starEach [a] X.env)).any (·.1)=false:=by rfl) (b0:(backToKw pos (keywordEach [⟨some "key",.Lambda (L0 pa) (J4 p1 p2 p3) lamS O,a3⟩,⟨some "default",.Constant .none kt p4,a4⟩] X.env)).all (·.1.isSome)=true:=by rfl) (c4:(backToKw pos (keywordEach [⟨some "key",.Lambda (L0 pa) (J4 p1 p2 p3) lamS O,a3⟩,⟨some "default",.Constant .none kt p4,a4⟩] X.env)).any (·.1.isNone)=false:=by rfl) (c3:(backToKw pos (keywordEach [⟨some "key",.Lambda (L0 pa) (J4 p1 p2 p3) lamS O,a3⟩,⟨some "default",.Constant .none kt p4,a4⟩] X.env)).filterMap (·.1) = [Str.ofString "key",Str.ofString "default"]:=by rfl):
  PE X (.Call (.Name "min" p) [a] [⟨some "key",.Lambda (L0 pa) (J4 p1 p2 p3) lamS O,a3⟩,⟨some "default",.Constant .none kt p4,a4⟩] pos) (xZ X.K j ta):=by
 intro pins s σ H Q I h;refine qP6 (L9 I hg hm (u:=.builtin "min") rfl ?_);refine PyProof.Rows.callWith_kw (thn (ha pos pins s σ H _ I h) λus s1 a7=>?_) he a5 b0 c4;obtain ⟨vs,H1,I1,r1,l,b,is,ks,e1,hl,hj,hb,cp,hQ⟩:=a7;subst e1;cases r1 with
 |cons ru rt=>
 cases rt;cases ru;rw[c3]
 show wpAny _ _ (evalAll ((do let v <- eval (.Lambda (L0 pa) (J4 p1 p2 p3) lamS O) X.env;standAt pos;pure v)::(do let v <- eval (.Constant .none kt p4) X.env;standAt pos;pure v) :: [])) _ _ s1;refine wpAny_evalAll_cons (qA1 (wT I1 hT hC a8 hq cn c5 hz λf c' cl pm cv H2 s2 I2 sm go ab cc c0=>qA1 (qQ4 (qO6 ?_))));refine wpAny_evalAll_cons (qA1 (Constant_none (qA1 (qQ4 (qO6 (wpAny_evalAll_nil ?_))))));obtain ⟨its,rI,pl,hsz⟩:=I2.list (hl.more sm);obtain ⟨b5,rJ,c1,b4⟩:=I2.list (hb.more sm);have a0:is.length=its.length:=by have:=rI.length;rwa [qA6]at this
 have cy:ks.length=b5.length:=by have:=rJ.length;rwa [qA6]at this
 obtain ⟨d,hd⟩:=c0;have a9:s2.heap.IsCell d (some (.ref b)):=by
  obtain ⟨m0,_,hl0⟩:=I2.loc;obtain ⟨u,ru,lk⟩:=hl0 j _ _ hN hj (.inr (.inl hz));cases ru;rcases lk with ⟨q,_⟩|⟨_,d',e',z⟩
  ·have q':X.env.scope.names.lookup (Str.ofString "held")=some .local:=q;rw[hz]at q';cases q'
  ·rw [cc _ _ hd]at e';cases e'
   exact z
 refine wL (vs:=its) (kf:=λn=>ks.getD (is.getD n 0).toNat 0) (I2.ok.hd a6) pl.isList (λn v hv h tk kp=>?_) λv h tk kp best=>?_
 ·have hn:n<is.length:=by rw[a0];exact (qB0.mp hv).1
  have ei:is[n]?=some (is.getD n 0):=by rw[qA0,qA3 hn];rfl
  obtain ⟨t,et⟩:=bO rI ei;rw[et]at hv;cases hv;have rg:=cp _ (qD3 ei);generalize is.getD n 0=i at rg
  have ek:ks[i.toNat]?=some (ks.getD i.toNat 0):=by rw[qA0,qA3 ox];rfl
  obtain ⟨t',b6⟩:=bO rJ ek;have cx:=aI;have lj:=b4;rw[qA6]at lj;exact xL (s:={ s2 with heap:=h,toks:=tk }) hr.in1.depth (kp _ _ go) (ab.keeps kp) (I2.nolimit.keeps kp) hd (a9.keeps kp) (let ⟨o,e,q⟩:=c1.isList;⟨o,kp _ _ e,q⟩) rg.1 ox (by simpa using b6)
 ·have I3:Inv X pins σ H2 { s2 with heap:=h,toks:=tk }:=I2.un (Un.kept kp) (I2.hok.kept kp);rcases best with ⟨e0,rfl⟩|⟨n,bst⟩
  ·have:is = []:=qG9 (by rw[a0,e0];rfl)
   subst this;exact ⟨.non,H2,I3,rfl,hQ H2 sm⟩
  ·have hn:n<is.length:=by rw[a0];exact bst.lt
   have ei:is[n]?=some (is.getD n 0):=by rw[qA0,qA3 hn];rfl
   obtain ⟨t,et⟩:=bO rI ei;have hv:=bst.at_;rw[et]at hv;cases hv;have em:bg (λi=>ks.getD i.toNat 0) is=some (is.getD n 0):=tq ei λm y hy=>by
    have c2:m<its.length:=by rw[<- a0];exact (qB0.mp hy).1
    have:=bst.least m c2
    have ey:is.getD m 0=y:=by rw[qA0,hy];rfl
    rw[ey]at this;exact this
   have b3:=hQ H2 sm;rw[em]at b3;exact ⟨.int (is.getD n 0),H2,I3,⟨t,rfl⟩,b3⟩
def Fun.okC {K:Frag}{st:Stmt}(F:Fun K x qual st f fd) (S:f8 N ps (c6 st)) (len:∀vs H Q E,sp vs H Q E->vs.length=ps.length) (I:∀(A:Around) (outer:List Env) (s:Shared) (H:Hp) (vs:List V) (Q:VK) (E:XK),Room k (A.deeper (envOfC qual (c6 st) s.heap.objs.size f fd.code))->sp vs H Q E ->
   ∃t,PSs (ar CX0 P w K mg base N qual (c6 st) f fd.code A outer s H E).nox (C7 st) t/\t { nx:=λ_ H'=>Q .non H',rt:=Q } (start N vs) H):FnOk P w K mg base CX0 (k+1) f fd ps sp:=by
 obtain ⟨oc,od,kV,doc,pm,an,cdv,ct,osl,rfl,lk,a0⟩:=F.ex;refine yz lk a0 S len λA outer s H vs Q E hr O=>?_;obtain ⟨t,h,q⟩:=I A outer s H vs Q E hr O;exact ⟨t,h.nox,q⟩
end L2
namespace TP
open PySem L2
def vW:Option Int->W
 |none=>.non
 |some i=>.int i
def ff (I ks:List Int):R W:=if I.all (λi=>decide (0<=i)&&decide (i<(ks.length:Int)))=true then .ok (vW (bg (λi=>ks.getD i.toNat 0) I)) else .stuck
def qp:W->W->R W
 | .lst ws,.lst us=>toR (o7 ws)>>=λI=>toR (o7 us)>>=λks=>ff I ks
 |_,_=>.stuck
def mML (j:Nat) (ρ:Rho):List W->R W
 | [w]=>b8 .B j ρ>>=λu=>qp w u
 |_=>.stuck
def gB (j:Nat)(ma:Rho->R (List W)):Rho->R W:=λρ=>ma ρ>>=mML j ρ
def GO (h:tM K EX .F (gB j ma) σ H Q):xZ K j (tA K EX .B ma) σ H Q:=by
 obtain ⟨H0,G,ρ,I,o⟩:=h;unfold gB at o;refine ⟨H0,G,ρ,I,Out.bind o λxs G1 H1 ws e1 m1 o1=>?_⟩;have I1:=I.ext e1;unfold mML at o1
 split at o1
 ·rename_i w
  have hx:∃x,xs = [x]/\Md K H0 H G1 H1 x w .B:=by
   cases m1 with
   |cons a t=>cases t;exact ⟨_,rfl,a⟩
  obtain ⟨x,rfl,a⟩:=hx;have a4:P8 j σ H1 (λv H2=>∃(l b:Addr) (is ks:List Int),x=V.ref l/\SqL K H2 l (is.map V.int)/\v=V.ref b/\SqL K H2 b (ks.map V.int)/\(∀i∈is,0<=i/\i<(ks.length:Int))/\∀H3:Hp,(∀a o,H2 a=some o->H3 a=some o)->Q (vO (bg (λi=>ks.getD i.toNat 0) is)) H3):=by
   refine jL (d:=.B) (EX:=EX) ⟨H0,G1,ρ,I1,Out.bind o1 λv G2 H2 u e2 m2 O=>?_⟩;have I2:=I1.ext e2;have a2:=a.move e2;cases w <;> first|exact O.elim|skip
   cases u <;> first|exact O.elim|skip
   rename_i ws us
   replace O:Out EX G2 H2 (mdW K .F H0 H) (toR (o7 ws)>>=λis=>toR (o7 us)>>=λks=>ff is ks) Q:=O
   cases q1:o7 ws with
   |none=>rw[q1]at O;exact O.elim
   | some is=>
    cases q2:o7 us with
    |none=>rw[q1,q2]at O;exact O.elim
    | some ks=>
     rw[q1,q2]at O;replace O:Out EX G2 H2 (mdW K .F H0 H) (ff is ks) Q:=O
     unfold ff at O;by_cases hc:is.all (λi=>decide (0<=i)&&decide (i<(ks.length:Int)))=true
     ·rw [qA2 hc]at O
      obtain ⟨p,ys,e3,hs,r⟩:=a2.lstB I2;obtain ⟨p',a6,e4,a0,r'⟩:=m2.lstB I2;rw[Reps.ints r q1]at hs;rw[Reps.ints r' q2]at a0;refine ⟨p,p',is,ks,e3,.inl (.inl hs),e4,.inl (.inl a0),λi hi=>?_,λH3 sm=>?_⟩
      ·have:=qE3.mp hc i hi
       rw[qG4]at this;exact ⟨qO9 this.1,qO9 this.2⟩
      ·refine O _ G2 H3 ⟨Same.refl _,sm,I2.gh.trans sm,λ_ _ _ _ e=>e⟩ ?_;cases bg (λi=>ks.getD i.toNat 0) is with
       |none=>exact Md.sca rfl (λ_=>.non) .F
       |some i=>exact Md.sca rfl (λ_=>.int) .F
     ·rw[qA4 hc]at O;exact O.elim
  obtain ⟨v,es,l,b,is,ks,a5,h1,a3,h2,h3,h4⟩:=a4;subst a5 a3;exact ⟨l,b,is,ks,rfl,h1,es,h2,h3,h4⟩
 ·exact o1.elim
def DC {X:Cx}{K:Frag}{EX:EXT}{tb c:Addr}{k:Nat×Nat×Str}{pa p1 p2 p3 I p p4 pos O a0:Pos}{a:Expr}{ma:Rho->R (List W)}{j kt:Nat}(hT:(tb,k)∈lamT) (hC:PySem.W.codeHdIn X.K c tb=true) (a5:X.env.code=.ref c) (hq:X.env.qual++Str.ofString "<lambda>" = k.2.2) (a8:I.line=k.1) (ab:I.col=k.2.1) (hz:X.env.scope.names.lookup (Str.ofString "held")=some .cell) (hN:X.N[j]?=some (Str.ofString "held")) (a4:X.calm=true){kr:Nat}(hr:Room (kr+2) X.A) (hg:Gl X "min") (hm:X.mg "min" = none) (ha:PA X [a] (tA K EX .B ma)) (hK:X.K=K:=by rfl) (he:backTo pos (starEach [a] X.env)=(false,eval a X.env)::backTo pos (starEach [] X.env):=by rfl) (a3:(backTo pos (starEach [a] X.env)).any (·.1)=false:=by rfl) (a6:(backToKw pos (keywordEach [⟨some "key",.Lambda (L0 pa) (J4 p1 p2 p3) lamS I,O⟩,⟨some "default",.Constant .none kt p4,a0⟩] X.env)).all (·.1.isSome)=true:=by rfl) (a9:(backToKw pos (keywordEach [⟨some "key",.Lambda (L0 pa) (J4 p1 p2 p3) lamS I,O⟩,⟨some "default",.Constant .none kt p4,a0⟩] X.env)).any (·.1.isNone)=false:=by rfl) (a7:(backToKw pos (keywordEach [⟨some "key",.Lambda (L0 pa) (J4 p1 p2 p3) lamS I,O⟩,⟨some "default",.Constant .none kt p4,a0⟩] X.env)).filterMap (·.1) = [Str.ofString "key",Str.ofString "default"]:=by rfl):
  PE X (.Call (.Name "min" p) [a] [⟨some "key",.Lambda (L0 pa) (J4 p1 p2 p3) lamS I,O⟩,⟨some "default",.Constant .none kt p4,a0⟩] pos) (tM K EX .F (gB j ma)):=by
 subst hK;exact (zW hT hC a5 hq a8 ab hz hN a4 hr hg hm ha he a3 a6 a9 a7).mono λ_ _ _ q=>GO q
def mN (j:Nat)(ma:Rho->R (List W))(ρ:Rho):gB j ma ρ=ma ρ>>=mML j ρ:=rfl
def tE (j:Nat)(ρ:Rho)(w:W):mML j ρ [w]=b8 .B j ρ>>=λu=>qp w u:=rfl
def oE (I ks:List Int):qp (.lst (I.map W.int)) (.lst (ks.map W.int))=ff I ks:=by
 show toR (o7 (I.map W.int))>>=_=_;rw[ints_map,ints_map];rfl
end TP
namespace L2
open PySem
def codeTab (C:PySem.W.CodeHd h c P):isCodeTable h P:=by
 obtain ⟨o,vs,_,_,_,_,_,_,_,e1,e2,O,I,_⟩:=C;exact ⟨c,o,vs,e1,e2,O,I⟩
end L2
namespace TP
open PySem L2
abbrev tI (ns:List Int):W:=.tup (ns.map W.int)
abbrev lI (ns:List Int):W:=.lst (ns.map W.int)
def A2 (ns:List Int):j7 (ns.map W.int)=true:=by
 induction ns with
 |nil=>rfl
 |cons n ns I=>rw[qC1];simp only [j7,noL,I,qL3]
def Bj (n:Bool) (i j:Int):o6 n (.int i) (.int j)=.ok (.bl (if n then !decide (i=j) else decide (i=j))):=by
 show R.ok (W.bl (if n then !decide (V.int i=V.int j) else decide (V.int i=V.int j)))=_;rw[show decide (V.int i=V.int j)=decide (i=j) from decide_eq_decide.mpr ⟨V.int.inj,congrArg _⟩]
def Bk (n:Bool) (i j:Bool):o6 n (.bl i) (.bl j)=.ok (.bl (if n then !decide (i=j) else decide (i=j))):=by
 show R.ok (W.bl (if n then !decide (V.bl i=V.bl j) else decide (V.bl i=V.bl j)))=_;rw[show decide (V.bl i=V.bl j)=decide (i=j) from decide_eq_decide.mpr ⟨V.bl.inj,congrArg _⟩]
def Bf (n:Bool) (i j:Str):o6 n (.str i) (.str j)=.ok (.bl (if n then !decide (i=j) else decide (i=j))):=by
 show R.ok (W.bl (if n then !decide (V.str i=V.str j) else decide (V.str i=V.str j)))=_;rw[show decide (V.str i=V.str j)=decide (i=j) from decide_eq_decide.mpr ⟨V.str.inj,congrArg _⟩]
def Bg (n:Bool):o6 n .non .non=.ok (.bl (!n)):=by cases n <;> rfl
def Bh (n:Bool) (i:Int):o6 n .non (.int i)=.ok (.bl n):=by cases n <;> rfl
def Bi (n:Bool) (i:Int):o6 n (.int i) .non=.ok (.bl n):=by cases n <;> rfl
def atW {ns:List Int}{i:Int}(h0:0<=i) (I:i<ns.length):L2.atI (ns.map W.int) i=some (.int (ns.getD i.toNat 0)):=by
 unfold L2.atI;rw[qA6,aK h0 I]
 show (ns.map W.int)[i.toNat]?=_;rw[qA7,bU ox];rfl
def A6 {k:Nat}{w:W}(h:ws[k]?=some w):L2.atI ws (k:Int)=some w:=by
 have hk:=(qB0.mp h).1;unfold L2.atI;rw[aK ox ox,qD9];exact h
def andThen (r:R Fl) (n:Rho->R Fl):R Fl:=r>>=λf=>match f with
 | .nx I=>n I
 | .rt w=>.ok (.rt w)
 | .bk I=>.ok (.bk I)
 | .ct I=>.ok (.ct I)
def Az (m n:Rho->R Fl)(ρ:Rho):e8 m n ρ=andThen (m ρ) n:=rfl
def qH (ρ:Rho)(n:Rho->R Fl):andThen (.ok (.nx ρ)) n=n ρ:=rfl
def qG (w:W)(n:Rho->R Fl):andThen (.ok (.rt w)) n=.ok (.rt w):=rfl
def qJ (ρ:Rho)(n:Rho->R Fl):andThen (.ok (.bk ρ)) n=.ok (.bk ρ):=rfl
def qI (ρ:Rho)(n:Rho->R Fl):andThen (.ok (.ct ρ)) n=.ok (.ct ρ):=rfl
def Il (w:W)(ρ:Rho):mC w ρ=.ok w:=rfl
def Ja (f:W->R W)(ma:Rho->R W)(ρ:Rho):b1 f ma ρ=(ma ρ>>=f):=rfl
def R2b (a b:R W)(f:W->W->R W):R W:=a>>=λx=>b>>=λy=>f x y
def IZ (f:W->W->R W)(ma mb:Rho->R W)(ρ:Rho):b2 f ma mb ρ=R2b (ma ρ) (mb ρ) f:=rfl
def Hv (x y:W)(f:W->W->R W):R2b (.ok x) (.ok y) f=f x y:=rfl
def IY (f:List W->R W)(ma:Rho->R (List W))(ρ:Rho):bA f ma ρ=(ma ρ>>=f):=rfl
def IX (f:List W->R (List W))(ma:Rho->R (List W))(ρ:Rho):bI f ma ρ=(ma ρ>>=f):=rfl
def IW (ma:Rho->R W)(ρ:Rho):bS ma ρ=(ma ρ>>=D5):=rfl
def Je (ρ:Rho):aN ρ=.ok []:=rfl
def qP (a:R W)(b:R (List W)):R (List W):=a>>=λx=>b>>=λxs=>.ok (x::xs)
def Jf (ma:Rho->R W)(I:Rho->R (List W))(ρ:Rho):aC ma I ρ=qP (ma ρ) (I ρ):=rfl
def xU (x:W)(xs:List W):qP (.ok x) (.ok xs)=.ok (x::xs):=rfl
def BJ (ma:Rho->R W)(ρ:Rho):Y4 ma ρ=(ma ρ>>=chk):=rfl
def xQ (ma:Rho->R W)(ρ:Rho):g9 ma ρ=(ma ρ>>=toB):=rfl
def zd (a b:Rho->R Bool)(ρ:Rho):jC a b ρ=hZ (a ρ) (b ρ):=rfl
def Ch (a b:Rho->R Bool)(ρ:Rho):gL a b ρ=rOr (a ρ) (b ρ):=rfl
def zc (a:Rho->R Bool)(ρ:Rho):M4 a ρ=pC (a ρ):=rfl
def zH (x y:Bool):hZ (.ok x) (.ok y)=.ok (x&&y):=by cases x <;> rfl
def zJ (r:R Bool):hZ (.ok false) r=.ok false:=rfl
def zG (r:R Bool):hZ (.ok true) r=r:=rfl
def Du (x y:Bool):rOr (.ok x) (.ok y)=.ok (x||y):=by cases x <;> rfl
def Dt (r:R Bool):rOr (.ok true) r=.ok true:=rfl
def Dv (r:R Bool):rOr (.ok false) r=r:=rfl
def zC (x:Bool):pC (.ok x)=.ok (!x):=rfl
def yV (a b:Rho->R W)(ρ:Rho):jO a b ρ=dg (a ρ) (b ρ):=rfl
def BY (a b:Rho->R W)(ρ:Rho):vOr a b ρ=kF (a ρ) (b ρ):=rfl
def yT (a:Rho->R W)(ρ:Rho):pb a ρ=jD (a ρ):=rfl
def wb (x y:Bool):dg (.ok (.bl x)) (.ok (.bl y))=.ok (.bl (x&&y)):=by cases x <;> rfl
def wd (r:R W):dg (.ok (.bl false)) r=.ok (.bl false):=rfl
def wa (r:R W):dg (.ok (.bl true)) r=r:=rfl
def zA (x y:Bool):kF (.ok (.bl x)) (.ok (.bl y))=.ok (.bl (x||y)):=by cases x <;> rfl
def zz (r:R W):kF (.ok (.bl true)) r=.ok (.bl true):=rfl
def zB (r:R W):kF (.ok (.bl false)) r=r:=rfl
def vY (x:Bool):jD (.ok (.bl x))=.ok (.bl (!x)):=rfl
def pE (c:R Bool)(a b:R W):R W:=c>>=λt=>if t then a else b
def BZ (c:Rho->R Bool)(a b:Rho->R W)(ρ:Rho):vIf c a b ρ=pE (c ρ) (a ρ) (b ρ):=rfl
def zD (a b:R W):pE (.ok true) a b=a:=rfl
def zF (a b:R W):pE (.ok false) a b=b:=rfl
def zE (t:Bool)(x y:W):pE (.ok t) (.ok x) (.ok y)=.ok (if t then x else y):=by cases t <;> rfl
def mT (f I:W->W->R W)(a b c:R W):R W:=a>>=λx=>b>>=λy=>f x y>>=λz=>toB z>>=λt=>if t then c>>=λu=>I y u else .ok (.bl false)
def qZ (f I:W->W->R W)(ma mb mc:Rho->R W)(ρ:Rho):Ca f I ma mb mc ρ=mT f I (ma ρ) (mb ρ) (mc ρ):=rfl
def uV (g g':Int->Int->Bool) (i j k:Int):mT (fI0 λi j=>.bl (g i j)) (fI0 λi j=>.bl (g' i j)) (.ok (.int i)) (.ok (.int j)) (.ok (.int k))=.ok (.bl (g i j&&g' j k)):=by
 unfold mT
 show (if g i j=true then _ else _)=_;cases h:g i j <;> simp [fI0]
def pW (ws:List W):R W:=lim ws.length (.tup ws)
def pX (ws:List W):R W:=lim ws.length (.lst ws)
def yS (ma:Rho->R (List W))(ρ:Rho):x4 ma ρ=(ma ρ>>=pW):=rfl
def yU (ma:Rho->R (List W))(ρ:Rho):D8 ma ρ=(ma ρ>>=pX):=rfl
def HW (ρ:Rho):pN ρ=.ok none:=rfl
def HV (m:Rho->R W)(ρ:Rho):pS m ρ=(m ρ>>=jF):=rfl
def sM (i:Int):jF (.int i)=.ok (some i):=rfl
def Rsl (c:Bool)(x:R W)(l u:R (Option Int)):R W:=x>>=λx=>l>>=λl=>u>>=λu=>toR (lstOf x)>>=λws=>chks c (J8 ws l u)
def BX (c:Bool)(m:Rho->R W)(O I:Rho->R (Option Int))(ρ:Rho):vSl c m O I ρ=Rsl c (m ρ) (O ρ) (I ρ):=rfl
def BQ (c:Bool)(ws:List W)(l u:Option Int):Rsl c (.ok (.lst ws)) (.ok l) (.ok u)=chks c (J8 ws l u):=rfl
def BP (c:Bool)(ws:List W)(l u:Option Int):Rsl c (.ok (.scr ws)) (.ok l) (.ok u)=chks c (J8 ws l u):=rfl
def yN (r:R (List W))(n:Nat)(mg:W->Rho->Option Rho)(mc:Rho->R Bool)(me:Rho->R W)(ρ:Rho):R W:=r>>=λws=>k7 n mg mc me ws ρ
def vg (n:Nat)(I:Rho->R (List W))(mg:W->Rho->Option Rho)(mc:Rho->R Bool)(me:Rho->R W)(ρ:Rho):l6 n I mg mc me ρ=yN (I ρ) n mg mc me ρ:=rfl
def xV (ws:List W)(n:Nat)(mg:W->Rho->Option Rho)(mc:Rho->R Bool)(me:Rho->R W)(ρ:Rho):yN (.ok ws) n mg mc me ρ=k7 n mg mc me ws ρ:=rfl
def CF (ρ:Rho):sNx ρ=.ok (.nx ρ):=rfl
def CI (ρ:Rho):sBk ρ=.ok (.bk ρ):=rfl
def CG (ρ:Rho):sCt ρ=.ok (.ct ρ):=rfl
def yM (r:R W)(ρ:Rho):R Fl:=r>>=λ_=>.ok (.nx ρ)
def vI (m:Rho->R W)(ρ:Rho):HF m ρ=yM (m ρ) ρ:=rfl
def xT (w:W)(ρ:Rho):yM (.ok w) ρ=.ok (.nx ρ):=rfl
def gZ (w:W):R Fl:=.ok (.rt w)
def zp (m:Rho->R W)(ρ:Rho):i0 m ρ=(m ρ>>=gZ):=rfl
def zy (w:W):gZ w=.ok (.rt w):=rfl
def vH (ρ:Rho):HC ρ=.ok (.rt .non):=rfl
def qO (r:R W)(f:W->Sl)(i:Nat)(ρ:Rho):R Fl:=r>>=λw=>.ok (.nx (ρ.set i (f w)))
def HA (i:Nat)(m:Rho->R W)(ρ:Rho):sV i m ρ=qO (m ρ) Sl.val i ρ:=rfl
def HB (i:Nat)(m:Rho->R W)(ρ:Rho):sU i m ρ=qO (m ρ) Sl.par i ρ:=rfl
def HE (i:Nat)(m:Rho->R W)(ρ:Rho):sF i m ρ=qO (m ρ) O3 i ρ:=rfl
def BR (w:W)(f:W->Sl)(i:Nat)(ρ:Rho):qO (.ok w) f i ρ=.ok (.nx (ρ.set i (f w))):=rfl
def rH (ws:List W):O3 (.lst ws)=.own ws:=rfl
def rE (ws:List W):O3 (.tup ws)=.val (.tup ws):=rfl
def rK (i:Int):O3 (.int i)=.val (.int i):=rfl
def vC (i:Bool):O3 (.bl i)=.val (.bl i):=rfl
def rG:O3 .non=.val .non:=rfl
def rF (i:Str):O3 (.str i)=.val (.str i):=rfl
def Cf:Option Rho->R Fl
 |some ρ=>.ok (.nx ρ)
 |none=>.stuck
def Hu (r:R W)(mg:W->Rho->Option Rho)(ρ:Rho):R Fl:=r>>=λw=>toR (mg w ρ)>>=λI=>.ok (.nx I)
def HD (mg:W->Rho->Option Rho)(m:Rho->R W)(ρ:Rho):sG mg m ρ=Hu (m ρ) mg ρ:=rfl
def BU (w:W) (mg:W->Rho->Option Rho) (ρ:Rho):Hu (.ok w) mg ρ=Cf (mg w ρ):=by
 show (toR (mg w ρ)>>=_)=_;cases mg w ρ <;> rfl
def rq (ρ:Rho):Cf (some ρ)=.ok (.nx ρ):=rfl
def Hq (r:R (List W))(mg:W->Rho->Option Rho)(mb:Rho->R Fl)(ρ:Rho):R Fl:=r>>=λws=>D6 mg mb ws ρ
def zr (I:Rho->R (List W))(mg:W->Rho->Option Rho)(mb:Rho->R Fl)(ρ:Rho):D9 I mg mb ρ=Hq (I ρ) mg mb ρ:=rfl
def BS (ws:List W)(mg:W->Rho->Option Rho)(mb:Rho->R Fl)(ρ:Rho):Hq (.ok ws) mg mb ρ=D6 mg mb ws ρ:=rfl
def zq (i:Nat)(m:Rho->R Fl)(ρ:Rho):aY i m ρ=m (frz i ρ):=rfl
def iD:Option Sl->Nat->Rho->Rho
 |some (.own ws),i,ρ=>ρ.set i (.val (.lst ws))
 |_,_,ρ=>ρ
def FJ (i:Nat) (ρ:Rho):frz i ρ=iD (ρ[i]?) i ρ:=by
 unfold frz iD;rcases h:ρ[i]? with _|s
 ·rfl
 ·cases s <;> rfl
def xr (ws:List W)(i:Nat)(ρ:Rho):iD (some (.own ws)) i ρ=ρ.set i (.val (.lst ws)):=rfl
def xp (w:W)(i:Nat)(ρ:Rho):iD (some (.val w)) i ρ=ρ:=rfl
def xq (w:W)(i:Nat)(ρ:Rho):iD (some (.par w)) i ρ=ρ:=rfl
def AY (i:Nat)(ρ:Rho):iD (some .un) i ρ=ρ:=rfl
def rdS (d:Mode):Option Sl->R W
 |some (.val w)=>(match d with | .F=>chk w|_=>.ok w)
 |some (.par w)=>(match d with | .F=>chk w | .V=>chk w | .C=>chk w|_=>.ok w)
 |some (.own ws)=>(match d with | .C=>.ok (.lst ws) | .B=>.ok (.lst ws)|_=>.stuck)
 |some (.iop _ ws)=>(match d with | .B=>.ok (.lst ws) | .U=>.ok (.lst ws)|_=>.stuck)
 |some (.hz w)=>(match d with | .B=>.ok w | .U=>.ok w|_=>.stuck)
 |_=>.stuck
def iw (d:Mode) (i:Nat) (ρ:Rho):b8 d i ρ=rdS d (ρ[i]?):=by
 unfold b8 rdS;rfl
def Da (w:W):rdS .F (some (.val w))=chk w:=rfl
def CY (w:W):rdS .V (some (.val w))=.ok w:=rfl
def CZ (w:W):rdS .U (some (.val w))=.ok w:=rfl
def Db (w:W):rdS .C (some (.val w))=.ok w:=rfl
def De (w:W):rdS .B (some (.val w))=.ok w:=rfl
def Dh (w:W):rdS .F (some (.par w))=chk w:=rfl
def Df (w:W):rdS .V (some (.par w))=chk w:=rfl
def Dg (w:W):rdS .U (some (.par w))=.ok w:=rfl
def Di (w:W):rdS .C (some (.par w))=chk w:=rfl
def Dj (w:W):rdS .B (some (.par w))=.ok w:=rfl
def Dl (ws:List W):rdS .C (some (.own ws))=.ok (.lst ws):=rfl
def Dm (ws:List W):rdS .B (some (.own ws))=.ok (.lst ws):=rfl
def retS (d:Mode):Option Sl->R Fl
 |some (.own ws)=>.ok (.rt (.lst ws))
 |o=>rdS d o>>=gZ
def pZ (d:Mode) (i:Nat) (ρ:Rho):B8 d i ρ=retS d (ρ[i]?):=by
 unfold B8 retS;rw[iw];rcases h:ρ[i]? with _|s
 ·rfl
 ·cases s <;> rfl
def vS (d:Mode)(ws:List W):retS d (some (.own ws))=.ok (.rt (.lst ws)):=rfl
def vQ (d:Mode)(w:W):retS d (some (.val w))=(rdS d (some (.val w))>>=gZ):=rfl
def vR (d:Mode)(w:W):retS d (some (.par w))=(rdS d (some (.par w))>>=gZ):=rfl
def xR (o:Option Sl) (r:R W) (i:Nat) (ρ:Rho):R Fl:=match o with
 |some (.own ws)=>r>>=λw=>if ws.length<1000 then .ok (.nx (ρ.set i (.own (ws ++ [w])))) else .stuck
 |_=>.stuck
def AD (i:Nat)(m:Rho->R W)(ρ:Rho):U6 i m ρ=xR (ρ[i]?) (m ρ) i ρ:=rfl
def BL (ws:List W)(w:W)(i:Nat)(ρ:Rho):xR (some (.own ws)) (.ok w) i ρ=if ws.length<1000 then .ok (.nx (ρ.set i (.own (ws ++ [w])))) else .stuck:=rfl
def Cv (o:Option Sl) (a b:R W) (i:Nat) (ρ:Rho):R Fl:=match o with
 | some (.own ws)=>b>>=λw=>a>>=λk=>(match k with
  | .int k=>(match ixN ws.length k with
   |some j=>.ok (.nx (ρ.set i (.own (ws.set j w))))
   |none=>.stuck)
  |_=>.stuck)
 |_=>.stuck
def Ay (i:Nat)(I me:Rho->R W)(ρ:Rho):fg i I me ρ=Cv (ρ[i]?) (I ρ) (me ρ) i ρ:=rfl
def Cw (o:Option Nat) (ws:List W) (w:W) (i:Nat) (ρ:Rho):R Fl:=match o with
 |some j=>.ok (.nx (ρ.set i (.own (ws.set j w))))
 |none=>.stuck
def zn (ws:List W)(w:W) (k:Int)(i:Nat)(ρ:Rho):Cv (some (.own ws)) (.ok (.int k)) (.ok w) i ρ=Cw (ixN ws.length k) ws w i ρ:=rfl
def rO (j:Nat)(ws:List W)(w:W)(i:Nat)(ρ:Rho):Cw (some j) ws w i ρ=.ok (.nx (ρ.set i (.own (ws.set j w)))):=rfl
def Hj (f:Int->Int->Int) (a b:R W) (i:Nat) (ρ:Rho):R Fl:=a>>=λx=>b>>=λy=>match x,y with
 | .int a,.int b=>.ok (.nx (ρ.set i (.val (.int (f a b)))))
 |_,_=>.stuck
def AC (i:Nat) (f:Int->Int->Int) (m:Rho->R W) (ρ:Rho):ix i f m ρ=Hj f (rdS .B (ρ[i]?)) (m ρ) i ρ:=by
 rw[<- iw];rfl
def BK (f:Int->Int->Int) (a b:Int)(i:Nat)(ρ:Rho):Hj f (.ok (.int a)) (.ok (.int b)) i ρ=.ok (.nx (ρ.set i (.val (.int (f a b))))):=rfl
def ifS (c:R Bool)(m n:Rho->R Fl)(ρ:Rho):R Fl:=c>>=λb=>if b then m ρ else n ρ
def EB (c:Rho->R Bool)(m n:Rho->R Fl)(ρ:Rho):mIf c m n ρ=ifS (c ρ) m n ρ:=rfl
def Ft (m n:Rho->R Fl)(ρ:Rho):ifS (.ok true) m n ρ=m ρ:=rfl
def Fu (m n:Rho->R Fl)(ρ:Rho):ifS (.ok false) m n ρ=n ρ:=rfl
def bx (r:R Fl):R W:=r>>=λf=>match f with
 | .rt w=>.ok w
 | .nx _=>.ok .non
 |_=>.stuck
def aB (h:ws.length=n):g8 n N m ws=bx (m (ws.map Sl.par++List.replicate (N-n) Sl.un)):=by unfold g8;rw[qA2 h];rfl
def CN {N:Nat}{m:Rho->R Fl}(a:W):g8 1 N m [a]=bx (m (Sl.par a::List.replicate (N-1) Sl.un)):=aB rfl
def CM {N:Nat}{m:Rho->R Fl}(a b:W):g8 2 N m [a,b]=bx (m (Sl.par a::Sl.par b::List.replicate (N-2) Sl.un)):=aB rfl
def CL {N:Nat}{m:Rho->R Fl}(a b c:W):g8 3 N m [a,b,c]=bx (m (Sl.par a::Sl.par b::Sl.par c::List.replicate (N-3) Sl.un)):=aB rfl
def CK {N:Nat}{m:Rho->R Fl}(a b c d:W):g8 4 N m [a,b,c,d]=bx (m (Sl.par a::Sl.par b::Sl.par c::Sl.par d::List.replicate (N-4) Sl.un)):=aB rfl
def CJ {N:Nat}{m:Rho->R Fl}(a b c d e:W):g8 5 N m [a,b,c,d,e]=bx (m (Sl.par a::Sl.par b::Sl.par c::Sl.par d::Sl.par e::List.replicate (N-5) Sl.un)):=aB rfl
def Bs (w:W):bx (.ok (.rt w))=.ok w:=rfl
def Bu (ρ:Rho):bx (.ok (.nx ρ))=.ok .non:=rfl
def FV (g:Int->Int->W) (i j:Int):fI0 g (.int i) (.int j)=.ok (g i j):=rfl
def fU_i (g:Int->W) (i:Int):fU g (.int i)=.ok (g i):=rfl
def Ix (ws:List W) (i:Int):fIx (.lst ws) (.int i)=toR (L2.atI ws i):=rfl
def Iv (ws:List W) (i:Int):fIx (.tup ws) (.int i)=toR (L2.atI ws i):=rfl
def Iw (ws:List W) (i:Int):fIx (.scr ws) (.int i)=toR (L2.atI ws i):=rfl
def vo {α:Type}(a:α):toR (some a)=.ok a:=rfl
def Cg (b:Bool):toB (.bl b)=.ok b:=rfl
def FP (ws:List W):fLen [.lst ws]=.ok (.int ws.length):=rfl
def FN (ws:List W):fLen [.tup ws]=.ok (.int ws.length):=rfl
def FO (ws:List W):fLen [.scr ws]=.ok (.int ws.length):=rfl
def Bc (c:Bool)(ws:List W):yB c [.lst ws]=chks c ws:=rfl
def Bb (c:Bool)(ws:List W):yB c [.tup ws]=chks c ws:=rfl
def uf (c:Bool)(ws:List W):J7 c [.lst ws]=Y2 c ws:=rfl
def FL (c:Bool)(ws:List W):J7 c [.tup ws]=Y2 c ws:=rfl
def Gr (ws:List W):chks true ws=.ok (.lst ws):=rfl
def Gz (ws:List W):Y2 true ws=.ok (.tup ws):=rfl
def dI (h:j7 ws=true):chks c ws=.ok (.lst ws):=by unfold chks;rw[h,qU7,qA2 rfl]
def aQ (h:j7 ws=true):Y2 c ws=.ok (.tup ws):=by unfold Y2;rw[h,qU7,qA2 rfl]
def Gv (c:Bool)(ns:List Int):chks c (ns.map W.int)=.ok (.lst (ns.map W.int)):=dI (A2 ns)
def GB (c:Bool)(ns:List Int):Y2 c (ns.map W.int)=.ok (.tup (ns.map W.int)):=aQ (A2 ns)
def C2 (h:noL w=true):chk w=.ok w:=by unfold chk;rw[qA2 h]
def BA (i:Int):chk (.int i)=.ok (.int i):=rfl
def Gy (i:Bool):chk (.bl i)=.ok (.bl i):=rfl
def By (i:Str):chk (.str i)=.ok (.str i):=rfl
def Bz:chk .non=.ok .non:=rfl
def Gw (ns:List Int):chk (.tup (ns.map W.int))=.ok (.tup (ns.map W.int)):=C2 (A2 ns)
def Iy (g:Int->Int->Int) (i j:Int):f2 g [.int i,.int j]=.ok (.int (g i j)):=rfl
def CA (ws:List W):D5 (.lst ws)=.ok ws:=rfl
def Cy (ws:List W):D5 (.tup ws)=.ok ws:=rfl
def Cz (ws:List W):D5 (.scr ws)=.ok ws:=rfl
def CT (j:Int):Q0 [.int j]=O6 0 j:=rfl
def CS (i j:Int):rng2 [.int i,.int j]=O6 i j:=rfl
def gN_U (i:Nat)(w:W)(ρ:Rho):gN .U i w ρ=some (ρ.set i (.par w)):=rfl
def gN_V (i:Nat)(w:W)(ρ:Rho):gN .V i w ρ=some (ρ.set i (.val w)):=rfl
def gT_t (n:Nat)(g:List W->Rho->Option Rho)(ws:List W)(ρ:Rho):gT n g (.tup ws) ρ=if ws.length=n then g ws ρ else none:=rfl
def xi (f:W->Rho->Option Rho)(g:List W->Rho->Option Rho)(w:W)(ws:List W)(ρ:Rho):k4 f g (w::ws) ρ=(f w ρ).bind (g ws):=rfl
def AT (ρ:Rho):gsNil [] ρ=some ρ:=rfl
def wJ (ws:List W):pW ws=if ws.length<=1000 then .ok (.tup ws) else .stuck:=rfl
def wK (ws:List W):pX ws=if ws.length<=1000 then .ok (.lst ws) else .stuck:=rfl
def Bd (x:W)(T:String):fIsi [x,.ty T]=(toR ((tyW x).bind λA=>A3 A T)>>=λb=>.ok (.bl b)):=rfl
def EU:A3 "NoneType" "tuple" = some false:=Qz
def EV:A3 "NoneType" "list" = some false:=Qz
def EZ:A3 "list" "tuple" = some false:=Qz
def EO:A3 "tuple" "list" = some false:=Qz
def FQ (n:Bool)(u:W):N1 n u .non=.ok (.bl (if n then !isN u else isN u)):=rfl
def wM {α:Type}(g:α->W) (s:α->W):∀(I:List α),(∀a∈I,f (s a)=.ok (some (g a)))->mapR f (I.map s)=.ok (I.map g):=by
 intro I
 induction I with
 |nil=>exact λ_=>rfl
 | cons a I ih=>
  intro h;rw[qC1,mapR,h a qB2,ih λb O=>h b (qA8 _ O)];rfl
def nt {α:Type}(g:α->W) (s:α->W) (c:α->Bool):∀(I:List α),(∀a∈I,f (s a)=.ok (if c a then some (g a) else none))->mapR f (I.map s)=.ok ((I.filter c).map g):=by
 intro I
 induction I with
 |nil=>exact λ_=>rfl
 | cons a I ih=>
  intro h;rw[qC1,mapR,h a qB2,ih λb O=>h b (qA8 _ O),List.filter_cons];cases c a <;> rfl
def i5 {α:Type}(g:α->W) (s:α->W) (O:List α) (ρ:Rho) (hl:O.length<=1000) (h:∀a∈O,∃I,mg (s a) (ρ++List.replicate (N'-ρ.length) Sl.un)=some I/\me I=.ok (g a)):k7 N' mg yes me (O.map s) ρ=.ok (.lst (O.map g)):=by
 unfold k7;rw[qA6,qA2 hl,wM g s O];intro a ha;obtain ⟨I,e1,e2⟩:=h a ha;unfold elR;rw[e1];have hy:yes I=.ok true:=rfl;dsimp only;rw[hy];dsimp only;rw[e2]
def cG {α:Type}(g:α->W) (s:α->W) (c:α->Bool) (O:List α) (ρ:Rho) (hl:O.length<=1000) (h:∀a∈O,∃I,mg (s a) (ρ++List.replicate (N'-ρ.length) Sl.un)=some I/\mc I=.ok (c a)/\(c a=true->me I=.ok (g a))):k7 N' mg mc me (O.map s) ρ=.ok (.lst ((O.filter c).map g)):=by
 unfold k7;rw[qA6,qA2 hl,nt g s c O];intro a ha;obtain ⟨I,e1,e2,e3⟩:=h a ha;unfold elR;rw[e1];dsimp only;rw[e2];cases hc:c a with
 |false=>rfl
 |true=>dsimp only;rw[e3 hc];rfl
def vN (h0:-1000000<=z) (h:z<=1000000):O6 0 z=.ok ((List.range z.toNat).map λk=>W.int (k:Nat)):=by
 unfold O6;rw[qA2 ox];simp
def bZ (h:((List.range n).map λk=>W.int (k:Nat))[i]?=some w):i<n/\w=.int (i:Nat):=by
 rw[qA7]at h;cases q:(List.range n)[i]? with
 |none=>rw[q]at h;cases h
 | some k=>
  rw[q]at h;obtain ⟨O,I⟩:=qB0.mp q;simp at O I;subst I;cases h;exact ⟨O,rfl⟩
def J9 (xs:List Int)(lo hi:Option Int):List Int:=(xs.drop (HT.sIx xs.length 0 lo)).take (HT.sIx xs.length xs.length hi-HT.sIx xs.length 0 lo)
def Gp (ns:List Int) (lo hi:Option Int):J8 (ns.map W.int) lo hi=(J9 ns lo hi).map W.int:=by
 unfold J8 J9;rw[qA6,<- List.map_drop,<- List.map_take]
def bC {P:Int->Prop}(h:∀x∈ns,P x):∀x∈J9 ns lo hi,P x:=λx I=>by
 unfold J9 at I;exact h x (List.mem_of_mem_drop (List.mem_of_mem_take I))
def Cu (ns:List Int)(j:Nat) (z:Int):(ns.map W.int).set j (.int z)=(ns.set j z).map W.int:=by rw[List.map_set]
def Hm (ns:List Int) (z:Int):ns.map W.int ++ [.int z]=(ns ++ [z]).map W.int:=by rw[qC3];rfl
def CW (k:Nat) (z:Int):(List.replicate k [W.int z]).flatten=(List.replicate k z).map W.int:=by
 induction k with
 |zero=>rfl
 |succ k I=>rw[qE4,qG5,I,qE4,qC1];rfl
def Q6 {α:Type}(I:List α)(f:α->Int):(I.map λa=>W.int (f a))=(I.map f).map W.int:=by rw[qB9];rfl
def n9 {f:Nat->Int}(h:k<n):((List.range n).map f).getD k 0=f k:=by
 rw[qA0,qA7];simp [h]
def V8 {a b:List Int}(h:b.length=a.length):(gG [a.map W.int,b.map W.int]).map W.tup=(List.range a.length).map λk=>W.tup [.int (a.getD k 0),.int (b.getD k 0)]:=by
 apply qL8;intro i;simp only [gG,qA7,qK6];by_cases hi:i<a.length
 ·rw[bU hi,bU (ns:=b) ox];simp [hi]
 ·simp [hi]
def O0 (x y:W) (xs ys:List W) (I:D5 x=.ok xs) (O:D5 y=.ok ys):K9 [x,y]=.ok ((gG [xs,ys]).map W.tup):=by
 unfold K9;simp only [qC5,qN2,Y8,I,O,Nat.reduceAdd,true_or,qP0]
def Ij {i j:Int}(h:-18446744073709551616<i/\i<18446744073709551616):fI CMul v5 (.int i) (.int j)=.ok (.int (i*j)):=by
 show (if CMul i j then _ else _)=_;rw[qA2 (.inl (by simpa using h))]
def Ih {i j:Int}(h:-18446744073709551616<j/\j<18446744073709551616):fI CMul v5 (.int i) (.int j)=.ok (.int (i*j)):=by
 show (if CMul i j then _ else _)=_;rw[qA2 (.inr (by simpa using h))]
def Ey {i j:Int}(h:0<j):fI P4 Q8 (.int i) (.int j)=.ok (.int (i%j)):=by
 show (if P4 i j then _ else _)=_;rw[qA2 h]
def div_ii {i j:Int}(h:0<j/\j<1073741824):fI da cK (.int i) (.int j)=.ok (.int (i/j)):=by
 show (if da i j then _ else _)=_;rw[qA2 (show da i j from h)]
def DU {i j:Int}(h:0<=j/\j<=1000000 /\ -18446744073709551616<i/\i<18446744073709551616):fI Y5 fq (.int i) (.int j)=.ok (.int (i^j.toNat)):=by
 show (if Y5 i j then _ else _)=_;rw[qA2 ⟨h.1,h.2.1,ox⟩]
def Hn {ws:List W}{w:W}{i:Nat}{ρ:Rho}(h:ws.length<1000):xR (some (.own ws)) (.ok w) i ρ=.ok (.nx (ρ.set i (.own (ws ++ [w])))):=by rw[BL,qA2 h]
def Au {ws:List W}(h:ws.length<=1000):pW ws=.ok (.tup ws):=by rw[wJ,qA2 h]
def Av {ws:List W}(h:ws.length<=1000):pX ws=.ok (.lst ws):=by rw[wK,qA2 h]
def Ge {c:Bool}{us vs:List W}(h:us.length+vs.length<=1000):fCat c (.lst us) (.lst vs)=chks c (us++vs):=by
 show (if us.length+vs.length<=1000 then _ else _)=_;rw[qA2 h]
def ug {c:Bool}{z:W}{k:Int}(h:0<=k/\k<=1000):qm c (.lst [z]) (.int k)=chks c (List.replicate k.toNat [z]).flatten:=by
 show (if [z].length*k.toNat<=1000 /\ -1000<=k/\k<=1000 then _ else _)=_;rw[qA2 ⟨by simp only [qC5,qN2];omega,ox,h.2⟩]
def Jb {ns:List Int}{i:Int}(h:0<=i/\i<ns.length):L2.atI (ns.map W.int) i=some (.int (ns.getD i.toNat 0)):=atW h.1 h.2
def Io {n:Nat}{i:Int}(h:0<=i/\i<n):ixN n i=some i.toNat:=aK h.1 h.2
def CP {z:Int}(h:-1000000<=z/\z<=1000000):O6 0 z=.ok ((List.range z.toNat).map λk=>W.int (k:Nat)):=vN h.1 h.2
def Ok (r:R W)(P:W->Prop):Prop:=∃w,r=.ok w/\P w
def Po (r:R Fl) (I:Rho->Prop) (Jr:W->Prop):Prop:=match r with
 | .ok (.nx ρ)=>I ρ
 | .ok (.rt w)=>Jr w
 |_=>False
def r6 (h:Po r (λ_=>P .non) P):Ok (bx r) P:=by
 cases r with
 |ex _=>exact h.elim
 |stuck=>exact h.elim
 | ok f=>cases f with
  |nx ρ=>exact ⟨_,rfl,h⟩
  |rt w=>exact ⟨_,rfl,h⟩
  |bk _=>exact h.elim
  |ct _=>exact h.elim
def O9 (h:Po r (λρ=>Po (n ρ) Jn Jr) Jr):Po (andThen r n) Jn Jr:=by
 cases r with
 |ex _=>exact h.elim
 |stuck=>exact h.elim
 | ok f=>cases f with
  |nx ρ=>exact h
  |rt w=>exact h
  |bk _=>exact h.elim
  |ct _=>exact h.elim
def HM {ρ:Rho}{I:Rho->Prop}{Jr:W->Prop}:Po (.ok (.nx ρ)) I Jr=I ρ:=rfl
def HL {w:W}{I:Rho->Prop}{Jr:W->Prop}:Po (.ok (.rt w)) I Jr=Jr w:=rfl
def V3 (I:b=true->Po (m ρ) Jn Jr) (O:b=false->Po (n ρ) Jn Jr):Po (ifS (.ok b) m n ρ) Jn Jr:=by
 cases b with
 |true=>exact I rfl
 |false=>exact O rfl
def cg (I:b=true->Po (andThen (m ρ) k) Jn Jr) (O:b=false->Po (andThen (n ρ) k) Jn Jr):Po (andThen (ifS (.ok b) m n ρ) k) Jn Jr:=by
 cases b with
 |true=>exact I rfl
 |false=>exact O rfl
def Po.mono (h:Po r Jn Jr) (O:∀ρ,Jn ρ->Jn' ρ) (I:∀w,Jr w->Jr' w):Po r Jn' Jr':=by
 cases r with
 |ex _=>exact h
 |stuck=>exact h
 | ok f=>cases f with
  |nx ρ=>exact O ρ h
  |rt w=>exact I w h
  |bk _=>exact h
  |ct _=>exact h
def sE (I:Nat->Rho->Prop):∀(ws:List W) (k:Nat) (ρ:Rho),I k ρ ->
  (∀(i:Nat) (w:W) (ρ:Rho),ws[i]?=some w->I (k+i) ρ->∃O,mg w ρ=some O/\Po (mb O) (I (k+i+1)) Jr)->Po (D6 mg mb ws ρ) (I (k+ws.length)) Jr:=by
 intro ws
 induction ws with
 |nil=>exact λk ρ h _=>h
 | cons w ws ih=>
  intro k ρ h st;obtain ⟨O,e1,p⟩:=st 0 w ρ rfl h;unfold D6;rw[e1]
  show Po (mb O>>=_) _ _
  revert p
  cases mb O with
  |ex _=>exact λp=>p.elim
  |stuck=>exact λp=>p.elim
  | ok f=>cases f with
   |bk _=>exact λp=>p.elim
   |ct _=>exact λp=>p.elim
   |rt w=>exact λp=>p
   | nx a0=>
    intro p
    have:=ih (k+1) a0 p λi w ρ hw hp=>by
     have:=st (i+1) w ρ hw (by rw[<- qH3 k i];exact hp)
     rw[<- qH3 k i]at this;exact this
    rw[qC5,<- qH3 k ws.length];exact this
def fP (I:Nat->Rho->Prop) (h0:I 0 ρ) (st:∀(i:Nat) (w:W) (ρ:Rho),ws[i]?=some w->I i ρ->∃O,mg w ρ=some O/\Po (mb O) (I (i+1)) Jr) (hn:∀ρ,I ws.length ρ->Jn ρ):Po (D6 mg mb ws ρ) Jn Jr:=by
 have:=sE (mg:=mg) (mb:=mb) (Jr:=Jr) I ws 0 ρ h0 λi w ρ hw hp=>by rw[qU5]at hp ⊢;exact st i w ρ hw hp
 rw[qU5]at this;exact this.mono hn λ_ h=>h
def A8 (I:Nat->Rho->Prop)(h0:I 0 ρ)(st:∀(i:Nat)(w:W)(ρ:Rho),ws[i]?=some w->I i ρ->∃O,mg w ρ=some O/\Po (mb O) (I (i+1)) Jr)(hn:∀ρ,I ws.length ρ->Po (n ρ) Jn Jr):Po (andThen (D6 mg mb ws ρ) n) Jn Jr:=O9 (fP I h0 st hn)
def Q2 (I:Nat->Rho->Prop) (st:∀m ρ,I m ρ->∃t,c ρ=.ok t/\if t=true then Po (b ρ) (λO=>∃m',m'<m/\I m' O) Jr else Jn ρ):∀(m:Nat) (ρ:Rho),I m ρ->Po (J3 c b ρ) Jn Jr:=by
 have a0:∀(m:Nat) (ρ:Rho),I m ρ->∃r,G0 c b (m+1) ρ=some r/\Po r Jn Jr:=by
  intro m
  induction m using Nat.strongRecOn with
  | ind m ih=>
   intro ρ h;obtain ⟨t,e,q⟩:=st m ρ h;unfold G0;rw[e];cases t with
   |false=>rw[qA4 qA9]at q;exact ⟨_,rfl,q⟩
   | true=>
    rw[qA2 rfl]at q;dsimp only
    revert q
    cases b ρ with
    |ex _=>exact λq=>q.elim
    |stuck=>exact λq=>q.elim
    | ok f=>cases f with
     |bk _=>exact λq=>q.elim
     |ct _=>exact λq=>q.elim
     |rt w=>exact λq=>⟨_,rfl,q⟩
     | nx O=>
      intro ⟨m',hm,h'⟩;obtain ⟨r,e',q'⟩:=ih m' hm O h';exact ⟨r,bq (m'+1) O r e' m ox,q'⟩
 intro m ρ h;obtain ⟨r,e,q⟩:=a0 m ρ h;rw[ji e];exact q
def OkL (r:R (List W))(P:List W->Prop):Prop:=∃w,r=.ok w/\P w
def DW (h:Ok r Jr):Po (r>>=gZ) Jn Jr:=by
 obtain ⟨w,rfl,q⟩:=h;exact q
def wC (h:OkL r λw=>Ok (f w) P):Ok (r>>=f) P:=by
 obtain ⟨w,rfl,q⟩:=h;exact q
def Ic (h:Ok a λx=>P (x::xs)):OkL (qP a (.ok xs)) P:=by
 obtain ⟨w,rfl,q⟩:=h;exact ⟨_,rfl,q⟩
def xn (i j:Int):FC i j=max i j:=by unfold FC;omega
def xm (i j:Int):FB i j=min i j:=by unfold FB;omega
def oW:Option Int->W
 |none=>.non
 |some i=>.int i
def oW_n:oW none=.non:=rfl
def oW_s (i:Int):oW (some i)=.int i:=rfl
def sZ (o:Option Int):noL (oW o)=true:=by cases o <;> rfl
def Gx (o:Option Int):chk (oW o)=.ok (oW o):=C2 (sZ o)
def X1 {α:Type}(f:α->W) (h:∀a,noL (f a)=true) (I:List α):j7 (I.map f)=true:=by
 induction I with
 |nil=>rfl
 |cons a I O=>rw[qC1];simp only [j7,h,O,qL3]
def C6 (cs:List (Option Int)):j7 (cs.map oW)=true:=X1 oW sZ cs
def Gu (c:Bool)(cs:List (Option Int)):chks c (cs.map oW)=.ok (.lst (cs.map oW)):=dI (C6 cs)
def uD (c:Bool)(cs:List (Option Int)):Y2 c (cs.map oW)=.ok (.tup (cs.map oW)):=aQ (C6 cs)
def Fh (o:Option Int):isN (oW o)=o.isNone:=by cases o <;> rfl
def vB (o:Option Int):O3 (oW o)=.val (oW o):=by cases o <;> rfl
def uO {α:Type}(f:α->W){I:List α}{d:α}{i:Int}(h:0<=i/\i<I.length):L2.atI (I.map f) i=some (f (I.getD i.toNat d)):=by
 unfold L2.atI;rw[qA6,aK h.1 h.2]
 show (I.map f)[i.toNat]?=_;have hi:i.toNat<I.length:=ox;rw[qA7,qA0];simp [hi]
def Jd {cs:List (Option Int)}{i:Int}(h:0<=i/\i<cs.length):L2.atI (cs.map oW) i=some (oW (cs.getD i.toNat none)):=uO oW h
def appO (cs:List (Option Int))(o:Option Int):cs.map oW ++ [oW o]=(cs ++ [o]).map oW:=by rw[qC3];rfl
def gF {α I:Type}(f:α->W) (g:I->W){a:List α}{b:List I}(h:b.length=a.length) (x:α) (y:I):(gG [a.map f,b.map g]).map W.tup=(List.range a.length).map λk=>W.tup [f (a.getD k x),g (b.getD k y)]:=by
 apply qL8;intro i;simp only [gG,qA7,qK6];by_cases hi:i<a.length
 ·have O:i<b.length:=ox;simp [hi,O]
 ·simp [hi]
def kE {f:Nat->W}(h:((List.range n).map f)[i]?=some w):i<n/\w=f i:=by
 rw[qA7]at h;cases q:(List.range n)[i]? with
 |none=>rw[q]at h;cases h
 | some k=>
  rw[q]at h;obtain ⟨O,I⟩:=qB0.mp q;simp at O I;subst I;cases h;exact ⟨O,rfl⟩
def S9 (ns:List Int):noL (tI ns)=true:=A2 ns
def lw (ss:List (List Int)):j7 (ss.map tI)=true:=X1 tI S9 ss
def Gs (c:Bool)(ss:List (List Int)):chks c (ss.map tI)=.ok (.lst (ss.map tI)):=dI (lw ss)
def GA (c:Bool)(ss:List (List Int)):Y2 c (ss.map tI)=.ok (.tup (ss.map tI)):=aQ (lw ss)
def Jc {ss:List (List Int)}{i:Int}(h:0<=i/\i<ss.length):L2.atI (ss.map tI) i=some (tI (ss.getD i.toNat [])):=uO tI h
def Hl (ss:List (List Int))(s:List Int):ss.map tI ++ [tI s]=(ss ++ [s]).map tI:=by rw[qC3];rfl
def xG {α:Type}(xs:List α)(lo hi:Option Int):List α:=(xs.drop (HT.sIx xs.length 0 lo)).take (HT.sIx xs.length xs.length hi-HT.sIx xs.length 0 lo)
def xE (f:α->W) (I:List α) (lo hi:Option Int):J8 (I.map f) lo hi=(xG I lo hi).map f:=by
 unfold J8 xG;rw[qA6,<- List.map_drop,<- List.map_take]
def Go (ss:List (List Int))(lo hi:Option Int):J8 (ss.map tI) lo hi=(xG ss lo hi).map tI:=xE tI ss lo hi
def GC (ss ts:List (List Int)):ss.map tI++ts.map tI=(ss++ts).map tI:=by rw[qC3]
def GD (ss ts:List Int):ss.map W.int++ts.map W.int=(ss++ts).map W.int:=by rw[qC3]
def CQ {lo hi:Int}(h:-1000000<=lo/\lo<=1000000 /\ -1000000<=hi/\hi<=1000000):O6 lo hi=.ok ((List.range (hi-lo).toNat).map λk=>W.int (lo+(k:Nat))):=by
 unfold O6;rw[qA2 h]
def eqv_refl:∀w:W,PyData.eqv (pd w) (pd w)=true:=by
 intro w;refine W.rec (motive_1:=λw=>PyData.eqv (pd w) (pd w)=true) (motive_2:=λws=>PyData.eqvAll (pds ws) (pds ws)=true) ?_ ?_ ?_ ?_ ?_ ?_ ?_ ?_ ?_ ?_ ?_ ?_ w
 ·rfl
 ·intro b;cases b <;> rfl
 ·intro b;exact qR3 b
 ·intro b;exact qR3 b
 ·intro b;rfl
 ·exact λws h=>h
 ·exact λws h=>h
 ·exact λws h=>h
 ·intro b c;rfl
 ·intro b;rfl
 ·rfl
 ·intro w ws O I;exact (qG4 _ _).mpr ⟨O,I⟩
def xy (w:W):eqW w w=true:=eqv_refl w
def aV {α:Type}(f:α->W) (n:Nat) (h:∀a,shp n (f a)=true) (I:List α):U4 n (I.map f)=true:=by
 induction I with
 |nil=>rfl
 |cons a I O=>rw[qC1];simp only [U4,h,O,qL3]
def W1 (n:Nat) (i:Int):shp n (.int i)=true:=by cases n <;> rfl
def zl (n:Nat):shp n .non=true:=by cases n <;> rfl
def rM (n:Nat)(b:Bool):shp n (.bl b)=true:=by cases n <;> rfl
def kj (n:Nat)(ns:List Int):shp (n+1) (tI ns)=true:=aV W.int n (W1 n) ns
def kn (n:Nat)(ns:List Int):shp (n+1) (lI ns)=true:=aV W.int n (W1 n) ns
def km (n:Nat)(ss:List (List Int)):shp (n+2) (.lst (ss.map tI))=true:=aV tI (n+1) (kj n) ss
def xw (h:shp 8 w=true):fEq neg w w=.ok (.bl (!neg)):=by
 unfold fEq;rw[h,xy];cases neg <;> rfl
def eqI:∀(a b:List Int),PyData.eqvAll (pds (a.map W.int)) (pds (b.map W.int))=decide (a=b)
 | [],[]=>by simp [pds,PyData.eqvAll]
 | [],_::_=>by simp [pds,PyData.eqvAll]
 |_::_,[]=>by simp [pds,PyData.eqvAll]
 | x::a,y::b=>by
  simp only [qC1,pds,pd,PyData.eqvAll,PyData.eqv,eqI a b];by_cases h:x=y <;> by_cases h':a=b <;> simp [h,h']
def uh (neg:Bool) (a b:List Int):fEq neg (tI a) (tI b)=.ok (.bl (if neg then !decide (a=b) else decide (a=b))):=by
 unfold fEq;rw[kj,kj]
 have:eqW (tI a) (tI b)=decide (a=b):=eqI a b
 rw[this];rfl
def Ga (neg:Bool) (a b:List Int):fEq neg (lI a) (lI b)=.ok (.bl (if neg then !decide (a=b) else decide (a=b))):=by
 unfold fEq;rw[kn,kn]
 have:eqW (lI a) (lI b)=decide (a=b):=eqI a b
 rw[this];rfl
def Gi:∀(a b:List (List Int)),PyData.eqvAll (pds (a.map tI)) (pds (b.map tI))=decide (a=b)
 | [],[]=>by simp [pds,PyData.eqvAll]
 | [],_::_=>by simp [pds,PyData.eqvAll]
 |_::_,[]=>by simp [pds,PyData.eqvAll]
 | x::a,y::b=>by
  simp only [qC1,pds,pd,PyData.eqvAll,PyData.eqv,Gi a b,eqI];by_cases h:x=y <;> by_cases h':a=b <;> simp [h,h']
def FZ (neg:Bool) (a b:List (List Int)):fEq neg (.lst (a.map tI)) (.lst (b.map tI))=.ok (.bl (if neg then !decide (a=b) else decide (a=b))):=by
 unfold fEq;rw[km,km]
 have:eqW (.lst (a.map tI)) (.lst (b.map tI))=decide (a=b):=Gi a b
 rw[this];rfl
def aL (neg:Bool) (i j:Int):fEq neg (.int i) (.int j)=.ok (.bl (if neg then !decide (i=j) else decide (i=j))):=by
 unfold fEq;rw[W1,W1]
 have:eqW (.int i) (.int j)=decide (i=j):=by
  by_cases h:i=j <;> simp [eqW,pd,PyData.eqv,h]
 rw[this];rfl
def Gc (neg:Bool) (i j:Bool):fEq neg (.bl i) (.bl j)=.ok (.bl (if neg then !decide (i=j) else decide (i=j))):=by
 unfold fEq;rw[rM,rM]
 have:eqW (.bl i) (.bl j)=decide (i=j):=by cases i <;> cases j <;> rfl
 rw[this];rfl
def FY (neg:Bool) (j:Int):fEq neg .non (.int j)=.ok (.bl neg):=by cases neg <;> rfl
def Gb (neg:Bool) (j:Int):fEq neg (.int j) .non=.ok (.bl neg):=by cases neg <;> rfl
def FX (neg:Bool):fEq neg .non .non=.ok (.bl (!neg)):=by cases neg <;> rfl
def xx (g:List Bool->Bool) (bs:List Bool):aM g [.lst (bs.map W.bl)]=.ok (.bl (g bs)):=by
 show (toR (Y3 (bs.map W.bl))>>=_)=_;rw[BG];rfl
def Be (g:List Int->Int) (ns:List Int):qq g [.lst (ns.map W.int)]=.ok (.int (g ns)):=by
 show (toR (o7 (ns.map W.int))>>=_)=_;rw[ints_map];rfl
def FS (i:Int):FU [.int i]=.ok (.int i):=rfl
def FT (b:Bool):FU [.bl b]=.ok (.int (if b then 1 else 0)):=rfl
def Gf (i:Int):fAbs [.int i]=.ok (.int (if i<0 then -i else i)):=rfl
def Gh (o:Option Sl) (r:R W) (c:Bool) (i:Nat) (ρ:Rho):R Fl:=match o with
 | some (.own ws)=>r>>=λw=>(match w with
  | .lst us=>if ws.length+us.length<=1000 then (if c||j7 us then .ok (.nx (ρ.set i (.own (ws++us)))) else .stuck) else .stuck
  |_=>.stuck)
 |_=>.stuck
def AB (i:Nat)(c:Bool)(m:Rho->R W)(ρ:Rho):mExt i c m ρ=Gh (ρ[i]?) (m ρ) c i ρ:=rfl
def Gg {ws us:List W}{c:Bool}{i:Nat}{ρ:Rho}(h:ws.length+us.length<=1000):Gh (some (.own ws)) (.ok (.lst us)) c i ρ=if c||j7 us then .ok (.nx (ρ.set i (.own (ws++us)))) else .stuck:=by
 show (if ws.length+us.length<=1000 then _ else _)=_;rw[qA2 h]
def CV (o:Option Sl) (i:Nat) (ρ:Rho):R Fl:=match o with
 |some (.own ws)=>.ok (.nx (ρ.set i (.own ws.reverse)))
 |_=>.stuck
def AA (i:Nat)(ρ:Rho):lK i ρ=CV (ρ[i]?) i ρ:=rfl
def zx (ws:List W)(i:Nat)(ρ:Rho):CV (some (.own ws)) i ρ=.ok (.nx (ρ.set i (.own ws.reverse))):=rfl
def ci (J:Rho->Prop)(O:Po r J Jr)(I:∀ρ,J ρ->Po (n ρ) Jn Jr):Po (andThen r n) Jn Jr:=O9 (O.mono I λ_ h=>h)
def AX (i j:Int):E1 i j=.int (i+j):=rfl
def AV (i j:Int):TP.gSub i j=.int (i-j):=rfl
def FE (i j:Int):gLt i j=.bl (decide (i<j)):=rfl
def FF (i j:Int):gLe i j=.bl (decide (i<=j)):=rfl
def FG (i j:Int):gGt i j=.bl (decide (j<i)):=rfl
def FH (i j:Int):gGe i j=.bl (decide (j<=i)):=rfl
def AW (i:Int):X3 i=.int (-i):=rfl
def xo (i j:Int):qk i j=i+j:=rfl
def xl (i j:Int):Ir i j=i-j:=rfl
def FM {i:Int}(h:0<=i/\i<1000):fStr [.int i]=.ok (.str (toString i)):=by
 show (if i.natAbs.log2<1920 then _ else _)=_;rw[qA2];refine qN7 (Nat.log2_le_self _) ?_;omega
def FR (neg:Bool)(u:W)(b:Bool):fIsB neg u (.bl b)=.ok (.bl (if neg then !aj u b else aj u b)):=rfl
def Fn (i:Int)(b:Bool):aj (.int i) b=false:=rfl
def Fk (b:Bool):aj .non b=false:=rfl
def Fj (x:Str)(b:Bool):aj (.str x) b=false:=rfl
def Fi (x:List W)(b:Bool):aj (.tup x) b=false:=rfl
def Fm (x:List W)(b:Bool):aj (.lst x) b=false:=rfl
def Fo (a b:Bool):aj (.bl a) b=(a == b):=rfl
def Rcu (c:Bool)(r:R (List W))(f:List W->R W)(i:Nat)(ρ:Rho):R Fl:=if c then (r>>=λws=>f ws>>=λw=>.ok (.nx (ρ.set i (.par w)))) else .stuck
def CH (i:Nat)(f:List W->R W)(ma:Rho->R (List W))(ρ:Rho):sCU i f ma ρ=Rcu (noOwn ρ) (ma ρ) f i ρ:=rfl
def Ht (r:R W)(i:Nat)(ρ:Rho):R Fl:=r>>=λw=>.ok (.nx (ρ.set i (.par w)))
def Jg (ws:List W)(f:List W->R W)(i:Nat)(ρ:Rho):Rcu true (.ok ws) f i ρ=Ht (f ws) i ρ:=rfl
def BT (w:W)(i:Nat)(ρ:Rho):Ht (.ok w) i ρ=.ok (.nx (ρ.set i (.par w))):=rfl
def sX:noOwn []=true:=rfl
def Aj (w:W)(ρ:Rho):noOwn (.val w::ρ)=noOwn ρ:=rfl
def Al (w:W)(ρ:Rho):noOwn (.par w::ρ)=noOwn ρ:=rfl
def Ak (ρ:Rho):noOwn (.un::ρ)=noOwn ρ:=rfl
def Bm {g:List Int->Int}{ns:List Int}(h:0<ns.length):yC g [tI ns]=.ok (.int (g ns)):=by
 show (toR (o7 (ns.map W.int))>>=_)=_;rw[ints_map]
 show (if 0<ns.length then _ else _)=_;rw[qA2 h]
def Bo {g:List Int->Int}{ns:List Int}(h:0<ns.length):yC g [lI ns]=.ok (.int (g ns)):=by
 show (toR (o7 (ns.map W.int))>>=_)=_;rw[ints_map]
 show (if 0<ns.length then _ else _)=_;rw[qA2 h]
def CU (ws:List W):revW [.lst ws]=.ok ws.reverse:=rfl
def rp0:=Z1 (@xn) (Z1 (@xm) (Z1 (@HM) (Z1 (@HL) (Z1 (@Ij) (Z1 (@Ih) (Z1 (@Ey) (Z1 (@div_ii) (Z1 (@DU) (Z1 (@Hn) (Z1 (@Au) (Z1 (@Av) (Z1 (@Ge) (Z1 (@ug) (Z1 (@Jb) (Z1 (@Io) (Z1 (@CP) (Z1 (@Gp) (Z1 (@Cu) (Z1 (@Hm) (Z1 (@CW) (Z1 (@Az) (Z1 (@qH) (Z1 (@qG) (@qJ))))))))))))))))))))))))
def rp1:=Z1 (@qI) (Z1 (@Il) (Z1 (@Ja) (Z1 (@IZ) (Z1 (@Hv) (Z1 (@IY) (Z1 (@IX) (Z1 (@IW) (Z1 (@Je) (Z1 (@Jf) (Z1 (@xU) (Z1 (@BJ) (Z1 (@xQ) (Z1 (@zd) (Z1 (@Ch) (Z1 (@zc) (Z1 (@zH) (Z1 (@zJ) (Z1 (@zG) (Z1 (@Du) (Z1 (@Dt) (Z1 (@Dv) (Z1 (@zC) (Z1 (@yV) (@BY))))))))))))))))))))))))
def rp2:=Z1 (@yT) (Z1 (@wb) (Z1 (@wd) (Z1 (@wa) (Z1 (@zA) (Z1 (@zz) (Z1 (@zB) (Z1 (@vY) (Z1 (@BZ) (Z1 (@zD) (Z1 (@zF) (Z1 (@zE) (Z1 (@qZ) (Z1 (@uV) (Z1 (@yS) (Z1 (@yU) (Z1 (@HW) (Z1 (@HV) (Z1 (@sM) (Z1 (@BX) (Z1 (@BQ) (Z1 (@BP) (Z1 (@vg) (Z1 (@xV) (@CF))))))))))))))))))))))))
def rp3:=Z1 (@CI) (Z1 (@CG) (Z1 (@vI) (Z1 (@xT) (Z1 (@zp) (Z1 (@zy) (Z1 (@vH) (Z1 (@HA) (Z1 (@HB) (Z1 (@HE) (Z1 (@BR) (Z1 (@rH) (Z1 (@rE) (Z1 (@rK) (Z1 (@vC) (Z1 (@rG) (Z1 (@rF) (Z1 (@HD) (Z1 (@BU) (Z1 (@rq) (Z1 (@zr) (Z1 (@BS) (Z1 (@zq) (Z1 (@FJ) (@xr))))))))))))))))))))))))
def rp4:=Z1 (@xp) (Z1 (@xq) (Z1 (@AY) (Z1 (@iw) (Z1 (@Da) (Z1 (@CY) (Z1 (@CZ) (Z1 (@Db) (Z1 (@De) (Z1 (@Dh) (Z1 (@Df) (Z1 (@Dg) (Z1 (@Di) (Z1 (@Dj) (Z1 (@Dl) (Z1 (@Dm) (Z1 (@pZ) (Z1 (@vS) (Z1 (@vQ) (Z1 (@vR) (Z1 (@AD) (Z1 (@Ay) (Z1 (@zn) (Z1 (@rO) (@AC))))))))))))))))))))))))
def rp5:=Z1 (@BK) (Z1 (@EB) (Z1 (@Ft) (Z1 (@Fu) ((((((Z1 (@Bs) (Z1 (@Bu) (Z1 (@FV) (Z1 (@fU_i) (Z1 (@Ix) (Z1 (@Iv) (Z1 (@Iw) (Z1 (@vo) (Z1 (@Cg) (Z1 (@FP) (Z1 (@FN) (Z1 (@FO) (Z1 (@Bc) (Z1 (@Bb) (Z1 (@uf) (@FL))))))))))))))))))))))))
def rp6:=Z1 (@Gr) (Z1 (@Gz) (Z1 (@Gv) (Z1 (@GB) (Z1 (@BA) (Z1 (@Gy) (Z1 (@By) (Z1 (@Bz) (Z1 (@Gw) (Z1 (@Iy) (Z1 (@CA) (Z1 (@Cy) (Z1 (@Cz) (Z1 (@CT) (Z1 (@CS) (Z1 (@gN_U) (Z1 (@gN_V) (Z1 (@gT_t) (Z1 (@xi) (Z1 (@AT) (Z1 (@Bd) (Z1 (@EU) (Z1 (@EV) (Z1 (@EZ) (@EO))))))))))))))))))))))))
def rp7:=Z1 (@FQ) (Z1 (@A2) (Z1 (@Bj) (Z1 (@Bk) (Z1 (@Bf) (Z1 (@Bg) (Z1 (@Bh) (@Bi)))))))
def rp8:=Z1 (@oW_n) (Z1 (@oW_s) (Z1 (@Gx) (Z1 (@C6) (Z1 (@Gu) (Z1 (@uD) (Z1 (@Fh) (Z1 (@vB) (Z1 (@Jd) (@appO)))))))))
def rp9:=Z1 (@lw) (Z1 (@Gs) (Z1 (@GA) (Z1 (@Jc) (Z1 (@Hl) (Z1 (@Go) (Z1 (@GC) (Z1 (@GD) (Z1 (@CQ) (Z1 (@uh) (Z1 (@Ga) (Z1 (@FZ) (Z1 (@aL) (Z1 (@Gc) (Z1 (@FY) (Z1 (@Gb) (Z1 (@FX) ((Z1 (@xx) (Z1 (@Be) (Z1 (@FS) (Z1 (@FT) (Z1 (@Gf) (Z1 (@AB) (Z1 (@Gg) (Z1 (@AA) (@zx))))))))))))))))))))))))))
def rp10:=Z1 (@AX) (Z1 (@AV) (Z1 (@FE) (Z1 (@FF) (Z1 (@FG) (Z1 (@FH) (Z1 (@AW) (Z1 (@xo) (@xl))))))))
def rp11:=Z1 (@FM) (Z1 (@FR) (Z1 (@Fn) (Z1 (@Fk) (Z1 (@Fj) (Z1 (@Fi) (Z1 (@Fm) (@Fo)))))))
def rp12:=Z1 (@CH) (Z1 (@Jg) (Z1 (@BT) (Z1 (@sX) (Z1 (@Aj) (Z1 (@Al) (@Ak))))))
def rp13:=Z1 (@Bm) (Z1 (@Bo) (@CU))
end TP
set_option maxHeartbeats 4000000
open PySem L2 TP
namespace K78
def lF:Rho->R Fl:=
 (e8 (D9 (bI K9 (aC (b8 .U 0) (aC (b8 .U 1) aN))) (gT 2 (k4 (gN .U 2) (k4 (gN .U 3) gsNil)))
   (mIf (g9 (b2 (fI0 gLt) (b8 .B 2) (b8 .B 3))) (i0 (mC (.bl false))) sNx))
  (i0 (mC (.bl true))))
abbrev X7:List W->R W:=g8 2 4 lF
def tD:Rho->R Fl:=
 (i0 (bA X7 (aC (b8 .B 0) (aC (b2 fIx (b8 .B 1) (mC (.int 0))) aN))))
abbrev gm:List W->R W:=g8 2 2 tD
def lH:Rho->R Fl:=
 (i0 (bA (J7 true) (aC (l6 3 (bI K9 (aC (b2 fIx (b8 .B 0) (mC (.int 0))) (aC (b2 fIx (b8 .B 0) (mC (.int 1))) aN))) (gT 2 (k4 (gN .U 1) (k4 (gN .U 2) gsNil))) yes (b2 (fI0 gSub) (b8 .B 2) (b8 .B 1))) aN)))
abbrev X9:List W->R W:=g8 1 1 lH
def ou:Rho->R Fl:=
 (e8 (mIf (M4 (g9 (bA gm (aC (b8 .B 0) (aC (b8 .B 1) aN))))) kx sNx)
  (i0 (bA (J7 true) (aC (l6 4 (bI K9 (aC (b8 .B 0) (aC (bA X9 (aC (b8 .B 1) aN)) aN))) (gT 2 (k4 (gN .U 2) (k4 (gN .U 3) gsNil))) yes (b2 (fI0 E1) (b8 .B 2) (b8 .B 3))) aN))))
abbrev iE:List W->R W:=g8 2 2 ou
def cD:Rho->R Fl:=
 (i0 (bA (J7 true) (aC (l6 5 (bI K9 (aC (b8 .B 0) (aC (b8 .B 1) aN))) (gT 2 (k4 (gN .U 3) (k4 (gN .U 4) gsNil))) yes (b2 (fI0 E1) (b8 .B 3) (b2 (fI CMulB v5) (b8 .B 2) (b8 .B 4)))) aN)))
abbrev U0:List W->R W:=g8 3 3 cD
def tw:Rho->R Fl:=
 (i0 (bA (J7 true) (aC (l6 3 (bI Q0 (aC (b8 .B 1) aN)) (gN .U 2) yes (vIf (g9 (b2 (fEq false) (b8 .B 2) (b8 .B 0))) (mC (.int 1)) (mC (.int 0)))) aN)))
abbrev gi:List W->R W:=g8 2 2 tw
def bK:Rho->R Fl:=
 (e8 (sF 3 (l6 6 (bS (b8 .B 0)) (gN .U 5) yes (bA X9 (aC (b8 .B 5) aN))))
  (e8 (sF 4 (l6 6 (bI Q0 (aC (b8 .B 2) aN)) (gN .U 5) yes (b2 fCatT (bA (J7 true) (aC (l6 7 (bS (b8 .B 3)) (gN .U 6) yes (b1 (fU X3) (b2 fIx (b8 .B 6) (b8 .B 5)))) aN)) (bA gi (aC (b8 .B 5) (aC (b8 .B 2) aN))))))
  (e8 (U6 4 (b2 fCatT (bA (J7 true) (aC (l6 6 (bS (b8 .B 3)) (gN .U 5) yes (Y4 (b2 fIx (b8 .B 5) (b8 .B 1)))) aN)) (b2 fRepT (x4 (aC (mC (.int 0)) aN)) (b8 .C 2))))
  (B8 .F 4))))
abbrev M7:List W->R W:=g8 3 5 bK
def lG:Rho->R Fl:=
 (e8 (D9 (bI P3 (aC (b2 fIx (b8 .B 0) (b1 (fU X3) (mC (.int 1)))) aN)) (gT 2 (k4 (gN .U 1) (k4 (gN .U 2) gsNil)))
   (mIf (g9 (b2 (fI0 gGt) (b8 .B 2) (mC (.int 0)))) (B8 .F 1) sNx))
  (i0 (mC .non)))
abbrev X8:List W->R W:=g8 1 3 lG
def jf:Rho->R Fl:=
 (e8 (sF 3 (l6 5 (bI Q0 (aC (bA fLen (aC (b8 .B 1) aN)) aN)) (gN .U 4) (g9 (b2 (fI0 gGt) (b2 fIx (b2 fIx (b8 .B 0) (b8 .B 4)) (b8 .B 2)) (mC (.int 0)))) (b8 .V 4)))
  (i0 (gB 1 (aC (b8 .B 3) aN))))
abbrev cL:List W->R W:=g8 3 4 jf
def jg:Rho->R Fl:=
 (i0 (bA (J7 true) (aC (l6 6 (bI K9 (aC (b8 .B 0) (aC (b8 .B 1) aN))) (gT 2 (k4 (gN .U 4) (k4 (gN .U 5) gsNil))) yes (b2 (fI V7 cK) (b2 (fI0 gSub) (b2 (fI CMulB v5) (b8 .B 4) (b2 fIx (b8 .B 1) (b8 .B 2))) (b2 (fI CMulB v5) (b2 fIx (b8 .B 0) (b8 .B 2)) (b8 .B 5))) (b8 .B 3))) aN)))
abbrev cM:List W->R W:=g8 4 4 jg
def je:Rho->R Fl:=
 (e8 (sU 4 (b2 fIx (b8 .B 0) (b8 .B 1)))
  (i0 (l6 7 (bI P3 (aC (b8 .B 0) aN)) (gT 2 (k4 (gN .U 5) (k4 (gN .U 6) gsNil))) yes (vIf (g9 (b2 (fEq false) (b8 .B 5) (b8 .B 1))) (b8 .V 6) (bA cM (aC (b8 .B 6) (aC (b8 .B 4) (aC (b8 .B 2) (aC (b8 .B 3) aN)))))))))
abbrev aa:List W->R W:=g8 4 5 je
def T6:Rho->R Fl:=
 (e8 (J3 (g9 (b2 (o6 true) (b8 .B 1) (mC (.int 0)))) (e8 (sV 2 (b2 (fI P4 Q8) (b8 .B 0) (b8 .B 1)))
   (e8 (sV 0 (b8 .V 1))
   (sV 1 (b8 .V 2)))))
  (B8 .F 0))
abbrev D4:List W->R W:=g8 2 3 T6
def T0:Rho->R Fl:=
 (e8 (sV 1 (mC (.int 0)))
  (e8 (D9 (bS (b8 .U 0)) (gN .U 2)
   (sF 1 (bA D4 (aC (b8 .B 1) (aC (b8 .B 2) aN)))))
  (i0 (bA (J7 true) (aC (l6 4 (bS (b8 .B 0)) (gN .U 3) yes (b2 (fI V7 cK) (b8 .B 3) (b8 .B 1))) aN)))))
abbrev A4:List W->R W:=g8 1 3 T0
def cB:Rho->R Fl:=
 (e8 (sF 4 (l6 6 (bS (eL (b2 fIx (b8 .B 0) (b1 (fU X3) (mC (.int 1)))) (pS (b8 .B 3)) pN)) (gN .U 5) yes (b1 (fU X3) (b8 .B 5))))
  (i0 (bA A4 (aC (bA U0 (aC (b8 .B 4) (aC (bA gi (aC (b8 .B 1) (aC (bA fLen (aC (b8 .B 4) aN)) aN))) (aC (b8 .B 2) aN)))) aN))))
abbrev X4:List W->R W:=g8 4 5 cB
def lJ:Rho->R Fl:=
 (e8 (sF 5 (b2 (qm true) (D8 (aC (mC (.int 0)) aN)) (bA fLen (aC (b2 fIx (b8 .B 0) (mC (.int 0))) aN))))
  (e8 (fg 5 (b8 .B 2) (b8 .V 3))
  (e8 (D9 (bI P3 (aC (b8 .U 1) aN)) (gT 2 (k4 (gN .U 6) (k4 (gN .U 7) gsNil)))
   (fg 5 (b8 .B 7) (b1 (fU X3) (b2 fIx (b2 fIx (b8 .B 0) (b8 .B 6)) (b8 .B 2)))))
  (i0 (bA A4 (aC (vSl true (b8 .C 5) pN (pS (b8 .B 4))) aN))))))
abbrev fu:List W->R W:=g8 5 8 lJ
def jh:Rho->R Fl:=
 (e8 (sF 3 (bA M7 (aC (b8 .B 0) (aC (b8 .B 1) (aC (b8 .B 2) aN)))))
  (e8 (sF 4 (l6 9 (bI Q0 (aC (b8 .B 2) aN)) (gN .U 8) yes (b2 (fI0 E1) (bA fLen (aC (b8 .B 0) aN)) (b8 .B 8))))
  (e8 (sV 5 (mC (.int 1)))
  (e8 (sF 6 (bA X8 (aC (b8 .B 3) aN)))
  (e8 (J3 (g9 (b2 (N1 true) (b8 .B 6) (mC .non))) (e8 (sF 7 (bA cL (aC (b8 .B 3) (aC (b8 .B 4) (aC (b8 .B 6) aN)))))
   (e8 (mIf (g9 (b2 (N1 false) (b8 .B 7) (mC .non))) (i0 (x4 (aC (mC (.str "bag")) (aC (bA fu (aC (b8 .B 3) (aC (b8 .B 4) (aC (b8 .B 6) (aC (b8 .B 5) (aC (bA fLen (aC (b8 .B 0) aN)) aN)))))) aN)))) sNx)
   (e8 (sF 3 (bA aa (aC (b8 .B 3) (aC (b8 .B 7) (aC (b8 .B 6) (aC (b8 .B 5) aN))))))
   (e8 (aY 6 (fg 4 (b8 .B 7) (b8 .V 6)))
   (e8 (sV 5 (b2 fIx (b2 fIx (b8 .C 3) (b8 .C 7)) (b8 .C 6)))
   (sF 6 (bA X8 (aC (b8 .B 3) aN)))))))))
  (i0 (x4 (aC (mC (.str "weights")) (aC (bA X4 (aC (b8 .B 3) (aC (b8 .B 1) (aC (b8 .B 5) (aC (bA fLen (aC (b8 .B 0) aN)) aN))))) aN)))))))))
abbrev cN:List W->R W:=g8 3 8 jh
def oq:Rho->R Fl:=
 (e8 (sF 2 (b2 fRepT (x4 (aC (mC (.int 0)) aN)) (b8 .C 1)))
  (e8 (D9 (bI Q0 (aC (b8 .B 1) aN)) (gN .U 3)
   (e8 (sF 4 (bA cN (aC (b8 .B 0) (aC (b8 .B 3) (aC (b8 .B 1) aN)))))
   (e8 (mIf (g9 (b2 (o6 false) (b2 fIx (b8 .B 4) (mC (.int 0))) (mC (.str "bag")))) (i0 (x4 (aC (mC (.str "bag")) (aC (b8 .V 3) (aC (b2 fIx (b8 .C 4) (mC (.int 1))) aN))))) sNx)
   (sF 2 (bA U0 (aC (b8 .B 2) (aC (b2 fIx (b8 .B 4) (mC (.int 1))) (aC (mC (.int 1)) aN))))))))
  (i0 (x4 (aC (mC (.str "weights")) (aC (bA A4 (aC (b8 .B 2) aN)) aN))))))
abbrev dz:List W->R W:=g8 2 5 oq
def on:Rho->R Fl:=
 (e8 (D9 (bI K9 (aC (b8 .U 0) (aC (b8 .U 1) aN))) (gT 2 (k4 (gN .U 2) (k4 (gN .U 3) gsNil)))
   (mIf (jC (g9 (b2 (N1 true) (b8 .B 3) (mC .non))) (gL (g9 (b2 (N1 false) (b8 .B 2) (mC .non))) (g9 (b2 (fI0 gGt) (b8 .B 2) (b8 .B 3))))) (i0 (mC (.bl false))) sNx))
  (i0 (mC (.bl true))))
abbrev W3:List W->R W:=g8 2 4 on
def dS:Rho->R Fl:=
 (e8 (D9 (bS (b8 .U 1)) (gN .U 2)
   (mIf (g9 (bA W3 (aC (b8 .B 0) (aC (b8 .B 2) aN)))) (i0 (mC (.bl true))) sNx))
  (i0 (mC (.bl false))))
abbrev M0:List W->R W:=g8 2 3 dS
def fZ:Rho->R Fl:=
 (i0 (bA W3 (aC (b2 fIx (b8 .B 1) (mC (.int 0))) (aC (b8 .B 0) aN))))
abbrev V5:List W->R W:=g8 2 2 fZ
def dW:Rho->R Fl:=
 (e8 (mIf (M4 (g9 (bA V5 (aC (b8 .B 0) (aC (b8 .B 1) aN))))) kx sNx)
  (i0 (bA (J7 true) (aC (l6 4 (bI K9 (aC (b8 .B 0) (aC (bA X9 (aC (b8 .B 1) aN)) aN))) (gT 2 (k4 (gN .U 2) (k4 (gN .U 3) gsNil))) yes (vIf (g9 (b2 (N1 false) (b8 .B 2) (mC .non))) (mC .non) (b2 (fI0 E1) (b8 .B 2) (b8 .B 3)))) aN))))
abbrev ao:List W->R W:=g8 2 2 dW
def lD:Rho->R Fl:=
 (e8 (mIf (M4 (g9 (bA W3 (aC (b8 .B 1) (aC (b8 .B 0) aN))))) (B8 .F 0) sNx)
  (i0 (bA (J7 true) (aC (l6 4 (bI K9 (aC (b8 .B 0) (aC (b8 .B 1) aN))) (gT 2 (k4 (gN .U 2) (k4 (gN .U 3) gsNil))) yes (vIf (g9 (b2 (fEq false) (b8 .B 2) (b8 .B 3))) (b8 .V 2) (mC .non))) aN))))
abbrev bv:List W->R W:=g8 2 2 lD
def fY:Rho->R Fl:=
 (i0 (bA (J7 true) (aC (l6 2 (bS (b8 .B 0)) (gN .U 1) yes (vIf (g9 (b2 (N1 false) (b8 .B 1) (mC .non))) (x4 (aC (mC (.int 1)) (aC (mC (.int 0)) aN))) (x4 (aC (mC (.int 0)) (aC (b8 .V 1) aN))))) aN)))
abbrev K6:List W->R W:=g8 1 1 fY
def tz:Rho->R Fl:=
 (e8 (sF 1 (D8 aN))
  (e8 (D9 (bS (bA (cO false K6) (aC (b8 .B 0) aN))) (gN .U 2)
   (mIf (M4 (g9 (bA M0 (aC (b8 .B 2) (aC (b8 .B 1) aN))))) (U6 1 (b8 .V 2)) sNx))
  (e8 (lK 1)
  (B8 .F 1))))
abbrev lW:List W->R W:=g8 1 3 tz
def bh:Rho->R Fl:=
 (e8 (sF 2 (D8 aN))
  (e8 (sV 3 (b8 .V 1))
  (e8 (J3 (g9 (b2 (N1 true) (b8 .B 3) (mC .non))) (e8 (U6 2 (b8 .V 3))
   (sU 3 (b2 fIx (b2 fIx (b8 .B 0) (b8 .B 3)) (mC (.int 1))))))
  (B8 .F 2))))
abbrev D3:List W->R W:=g8 2 4 bh
def T4 (p:Addr):Rho->R Fl:=
 (e8 (nb (sU 4 (b2 fIx (b2 fIx (b8 .B 0) (mC (.int 1))) (b8 .B 3))))
  (e8 (mIf (M4 (g9 (bA V5 (aC (b2 fIx (b2 fIx (b8 .B 1) (b8 .B 2)) (mC (.int 0))) (aC (b8 .B 4) aN))))) pA (nb sNx))
  (e8 (nb (sF 5 (bA ao (aC (b2 fIx (b2 fIx (b8 .B 1) (b8 .B 2)) (mC (.int 0))) (aC (b8 .B 4) aN)))))
  (e8 (nb (D9 (bS (bA D3 (aC (b8 .B 1) (aC (b8 .B 2) aN)))) (gN .U 6)
   (sF 5 (bA bv (aC (b8 .B 5) (aC (b2 fIx (b2 fIx (b8 .B 1) (b8 .B 6)) (mC (.int 0))) aN))))))
  (mIf (M4 (g9 (bA M0 (aC (b8 .B 5) (aC (l6 8 (bS (b8 .B 1)) (gN .U 7) yes (Y4 (b2 fIx (b8 .B 7) (mC (.int 0))))) aN))))) (dr p 1 (x4 (aC (b8 .V 5) (aC (b8 .V 2) (aC (b8 .V 3) aN))))) (nb sNx))))))
abbrev gj:W->List W->List W->R (List W):=F1 4 7 T4
def lE:Rho->R Fl:=
 (e8 (sF 2 (D8 (aC (x4 (aC (Y4 (b2 fIx (b8 .B 0) (mC (.int 0)))) (aC (mC .non) (aC (mC .non) aN)))) aN)))
  (e8 (sV 3 (mC (.int 0)))
  (e8 (J3 (g9 (b2 (fI0 gLt) (b8 .B 3) (bA fLen (aC (b8 .B 2) aN)))) (e8 (D9 (bI Q0 (aC (bA fLen (aC (b2 fIx (b8 .B 0) (mC (.int 1))) aN)) aN)) (gN .U 4)
    (mIO 2 gj (b8 .B 0) (aC (b8 .B 3) (aC (b8 .B 4) aN))))
   (e8 (mIf (g9 (b2 (fI0 gGt) (bA fLen (aC (b8 .B 2) aN)) (b8 .B 1))) (i0 (mC .non)) sNx)
   (ix 3 qk (mC (.int 1))))))
  (B8 .F 2))))
abbrev X5:List W->R W:=g8 2 5 lE
def iu:Rho->R Fl:=
 (e8 (sF 2 (bA X5 (aC (b8 .B 0) (aC (b8 .B 1) aN))))
  (e8 (mIf (g9 (b2 (N1 false) (b8 .B 2) (mC .non))) (i0 (mC .non)) sNx)
  (i0 (bA lW (aC (l6 4 (bS (b8 .B 2)) (gN .U 3) yes (Y4 (b2 fIx (b8 .B 3) (mC (.int 0))))) aN)))))
abbrev dC:List W->R W:=g8 2 3 iu
def yu:Rho->R Fl:=
 (i0 (bA gn (aC (bA D3 (aC (b8 .B 0) (aC (b8 .B 1) aN))) aN)))
abbrev ql:List W->R W:=g8 2 2 yu
def bJ:Rho->R Fl:=
 (e8 (sF 3 (bA ql (aC (b8 .B 0) (aC (b8 .B 2) aN))))
  (i0 (l6 5 (bS (vSl true (b8 .C 3) (pS (b2 (fI0 E1) (lL (b8 .B 3) (b8 .B 1)) (mC (.int 1)))) pN)) (gN .U 4) yes (Y4 (b2 fIx (b2 fIx (b8 .B 0) (b8 .B 4)) (mC (.int 2)))))))
abbrev F2:List W->R W:=g8 3 4 bJ
def Z6:Rho->R Fl:=
 (i0 (l6 4 (bI P3 (aC (b2 fIx (b8 .B 0) (mC (.int 1))) aN)) (gT 2 (k4 (gN .U 2) (k4 (gN .U 3) gsNil))) (g9 (bA gm (aC (b8 .B 1) (aC (b8 .B 3) aN)))) (x4 (aC (bA iE (aC (b8 .B 1) (aC (b8 .B 3) aN))) (aC (b8 .V 2) aN)))))
abbrev P2:List W->R W:=g8 2 2 Z6
def ot:Rho->R Fl:=
 (e8 (sF 2 (D8 (aC (x4 (aC (Y4 (b2 fIx (b8 .B 0) (mC (.int 0)))) (aC (mC .non) (aC (mC .non) aN)))) aN)))
  (e8 (jH 3 (b2 fIx (b8 .B 0) (mC (.int 0))) (mC (.bl true)))
  (e8 (sV 4 (mC (.int 0)))
  (e8 (J3 (g9 (b2 (fI0 gLt) (b8 .B 4) (bA fLen (aC (b8 .B 2) aN)))) (e8 (sV 5 (b2 fIx (b2 fIx (b8 .C 2) (b8 .C 4)) (mC (.int 0))))
   (e8 (D9 (bS (bA P2 (aC (b8 .B 0) (aC (b8 .B 5) aN)))) (gT 2 (k4 (gN .U 6) (k4 (gN .U 7) gsNil)))
    (e8 (mIf (mIn false 3 (b8 .B 6)) sCt sNx)
    (e8 (mIf (g9 (b2 (o6 false) (bA fLen (aC (b8 .B 2) aN)) (b8 .B 1))) (aY 2 (i0 (x4 (aC (b8 .V 2) (aC (mC (.bl false)) aN))))) sNx)
    (e8 (ga 3 (b8 .B 6) (mC (.bl true)))
    (U6 2 (x4 (aC (b8 .V 6) (aC (b8 .V 4) (aC (b8 .V 7) aN)))))))))
   (ix 4 qk (mC (.int 1))))))
  (aY 2 (i0 (x4 (aC (b8 .V 2) (aC (mC (.bl true)) aN)))))))))
abbrev dA:List W->R W:=g8 2 8 ot
def dU:Rho->R Fl:=
 (i0 (l6 2 (bS (b8 .B 0)) (gN .U 1) yes (Y4 (b2 fIx (b8 .B 1) (mC (.int 0))))))
abbrev al:List W->R W:=g8 1 1 dU
def lB:Rho->R Fl:=
 (i0 (bA F2 (aC (b8 .B 0) (aC (mC (.int 0)) (aC (b8 .B 1) aN)))))
abbrev ft:List W->R W:=g8 2 2 lB
def cE:Rho->R Fl:=
 (e8 (D9 (bI P3 (aC (b8 .U 0) aN)) (gT 2 (k4 (gN .U 1) (k4 (gN .U 2) gsNil)))
   (D9 (bS (vSl true (bA D3 (aC (b8 .B 0) (aC (b8 .B 1) aN))) (pS (mC (.int 1))) pN)) (gN .U 3)
    (mIf (g9 (bA X7 (aC (b2 fIx (b8 .B 2) (mC (.int 0))) (aC (b2 fIx (b2 fIx (b8 .B 0) (b8 .B 3)) (mC (.int 0))) aN)))) (i0 (x4 (aC (b8 .V 3) (aC (b8 .V 1) aN)))) sNx)))
  (i0 (mC .non)))
abbrev X6:List W->R W:=g8 1 4 cE
def T7:Rho->R Fl:=
 (e8 (sF 2 (bA dA (aC (b8 .B 0) (aC (b8 .B 1) aN))))
  (e8 (sV 3 (b2 fIx (b8 .C 2) (mC (.int 0))))
  (e8 (sF 4 (bA X6 (aC (b8 .B 3) aN)))
  (e8 (mIf (g9 (b2 (N1 true) (b8 .B 4) (mC .non))) (i0 (x4 (aC (mC (.str "lift")) (aC (bA ft (aC (b8 .B 3) (aC (b2 fIx (b8 .B 4) (mC (.int 0))) aN))) (aC (bA F2 (aC (b8 .B 3) (aC (b2 fIx (b8 .B 4) (mC (.int 0))) (aC (b2 fIx (b8 .B 4) (mC (.int 1))) aN)))) aN))))) sNx)
  (e8 (mIf (g9 (b2 fIx (b8 .B 2) (mC (.int 1)))) (i0 (x4 (aC (mC (.str "all")) (aC (bA al (aC (b8 .B 3) aN)) aN)))) sNx)
  (e8 (sF 5 (bA dz (aC (b2 fIx (b8 .B 0) (mC (.int 1))) (aC (bA fLen (aC (b2 fIx (b8 .B 0) (mC (.int 0))) aN)) aN))))
  (aY 5 (i0 (vIf (g9 (b2 (o6 false) (b2 fIx (b8 .B 5) (mC (.int 0))) (mC (.str "weights")))) (b8 .V 5) (x4 (aC (mC (.str "open")) aN)))))))))))
abbrev ac:List W->R W:=g8 2 6 T7
def Q7:Rho->R Fl:=
 (e8 (mIf (g9 (b2 (fI0 gGt) (bA fLen (aC (b8 .B 0) aN)) (mC (.int 0)))) (i0 (Y4 (b2 fIx (b8 .B 0) (b2 (fI P4 Q8) (b8 .B 1) (bA fLen (aC (b8 .B 0) aN)))))) sNx)
  (i0 (mC (.int 0))))
abbrev E2:List W->R W:=g8 2 2 Q7
def dZ:Rho->R Fl:=
 (i0 (b2 (fI P4 Q8) (b2 (fI da cK) (b2 (fI P4 Q8) (b2 (fI CMulB v5) (b2 (fI0 E1) (bA E2 (aC (b8 .B 0) (aC (b8 .B 1) aN))) (mC (.int 1))) (b2 (fI0 E1) (b2 (fI0 E1) (b2 (fI CMulB v5) (b8 .B 1) (b8 .B 1)) (b2 (fI CMulB v5) (mC (.int 7)) (b8 .B 1))) (mC (.int 48271)))) (mC (.int 99991))) (mC (.int 3))) (b8 .B 2)))
abbrev o8:List W->R W:=g8 3 3 dZ
def aH:Rho->R Fl:=
 (e8 (sF 5 (D8 aN))
  (e8 (D9 (bI Q0 (aC (b8 .B 2) aN)) (gN .U 6)
   (e8 (sU 7 (b2 fIx (b8 .B 3) (bA o8 (aC (b8 .B 0) (aC (b2 (fI0 E1) (b8 .B 1) (b8 .B 6)) (aC (bA fLen (aC (b8 .B 3) aN)) aN))))))
   (e8 (mIf (jC (g9 (b2 (o6 false) (b8 .B 4) (mC (.int 0)))) (g9 (b2 (fI0 gGt) (b8 .B 7) (mC (.int 0))))) (sV 7 (b2 (fI P4 Q8) (b2 (fI CMulB v5) (b2 (fI0 E1) (bA E2 (aC (b8 .B 0) (aC (b2 (fI0 E1) (b8 .B 1) (b8 .B 6)) aN))) (b8 .B 6)) (mC (.int 48271))) (b2 (fI0 E1) (b2 (fI Y5 fq) (mC (.int 10)) (mC (.int 9))) (mC (.int 1))))) (sV 7 (b2 (fI CMulB v5) (b8 .B 7) (b8 .B 4))))
   (U6 5 (b8 .V 7)))))
  (i0 (bA (J7 true) (aC (b8 .C 5) aN)))))
abbrev w8:List W->R W:=g8 5 8 aH
def cF:Rho->R Fl:=
 (e8 (sF 1 (bA o8 (aC (b8 .B 0) (aC (mC (.int 2)) (aC (mC (.int 8)) aN)))))
  (e8 (mIf (g9 (b2 (o6 false) (b8 .B 1) (mC (.int 7)))) (i0 (mC (.int 0))) sNx)
  (e8 (mIf (g9 (b2 (fI0 gGt) (b8 .B 1) (mC (.int 4)))) (i0 (b2 (fI0 E1) (mC (.int 1)) (b2 (fI P4 Q8) (b2 (fI CMulB v5) (bA E2 (aC (b8 .B 0) (aC (mC (.int 2)) aN))) (mC (.int 48271))) (b2 (fI Y5 fq) (mC (.int 10)) (mC (.int 8)))))) sNx)
  (i0 (mC (.int 1))))))
abbrev Y0:List W->R W:=g8 1 2 cF
def dY:Rho->R Fl:=
 (e8 (sV 1 (b2 fIx (D8 (aC (mC (.int 2)) (aC (mC (.int 3)) (aC (mC (.int 1)) (aC (mC (.int 5)) (aC (mC (.int 3)) (aC (mC (.int 4)) (aC (mC (.int 2)) (aC (mC (.int 6)) aN))))))))) (bA o8 (aC (b8 .B 0) (aC (mC (.int 0)) (aC (mC (.int 8)) aN))))))
  (e8 (sF 2 (bA Y0 (aC (b8 .B 0) aN)))
  (e8 (sF 3 (D8 aN))
  (e8 (D9 (bI Q0 (aC (b2 fIx (D8 (aC (mC (.int 3)) (aC (mC (.int 2)) (aC (mC (.int 4)) (aC (mC (.int 1)) (aC (mC (.int 3)) (aC (mC (.int 5)) (aC (mC (.int 2)) (aC (mC (.int 8)) (aC (mC (.int 0)) (aC (mC (.int 6)) (aC (mC (.int 7)) aN)))))))))))) (bA o8 (aC (b8 .B 0) (aC (mC (.int 1)) (aC (mC (.int 11)) aN))))) aN)) (gN .U 4)
   (e8 (sV 5 (b2 (fI0 E1) (mC (.int 5)) (b2 (fI CMulB v5) (b8 .B 1) (b2 (fI0 E1) (b2 (fI CMulB v5) (mC (.int 2)) (b8 .B 4)) (mC (.int 1))))))
   (e8 (sF 6 (bA w8 (aC (b8 .B 0) (aC (b8 .B 5) (aC (b8 .B 1) (aC (D8 (aC (mC (.int 0)) (aC (mC (.int 1)) (aC (mC (.int 0)) (aC (mC (.int 2)) (aC (mC (.int 1)) (aC (mC (.int 0)) aN))))))) (aC (b8 .B 2) aN)))))))
   (e8 (sF 7 (bA w8 (aC (b8 .B 0) (aC (b2 (fI0 E1) (b8 .B 5) (b8 .B 1)) (aC (b8 .B 1) (aC (D8 (aC (mC (.int 1)) (aC (mC (.int 0)) (aC (mC (.int 0)) (aC (mC (.int 1)) (aC (mC (.int 2)) (aC (mC (.int 0)) aN))))))) (aC (b8 .B 2) aN)))))))
   (e8 (mIf (g9 (b2 (o6 false) (bA o8 (aC (b8 .B 0) (aC (mC (.int 3)) (aC (mC (.int 2)) aN)))) (mC (.int 0)))) (e8 (sF 8 (bA o8 (aC (b8 .B 0) (aC (b2 (fI0 E1) (b8 .B 5) (b8 .B 1)) (aC (b8 .B 1) aN)))))
    (sV 7 (b2 fCatT (eL (b8 .B 6) (pS (b8 .B 8)) pN) (eL (b8 .B 6) pN (pS (b8 .B 8)))))) sNx)
   (aY 7 (aY 6 (U6 3 (x4 (aC (b8 .V 6) (aC (b8 .V 7) aN)))))))))))
  (e8 (sV 9 (b2 fIx (D8 (aC (mC (.int 1)) (aC (mC (.int 1)) (aC (mC (.int 7)) (aC (b2 (fI Y5 fq) (mC (.int 10)) (mC (.int 6))) aN))))) (bA o8 (aC (b8 .B 0) (aC (mC (.int 4)) (aC (mC (.int 4)) aN))))))
  (e8 (sF 10 (bA w8 (aC (b8 .B 0) (aC (mC (.int 5)) (aC (b8 .B 1) (aC (D8 (aC (mC (.int 1)) (aC (mC (.int 0)) (aC (mC (.int 2)) (aC (mC (.int 1)) (aC (mC (.int 3)) (aC (mC (.int 0)) aN))))))) (aC (b8 .B 2) aN)))))))
  (i0 (x4 (aC (bA (J7 true) (aC (l6 12 (bS (b8 .B 10)) (gN .U 11) yes (b2 (fI CMulB v5) (b8 .B 11) (b8 .B 9))) aN)) (aC (bA (J7 true) (aC (b8 .C 3) aN)) aN))))))))))
abbrev aq:List W->R W:=g8 1 11 dY
def bL:Rho->R Fl:=
 (i0 (bA (aM qj) (aC (l6 3 (bI Q0 (aC (bA fLen (aC (b8 .B 0) aN)) aN)) (gN .U 2) yes (b2 (fI0 gGe) (b2 fIx (b8 .B 0) (b8 .B 2)) (b2 fIx (b8 .B 1) (b8 .B 2)))) aN)))
abbrev U8:List W->R W:=g8 2 2 bL
def dX:Rho->R Fl:=
 (e8 (sF 1 (D8 aN))
  (e8 (D9 (bS (b8 .U 0)) (gN .U 2)
   (mIf (M4 (g9 (bA (aM M9) (aC (l6 4 (bS (b8 .B 0)) (gN .U 3) yes (jO (b2 (fEq true) (b8 .B 3) (b8 .B 2)) (bA U8 (aC (b8 .B 3) (aC (b8 .B 2) aN))))) aN)))) (U6 1 (b8 .V 2)) sNx))
  (i0 (bA fSort (aC (b8 .C 1) aN)))))
abbrev M3:List W->R W:=g8 1 3 dX
def P5:Rho->R Fl:=
 (e8 (sF 3 (D8 aN))
  (e8 (D9 (bI Q0 (aC (b8 .B 2) aN)) (gN .U 4)
   (mIf (g9 (b2 (fI0 gGt) (bA (qq xk) (aC (l6 6 (bS (b8 .B 1)) (gN .U 5) yes (b2 (fI0 gSub) (b2 fIx (b2 fIx (b2 fIx (b8 .B 0) (b8 .B 5)) (mC (.int 1))) (b8 .B 4)) (b2 fIx (b2 fIx (b2 fIx (b8 .B 0) (b8 .B 5)) (mC (.int 0))) (b8 .B 4)))) aN)) (mC (.int 0)))) (U6 3 (b8 .V 4)) sNx))
  (B8 .F 3)))
abbrev y8:List W->R W:=g8 3 5 P5
def J2:Rho->R Fl:=
 (e8 (sF 3 (bA (aM M9) (aC (l6 7 (bS (b8 .B 0)) (gN .U 6) yes (b2 (fIn false) (mC .non) (b8 .B 6))) aN)))
  (e8 (mIf (g9 (b2 (o6 false) (b2 fIx (b8 .B 2) (mC (.int 0))) (mC (.str "all")))) (i0 (jO (pb (b8 .B 3)) (b2 (fEq false) (b8 .B 0) (bA M3 (aC (b2 fIx (b8 .B 2) (mC (.int 1))) aN))))) sNx)
  (e8 (mIf (g9 (b2 (o6 false) (b2 fIx (b8 .B 2) (mC (.int 0))) (mC (.str "weights")))) (i0 (pb (b8 .B 3))) sNx)
  (e8 (mIf (g9 (b2 (o6 false) (b2 fIx (b8 .B 2) (mC (.int 0))) (mC (.str "lift")))) (e8 (sF 4 (bA y8 (aC (b8 .B 1) (aC (b2 fIx (b8 .B 2) (mC (.int 2))) (aC (bA fLen (aC (b2 fIx (b8 .B 0) (mC (.int 0))) aN)) aN)))))
   (e8 (aY 4 (D9 (bS (b8 .U 4)) (gN .U 5)
    (mIf (M4 (g9 (bA (aM M9) (aC (l6 7 (bS (b8 .B 0)) (gN .U 6) yes (b2 (N1 false) (b2 fIx (b8 .B 6) (b8 .B 5)) (mC .non))) aN)))) (i0 (mC (.bl false))) sNx)))
   (i0 (jO (b8 .B 3) (b2 (fI0 gGt) (bA fLen (aC (b8 .B 4) aN)) (mC (.int 0))))))) sNx)
  (i0 (mC (.bl true)))))))
abbrev A5:List W->R W:=g8 3 6 J2
def yw:Rho->R Fl:=
 (e8 (sG (gT 2 (k4 (gN .U 1) (k4 (gN .U 2) gsNil))) (bA aq (aC (b8 .B 0) aN)))
  (e8 (sV 3 (mC (.int 30)))
  (e8 (mIf (g9 (b2 (o6 false) (bA o8 (aC (b8 .B 0) (aC (mC (.int 40)) (aC (mC (.int 2)) aN)))) (mC (.int 1)))) (sV 3 (b2 (fI0 E1) (mC (.int 1)) (bA o8 (aC (b8 .B 0) (aC (mC (.int 41)) (aC (mC (.int 30)) aN)))))) sNx)
  (e8 (sF 4 (x4 aN))
  (e8 (mIf (g9 (b2 (o6 false) (bA o8 (aC (b8 .B 0) (aC (mC (.int 42)) (aC (mC (.int 2)) aN)))) (mC (.int 0)))) (sV 4 (bA ac (aC (x4 (aC (b8 .U 1) (aC (b8 .U 2) aN))) (aC (b8 .B 3) aN)))) sNx)
  (e8 (sF 5 (bA dC (aC (x4 (aC (b8 .U 1) (aC (b8 .U 2) aN))) (aC (mC (.int 30)) aN))))
  (e8 (mIf (g9 (b2 (o6 false) (bA o8 (aC (b8 .B 0) (aC (mC (.int 42)) (aC (mC (.int 2)) aN)))) (mC (.int 1)))) (sV 4 (bA ac (aC (x4 (aC (b8 .U 1) (aC (b8 .U 2) aN))) (aC (b8 .B 3) aN)))) sNx)
  (e8 (mIf (g9 (b2 (N1 false) (b8 .B 5) (mC .non))) (i0 (mC (.bl true))) sNx)
  (e8 (mIf (gL (M4 (g9 (bA fIsi (aC (b8 .B 5) (aC (mC (.ty "list")) aN))))) (gL (g9 (b2 (o6 false) (bA fLen (aC (b8 .B 5) aN)) (mC (.int 0)))) (gL (M4 (g9 (bA fIsi (aC (b8 .B 4) (aC (mC (.ty "tuple")) aN))))) (g9 (b2 (o6 false) (bA fLen (aC (b8 .B 4) aN)) (mC (.int 0))))))) (i0 (mC (.bl false))) sNx)
  (i0 (bA A5 (aC (b8 .B 5) (aC (b8 .B 2) (aC (b8 .B 4) aN))))))))))))))
abbrev jI:List W->R W:=g8 1 6 yw
end K78
set_option maxHeartbeats 4000000
open PySem L2 TP
namespace K78
--RPX: ow, tX, tj, tf, cw, oF, oy, uU, nA, yK, mN, tE, oE, tF, tY, lM, fw, nF, nG, nE, rpio
def rp14:=Z1 (@Fg) (Z1 (@Ff) (Z1 (@Fe) (Z1 (@Fd) (Z1 (@EN) (Z1 (@Fa) (Z1 (@EW) (Z1 (@EY) (Z1 (@ES) (Z1 (@ET) (Z1 (@Fb) (Z1 (@Fc) (Z1 (@EQ) (@ER)))))))))))))
def rp15:=Z1 (@Bool.not_true) (Z1 (@Bool.not_false) (Z1 (@Bool.true_or) (Z1 (@qU7) (Z1 (@Bool.false_or) (Z1 (@Bool.or_false) (Z1 (@Bool.true_and) (Z1 (@Bool.and_true) (Z1 (@qM0) (Z1 (@Bool.and_false) (Z1 (@Int.sub_zero) (Z1 (@Int.zero_add) (Z1 (@qD9) (Z1 (@qD4) (Z1 (@Bool.true_eq_false) (Z1 (@and_true) (Z1 (@true_and) (Z1 (@or_true) (Z1 (@true_or) (@and_self)))))))))))))))))))
def rp18:=Z1 (@qC5.{0}) (Z1 (@qN2.{0}) (Z1 (@qA6.{0,0}) (Z1 (@qC6.{0}) (Z1 (@qF4.{0}) (@qF5)))))
def rp16:=Z1 rp14 (Z1 rp15 (Z1 rp13 (Z1 rp12 (Z1 rp11 (Z1 rp10 (Z1 rp9 (Z1 rp8 (Z1 rp0 (Z1 rp1 (Z1 rp2 (Z1 rp3 (Z1 rp4 (Z1 rp5 (Z1 rp6 rp7))))))))))))))
def rp17:=Z1 (@qC1.{0,0}) (Z1 (@qJ4.{0,0}) (Z1 (@qE4.{0}) (Z1 (@List.replicate_zero.{0}) (Z1 (@qO5.{0}) (Z1 (@List.nil_append.{0}) (Z1 (@qG3.{0}) (Z1 (@R.ok_bind) (Z1 (@R.stuck_bind) (@R.ex_bind)))))))))
def rp19:=Z1 (@qR3.{0}) (Z1 (@Option.isNone_none.{0}) (Z1 (@Option.isNone_some.{0}) (Z1 (@Option.bind_some.{0,0}) (Z1 (@qP0.{1}) (Z1 (@qP1.{1}) (Z1 (@decide_true) (@decide_false)))))))
def Ie (m:Rho->R Fl)(ρ:Rho):nb m ρ=nbR (m ρ):=rfl
def Ew (ρ:Rho):nbR (.ok (.nx ρ))=.ok (.nx ρ):=rfl
def zt (ρ:Rho):pA ρ=.ok (.bk ρ):=rfl
def Dp (q:Addr)(ws:List W):rdS .B (some (.iop q ws))=.ok (.lst ws):=rfl
def Do (q:Addr)(ws:List W):rdS .U (some (.iop q ws))=.ok (.lst ws):=rfl
def ioS (o:Option Sl) (f:W->List W->List W->R (List W)) (O:R W) (rr:R (List W)) (i:Nat) (ρ:Rho):R Fl:=match o with
 |some (.own cs)=>O>>=λw1=>rr>>=λwr=>f w1 cs wr>>=λI=>.ok (.nx (ρ.set i (.own I)))
 |_=>.stuck
def EC (i:Nat)(f:W->List W->List W->R (List W))(O:Rho->R W)(I:Rho->R (List W))(ρ:Rho):mIO i f O I ρ=ioS (ρ[i]?) f (O ρ) (I ρ) i ρ:=rfl
def Fp (cs:List W)(f:W->List W->List W->R (List W))(w1:W)(wr:List W)(i:Nat)(ρ:Rho):ioS (some (.own cs)) f (.ok w1) (.ok wr) i ρ=(f w1 cs wr>>=λI=>.ok (.nx (ρ.set i (.own I)))):=rfl
def HN (h:Po r P λ_=>False):Po (nbR r) P Q:=by
 cases r with
 | ok f=>
  cases f with
  |nx ρ=>exact h
  |rt w=>exact h.elim
  |bk ρ=>exact h
  |ct ρ=>exact h
 |ex e=>exact h
 |stuck=>exact h
def wO (I:ρ[i]?=some (.iop p ws)) (hm:m ρ=.ok w) (O:ws.length<1000):dr p i m ρ=.ok (.nx (appI i p (ws ++ [w]) ρ)):=by
 unfold dr;rw[I];dsimp only;rw[hm,R.ok_bind,qA2 ⟨rfl,O⟩]
def rpio:=Z1 (@Ie) (Z1 (@Ew) (Z1 (@zt) (Z1 (@Dp) (Z1 (@Do) (Z1 (@EC) (@Fp))))))
def bP (r:R Fl):R Fl:=match r with
 | .ok (.ct ρ)=>.ok (.nx ρ)
 |r=>r
def nF (ρ:Rho):bP (.ok (.nx ρ))=.ok (.nx ρ):=rfl
def nG (ρ:Rho):bP (.ok (.ct ρ))=.ok (.nx ρ):=rfl
def nE (w:W):bP (.ok (.rt w))=.ok (.rt w):=rfl
def fO (I:Nat->Rho->Prop):∀(ws:List W) (k:Nat) (ρ:Rho),I k ρ ->
  (∀(i:Nat) (w:W) (ρ:Rho),ws[i]?=some w->I (k+i) ρ->∃a0,mg w ρ=some a0/\Po (bP (mb a0)) (I (k+i+1)) Jr)->Po (D6 mg mb ws ρ) (I (k+ws.length)) Jr
 | [],k,ρ,h,_=>h
 | w::ws,k,ρ,h,st=>by
  obtain ⟨a0,e1,p⟩:=st 0 w ρ rfl h;unfold D6;rw[e1]
  show Po (mb a0>>=_) _ _;have go:∀O,I (k+0+1) O->Po (D6 mg mb ws O) (I (k+(w::ws).length)) Jr:=λO p=>by
   have:=fO (mg:=mg) (mb:=mb) I ws (k+1) O p λi w ρ hw hp=>by
    have:=st (i+1) w ρ (by simpa using hw) (by rw[show k+(i+1)=k+1+i by omega];exact hp)
    rw[show k+(i+1)+1=k+1+i+1 by omega]at this;exact this
   rw[qC5,show k+(ws.length+1)=k+1+ws.length by omega];exact this
  revert p
  cases mb a0 with
  |ex _=>exact λp=>p.elim
  |stuck=>exact λp=>p.elim
  | ok f=>cases f with
   |bk _=>exact λp=>p.elim
   |ct O=>exact λp=>go O p
   |rt w=>exact λp=>p
   |nx O=>exact λp=>go O p
def wn (I:Nat->Rho->Prop) (h0:I 0 ρ) (st:∀(i:Nat) (w:W) (ρ:Rho),ws[i]?=some w->I i ρ->∃O,mg w ρ=some O/\Po (bP (mb O)) (I (i+1)) Jr) (hn:∀ρ,I ws.length ρ->Po (n ρ) Jn Jr):Po (andThen (D6 mg mb ws ρ) n) Jn Jr:=by
 have:=fO (mg:=mg) (mb:=mb) (Jr:=Jr) I ws 0 ρ h0 λi w ρ hw hp=>by rw[qU5]at hp ⊢;exact st i w ρ hw hp
 rw[qU5]at this;exact O9 (this.mono hn λ_ h=>h)
def nW (I:b=true->Po (bP (andThen (m ρ) k)) Jn Jr) (O:b=false->Po (bP (andThen (n ρ) k)) Jn Jr):Po (bP (andThen (ifS (.ok b) m n ρ) k)) Jn Jr:=by
 cases b with
 |true=>exact I rfl
 |false=>exact O rfl
def yK (ns:List Int)(l u:Option Int):Rst (.ok (.tup (ns.map W.int))) (.ok l) (.ok u)=.ok (.tup (J8 (ns.map W.int) l u)):=Ho (A2 ns) l u
def Fs (o:Option Sl) (r:R W) (i:Nat) (ρ:Rho):R Fl:=match o with
 |some (.own ws)=>r>>=λw=>if ws.length<1000 then .ok (.nx (ρ.set i (.own (w::ws)))) else .stuck
 |_=>.stuck
def ow (i:Nat)(m:Rho->R W)(ρ:Rho):mIns i m ρ=Fs (ρ[i]?) (m ρ) i ρ:=rfl
def tX {ws:List W}{w:W}{i:Nat}{ρ:Rho}(h:ws.length<1000):Fs (some (.own ws)) (.ok w) i ρ=.ok (.nx (ρ.set i (.own (w::ws)))):=qA2 h
def rpZ:=Z1 rp19 (Z1 rp16 (Z1 rp17 (Z1 rp18 (Z1 @ow (Z1 @tX (Z1 @tj (Z1 @tf (Z1 @cw (Z1 @oF (Z1 @oy (Z1 @uU (Z1 @nA (Z1 @yK (Z1 @mN (Z1 @tE (Z1 @oE (Z1 @tF (Z1 @tY (Z1 @lM (Z1 @fw (Z1 @nF (Z1 @nG (Z1 @nE (Z1 rpio (@qR1)))))))))))))))))))))))))
def rpB:=Z1 (@CN) (Z1 (@CM) (Z1 (@CL) (Z1 (@CK) (@CJ))))
local macro_rules | `(tactic| exists $[$es],*)=>`(tactic| simp (disch:=first | with_reducible assumption | omega | (simp only [rp18]; omega)) only [List.getElem?_cons_zero,qS7,List.set_cons_succ,List.set_cons_zero,tyW,isN,simprocAttr,rpZ,$[$es:term],*])
abbrev Mv:=List Int×List Int
abbrev mW (m:Mv):W:=.tup [tI m.1,tI m.2]
abbrev lS (ss:List (List Int)):W:=.lst (ss.map tI)
abbrev tM_ (ms:List Mv):W:=.tup (ms.map mW)
def Ev (m:Mv):noL (mW m)=true:=by simp [noL,j7,A2]
def Eu (ms:List Mv):j7 (ms.map mW)=true:=X1 mW Ev ms
def memD {ns:List Int}{P:Int->Prop}(h:∀x∈ns,P x)(hi:i<ns.length):P (ns.getD i 0):=mem_getD h hi
def nn (xs:List Int):Prop:=∀x∈xs,0<=x
def okN (n:Nat)(m:Mv):Prop:=m.1.length=n/\m.2.length=n/\nn m.1/\nn m.2
def pT (h:nn xs) (k:Nat):0<=xs.getD k 0:=by
 by_cases hk:k<xs.length
 ·exact memD h hk
 ·rw[qA0];simp [hk]
def atM {ms:List Mv}{r:Int}(h0:0<=r) (I:r<ms.length):L2.atI (ms.map mW) r=some (mW (ms.getD r.toNat ([],[]))):=by
 unfold L2.atI;rw[aK h0 (by rw[qA6];exact I)]
 show (ms.map mW)[r.toNat]?=_;have hi:r.toNat<ms.length:=ox;rw[qA7,qA0];simp [hi]
def getM {ms:List Mv}(hm:∀m∈ms,okN n m) (I:i<ms.length):okN n (ms.getD i ([],[])):=by
 refine hm _ ?_;rw[qA0];simp [I]
def m5 (a b:List Int):Bool:=(List.range a.length).all λk=>decide (b.getD k 0<=a.getD k 0)
def IA (hi:i<a.length) (h:a.getD i 0<b.getD i 0):m5 a b=false:=by
 unfold m5;rw[qW0];exact ⟨i,by simpa using hi,λh'=>by have:=qO9 h';omega⟩
def dH (h:∀k,k<a.length->b.getD k 0<=a.getD k 0):m5 a b=true:=by
 unfold m5;rw[qE3];exact λk hk=>qO8 (h k (by simpa using hk))
def jq (O:b.length=a.length):X7 [tI a,tI b]=.ok (.bl (m5 a b)):=by
 have fin:Ok (X7 [tI a,tI b]) λv=>v=.bl (m5 a b):=by
  have hz:=O0 (tI a) (tI b) _ _ rfl rfl;rw[V8 O]at hz;exists rpB,lF,hz;refine r6 (A8 (λi ρ=>∃u v,ρ = [.par (tI a),.par (tI b),u,v]/\∀k,k<i->b.getD k 0<=a.getD k 0) ⟨_,_,rfl,λk hk=>absurd hk (qE5 _)⟩ ?_ ?_)
  ·rintro i u ρ hu ⟨_,_,rfl,I⟩;obtain ⟨hi,rfl⟩:=kE hu;refine ⟨_,rfl,?_⟩;exists rp18;refine V3 (λh=>?_) (λh=>?_)
   ·exists rp18;rw[IA hi (by simpa using h)]
   ·exists rp18;refine ⟨_,_,rfl,λk hk=>?_⟩;by_cases e:k=i
    ·subst e;simpa using h
    ·exact I k ox
  ·rintro ρ ⟨_,_,rfl,I⟩;rw[qA6,qF5]at I;exists rp18;rw[dH I]
 obtain ⟨v,e,rfl⟩:=fin;exact e
def oV (h:m.1.length=s.length):gm [tI s,mW m]=.ok (.bl (m5 s m.1)):=by
 have I:L2.atI [tI m.1,tI m.2] 0=some (tI m.1):=rfl;have k:=jq (a:=s) (b:=m.1) h;exists rpB,tD,I,k
def cU (h6:n<=6) (h:okN n m):X9 [mW m]=.ok (tI ((List.range n).map λk=>m.2.getD k 0-m.1.getD k 0)):=by
 have a0:L2.atI [tI m.1,tI m.2] 0=some (tI m.1):=rfl;have O:L2.atI [tI m.1,tI m.2] 1=some (tI m.2):=rfl;have hz:=O0 (tI m.1) (tI m.2) _ _ rfl rfl;rw[V8 (by rw[h.1,h.2.1]),h.1]at hz;exists rpB,lH,a0,O,hz;have e:∀N mg me ρ (h:∀k,k<n->∃I,mg (.tup [.int (m.1.getD k 0),.int (m.2.getD k 0)]) (ρ++List.replicate (N-ρ.length) Sl.un)=some I/\me I=.ok (.int (m.2.getD k 0-m.1.getD k 0))),k7 N mg yes me ((List.range n).map λk=>W.tup [.int (m.1.getD k 0),.int (m.2.getD k 0)]) ρ=.ok (lI ((List.range n).map λk=>m.2.getD k 0-m.1.getD k 0)):=λN mg me ρ h=>by
  rw[i5 (λk=>.int (m.2.getD k 0-m.1.getD k 0)) _ _ ρ (by simpa using (by omega:n<=1000)) (λk hk=>h k (by simpa using hk)),Q6]
 rw[e]
 ·exists rp18
 ·intro k hk;refine ⟨_,rfl,?_⟩;exists rp18
def Hk (s:List Int):(List.range s.length).map (λk=>s.getD k 0)=s:=by
 apply qG0
 ·simp
 ·intro i O I;simp [I]
def uT (h6:n<=6) (h:okN n m) (O:s.length=n) (hc:m5 s m.1=true):iE [tI s,mW m]=.ok (tI ((List.range n).map λk=>s.getD k 0+(m.2.getD k 0-m.1.getD k 0))):=by
 have k1:=oV (s:=s) (m:=m) (by rw[O,h.1]);rw[hc]at k1;have k2:=cU h6 h;have hz:=O0 (tI s) (tI ((List.range n).map λk=>m.2.getD k 0-m.1.getD k 0)) _ _ rfl rfl;rw[V8 (by simp [O]),O]at hz;exists rpB,ou,k1,k2,hz;have e:∀N mg me ρ (h:∀k,k<n->∃I,mg (.tup [.int (s.getD k 0),.int (((List.range n).map λk=>m.2.getD k 0-m.1.getD k 0).getD k 0)]) (ρ++List.replicate (N-ρ.length) Sl.un)=some I/\me I=.ok (.int (s.getD k 0+(m.2.getD k 0-m.1.getD k 0)))),k7 N mg yes me ((List.range n).map λk=>W.tup [.int (s.getD k 0),.int (((List.range n).map λk=>m.2.getD k 0-m.1.getD k 0).getD k 0)]) ρ=.ok (lI ((List.range n).map λk=>s.getD k 0+(m.2.getD k 0-m.1.getD k 0))):=λN mg me ρ h=>by
  rw[i5 (λk=>.int (s.getD k 0+(m.2.getD k 0-m.1.getD k 0))) _ _ ρ (by simpa using (by omega:n<=1000)) (λk hk=>h k (by simpa using hk)),Q6]
 rw[e]
 ·exists rp18
 ·intro k hk;refine ⟨_,rfl,?_⟩;exists rp18;rw[n9 hk]
def B4 (s:List Int)(m:Mv):List Int:=(List.range s.length).map λk=>s.getD k 0+(m.2.getD k 0-m.1.getD k 0)
def fA (s:List Int)(m:Mv):(B4 s m).length=s.length:=by simp [B4]
abbrev Ent:=List Int×Nat×Nat
abbrev eW (e:Ent):W:=.tup [tI e.1,.int (e.2.1:Int),.int (e.2.2:Int)]
abbrev r0 (b:List Int):W:=.tup [tI b,.non,.non]
abbrev o5 (b:List Int)(es:List Ent):List W:=r0 b::es.map eW
def stS (b:List Int)(es:List Ent):List (List Int):=b::es.map (·.1)
def cd (e:Ent):Nat:=e.2.1*8+e.2.2
def mvN (ms:List Mv)(k:Nat):Mv:=ms.getD k ([],[])
def sA (b:List Int)(es:List Ent)(a:Nat):List Int:=(stS b es).getD a []
def P9 (b:List Int)(es:List Ent):(stS b es).length=es.length+1:=by simp [stS]
def nN (h:a<es.length+1):sA b (es ++ [e]) a=sA b es a:=by
 unfold sA stS;rw[qC3,<- qO5,qA0,qA0,qD6 (by simpa using h)]
def rV (h:a<es.length+1):sA b es a∈stS b es:=by
 unfold sA;rw[qA0,qA3 (by rw[P9];exact h)];exact qF0 _
def abN (b:List Int)(ms:List Mv)(es:List Ent)(a k:Nat):Bool:=m5 (sA b es a) (mvN ms k).1
def bhN (b:List Int)(ms:List Mv)(es:List Ent)(a k:Nat):List Int:=B4 (sA b es a) (mvN ms k)
structure FlK (b:List Int) (ms:List Mv) (es:List Ent) (A:Nat) (T:List Nat):Prop where
 len:∀e∈es,e.1.length=b.length
 k8:∀e∈es,e.2.2<ms.length
 lt:∀e∈es,e.2.1<A\/(e.2.1=A/\e.2.2∈T)
 inc:es.Pairwise λx y=>cd x<cd y
 par:∀(i:Nat) (e:Ent),es[i]?=some e->e.2.1<=i
 beh:∀e∈es,abN b ms es e.2.1 e.2.2=true/\e.1=bhN b ms es e.2.1 e.2.2
 nod:(stS b es).Nodup
 cl:∀t∈T,∀k,k<t->abN b ms es A k=true->k∈T
 set:∀a k,a<A\/(a=A/\k∈T)->k<ms.length->abN b ms es a k=true->(∃e∈es,e.2=(a,k))\/bhN b ms es a k=b\/∃e∈es,cd e<a*8+k/\e.1=bhN b ms es a k
def FlK.start (b:List Int) (ms:List Mv):FlK b ms [] 0 [] where
 len:=Qy
 k8:=Qy
 lt:=Qy
 inc:=List.Pairwise.nil
 par:=Qy
 beh:=Qy
 nod:=by simp [stS]
 cl:=Qy
 set:=λa k h=>by simp at h
def FlK.below (h:FlK b ms es A T) (h8:ms.length<=8) (O:∀t∈T,t<k):∀e∈es,cd e<A*8+k:=λe I=>by
 have:=h.k8 e I
 unfold cd;rcases h.lt e I with q|⟨q,q'⟩
 ·omega
 ·have:=O _ q';omega
def FlK.known (h:FlK b ms es A T) (h8:ms.length<=8) (hT:∀t∈T,t<k) (a4:∀j,j<k->abN b ms es A j=true->j∈T) (a0:bhN b ms es A k∈stS b es):FlK b ms es A (T ++ [k]) where
 len:=h.len
 k8:=h.k8
 lt:=λe he=>by
  rcases h.lt e he with q|⟨q,q'⟩
  ·exact .inl q
  ·exact .inr ⟨q,qE6 _ q'⟩
 inc:=h.inc
 par:=h.par
 beh:=h.beh
 nod:=h.nod
 cl:=λt ht j O I=>by
  rcases qE0.mp ht with q|q
  ·exact qE6 _ (h.cl t q j O I)
  ·rw [qC4.mp q]at O
   exact qE6 _ (a4 j O I)
 set:=λa j O a3 I=>by
  rcases O with q|⟨q,q'⟩
  ·exact h.set a j (.inl q) a3 I
  ·rcases qE0.mp q' with q2|q2
   ·exact h.set a j (.inr ⟨q,q2⟩) a3 I
   ·have ek:=qC4.mp q2;subst q ek;unfold stS at a0;rcases qB3.mp a0 with e|e
    ·exact .inr (.inl e)
    ·obtain ⟨x,hx,ex⟩:=qB1.mp e;exact .inr (.inr ⟨x,hx,h.below h8 hT x hx,ex⟩)
def FlK.snoc (h:FlK b ms es A T) (h8:ms.length<=8) (hA:A<es.length+1) (hk:k<ms.length) (hT:∀t∈T,t<k) (a7:∀j,j<k->abN b ms es A j=true->j∈T) (a9:abN b ms es A k=true) (a6:(bhN b ms es A k).length=b.length) (a4:bhN b ms es A k∉stS b es):FlK b ms (es ++ [(bhN b ms es A k,A,k)]) A (T ++ [k]):=by
 have hS:∀a j,a<es.length+1->abN b ms (es ++ [(bhN b ms es A k,A,k)]) a j=abN b ms es a j/\bhN b ms (es ++ [(bhN b ms es A k,A,k)]) a j=bhN b ms es a j:=λa j ha=>by
  unfold abN bhN;rw[nN ha];exact ⟨rfl,rfl⟩
 have a0:∀e∈es,e.2.1<es.length+1:=λe O=>by
  obtain ⟨i,hi,ei⟩:=qE7.mp O
  have:=h.par i e (by rw[qA3 hi,ei])
  omega
 refine ⟨λe O=>?_,λe O=>?_,λe O=>?_,?_,λi e O=>?_,λe O=>?_,?_,λt ht j hj I=>?_,λa j hj a8 I=>?_⟩
 ·rcases qE0.mp O with q|q
  ·exact h.len e q
  ·rw[qC4.mp q];exact a6
 ·rcases qE0.mp O with q|q
  ·exact h.k8 e q
  ·rw[qC4.mp q];exact hk
 ·rcases qE0.mp O with q|q
  ·rcases h.lt e q with q1|⟨q1,q2⟩
   ·exact .inl q1
   ·exact .inr ⟨q1,qE6 _ q2⟩
  ·rw[qC4.mp q];exact .inr ⟨rfl,Qy⟩
 ·refine qU8.mpr ⟨h.inc,qS8 _ _,λx hx y hy=>?_⟩;rw[qC4.mp hy];exact h.below h8 hT x hx
 ·by_cases hi:i<es.length
  ·rw [qD6 hi]at O
   exact h.par i e O
  ·have a5:=(qB0.mp O).1;rw[qC6,qF7]at a5
   have:i=es.length:=ox
   subst this;rw[qG6 (qB5 _),Nat.sub_self]at O;cases O
   show A<=es.length;omega
 ·rcases qE0.mp O with q|q
  ·rw[(hS _ _ (a0 e q)).1,(hS _ _ (a0 e q)).2];exact h.beh e q
  ·rw [qC4.mp q]
   rw[(hS A k hA).1,(hS A k hA).2];exact ⟨a9,rfl⟩
 ·unfold stS;rw[qC3,<- qO5];refine List.nodup_append.mpr ⟨h.nod,Qy,λx hx y hy=>?_⟩;rw[List.map_singleton,qC4]at hy;subst hy;intro e;have e:x=bhN b ms es A k:=e;rw[e]at hx;exact a4 hx
 ·rw [(hS A j hA).1]at I
  rcases qE0.mp ht with q|q
  ·exact qE6 _ (h.cl t q j hj I)
  ·rw [qC4.mp q]at hj
   exact qE6 _ (a7 j hj I)
 ·have ha:a<es.length+1:=by
   rcases hj with q|⟨q,_⟩
   ·omega
   ·omega
  rw[(hS a j ha).1]at I;rw[(hS a j ha).2];have a3:(a<A\/(a=A/\j∈T))->(∃e∈es ++ [(bhN b ms es A k,A,k)],e.2=(a,j))\/bhN b ms es a j=b\/∃e∈es ++ [(bhN b ms es A k,A,k)],cd e<a*8+j/\e.1=bhN b ms es a j:=λhj=>by
   rcases h.set a j hj a8 I with ⟨e,O,q⟩|q|⟨e,O,q⟩
   ·exact .inl ⟨e,qE6 _ O,q⟩
   ·exact .inr (.inl q)
   ·exact .inr (.inr ⟨e,qE6 _ O,q⟩)
  rcases hj with q|⟨q,q'⟩
  ·exact a3 (.inl q)
  ·rcases qE0.mp q' with q2|q2
   ·exact a3 (.inr ⟨q,q2⟩)
   ·have ek:=qC4.mp q2;subst q ek;exact .inl ⟨_,qC7 _ (qS9 _),rfl⟩
def FlK.next (h:FlK b ms es A T) (hT:∀k,k<ms.length->abN b ms es A k=true->k∈T):FlK b ms es (A+1) [] where
 len:=h.len
 k8:=h.k8
 lt:=λe he=>by
  rcases h.lt e he with q|⟨q,q'⟩
  ·exact .inl ox
  ·exact .inl ox
 inc:=h.inc
 par:=h.par
 beh:=h.beh
 nod:=h.nod
 cl:=Qy
 set:=λa k O hk I=>by
  rcases O with q|⟨_,q⟩
  ·by_cases e:a=A
   ·subst e;exact h.set a k (.inr ⟨rfl,hT k hk I⟩) hk I
   ·exact h.set a k (.inl ox) hk I
  ·simp at q
def fsN (ms:List Mv)(s:List Int):List Nat:=(List.range ms.length).filter λk=>m5 s (mvN ms k).1
def ue (ms:List Mv)(s:List Int):(fsN ms s).Pairwise (·<·):=List.Pairwise.filter _ List.pairwise_lt_range
def fs_mem:k∈fsN ms s↔k<ms.length/\m5 s (mvN ms k).1=true:=by
 unfold fsN;rw[qI2,qH5]
def zb {l:List Nat}(h:l.Pairwise (·<·)) (hi:i<l.length):∀t∈l.take i,t<l[i]:=λt O=>by
 obtain ⟨j,I,e⟩:=qE7.mp O;rw[qH9]at I;rw[qO3]at e;subst e;exact qG8.mp h j i ox hi ox
def AF {l:List Nat}(h:l.Pairwise (·<·)) (hi:i<l.length) (O:t∈l) (a0:t<l[i]):t∈l.take i:=by
 obtain ⟨j,I,e⟩:=qE7.mp O;subst e;have a3:j<i:=by
  rcases qO2 j i with q|q|q
  ·exact q
  ·subst q;omega
  ·have:=qG8.mp h i j hi I q;omega
 exact qE7.mpr ⟨j,by rw[qH9];omega,by rw[qO3]⟩
def Br (ms:List Mv):((ms.map mW).mapIdx λi x=>W.tup [.int (i:Int),x])=(List.range ms.length).map λ(k:Nat)=>W.tup [.int (k:Int),mW (mvN ms k)]:=by
 apply qG0
 ·simp
 ·intro i I O;have hi:i<ms.length:=by simpa using I
  simp [mvN,qA0,qA3 hi]
def BH (h6:s.length<=6) (hm:∀m∈ms,okN s.length m) (hl:ms.length<=8):P2 [.tup [tI b,tM_ ms],tI s]=.ok (.lst ((fsN ms s).map λ(k:Nat)=>W.tup [tI (B4 s (mvN ms k)),.int (k:Int)])):=by
 have a1:L2.atI [tI b,tM_ ms] 1=some (tM_ ms):=rfl;have he:P3 [tM_ ms]=.ok ((List.range ms.length).map λ(k:Nat)=>W.tup [.int (k:Int),mW (mvN ms k)]):=by rw[<- Br];rfl
 exists rpB,Z6,a1,he;have e:∀N mg mc me ρ,(∀k,k<ms.length->∃O,mg (.tup [.int (k:Int),mW (mvN ms k)]) (ρ++List.replicate (N-ρ.length) Sl.un)=some O/\mc O=.ok (m5 s (mvN ms k).1)/\(m5 s (mvN ms k).1=true->me O=.ok (.tup [tI (B4 s (mvN ms k)),.int (k:Int)]))) ->
   k7 N mg mc me ((List.range ms.length).map λ(k:Nat)=>W.tup [.int (k:Int),mW (mvN ms k)]) ρ=.ok (.lst ((fsN ms s).map λ(k:Nat)=>W.tup [tI (B4 s (mvN ms k)),.int (k:Int)])):=λN mg mc me ρ h=>
  cG (N':=N) (mg:=mg) (mc:=mc) (me:=me) (λk=>W.tup [tI (B4 s (mvN ms k)),.int (k:Int)]) (λk=>W.tup [.int (k:Int),mW (mvN ms k)]) (λk=>m5 s (mvN ms k).1) (List.range ms.length) ρ (by rw[qF5];omega) λk hk=>h k (qH5.mp hk)
 rw[e]
 ·exists rp18
 ·intro k hk;have I:okN s.length (mvN ms k):=getM hm hk;generalize mvN ms k=m at I
  have k1:=oV (s:=s) (m:=m) (by rw[I.1]);refine ⟨_,rfl,?_,λhc=>?_⟩
  ·exists k1
  ·have k2:=uT h6 I rfl hc;have k3:(List.range s.length).map (λk=>s.getD k 0+(m.2.getD k 0-m.1.getD k 0))=B4 s m:=rfl;rw[k3]at k2;exists k2,C2 (S9 (B4 s m))
def Ji (b:List Int) (ms:List Mv) (most:Nat) (es:List Ent) (wh:Bool):Prop:=
 es.length+1<=most/\((wh=true/\FlK b ms es (es.length+1) []) \/
  (wh=false/\es.length+1=most/\∃A T k,FlK b ms es A T/\A<es.length+1/\k<ms.length/\(∀t∈T,t<k)/\abN b ms es A k=true/\bhN b ms es A k∉stS b es))
def xS (h:k∉ks):mR ks k=ks ++ [k]:=qA4 h
def gX {es:List Ent}(h:a<es.length+1):∃x y:W,L2.atI (o5 b es) (a:Int)=some (.tup [tI (sA b es a),x,y]):=by
 cases a with
 |zero=>exact ⟨.non,.non,A6 (k:=0) rfl⟩
 | succ a=>
  have ha:a<es.length:=ox;have O:(o5 b es)[a+1]?=some (eW es[a]):=by simp [ha]
  have I:sA b es (a+1)=es[a].1:=by
   unfold sA stS;simp [qA0,ha]
  rw[I];exact ⟨_,_,A6 (k:=a+1) O⟩
def xu {most:Nat}(h6:b.length<=6) (hm:∀m∈ms,okN b.length m) (hl:ms.length<=8) (h1:1<=most) (c5:most<=100):Ok (dA [.tup [tI b,tM_ ms],.int (most:Int)]) λw=>∃(es:List Ent) (wh:Bool),w=.tup [.lst (o5 b es),.bl wh]/\Ji b ms most es wh:=by
 have a0:L2.atI [tI b,tM_ ms] 0=some (tI b):=rfl;have nw:=oj;exists rpB,ot,a0,C2 (S9 b),wN,oj;refine r6 (O9 ?_);refine Q2 (λm ρ=>∃(es:List Ent) (at_:Nat) (a5 a6 a7:Sl),ρ = [.par (.tup [tI b,tM_ ms]),.par (.int (most:Int)),.own (o5 b es),.dic (stS b es),.val (.int (at_:Int)),a5,a6,a7]/\br a5=false/\br a6=false/\br a7=false/\FlK b ms es at_ []/\at_<=es.length+1/\es.length+1<=most/\m+at_=102) ?_ 102 _ ⟨[],0,.un,.un,.un,rfl,rfl,rfl,rfl,FlK.start b ms,ox,by simpa using h1,rfl⟩;rintro m ρ ⟨es,at_,a5,a6,a7,rfl,d5,d6,d7,hK,cc,b5,c4⟩;by_cases b4:at_<es.length+1
 ·refine ⟨true,?_,?_⟩
  ·exists rp18;rw[show decide ((at_:Int)<((es.length+1:Nat):Int))=true from qO8 ox]
  rw[qA2 rfl];obtain ⟨x,y,er⟩:=gX (b:=b) (es:=es) b4;have c0:(sA b es at_).length=b.length:=by
   have:=rV (b:=b) (es:=es) b4
   unfold stS at this;rcases qB3.mp this with e|e
   ·rw[e]
   ·obtain ⟨z,hz,ez⟩:=qB1.mp e;rw[<- ez];exact hK.len z hz
  have kb:=BH (b:=b) (s:=sA b es at_) ox (by rw[c0];exact hm) hl;have c2:L2.atI [tI (sA b es at_),x,y] 0=some (tI (sA b es at_)):=rfl;exists er,c2,kb;generalize hs:sA b es at_=s at *
  have cn:(fsN ms s).length<=8:=by
   have:=qK7 (λk=>m5 s (mvN ms k).1) (List.range ms.length)
   rw[qF5]at this;unfold fsN;omega
  refine wn (λi ρ=>∃(I:List Ent) (a6 a7:Sl),ρ = [.par (.tup [tI b,tM_ ms]),.par (.int (most:Int)),.own (o5 b I),.dic (stS b I),.val (.int (at_:Int)),.val (tI s),a6,a7]/\br a6=false/\br a7=false/\FlK b ms I at_ ((fsN ms s).take i)/\at_<I.length+1/\I.length+1<=most/\sA b I at_=s) ⟨es,a6,a7,rfl,d6,d7,hK,b4,b5,hs⟩ ?_ ?_
  ·rintro i u ρ hu ⟨I,a6,a7,rfl,d6,d7,a9,a3,a8,a4⟩;rw[qA7]at hu;cases hq:(fsN ms s)[i]? with
   |none=>rw[hq]at hu;cases hu
   | some k=>
    rw[hq]at hu;cases hu;obtain ⟨hi,b6⟩:=qB0.mp hq;have b3:=fs_mem.mp (qD3 hq);have htk:(fsN ms s).take (i+1)=(fsN ms s).take i ++ [k]:=by rw[List.take_succ,hq];rfl
    have hT:∀t∈(fsN ms s).take i,t<k:=λt ht=>by rw[<- b6];exact zb (ue ms s) hi t ht
    have c1:∀j,j<k->abN b ms I at_ j=true->j∈(fsN ms s).take i:=λj hj O=>by
     unfold abN at O;rw[a4]at O;exact AF (ue ms s) hi (fs_mem.mpr ⟨ox,O⟩) (by rw[b6];exact hj)
    have O:abN b ms I at_ k=true:=by unfold abN;rw[a4];exact b3.2
    have ab:bhN b ms I at_ k=B4 s (mvN ms k):=by unfold bhN;rw[a4]
    have c3:(B4 s (mvN ms k)).length=b.length:=by rw[fA];exact c0
    have b0:=fw (stS b I) (.bl true) (B4 s (mvN ms k)) 3 [.par (.tup [tI b,tM_ ms]),.par (.int (most:Int)),.own (o5 b I),.dic (stS b I),.val (.int (at_:Int)),.val (tI s),.par (tI (B4 s (mvN ms k))),.par (.int (k:Int))] rfl (by rw[P9];omega);dsimp only;generalize hB:B4 s (mvN ms k)=B at *
    refine ⟨_,rfl,?_⟩;exists rp18;refine nW (λh=>?_) (λh=>?_)
    ·have h:=qO9 h;exists rp18;exact ⟨I,_,_,rfl,rfl,rfl,by rw[htk];exact a9.known hl hT c1 (by rw[ab];exact h),a3,a8,a4⟩
    ·have h:=qQ2 h;rw[xS h]at b0;exists rp18;refine nW (λh2=>?_) (λh2=>?_)
     ·have h2:=qO9 h2;exists rp18;exact ⟨I,false,rfl,a8,.inr ⟨rfl,ox,at_,_,k,a9,a3,b3.1,hT,O,by rw[ab];exact h⟩⟩
     ·have h2:=qQ2 h2;exists b0,C2 (S9 B);refine ⟨I ++ [(B,at_,k)],.par (tI B),.par (.int (k:Int)),?_,rfl,rfl,?_,?_,?_,?_⟩
      ·simp [o5,stS]
      ·rw [htk,<- ab]
       exact a9.snoc hl a3 b3.1 hT c1 O (by rw[ab];exact c3) (by rw[ab];exact h)
      ·rw[qC6];omega
      ·rw[qC6,qF7];omega
      ·rw[nN a3];exact a4
  ·rintro ρ ⟨I,a6,a7,rfl,d6,d7,a9,a3,a8,a4⟩;rw[qA6,qK0]at a9;exists rp18;refine ⟨m-1,ox,I,at_+1,_,_,_,rfl,rfl,d6,d7,a9.next λk hk O=>fs_mem.mpr ⟨hk,?_⟩,ox,a8,ox⟩;unfold abN at O;rw[a4]at O;exact O
 ·refine ⟨false,?_,?_⟩
  ·exists rp18;rw[show decide ((at_:Int)<((es.length+1:Nat):Int))=false from qO7 ox]
  ·rw [qA4 qA9]
   have e:at_=es.length+1:=ox;subst e;exists rp18;exact ⟨es,true,rfl,b5,.inl ⟨rfl,hK⟩⟩
def pB (b:List Int):Option Ent->W
 |none=>r0 b
 |some e=>eW e
def stO (b:List Int):Option Ent->List Int
 |none=>b
 |some e=>e.1
def CO (b:List Int) (es:List Ent):o5 b es=(none::es.map some).map (pB b):=by
 rw[qC1,qB9];rfl
def st_O (b:List Int) (es:List Ent):(none::es.map some).map (stO b)=stS b es:=by
 rw[qC1,qB9];rfl
inductive Pt (es:List Ent):Nat->List Int->List Int->Prop where
 |zero:Pt es 0 [0] []
 |succ {i:Nat}{e:Ent}{l r:List Int}:es[i]?=some e->Pt es e.2.1 l r->Pt es (i+1) (((i+1:Nat):Int)::l) (r ++ [(e.2.2:Int)])
def Pt.ex (I:∀(i:Nat) (e:Ent),es[i]?=some e->e.2.1<=i):∀n,n<=es.length->∃l r,Pt es n l r:=by
 intro n
 induction n using Nat.strongRecOn with
 | _ n O=>
  intro hn;cases n with
  |zero=>exact ⟨_,_,.zero⟩
  | succ i=>
   have hi:es[i]?=some es[i]:=qA3 ox
   have:=I i _ hi
   obtain ⟨l,r,p⟩:=O es[i].2.1 ox ox;exact ⟨_,_,.succ hi p⟩
def Pt.len (I:∀(i:Nat) (e:Ent),es[i]?=some e->e.2.1<=i):∀{n:Nat}{l r:List Int},Pt es n l r->l.length=r.length+1/\r.length<=n
 |_,_,_,.zero=>⟨rfl,qB5 _⟩
 | _,_,_,.succ h p=>by
  have:=Pt.len I p
  have:=I _ _ h
  rw[qC5,qC6,qF7];omega
def ru (ms:List Mv)(b r:List Int):List Int:=r.foldl (λs k=>B4 s (mvN ms k.toNat)) b
def nQ (h:es[i]?=some e):L2.atI (o5 b es) ((i+1:Nat):Int)=some (eW e):=A6 (k:=i+1) (by show (es.map eW)[i]?=_;rw[qA7,h];rfl)
def nz (hp:∀(i:Nat) (e:Ent),es[i]?=some e->e.2.1<=i) (hl:es.length<=100) (hn:n<=es.length) (p:Pt es n l r):D3 [.lst (o5 b es),.int (n:Int)]=.ok (lI l):=by
 have fin:Ok (D3 [.lst (o5 b es),.int (n:Int)]) λv=>v=lI l:=by
  have a7:=(Pt.len hp p).1;have a6:=(Pt.len hp p).2;exists rpB,bh;refine r6 (O9 ?_);refine Q2 (λm ρ=>∃(xs l':List Int) (w:W) (a3:Sl),ρ = [.par (.lst (o5 b es)),.par (.int (n:Int)),.own (xs.map W.int),a3]/\(a3=.val w\/a3=.par w)/\xs++l'=l/\((w=.non/\l' = [])\/∃(n':Nat) (r':List Int),w=.int (n':Int)/\Pt es n' l' r'/\n'<m)) ?_ (n+1) _ ⟨[],l,.int (n:Int),.val (.int (n:Int)),rfl,.inl rfl,rfl,.inr ⟨n,r,rfl,p,qD2 n⟩⟩;rintro m ρ ⟨xs,l',w,a3,rfl,ha,O,hc⟩;rcases hc with ⟨rfl,rfl⟩|⟨n',r',rfl,p',hm⟩
  ·refine ⟨false,?_,?_⟩
   ·rcases ha with rfl|rfl
    ·exists rp18
    ·exists rp18
   ·rw [qA4 qA9]
    rw[qG3]at O;subst O;exists rp18
  ·refine ⟨true,?_,?_⟩
   ·rcases ha with rfl|rfl
    ·exists rp18
    ·exists rp18
   ·rw [qA2 rfl]
    have a5:xs.length<=l.length:=by rw[<- O,qC6];omega
    cases p' with
    | zero=>
     have I:L2.atI (o5 b es) (((0:Nat)):Int)=some (r0 b):=A6 (k:=0) rfl;have a0:L2.atI (o5 b es) 0=some (r0 b):=I;have b1:L2.atI [tI b,W.non,W.non] 1=some W.non:=rfl;rcases ha with rfl|rfl
     ·exists I,a0,b1;exact ⟨0,ox,xs ++ [0],[],.non,_,by rw[qC3],.inr rfl,by simpa using O,.inl ⟨rfl,rfl⟩⟩
     ·exists I,a0,b1;exact ⟨0,ox,xs ++ [0],[],.non,_,by rw[qC3],.inr rfl,by simpa using O,.inl ⟨rfl,rfl⟩⟩
    | @succ i e l2 r2 h p2=>
     have r1:=nQ (b:=b) h;have b1:L2.atI [tI e.1,.int (e.2.1:Int),.int (e.2.2:Int)] 1=some (.int (e.2.1:Int)):=rfl;have a8:=hp i e h;have a4:(xs ++ [((i+1:Nat):Int)])++l2=l:=by rw[<- O];simp
     rcases ha with rfl|rfl
     ·exists r1,b1;exact ⟨i+1,ox,xs ++ [((i+1:Nat):Int)],l2,.int (e.2.1:Int),_,by rw[qC3],.inr rfl,a4,.inr ⟨e.2.1,r2,rfl,p2,ox⟩⟩
     ·exists r1,b1;exact ⟨i+1,ox,xs ++ [((i+1:Nat):Int)],l2,.int (e.2.1:Int),_,by rw[qC3],.inr rfl,a4,.inr ⟨e.2.1,r2,rfl,p2,ox⟩⟩
 obtain ⟨v,e,rfl⟩:=fin;exact e
def O1 (a b:Option Int):Bool:=match b with
 |none=>true
 | some y=>match a with
  |none=>false
  |some x=>decide (x<=y)
def i6 (cs ds:List (Option Int)):Bool:=(List.range cs.length).all λk=>O1 (cs.getD k none) (ds.getD k none)
abbrev tC (cs:List (Option Int)):W:=.tup (cs.map oW)
abbrev lC (cs:List (Option Int)):W:=.lst (cs.map oW)
def Hy (hi:i<cs.length) (h:O1 (cs.getD i none) (ds.getD i none)=false):i6 cs ds=false:=by
 unfold i6;rw[qW0];exact ⟨i,by simpa using hi,by rw[h];exact qA9⟩
def fC (h:∀k,k<cs.length->O1 (cs.getD k none) (ds.getD k none)=true):i6 cs ds=true:=by
 unfold i6;rw[qE3];exact λk hk=>h k (by simpa using hk)
def eM (hl:ds.length=cs.length):W3 [tC cs,tC ds]=.ok (.bl (i6 cs ds)):=by
 have fin:Ok (W3 [tC cs,tC ds]) λv=>v=.bl (i6 cs ds):=by
  have hz:=O0 (tC cs) (tC ds) _ _ rfl rfl;rw[gF oW oW hl none none]at hz;exists rpB,on,hz;refine r6 (A8 (λi ρ=>∃a b,ρ = [.par (tC cs),.par (tC ds),a,b]/\∀k,k<i->O1 (cs.getD k none) (ds.getD k none)=true) ⟨_,_,rfl,λk hk=>absurd hk (qE5 _)⟩ ?_ ?_)
  ·rintro i u ρ hu ⟨a,b,rfl,I⟩;obtain ⟨hi,rfl⟩:=kE hu;refine ⟨_,rfl,?_⟩;have O:O1 (cs.getD i none) (ds.getD i none)=true->∀k,k<i+1->O1 (cs.getD k none) (ds.getD k none)=true:=λh k hk=>by
    by_cases e:k=i
    ·subst e;exact h
    ·exact I k ox
   have a0:=Hy (ds:=ds) hi
   revert O a0
   cases hd:ds.getD i none with
   | none=>
    intro O a0;exists rp18;exact ⟨_,_,rfl,O rfl⟩
   | some y=>
    cases hc:cs.getD i none with
    | none=>
     intro O a0;exists rp18;rw[a0 rfl]
    | some x=>
     intro O a0;exists rp18;refine V3 (λh=>?_) (λh=>?_)
     ·exists rp18;rw[a0 (by show decide (x<=y)=false;simp only [qR1]at h;exact qO7 ox)]
     ·exists rp18;exact ⟨_,_,rfl,O (by show decide (x<=y)=true;simp only [decide_eq_false_iff_not]at h;exact qO8 ox)⟩
  ·rintro ρ ⟨a,b,rfl,I⟩;rw[qA6,qF5]at I;exists rp18;rw[fC I]
 obtain ⟨v,e,rfl⟩:=fin;exact e
def cf (c e:Option Int):Option Int:=if c=e then c else none
def B9 (cs es:List (Option Int)):List (Option Int):=if i6 es cs=true then (List.range cs.length).map λk=>cf (cs.getD k none) (es.getD k none) else cs
def eX (cs es:List (Option Int)):(B9 cs es).length=cs.length:=by unfold B9;split <;> simp
def si (I:es.length=cs.length) (h6:cs.length<=6):bv [tC cs,tC es]=.ok (tC (B9 cs es)):=by
 have hu:=eM (cs:=es) (ds:=cs) I.symm;have fin:Ok (bv [tC cs,tC es]) λv=>v=tC (B9 cs es):=by
  have hz:=O0 (tC cs) (tC es) _ _ rfl rfl;rw[gF oW oW I none none]at hz;exists rpB,lD,hu;refine r6 (cg (λh=>?_) (λh=>?_))
  ·exists C2 (show noL (tC cs)=true from C6 cs);unfold B9;rw[qA4 (by simpa using h)]
  ·exists hz;refine DW (wC (Ic ?_));refine ⟨lC (B9 cs es),?_,?_⟩
   ·rw [i5 (λk=>oW (cf (cs.getD k none) (es.getD k none))) _ _ _ (by simpa using (by omega:cs.length<=1000))]
    ·unfold B9;rw[qA2 (by simpa using h)];exact congrArg (λl=>R.ok (W.lst l)) (by rw[qB9];rfl)
    ·intro k hk;refine ⟨_,rfl,?_⟩;have hk:k<cs.length:=by simpa using hk
     cases hc:cs.getD k none with
     | none=>
      cases O:es.getD k none with
      | none=>
       exists rp18;rfl
      | some y=>
       exists rp18;rfl
     | some x=>
      cases O:es.getD k none with
      | none=>
       exists rp18;rfl
      | some y=>
       exists rp18;unfold cf;by_cases e:x=y
       ·subst e;simp;rfl
       ·simp [e];rfl
   ·exact ⟨_,by rw[uf,uD],rfl⟩
 obtain ⟨v,e,rfl⟩:=fin;exact e
abbrev Cap:=List (Option Int)
abbrev GEnt:=Cap×Nat×Nat
abbrev gW (e:GEnt):W:=.tup [tC e.1,.int (e.2.1:Int),.int (e.2.2:Int)]
abbrev g0 (c:Cap):W:=.tup [tC c,.non,.non]
abbrev m9 (c:Cap)(es:List GEnt):List W:=g0 c::es.map gW
def stC (c:Cap)(es:List GEnt):List Cap:=c::es.map (·.1)
def sC (c:Cap)(es:List GEnt)(a:Nat):Cap:=(stC c es).getD a []
def cdG (e:GEnt):Nat:=e.2.1*8+e.2.2
def W0 (c:Cap)(es:List GEnt):(stC c es).length=es.length+1:=by simp [stC]
def gU (h:a<=es.length):sC c (es ++ [e]) a=sC c es a:=by
 unfold sC stC;rw[qC3,<- qO5,qA0,qA0,qD6 (by simp;omega)]
def rT (h:es[i]?=some e):sC c es (i+1)=e.1:=by
 unfold sC stC;rw[qA0,qS7,qA7,h];rfl
def kz (h:a<=es.length):sC c es a∈stC c es:=by
 unfold sC;rw[qA0,qA3 (by rw[W0];omega)];exact qF0 _
def ya (b:List Int):tI b=tC (b.map some):=congrArg W.tup (by rw[qB9];rfl)
def eE (es:List GEnt):Nat->Nat->List Nat
 |_,0=>[0]
 |0,n+1=>[n+1]
 |f+1,i+1=>(i+1)::eE es f (es.getD i ([],0,0)).2.1
def y9 (es:List GEnt)(n:Nat):List Nat:=eE es n n
def aw (es:List GEnt):Prop:=∀(i:Nat)(e:GEnt),es[i]?=some e->e.2.1<=i
def jM (es:List GEnt):y9 es 0 = [0]:=rfl
def getD_at {es:List GEnt}(h:es[i]?=some e):es.getD i ([],0,0)=e:=by rw[qA0,h];rfl
def qU (hp:aw es):∀n f,n<=f->n<=es.length->eE es f n=eE es n n:=by
 intro n
 induction n using Nat.strongRecOn with
 | _ n O=>
  intro f hf hn;cases n with
  |zero=>cases f <;> rfl
  | succ i=>
   obtain ⟨f,rfl⟩:∃g,f=g+1:=⟨f-1,ox⟩;have I:es[i]?=some es[i]:=qA3 ox;have hq:=hp i _ I
   show (i+1)::eE es f (es.getD i ([],0,0)).2.1=(i+1)::eE es i (es.getD i ([],0,0)).2.1;rw[getD_at I,O es[i].2.1 ox f ox ox,O es[i].2.1 ox i ox ox]
def N3 (I:aw es) (h:es[i]?=some e):y9 es (i+1)=(i+1)::y9 es e.2.1:=by
 have hi:=(qB0.mp h).1;have O:=I i e h
 show (i+1)::eE es i (es.getD i ([],0,0)).2.1=_;rw[getD_at h,qU I e.2.1 i O ox];rfl
def db (O:aw es):∀n,n<=es.length->(∀q∈y9 es n,q<=n)/\(y9 es n).length<=n+1:=by
 intro n
 induction n using Nat.strongRecOn with
 | _ n ih=>
  intro hn;cases n with
  |zero=>rw[jM];exact ⟨Qy,Qy⟩
  | succ i=>
   have he:es[i]?=some es[i]:=qA3 ox;have hq:=O i _ he;obtain ⟨h1,h2⟩:=ih es[i].2.1 ox ox;rw[N3 O he];refine ⟨λq I=>?_,by rw[qC5];omega⟩;rcases qB3.mp I with rfl|h
   ·exact qB5 _
   ·have:=h1 q h;omega
def qV (O:aw es) (hx:x.2.1<=es.length):∀n,n<=es.length->y9 (es ++ [x]) n=y9 es n:=by
 have a0:aw (es ++ [x]):=λi e I=>by
  by_cases hi:i<es.length
  ·rw[qD6 hi]at I;exact O i e I
  ·have a4:=(qB0.mp I).1;rw[qC6,qF7]at a4
   have:i=es.length:=ox
   subst this;rw[qG6 (qB5 _),Nat.sub_self]at I;cases I;exact hx
 intro n
 induction n using Nat.strongRecOn with
 | _ n ih=>
  intro hn;cases n with
  |zero=>rfl
  | succ i=>
   have I:es[i]?=some es[i]:=qA3 ox;have a3:(es ++ [x])[i]?=some es[i]:=by rw[qD6 ox];exact I
   have hq:=O i _ I;rw[N3 O I,N3 a0 a3,ih es[i].2.1 ox ox]
def U9 (c:Cap)(m:Mv):Bool:=i6 (m.1.map some) c
def E3 (c:Cap)(m:Mv):Cap:=(List.range c.length).map λk=>(c.getD k none).map λx=>x+(m.2.getD k 0-m.1.getD k 0)
def R4 (c:Cap)(m:Mv):(E3 c m).length=c.length:=by simp [E3]
def gA {c:Cap}(hm:okN c.length m):V5 [tC c,mW m]=.ok (.bl (U9 c m)):=by
 have I:L2.atI [tI m.1,tI m.2] 0=some (tI m.1):=rfl;have k:=eM (cs:=m.1.map some) (ds:=c) (by rw[qA6,hm.1]);rw[<- ya]at k;exists rpB,fZ,I,k;rfl
def nv (h6:c.length<=6) (hm:okN c.length m) (ha:U9 c m=true):ao [tC c,mW m]=.ok (tC (E3 c m)):=by
 have O:=gA hm;rw[ha]at O;have k2:=cU h6 hm;have hz:=O0 (tC c) (tI ((List.range c.length).map λk=>m.2.getD k 0-m.1.getD k 0)) _ _ rfl rfl;rw[gF oW W.int Qy none 0]at hz;exists rpB,dW,O,k2,hz;have e:∀N mg me ρ (h:∀k,k<c.length->∃I,mg (.tup [oW (c.getD k none),.int (((List.range c.length).map λk=>m.2.getD k 0-m.1.getD k 0).getD k 0)]) (ρ++List.replicate (N-ρ.length) Sl.un)=some I/\me I=.ok (oW ((c.getD k none).map λx=>x+(m.2.getD k 0-m.1.getD k 0)))),k7 N mg yes me ((List.range c.length).map λk=>W.tup [oW (c.getD k none),.int (((List.range c.length).map λk=>m.2.getD k 0-m.1.getD k 0).getD k 0)]) ρ=.ok (lC (E3 c m)):=λN mg me ρ h=>by
  rw[i5 (λk=>oW ((c.getD k none).map λx=>x+(m.2.getD k 0-m.1.getD k 0))) _ _ ρ (by simp;omega) (λk hk=>h k (by simpa using hk))];unfold E3;exact congrArg (λl=>R.ok (W.lst l)) (by rw[qB9];rfl)
 rw[e]
 ·exists rp18
 ·intro k hk;refine ⟨_,rfl,?_⟩;have hg:((List.range c.length).map λk=>m.2.getD k 0-m.1.getD k 0).getD k 0=m.2.getD k 0-m.1.getD k 0:=by rw[qA0,qA7,qF2 hk];rfl
  rw[hg];cases c.getD k none with
  | none=>
   exists rp18;rfl
  | some x=>
   exists rp18;rfl
def R3 (cs:List Cap)(x:Cap):Bool:=cs.any λd=>i6 x d
def dN {x:Cap}(hl:∀d∈cs,d.length=x.length):M0 [tC x,.lst (cs.map tC)]=.ok (.bl (R3 cs x)):=by
 have fin:Ok (M0 [tC x,.lst (cs.map tC)]) λv=>v=.bl (R3 cs x):=by
  exists rpB,dS;refine r6 (A8 (λi ρ=>∃a2,ρ = [.par (tC x),.par (.lst (cs.map tC)),a2]/\∀k (hk:k<cs.length),k<i->i6 x cs[k]=false) ⟨_,rfl,λk _ hk=>absurd hk (qE5 _)⟩ ?_ ?_)
  ·rintro i u ρ hu ⟨a2,rfl,I⟩;rw[qA7]at hu;obtain ⟨d,hd,rfl⟩:=qF9.mp hu;obtain ⟨hi,ed⟩:=qB0.mp hd;have O:=qD3 hd;have k:=eM (cs:=x) (ds:=d) (hl d O);refine ⟨_,rfl,?_⟩;exists k;refine V3 (λh=>?_) (λh=>?_)
   ·exists rp18
    have:R3 cs x=true:=qI3.mpr ⟨d,O,h⟩
    rw[this]
   ·exists rp18;refine ⟨_,rfl,λk hk a0=>?_⟩;by_cases e:k=i
    ·subst e;rw[ed];exact h
    ·exact I k hk ox
  ·rintro ρ ⟨a2,rfl,I⟩;exists rp18
   have:R3 cs x=false:=by
    unfold R3;rw[qI1];intro d hd;obtain ⟨k,hk,e⟩:=qE7.mp hd
    have:=I k hk (by rw[qA6];exact hk)
    rw[e]at this;rw[this];decide
   rw[this]
 obtain ⟨v,e,rfl⟩:=fin;exact e
def nP (h:es[i]?=some e):L2.atI (m9 c es) ((i+1:Nat):Int)=some (gW e):=A6 (k:=i+1) (by show (es.map gW)[i]?=_;rw[qA7,h];rfl)
def kA {es:List GEnt}(h:a<=es.length):∃x y:W,L2.atI (m9 c es) (a:Int)=some (.tup [tC (sC c es a),x,y]):=by
 cases a with
 |zero=>exact ⟨.non,.non,A6 (k:=0) rfl⟩
 | succ a=>
  have I:es[a]?=some es[a]:=qA3 ox;rw[rT I];exact ⟨_,_,nP I⟩
def uZ (hp:aw es) (hl:es.length<=100) (hn:n<=es.length):D3 [.lst (m9 c es),.int (n:Int)]=.ok (lI ((y9 es n).map λ(k:Nat)=>(k:Int))):=by
 have fin:Ok (D3 [.lst (m9 c es),.int (n:Int)]) λv=>v=lI ((y9 es n).map λ(k:Nat)=>(k:Int)):=by
  have a4:=(db hp n hn).2;exists rpB,bh;refine r6 (O9 ?_);refine Q2 (λm ρ=>∃(xs l':List Nat) (w:W) (a3:Sl),ρ = [.par (.lst (m9 c es)),.par (.int (n:Int)),.own ((xs.map λ(k:Nat)=>(k:Int)).map W.int),a3]/\(a3=.val w\/a3=.par w)/\xs++l'=y9 es n/\((w=.non/\l' = [])\/∃(n':Nat),w=.int (n':Int)/\l'=y9 es n'/\n'<m/\n'<=es.length)) ?_ (n+1) _ ⟨[],y9 es n,.int (n:Int),.val (.int (n:Int)),rfl,.inl rfl,rfl,.inr ⟨n,rfl,rfl,qD2 n,hn⟩⟩;rintro m ρ ⟨xs,l',w,a3,rfl,ha,hx,hc⟩;rcases hc with ⟨rfl,rfl⟩|⟨n',rfl,rfl,hm,hn'⟩
  ·refine ⟨false,?_,?_⟩
   ·rcases ha with rfl|rfl
    ·exists rp18
    ·exists rp18
   ·rw [qA4 qA9]
    rw[qG3]at hx;subst hx;exists rp18
  ·refine ⟨true,?_,?_⟩
   ·rcases ha with rfl|rfl
    ·exists rp18
    ·exists rp18
   ·rw [qA2 rfl]
    have a5:xs.length<=(y9 es n).length:=by rw[<- hx,qC6];omega
    cases n' with
    | zero=>
     have O:L2.atI (m9 c es) (((0:Nat)):Int)=some (g0 c):=A6 (k:=0) rfl;have a0:L2.atI (m9 c es) 0=some (g0 c):=O;have b1:L2.atI [tC c,W.non,W.non] 1=some W.non:=rfl;have I:(xs ++ [0]) ++ []=y9 es n:=by rw[<- hx,qG3];rfl
     rcases ha with rfl|rfl
     ·exists O,a0,b1;exact ⟨0,ox,xs ++ [0],[],.non,_,by simp only [qC3,qC1,qJ4];rfl,.inr rfl,I,.inl ⟨rfl,rfl⟩⟩
     ·exists O,a0,b1;exact ⟨0,ox,xs ++ [0],[],.non,_,by simp only [qC3,qC1,qJ4];rfl,.inr rfl,I,.inl ⟨rfl,rfl⟩⟩
    | succ i=>
     have h:es[i]?=some es[i]:=qA3 ox;generalize es[i]=e at h
     have r1:=nP (c:=c) h;have b1:L2.atI [tC e.1,.int (e.2.1:Int),.int (e.2.2:Int)] 1=some (.int (e.2.1:Int)):=rfl;have a6:=hp i e h;have I:(xs ++ [i+1])++y9 es e.2.1=y9 es n:=by rw[<- hx,N3 hp h,qL0];rfl
     rcases ha with rfl|rfl
     ·exists r1,b1;exact ⟨i+1,ox,xs ++ [i+1],y9 es e.2.1,.int (e.2.1:Int),_,by simp only [qC3,qC1,qJ4],.inr rfl,I,.inr ⟨e.2.1,rfl,rfl,ox,ox⟩⟩
     ·exists r1,b1;exact ⟨i+1,ox,xs ++ [i+1],y9 es e.2.1,.int (e.2.1:Int),_,by simp only [qC3,qC1,qJ4],.inr rfl,I,.inr ⟨e.2.1,rfl,rfl,ox,ox⟩⟩
 obtain ⟨v,e,rfl⟩:=fin;exact e
def upC (c:Cap)(es:List GEnt)(l:List Nat)(x:Cap):Cap:=l.foldl (λy q=>B9 y (sC c es q)) x
def t8 (c:Cap)(ms:List Mv)(es:List GEnt)(a k:Nat):Cap:=upC c es (y9 es a) (E3 (sC c es a) (mvN ms k))
def ay (c:Cap) (es:List GEnt):∀(l:List Nat) (x:Cap),(upC c es l x).length=x.length
 | [],_=>rfl
 | q::l,x=>by
  show (upC c es l (B9 x (sC c es q))).length=_;rw[ay c es l,eX]
def ae (c:Cap)(ms:List Mv)(es:List GEnt)(a k:Nat):(t8 c ms es a k).length=(sC c es a).length:=by unfold t8;rw[ay,R4]
def jP:∀(l:List Nat) (x:Cap),(∀q∈l,q<=es.length)->upC c (es ++ [e]) l x=upC c es l x
 | [],_,_=>rfl
 | q::l,x,h=>by
  show upC c (es ++ [e]) l (B9 x (sC c (es ++ [e]) q))=upC c es l (B9 x (sC c es q));rw[gU (h q qB2),jP l _ λO I=>h O (qA8 _ I)]
def qA (I:aw es) (hx:e.2.1<=es.length) (ha:a<=es.length):t8 c ms (es ++ [e]) a k=t8 c ms es a k:=by
 unfold t8;rw[qV I hx a ha,gU ha,jP];intro q O
 have:=(db I a ha).1 q O
 omega
def K0 (c:Cap)(ms:List Mv)(es:List GEnt)(a k:Nat):List GEnt:=if (U9 (sC c es a) (mvN ms k)&&!R3 (stC c es) (t8 c ms es a k))=true then es ++ [(t8 c ms es a k,a,k)] else es
def bD (c:Cap):Option GEnt->Cap
 |none=>c
 |some e=>e.1
def Z0 (c:Cap):Option GEnt->W
 |none=>g0 c
 |some e=>gW e
def gY (c:Cap)(es:List GEnt):m9 c es=(none::es.map some).map (Z0 c):=by rw[qC1,qB9];rfl
def yd (c:Cap)(es:List GEnt):(none::es.map some).map (bD c)=stC c es:=by rw[qC1,qB9];rfl
def pQ (c:Cap) (es:List GEnt):j7 (m9 c es)=true:=by
 rw[gY];refine X1 (Z0 c) (λo=>?_) _;cases o with
 |none=>show (j7 (c.map oW)&&(true&&(true&&true)))=true;rw[C6];rfl
 |some e=>show (j7 (e.1.map oW)&&(true&&(true&&true)))=true;rw[C6];rfl
def S5 (I:∀e∈es,e.1.length=c.length) (ha:a<=es.length):(sC c es a).length=c.length:=by
 have:=kz (c:=c) ha
 unfold stC at this;rcases qB3.mp this with e|e
 ·rw[e]
 ·obtain ⟨z,hz,O⟩:=qB1.mp e;rw[<- O];exact I z hz
def AU {ms:List Mv}(h6:b.length<=6) (hm:∀m∈ms,okN b.length m) (hp:aw es) (hl:∀e∈es,e.1.length=b.length) (c3:es.length<=90) (ha:a<=es.length) (hk:k<ms.length):gj (.tup [tI b,tM_ ms]) (m9 (b.map some) es) [.int (a:Int),.int (k:Int)]=.ok (m9 (b.map some) (K0 (b.map some) ms es a k)):=by
 obtain ⟨c,hc⟩:∃c:Cap,c=b.map some:=⟨_,rfl⟩;have a9:c.length=b.length:=by rw[hc,qA6]
 rw[<- hc];refine rZ λp=>?_;have a3:∀e∈es,e.1.length=c.length:=λe he=>by rw[a9];exact hl e he
 have a4:=S5 a3 ha;have a7:okN (sC c es a).length (mvN ms k):=by rw[a4,a9];exact getM hm hk
 have a1:L2.atI [tI b,tM_ ms] 1=some (tM_ ms):=rfl;have ej:L2.atI (ms.map mW) (k:Int)=some (mW (mvN ms k)):=by
  have:=atM (ms:=ms) (r:=(k:Int)) ox ox
  rw[qD9]at this;exact this
 obtain ⟨x,y,er⟩:=kA (c:=c) (es:=es) ha;have b0:L2.atI [tC (sC c es a),x,y] 0=some (tC (sC c es a)):=rfl;have k1:=gA (c:=sC c es a) a7;have b4:=pQ c es;unfold Y9;rw[qA2 ⟨rfl,b4⟩];obtain ⟨I,O⟩:∃I,I=m9 c es:=⟨_,rfl⟩;rw[<- O]at er;cases a0:U9 (sC c es a) (mvN ms k) with
 | false=>
  rw[a0]at k1;have e:T4 p [.par (.tup [tI b,tM_ ms]),.iop p I,.par (.int (a:Int)),.par (.int (k:Int)),.un,.un,.un]=.ok (.bk [.par (.tup [tI b,tM_ ms]),.iop p I,.par (.int (a:Int)),.par (.int (k:Int)),.par (mW (mvN ms k)),.un,.un]):=by
   exists rpB,T4,a1,ej,er,b0,k1
  rw[O]at e
  show (match T4 p [.par (.tup [tI b,tM_ ms]),.iop p (m9 c es),.par (.int (a:Int)),.par (.int (k:Int)),.un,.un,.un]with | .ok (.nx ρ)=>ioR p ρ | .ok (.bk ρ)=>ioR p ρ|_=>.stuck)=_;rw[e]
  show (if p=p then R.ok (m9 c es) else .stuck)=_;rw[qA2 rfl];unfold K0;rw[a0];rfl
 | true=>
  rw[a0]at k1;have b5:(sC c es a).length<=6:=ox;have k2:=nv b5 a7 a0;have kw:=uZ (c:=c) hp ox ha;have c0:=db hp a ha;have ab:(E3 (sC c es a) (mvN ms k)).length=c.length:=by rw[R4,a4]
  have kU:=dN (cs:=stC c es) (x:=t8 c ms es a k) (λd hd=>by
   rw[ae,a4];unfold stC at hd;rcases qB3.mp hd with q|q
   ·rw[q]
   ·obtain ⟨z,hz,ez⟩:=qB1.mp q;rw[<- ez];exact a3 z hz)
  have b6:∀N mg me ρ (h:∀o∈(none::es.map some:List (Option GEnt)),∃a8,mg (Z0 c o) (ρ++List.replicate (N-ρ.length) Sl.un)=some a8/\me a8=.ok (tC (bD c o))),k7 N mg yes me I ρ=.ok (.lst ((stC c es).map tC)):=λN mg me ρ h=>by
   rw[O,gY,i5 (λo=>tC (bD c o)) _ _ ρ (by simp;omega) h];rw[<- yd];refine congrArg (λl=>R.ok (W.lst l)) ?_;rw[qB9];rfl
  have c4:I.length=es.length+1:=by rw[O];simp
  have a5:∀q,q<=es.length->∃x y:W,L2.atI I (q:Int)=some (.tup [tC (sC c es q),x,y]):=λq hq=>by rw[O];exact kA hq
  rw[<- O]at kw;have po:Po (T4 p [.par (.tup [tI b,tM_ ms]),.iop p I,.par (.int (a:Int)),.par (.int (k:Int)),.un,.un,.un]) (λρ=>ρ[1]?=some (.iop p (m9 c (K0 c ms es a k)))) (λ_=>False):=by
   exists rpB,T4,a1,ej,er,b0,k1,k2,kw;refine ci (λρ=>∃a6,ρ = [.par (.tup [tI b,tM_ ms]),.iop p I,.par (.int (a:Int)),.par (.int (k:Int)),.par (mW (mvN ms k)),.val (tC (t8 c ms es a k)),a6]) (HN ?_) ?_
   ·refine fP (λi ρ=>∃a6,ρ = [.par (.tup [tI b,tM_ ms]),.iop p I,.par (.int (a:Int)),.par (.int (k:Int)),.par (mW (mvN ms k)),.val (tC (upC c es ((y9 es a).take i) (E3 (sC c es a) (mvN ms k)))),a6]) ⟨_,rfl⟩ ?_ ?_
    ·rintro i u ρ hu ⟨a6,rfl⟩;rw[qB9,qA7]at hu;obtain ⟨q,hq,rfl⟩:=qF9.mp hu;have c5:=c0.1 q (qD3 hq);obtain ⟨x2,y2,b3⟩:=a5 q ox;have b2:L2.atI [tC (sC c es q),x2,y2] 0=some (tC (sC c es q)):=rfl;have kr:=si (cs:=upC c es ((y9 es a).take i) (E3 (sC c es a) (mvN ms k))) (es:=sC c es q) (by rw[ay,ab];exact S5 a3 ox) (by rw[ay,ab];omega);have c2:B9 (upC c es ((y9 es a).take i) (E3 (sC c es a) (mvN ms k))) (sC c es q)=upC c es ((y9 es a).take (i+1)) (E3 (sC c es a) (mvN ms k)):=by
      rw[qV6,hq];unfold upC;rw[List.foldl_append];rfl
     rw[c2]at kr;refine ⟨_,rfl,?_⟩;have c1:(W.int∘λ(k:Nat)=>(k:Int)) q=.int (q:Int):=rfl;exists c1,b3,b2,kr;exact ⟨_,rfl⟩
    ·rintro ρ ⟨a6,rfl⟩;rw[qA6,qA6,qK0];exact ⟨_,rfl⟩
   ·rintro ρ ⟨a6,rfl⟩;exists rp18;rw[b6];rotate_left
    ·intro o ho;refine ⟨_,rfl,?_⟩;cases o with
     | none=>
      have b0:L2.atI [tC c,W.non,W.non] 0=some (tC c):=rfl;have b1:Z0 c none=.tup [tC c,.non,.non]:=rfl;have b2:bD c none=c:=rfl;exists b1,b0,b2,C2 (show noL (tC c)=true from C6 c)
     | some e=>
      have b0:L2.atI [tC e.1,.int (e.2.1:Int),.int (e.2.2:Int)] 0=some (tC e.1):=rfl;have b1:Z0 c (some e)=.tup [tC e.1,.int (e.2.1:Int),.int (e.2.2:Int)]:=rfl;have b2:bD c (some e)=e.1:=rfl;exists b1,b0,b2,C2 (show noL (tC e.1)=true from C6 e.1)
    exists kU;cases hU:R3 (stC c es) (t8 c ms es a k) with
    | true=>
     exists rp18;unfold K0;rw[a0,hU,O];rfl
    | false=>
     exists rp18;rw[wO (ws:=I) (w:=gW (t8 c ms es a k,a,k)) rfl ?_ ox]
     ·show ((List.map clI _).set 1 _)[1]?=_;rw[qG2 Qy];unfold K0;rw[a0,hU,O]
      show some (Sl.iop p (g0 c::es.map gW ++ [_]))=some (Sl.iop p (g0 c::(es ++ [_]).map gW));rw[qC3];rfl
     ·exists rp18
  rw[O]at po
  show (match T4 p [.par (.tup [tI b,tM_ ms]),.iop p (m9 c es),.par (.int (a:Int)),.par (.int (k:Int)),.un,.un,.un]with | .ok (.nx ρ)=>ioR p ρ | .ok (.bk ρ)=>ioR p ρ|_=>.stuck)=_
  revert po
  cases T4 p [.par (.tup [tI b,tM_ ms]),.iop p (m9 c es),.par (.int (a:Int)),.par (.int (k:Int)),.un,.un,.un] with
  |stuck=>exact λh=>h.elim
  |ex e=>exact λh=>h.elim
  | ok f=>
   cases f with
   | nx ρ=>
    intro h;have h:ρ[1]?=some (.iop p (m9 c (K0 c ms es a k))):=h
    show ioR p ρ=_;unfold ioR;rw[h];exact qA2 rfl
   |rt w=>exact λh=>h.elim
   |bk ρ=>exact λh=>h.elim
   |ct ρ=>exact λh=>h.elim
structure GK (c:Cap) (ms:List Mv) (es:List GEnt) (A kk:Nat):Prop where
 len:∀e∈es,e.1.length=c.length
 k8:∀e∈es,e.2.2<ms.length
 lt:∀e∈es,e.2.1<A\/(e.2.1=A/\e.2.2<kk)
 inc:es.Pairwise λx y=>cdG x<cdG y
 par:aw es
 beh:∀(i:Nat) (e:GEnt),es[i]?=some e->U9 (sC c es e.2.1) (mvN ms e.2.2)=true/\e.1=t8 c ms es e.2.1 e.2.2/\∀j,j<=i->i6 e.1 (sC c es j)=false
 set:∀a k,(a<A\/(a=A/\k<kk))->k<ms.length->U9 (sC c es a) (mvN ms k)=true->(∃e∈es,e.2=(a,k))\/∃j,j<=es.length/\(∀(i:Nat) (e:GEnt),j=i+1->es[i]?=some e->cdG e<a*8+k)/\i6 (t8 c ms es a k) (sC c es j)=true
def GK.start (c:Cap) (ms:List Mv):GK c ms [] 0 0 where
 len:=Qy
 k8:=Qy
 lt:=Qy
 inc:=List.Pairwise.nil
 par:=λi e h=>by simp at h
 beh:=λi e h=>by simp at h
 set:=λa k h=>ox
def GK.below {kk:Nat}(h:GK c ms es A kk) (O:ms.length<=8):∀e∈es,cdG e<A*8+kk:=λe I=>by
 have:=h.k8 e I
 unfold cdG;rcases h.lt e I with q|⟨q,q'⟩
 ·omega
 ·omega
def GK.stay {kk:Nat}(h:GK c ms es A kk) (h8:ms.length<=8) (a0:U9 (sC c es A) (mvN ms kk)=true->R3 (stC c es) (t8 c ms es A kk)=true):GK c ms es A (kk+1) where
 len:=h.len
 k8:=h.k8
 lt:=λe O=>by
  rcases h.lt e O with q|⟨q,q'⟩
  ·exact .inl q
  ·exact .inr ⟨q,ox⟩
 inc:=h.inc
 par:=h.par
 beh:=h.beh
 set:=λa k hj hk I=>by
  by_cases e:a=A/\k=kk
  ·obtain ⟨rfl,rfl⟩:=e;obtain ⟨d,hd,hu⟩:=qI3.mp (a0 I);obtain ⟨j,hj,ej⟩:=qE7.mp hd;rw[W0]at hj;refine .inr ⟨j,ox,λi e _ O=>h.below h8 e (qD3 O),?_⟩
   have:sC c es j=d:=by unfold sC;rw[qA0,qA3 (by rw[W0];exact hj),ej];rfl
   rw[this];exact hu
  ·exact h.set a k ox hk I
def GK.snoc {kk:Nat}(h:GK c ms es A kk) (h8:ms.length<=8) (hA:A<=es.length) (hk:kk<ms.length) (a8:U9 (sC c es A) (mvN ms kk)=true) (a3:R3 (stC c es) (t8 c ms es A kk)=false):GK c ms (es ++ [(t8 c ms es A kk,A,kk)]) A (kk+1):=by
 have hS:∀a,a<=es.length->sC c (es ++ [(t8 c ms es A kk,A,kk)]) a=sC c es a:=λa ha=>gU ha;have hC:∀a k,a<=es.length->t8 c ms (es ++ [(t8 c ms es A kk,A,kk)]) a k=t8 c ms es a k:=λa k ha=>qA h.par hA ha;have a4:∀(i:Nat) (e:GEnt),es[i]?=some e->e.2.1<=es.length:=λi e I=>by
  have:=h.par i e I
  have:=(qB0.mp I).1
  omega
 have O:∀(i:Nat) (e:GEnt),(es ++ [(t8 c ms es A kk,A,kk)])[i]?=some e->(es[i]?=some e/\i<es.length)\/(i=es.length/\e=(t8 c ms es A kk,A,kk)):=λi e I=>by
  by_cases hi:i<es.length
  ·rw[qD6 hi]at I;exact .inl ⟨I,hi⟩
  ·have a6:=(qB0.mp I).1;rw[qC6,qF7]at a6
   have:i=es.length:=ox
   subst this;rw[qG6 (qB5 _),Nat.sub_self]at I;cases I;exact .inr ⟨rfl,rfl⟩
 refine ⟨λe I=>?_,λe I=>?_,λe I=>?_,?_,λi e I=>?_,λi e I=>?_,λa k hj a5 a0=>?_⟩
 ·rcases qE0.mp I with q|q
  ·exact h.len e q
  ·rw [qC4.mp q]
   show (t8 c ms es A kk).length=_;rw[ae];exact S5 h.len hA
 ·rcases qE0.mp I with q|q
  ·exact h.k8 e q
  ·rw[qC4.mp q];exact hk
 ·rcases qE0.mp I with q|q
  ·rcases h.lt e q with q1|⟨q1,q2⟩
   ·exact .inl q1
   ·exact .inr ⟨q1,ox⟩
  ·rw[qC4.mp q];exact .inr ⟨rfl,qD2 kk⟩
 ·refine qU8.mpr ⟨h.inc,qS8 _ _,λx hx y hy=>?_⟩;rw[qC4.mp hy];exact h.below h8 x hx
 ·rcases O i e I with ⟨q,_⟩|⟨rfl,rfl⟩
  ·exact h.par i e q
  ·exact hA
 ·rcases O i e I with ⟨q,hi⟩|⟨rfl,rfl⟩
  ·obtain ⟨p1,p2,p3⟩:=h.beh i e q;have hp:=a4 i e q;rw[hS _ hp,hC _ _ hp];exact ⟨p1,p2,λj hj=>by rw[hS j ox];exact p3 j hj⟩
  ·refine ⟨by rw[hS _ hA];exact a8,by rw[hC _ _ hA],λj hj=>?_⟩;rw[hS j hj];unfold R3 at a3;rw[qI1]at a3
   have:=a3 _ (kz hj)
   simpa using this
 ·have ha:a<=es.length:=ox;rw[hS a ha]at a0;rw[hC a k ha];by_cases e:a=A/\k=kk
  ·obtain ⟨rfl,rfl⟩:=e;exact .inl ⟨_,qC7 _ (qS9 _),rfl⟩
  ·rcases h.set a k ox a5 a0 with ⟨e,I,q⟩|⟨j,hj,h1,h2⟩
   ·exact .inl ⟨e,qE6 _ I,q⟩
   ·refine .inr ⟨j,by rw[qC6,qF7];omega,λi e a7 I=>?_,by rw[hS j hj];exact h2⟩;rcases O i e I with ⟨q,_⟩|⟨rfl,_⟩
    ·exact h1 i e a7 q
    ·omega
def GK.step {kk:Nat}(h:GK c ms es A kk) (O:ms.length<=8) (hA:A<=es.length) (hk:kk<ms.length):GK c ms (K0 c ms es A kk) A (kk+1):=by
 unfold K0;cases I:U9 (sC c es A) (mvN ms kk) with
 | false=>
  rw[qA4 Qy];exact h.stay O λq=>by rw[I]at q;cases q
 | true=>
  cases hU:R3 (stC c es) (t8 c ms es A kk) with
  | true=>
   rw[qA4 Qy];exact h.stay O λ_=>hU
  | false=>
   rw[qA2 Qy];exact h.snoc O hA hk I hU
def GK.next (h:GK c ms es A ms.length):GK c ms es (A+1) 0 where
 len:=h.len
 k8:=h.k8
 lt:=λe O=>by
  have:=h.k8 e O
  rcases h.lt e O with q|⟨q,q'⟩
  ·exact .inl ox
  ·exact .inl ox
 inc:=h.inc
 par:=h.par
 beh:=h.beh
 set:=λa k hj hk I=>h.set a k ox hk I
def rA (c:Cap) (ms:List Mv) (es:List GEnt) (a k:Nat):es.length<=(K0 c ms es a k).length/\(K0 c ms es a k).length<=es.length+1:=by
 unfold K0
 split
 ·rw[qC6,qF7];omega
 ·omega
def qf {most:Nat}(h6:b.length<=6) (hm:∀m∈ms,okN b.length m) (h8:ms.length<=8) (h1:1<=most) (b0:most<=30):Ok (X5 [.tup [tI b,tM_ ms],.int (most:Int)]) λw=>(w=.non/\∃es A,GK (b.map some) ms es A 0/\most<es.length+1)\/∃es,w=.lst (m9 (b.map some) es)/\es.length+1<=most/\GK (b.map some) ms es (es.length+1) 0:=by
 have a8:(b.map some).length=b.length:=qA6 ..;have a0:L2.atI [tI b,tM_ ms] 0=some (tI b):=rfl;have a1:L2.atI [tI b,tM_ ms] 1=some (tM_ ms):=rfl;have gr:∀(es:List GEnt) (A k:Nat),GK (b.map some) ms es A k->A<=es.length->k<ms.length->es.length<=90->gj (.tup [tI b,tM_ ms]) (m9 (b.map some) es) [.int (A:Int),.int (k:Int)]=.ok (m9 (b.map some) (K0 (b.map some) ms es A k)):=λes A k I hA hk hl=>AU h6 hm I.par (λe he=>by rw[<- a8];exact I.len e he) hl hA hk;have a7:(.lst [.tup [tI b,.non,.non]]:W)=.lst (m9 (b.map some) []):=by rw[ya];rfl
 generalize hc:b.map some=c at *
 exists rpB,lE,a0,C2 (S9 b);refine r6 (O9 ?_);refine Q2 (λm ρ=>∃(es:List GEnt) (at_:Nat) (a4:Sl),ρ = [.par (.tup [tI b,tM_ ms]),.par (.int (most:Int)),.own (m9 c es),.val (.int (at_:Int)),a4]/\GK c ms es at_ 0/\at_<=es.length+1/\es.length+1<=most/\m+at_=102) ?_ 102 _ ⟨[],0,_,by rw[show m9 c [] = [.tup [tI b,.non,.non]] from by injection a7 with h;exact h.symm];rfl,GK.start c ms,Qy,by simpa using h1,rfl⟩;rintro m ρ ⟨es,at_,a4,rfl,I,b4,a3,a9⟩;have O:(m9 c es).length=es.length+1:=Qy;by_cases b3:at_<es.length+1
 ·refine ⟨true,?_,?_⟩
  ·have d1:decide ((at_:Int)<((es.length+1:Nat):Int))=true:=qO8 ox;exists O,d1
  ·rw [qA2 rfl]
   exists a1;refine ci (λρ=>∃(es:List GEnt) (a4:Sl),ρ = [.par (.tup [tI b,tM_ ms]),.par (.int (most:Int)),.own (m9 c es),.val (.int (at_:Int)),a4]/\GK c ms es at_ ms.length/\at_<=es.length/\es.length<=60) ?_ ?_
   ·refine fP (λi ρ=>∃(es:List GEnt) (a4:Sl),ρ = [.par (.tup [tI b,tM_ ms]),.par (.int (most:Int)),.own (m9 c es),.val (.int (at_:Int)),a4]/\GK c ms es at_ i/\at_<=es.length/\es.length<=30+i) ⟨es,_,rfl,I,ox,ox⟩ ?_ ?_
    ·rintro i u ρ hu ⟨es,a4,rfl,I,hA,hl⟩;obtain ⟨hi,rfl⟩:=bZ hu;have kg:=gr es at_ i I hA hi ox;have ab:=rA c ms es at_ i;refine ⟨_,rfl,?_⟩;obtain ⟨a5,a6⟩:∃a5,a5=m9 c es:=⟨_,rfl⟩;rw[<- a6]at kg ⊢;exists kg;exact ⟨K0 c ms es at_ i,_,rfl,I.step h8 hA hi,ox,ox⟩
    ·rintro ρ ⟨es,a4,rfl,I,hA,hl⟩;simp only [qA6,qF5]at I hl;exact ⟨es,_,rfl,I,hA,ox⟩
   ·rintro ρ ⟨es,a4,rfl,I,hA,hl⟩;have O:(m9 c es).length=es.length+1:=Qy;exists O;refine cg (λh=>?_) (λh=>?_)
    ·have h:=qO9 h;exists rp18;exact .inl ⟨es,at_+1,I.next,ox⟩
    ·have h:=qQ2 h;exists rp18;exact ⟨101-at_,ox,es,at_+1,_,by rw[show ((at_+1:Nat):Int)=(at_:Int)+1 by omega],I.next,ox,ox,ox⟩
 ·refine ⟨false,?_,?_⟩
  ·have d1:decide ((at_:Int)<((es.length+1:Nat):Int))=false:=qO7 ox;exists O,d1
  ·rw [qA4 qA9]
   exists rp18
   have:at_=es.length+1:=ox
   subst this;exact .inr ⟨es,rfl,a3,I⟩
def ub {most:Nat}(O:b.length<=6) (hm:∀m∈ms,okN b.length m) (h8:ms.length<=8) (h1:1<=most) (I:most<=30):Ok (X5 [.tup [tI b,tM_ ms],.int (most:Int)]) λw=>w=.non\/∃es,w=.lst (m9 (b.map some) es)/\es.length+1<=most/\GK (b.map some) ms es (es.length+1) 0:=by
 obtain ⟨w,e,h⟩:=qf O hm h8 h1 I;refine ⟨w,e,?_⟩;rcases h with ⟨h,_⟩|h
 ·exact .inl h
 ·exact .inr h
def Ct (n:Nat)(cs:Cap):shp (n+1) (tC cs)=true:=aV oW n (λo=>by cases o with|none=>exact zl n|some i=>exact W1 n i) cs
def kO:Option Int->List Int
 |none=>[1,0]
 |some n=>[0,n]
def l9 (c:Cap):List (List Int):=c.map kO
def EL (h:kO x=kO y):x=y:=by
 cases x with
 | none=>
  cases y with
  |none=>rfl
  |some m=>simp [kO]at h
 | some n=>
  cases y with
  |none=>simp [kO]at h
  |some m=>simp [kO]at h;rw[h]
def fk:∀{a b:Cap},l9 a=l9 b->a=b
 | [],[],_=>rfl
 | [],_::_,h=>by simp [l9]at h
 |_::_,[],h=>by simp [l9]at h
 | x::a,y::b,h=>by
  have h:kO x::l9 a=kO y::l9 b:=h;injection h with h1 h2
  rw[EL h1,fk h2]
def iP (x y:Option Int) (a b:Cap):i6 (x::a) (y::b)=(O1 x y&&i6 a b):=by
 unfold i6;rw[qC5,qT2,List.all_cons,List.all_map];rfl
def vi (h:O1 x y=true) (hn:kO y≠kO x):lexLt (kO y) (kO x)=false:=by
 cases y with
 | none=>
  cases x with
  |none=>exact absurd rfl hn
  |some n=>simp [kO,TP.lexLt]
 | some m=>
  cases x with
  |none=>cases h
  | some n=>
   have h:n<=m:=qO9 h;simp [kO,TP.lexLt];omega
def nC:∀{a b:Cap},a.length=b.length->i6 a b=true->r9 (l9 b) (l9 a)=false
 | [],[],_,_=>rfl
 | [],_::_,h,_=>by simp at h
 |_::_,[],h,_=>by simp at h
 | x::a,y::b,hl,h=>by
  rw[iP,qG4]at h
  show (if kO y=kO x then r9 (l9 b) (l9 a) else lexLt (kO y) (kO x))=false;by_cases e:kO y=kO x
  ·rw[qA2 e];exact nC (by simpa using hl) h.2
  ·rw[qA4 e];exact vi h.1 e
def P7 (a:Cap):i6 a a=true:=fC λk _=>by
 cases a.getD k none with
 |none=>rfl
 |some x=>exact qO8 (qF3 x)
def Cb (O:a.length=b.length)(I:r9 (l9 a) (l9 b)=false)(h2:i6 a b=true):a=b:=fk (bj _ _ I (nC O h2))
def pk {c:Cap}(O:c.length<=6):K6 [tC c]=.ok (kW (l9 c)):=by
 have e:∀N mg me ρ (h:∀z:Option Int,∃I,mg (oW z) (ρ++List.replicate (N-ρ.length) Sl.un)=some I/\me I=.ok (.tup ((kO z).map W.int))),k7 N mg yes me (c.map oW) ρ=.ok (.lst (fE (l9 c))):=λN mg me ρ h=>by
  rw[i5 (λz=>.tup ((kO z).map W.int)) oW c ρ ox (λz _=>h z)];unfold fE l9;exact congrArg (λl=>R.ok (W.lst l)) (by rw[qB9];rfl)
 exists rpB,fY;rw[e]
 ·have hn:j7 (fE (l9 c))=true:=eZ (l9 c);exists aQ hn;rfl
 ·intro z;refine ⟨_,rfl,?_⟩;cases z with
  | none=>
   exists rp18;rfl
  | some n=>
   exists rp18;rfl
def tJ (I:1<=c.length):keyOf (.ok (kW (l9 c)))=some (l9 c):=by
 have O:O2 (fE (l9 c))=some (l9 c):=eN _;unfold keyOf kW;dsimp only;rw[O];cases c with
 |nil=>simp at I
 |cons a c=>rfl
def jj:∀{cs:List Cap},(∀c∈cs,1<=c.length/\c.length<=6)->E8 K6 (cs.map tC)=some (cs.map l9)
 | [],_=>rfl
 | c::cs,h=>by
  have hc:=h c qB2;rw[qC1];unfold E8;rw[pk hc.2,tJ hc.1,jj λd hd=>h d (qA8 _ hd)];rfl
def ww (f:α->β) (O:vs.length=ks.length):x6 ks e (vs.map f)=(x6 ks d vs).map f:=by
 unfold x6;rw[qL2,qB9];refine congrArg List.reverse (qF1 λi hi=>?_);have I:i<vs.reverse.length:=by
  have:=(N6 ks.reverse).mem_iff.mp hi
  rw[qH5,qC0]at this;rw[qC0];omega
 rw[<- qL2,qA0,qA7,qA3 I]
 show _=f (vs.reverse.getD i d);rw[qA0,qA3 I];rfl
def srt (cs:List Cap):List Cap:=x6 (cs.map l9) [] cs
def vy (cs:List Cap):(srt cs).Perm cs:=sN Qy
def vz (cs:List Cap):(srt cs).Pairwise λa b=>r9 (l9 a) (l9 b)=false:=by
 unfold srt x6;rw[qT9,qI7];have hm:∀i∈Q3 (cs.map l9).reverse,i<cs.reverse.length:=λi hi=>by
  have:=(N6 (cs.map l9).reverse).mem_iff.mp hi
  rw[qH5,qC0,qA6]at this;rw[qC0];exact this
 have hk:∀i,i<cs.reverse.length->(cs.map l9).reverse.getD i []=l9 (cs.reverse.getD i []):=λi hi=>by
  rw[<- qL2,qA0,qA7,qA3 hi,qA0,qA3 hi];rfl
 refine qS2 (λ{i j} hi hj h=>?_) (Ab (cs.map l9).reverse);rw[hk i (hm i hi),hk j (hm j hj)]at h;exact h
def sY (cs:List Cap):j7 (cs.map tC)=true:=X1 tC (λc=>C6 c) cs
def pq (O:∀c∈cs,1<=c.length/\c.length<=6) (I:cs.length<64):cO c K6 [.lst (cs.map tC)]=.ok (.lst ((srt cs).map tC)):=by
 show (match E8 K6 (cs.map tC) with|some ks=>if (cs.map tC).length<64 then chks c (x6 ks W.non (cs.map tC)) else .stuck|none=>.stuck)=_;rw[jj O];dsimp only;rw[qA2 (by rw[qA6];exact I),ww tC (d:=[]) Qy,dI (sY _)];rfl
def za {cs:List Cap}(hl:∀c∈cs,c.length=n) (h1:1<=n) (h6:n<=6) (a8:cs.length<64):Ok (lW [.lst (cs.map tC)]) λw=>∃ts:List Cap,w=.lst (ts.map tC)/\(∀t∈ts,t∈cs)/\ts.length<=cs.length/\(ts.Pairwise λa b=>r9 (l9 a) (l9 b)=true/\i6 a b=false/\i6 b a=false)/\∀c∈cs,∃t∈ts,i6 c t=true:=by
 have hs:=pq (cs:=cs) (c:=false) (λc hc=>by rw[hl c hc];exact ⟨h1,h6⟩) a8;have hp:=vy cs;have hd:=vz cs;have b3:(srt cs).length=cs.length:=hp.length_eq;have a4:∀c∈srt cs,c.length=n:=λc hc=>hl c (hp.mem_iff.mp hc);generalize srt cs=ss at *
 exists rpB,tz,hs;refine r6 (A8 (λi ρ=>∃(fs:List Cap) (a2:Sl),ρ = [.par (.lst (cs.map tC)),.own (fs.map tC),a2]/\(∀t∈fs,t∈ss.take i)/\fs.length<=i/\(fs.Pairwise λa b=>r9 (l9 a) (l9 b)=false/\i6 b a=false)/\∀c∈ss.take i,∃t∈fs,i6 c t=true) ⟨[],_,rfl,Qy,Qy,List.Pairwise.nil,Qy⟩ ?_ ?_)
 ·rintro i u ρ hu ⟨fs,a2,rfl,I,a6,a3,O⟩;rw[qA7]at hu;obtain ⟨x,hx,rfl⟩:=qF9.mp hu;obtain ⟨hi,ex⟩:=qB0.mp hx;have a7:=qD3 hx;have ht:ss.take (i+1)=ss.take i ++ [x]:=by rw[qV6,hx];rfl
  have a9:∀t∈fs,t.length=x.length:=λt a0=>by rw[a4 t (List.mem_of_mem_take (I t a0)),a4 x a7]
  have ku:=dN (cs:=fs) (x:=x) a9;have ab:fs.length<64:=ox;refine ⟨_,rfl,?_⟩;exists ku;cases hU:R3 fs x with
  | true=>
   exists rp18;refine ⟨fs,_,rfl,λt q=>by rw[ht];exact qE6 _ (I t q),ox,a3,λc hc=>?_⟩;rw[ht]at hc;rcases qE0.mp hc with q|q
   ·exact O c q
   ·rw [qC4.mp q]
    obtain ⟨t,h1,h2⟩:=qI3.mp hU;exact ⟨t,h1,h2⟩
  | false=>
   exists C2 (show noL (tC x)=true from C6 x);refine ⟨fs ++ [x],_,by rw[qC3];rfl,λt q=>?_,by rw[qC6,qF7];omega,?_,λc hc=>?_⟩
   ·rw [ht]
    rcases qE0.mp q with q|q
    ·exact qE6 _ (I t q)
    ·exact qC7 _ q
   ·refine qU8.mpr ⟨a3,qS8 _ _,λt a0 y hy=>?_⟩;rw[qC4.mp hy];refine ⟨?_,?_⟩
    ·obtain ⟨j,hj,ej⟩:=qE7.mp (I t a0);rw[qH9]at hj;rw[qO3]at ej
     have:=qG8.mp hd j i ox hi ox
     rw[ej,ex]at this;exact this
    ·unfold R3 at hU;rw[qI1]at hU
     have:=hU t a0
     simpa using this
   ·rw [ht]at hc
    rcases qE0.mp hc with q|q
    ·obtain ⟨t,h1,h2⟩:=O c q;exact ⟨t,qE6 _ h1,h2⟩
    ·rw [qC4.mp q]
     exact ⟨x,qC7 _ (qS9 _),P7 x⟩
 ·rintro ρ ⟨fs,a2,rfl,I,a6,a3,O⟩;rw[qA6]at a6;rw[qA6,qK0]at I O;exists rp18;refine ⟨fs.reverse,by rw[qL2],λt q=>hp.mem_iff.mp (I t (qT5.mp q)),by rw[qC0];omega,?_,λc hc=>?_⟩
  ·rw [qT9]
   refine qS2 (λ{b a} hb ha h=>?_) a3;have b0:=a4 b (I b hb);have b4:=a4 a (I a ha);have a5:i6 b a=false:=by
    cases hq:i6 b a with
    |false=>rfl
    | true=>
     have:=Cb ox h.1 hq
     subst this;rw[P7]at hq;have h2:=h.2;rw[P7]at h2;cases h2
   refine ⟨?_,h.2,a5⟩;cases hq:r9 (l9 a) (l9 b) with
   |true=>rfl
   | false=>
    have:=fk (bj _ _ h.1 hq)
    subst this;rw[P7]at a5;cases a5
  ·obtain ⟨t,q1,q2⟩:=O c (hp.mem_iff.mpr hc);exact ⟨t,qT5.mpr q1,q2⟩
def pc (O:O1 x y=true) (I:O1 y z=true):O1 x z=true:=by
 cases z with
 |none=>rfl
 | some c=>
  cases y with
  |none=>cases I
  | some b=>
   cases x with
   |none=>cases O
   | some a=>
    have O:a<=b:=qO9 O;have I:b<=c:=qO9 I;exact qO8 ox
def N4:∀{a b c:Cap},a.length=b.length->b.length=c.length->i6 a b=true->i6 b c=true->i6 a c=true
 | [],[],[],_,_,_,_=>rfl
 | [],_::_,_,h,_,_,_=>by simp at h
 |_::_,[],_,h,_,_,_=>by simp at h
 |_,[],_::_,_,h,_,_=>by simp at h
 |_,_::_,[],_,h,_,_=>by simp at h
 | x::a,y::b,z::c,h1,h2,h3,h4=>by
  rw[iP,qG4]at h3 h4 ⊢;exact ⟨pc h3.1 h4.1,N4 (by simpa using h1) (by simpa using h2) h3.2 h4.2⟩
def xH {most:Nat}(h1:1<=b.length) (h6:b.length<=6) (hm:∀m∈ms,okN b.length m) (h8:ms.length<=8) (a5:1<=most) (a8:most<=30):∃w u:W,X5 [.tup [tI b,tM_ ms],.int (most:Int)]=.ok w/\dC [.tup [tI b,tM_ ms],.int (most:Int)]=.ok u/\((w=.non/\u=.non)\/∃(es:List GEnt) (ts:List Cap),w=.lst (m9 (b.map some) es)/\es.length+1<=most/\GK (b.map some) ms es (es.length+1) 0/\u=.lst (ts.map tC)/\(∀t∈ts,t∈stC (b.map some) es)/\ts.length<=es.length+1/\(ts.Pairwise λa b=>r9 (l9 a) (l9 b)=true/\i6 a b=false/\i6 b a=false)/\∀c∈stC (b.map some) es,∃t∈ts,i6 c t=true):=by
 obtain ⟨w,I,hw⟩:=ub (most:=most) h6 hm h8 a5 a8;have a4:(b.map some).length=b.length:=qA6 ..;rcases hw with rfl|⟨es,rfl,hes,hK⟩
 ·refine ⟨_,.non,I,?_,.inl ⟨rfl,rfl⟩⟩;exists rpB,iu,I
 ·generalize hc:b.map some=c at *
  have a6:∀d∈stC c es,d.length=b.length:=λd hd=>by
   unfold stC at hd;rcases qB3.mp hd with q|q
   ·rw[q,a4]
   ·obtain ⟨z,hz,ez⟩:=qB1.mp q;rw[<- ez,hK.len z hz,a4]
  obtain ⟨u,et,ts,rfl,q1,q2,q3,q4⟩:=za (cs:=stC c es) (n:=b.length) a6 h1 h6 (by rw[W0];omega);rw[W0]at q2;refine ⟨_,.lst (ts.map tC),I,?_,.inr ⟨es,ts,rfl,hes,hK,rfl,q1,q2,q3,q4⟩⟩;have O:∀N mg me ρ (h:∀o∈(none::es.map some:List (Option GEnt)),∃a0,mg (Z0 c o) (ρ++List.replicate (N-ρ.length) Sl.un)=some a0/\me a0=.ok (tC (bD c o))),k7 N mg yes me (m9 c es) ρ=.ok (.lst ((stC c es).map tC)):=λN mg me ρ h=>by
   rw[gY,i5 (λo=>tC (bD c o)) _ _ ρ (by simp;omega) h];rw[<- yd];refine congrArg (λl=>R.ok (W.lst l)) ?_;rw[qB9];rfl
  obtain ⟨a3,a7⟩:∃a3,a3=m9 c es:=⟨_,rfl⟩;rw[<- a7]at I O;exists rpB,iu,I;rw[O]
  ·exists et
  ·intro o ho;refine ⟨_,rfl,?_⟩;cases o with
   | none=>
    have b0:L2.atI [tC c,W.non,W.non] 0=some (tC c):=rfl;have b1:Z0 c none=.tup [tC c,.non,.non]:=rfl;have b2:bD c none=c:=rfl;exists b1,b0,b2,C2 (show noL (tC c)=true from C6 c)
   | some e=>
    have b0:L2.atI [tC e.1,.int (e.2.1:Int),.int (e.2.2:Int)] 0=some (tC e.1):=rfl;have b1:Z0 c (some e)=.tup [tC e.1,.int (e.2.1:Int),.int (e.2.2:Int)]:=rfl;have b2:bD c (some e)=e.1:=rfl;exists b1,b0,b2,C2 (show noL (tC e.1)=true from C6 e.1)
def L5 {l:List Int}(h:k<l.length):(l.map some).getD k none=some (l.getD k 0):=by
 rw[qA0,qA7,qA3 h,qA0,qA3 h];rfl
def vh {cs ds:Cap}(h:i6 cs ds=true) (hk:k<cs.length):O1 (cs.getD k none) (ds.getD k none)=true:=by
 unfold i6 at h;exact qE3.mp h k (by simpa using hk)
def rh (x:Option Int):O1 x x=true:=by
 cases x with
 |none=>rfl
 |some a=>exact qO8 (qF3 a)
def eU {α:Type}(n k:Nat) (f:Nat->α) (d:α) (h:k<n):((List.range n).map f).getD k d=f k:=by
 rw[qA0,qA7,qF2 h];rfl
def yY (x e:Cap):i6 x (B9 x e)=true:=by
 unfold B9;by_cases h:i6 e x=true
 ·rw [qA2 h]
  refine fC λk hk=>?_;rw[eU _ _ _ _ hk];unfold cf;by_cases q:x.getD k none=e.getD k none
  ·rw[qA2 q];exact rh _
  ·rw[qA4 q];rfl
 ·rw[qA4 h];exact P7 x
def rf (c:Cap) (es:List GEnt):∀(l:List Nat) (x:Cap),i6 x (upC c es l x)=true
 | [],x=>P7 x
 |q::l,x=>N4 (eX x (sC c es q)).symm (ay c es l (B9 x (sC c es q))).symm (yY x (sC c es q)) (rf c es l (B9 x (sC c es q)))
def qN (st:List Int)(m:Mv):Bool:=(List.range st.length).all λk=>decide (m.1.getD k 0<=st.getD k 0)
def bhS (st:List Int)(m:Mv):List Int:=(List.range st.length).map λk=>st.getD k 0-m.1.getD k 0+m.2.getD k 0
def dJ (st:List Int)(m:Mv):(bhS st m).length=st.length:=by simp [bhS]
def BO (h:qN st m=true) (hk:k<st.length):m.1.getD k 0<=st.getD k 0:=by
 unfold qN at h;exact qO9 (qE3.mp h k (by simpa using hk))
def BN {t:Cap}(hm:okN st.length m) (I:st.length=t.length) (h:qN st m=true) (O:i6 (st.map some) t=true):U9 t m=true:=by
 refine N4 (b:=st.map some) (by rw[qA6,qA6,hm.1]) (by rw[qA6];exact I) (fC λk hk=>?_) O;rw[qA6,hm.1]at hk;rw[L5 (by rw[hm.1];exact hk),L5 hk];exact qO8 (BO h hk)
def Hc {t:Cap}(hl:st.length=t.length) (I:i6 (st.map some) t=true):i6 ((bhS st m).map some) (E3 t m)=true:=by
 refine fC λk hk=>?_;rw[qA6,dJ]at hk;have I:=vh I (k:=k) (by rw[qA6];exact hk);rw[L5 hk]at I;rw[L5 (by rw[dJ];exact hk)];unfold bhS E3;rw[eU _ _ _ _ hk,eU _ _ _ _ ox];cases O:t.getD k none with
 |none=>rfl
 | some y=>
  rw[O]at I;have I:st.getD k 0<=y:=qO9 I;exact qO8 (show st.getD k 0-m.1.getD k 0+m.2.getD k 0<=y+(m.2.getD k 0-m.1.getD k 0) by omega)
def jZ (h:t∈stC c es):∃a,a<=es.length/\t=sC c es a:=by
 obtain ⟨a,ha,I⟩:=qE7.mp h;refine ⟨a,by rw[W0]at ha;omega,?_⟩;unfold sC;rw[qA0,qA3 ha,I];rfl
def Ig (h:m∈ms):∃k,k<ms.length/\m=mvN ms k:=by
 obtain ⟨k,hk,I⟩:=qE7.mp h;refine ⟨k,hk,?_⟩;unfold mvN;rw[qA0,qA3 hk,I];rfl
def vn (I:GK c ms es (es.length+1) 0) (ht:t∈stC c es) (hm:m∈ms) (O:U9 t m=true):∃d∈stC c es,i6 (E3 t m) d=true:=by
 obtain ⟨a,ha,rfl⟩:=jZ ht;obtain ⟨k,hk,rfl⟩:=Ig hm;have hl:=S5 I.len ha;have h1:i6 (E3 (sC c es a) (mvN ms k)) (t8 c ms es a k)=true:=rf c es (y9 es a) _;rcases I.set a k ox hk O with ⟨e,he,q⟩|⟨j,hj,_,h2⟩
 ·obtain ⟨i,hi,ei⟩:=qE7.mp he
  have:=(I.beh i e (by rw[qA3 hi,ei])).2.1
  rw[q]at this;refine ⟨e.1,qA8 _ (qB1.mpr ⟨e,he,rfl⟩),?_⟩;rw[this];exact h1
 ·exact ⟨_,kz hj,N4 (by rw[R4,ae]) (by rw[ae,hl];exact (S5 I.len hj).symm) h1 h2⟩
def eQ {kk:Nat}(I:GK c ms es A kk):∀d∈stC c es,d.length=c.length:=λd hd=>by
 obtain ⟨a,ha,rfl⟩:=jZ hd;exact S5 I.len ha
def uu {ts:List Cap}(hK:GK c ms es (es.length+1) 0) (a0:∀m∈ms,okN c.length m) (q1:∀t∈ts,t∈stC c es) (q4:∀d∈stC c es,∃t∈ts,i6 d t=true) (hl:st.length=c.length) (hm:m∈ms) (a3:qN st m=true) (O:∃t∈ts,i6 (st.map some) t=true):∃t∈ts,i6 ((bhS st m).map some) t=true:=by
 obtain ⟨t,ht,O⟩:=O;have hlen:=eQ hK;have lt:=hlen t (q1 t ht);have hb:=Hc (m:=m) ox O;obtain ⟨d,hd,h2⟩:=vn hK (q1 t ht) hm (BN (by rw[hl];exact a0 m hm) ox a3 O);obtain ⟨t',I,h3⟩:=q4 d hd;have ld:=hlen d hd;have a4:=hlen t' (q1 t' I);exact ⟨t',I,N4 (by rw[qA6,dJ];omega) ox (N4 (by rw[qA6,dJ,R4];omega) (by rw[R4];omega) hb h2) h3⟩
def mvD (m:Mv)(p:Nat):Int:=m.2.getD p 0-m.1.getD p 0
def dsp (ms:List Mv):List Nat->Nat->Int
 | [],_=>0
 |k::r,p=>mvD (mvN ms k) p+dsp ms r p
def gos (n:Nat) (ms:List Mv):List Nat->(Nat->Int)->Prop
 | [],_=>True
 |k::r,s=>k<ms.length/\(∀p,p<n->(mvN ms k).1.getD p 0<=s p)/\gos n ms r λp=>s p+mvD (mvN ms k) p
def J5:∀(r:List Nat) (s t:Nat->Int),(∀p,p<n->s p<=t p)->gos n ms r s->gos n ms r t
 | [],_,_,_,_=>trivial
 |k::r,s,t,h,⟨h1,h2,h3⟩=>⟨h1,λp I=>qG1 (h2 p I) (h p I),J5 r _ _ (λp I=>by have:=h p I;show s p+_<=t p+_;omega) h3⟩
def dD (q:List Nat) (p:Nat):∀r:List Nat,dsp ms (r++q) p=dsp ms r p+dsp ms q p
 | []=>by show dsp ms q p=0+dsp ms q p;omega
 | k::r=>by
  show mvD (mvN ms k) p+dsp ms (r++q) p=mvD (mvN ms k) p+dsp ms r p+dsp ms q p;rw[dD q p r];omega
def dw (q:List Nat):∀(r:List Nat) (s:Nat->Int),gos n ms r s->gos n ms q (λp=>s p+dsp ms r p)->gos n ms (r++q) s
 | [],s,_,h=>J5 q _ s (λp _=>by show s p+0<=s p;omega) h
 |k::r,s,⟨h1,h2,h3⟩,h=>⟨h1,h2,dw q r _ h3 (J5 q _ _ (λp _=>by show s p+(mvD (mvN ms k) p+dsp ms r p)<=s p+mvD (mvN ms k) p+dsp ms r p;omega) h)⟩
def ce (r:List Nat):Nat->List Nat
 |0=>[]
 |k+1=>r++ce r k
def oH (r:List Nat) (p:Nat):∀k:Nat,dsp ms (ce r k) p=(k:Int)*dsp ms r p
 |0=>by show (0:Int)=((0:Nat):Int)*_;simp
 | k+1=>by
  show dsp ms (r++ce r k) p=_;rw[dD,oH r p k];push_cast;rw[qL1];omega
def oD (r:List Nat):∀(k:Nat) (s:Nat->Int),(∀j:Nat,j<k->gos n ms r λp=>s p+(j:Int)*dsp ms r p)->gos n ms (ce r k) s
 |0,_,_=>trivial
 | k+1,s,h=>by
  refine dw _ r s (J5 r _ s (λp _=>Qy) (h 0 ox)) (oD r k _ λj I=>J5 r _ _ (λp _=>?_) (h (j+1) ox));push_cast;rw[qL1];omega
def bnd (g:Nat->Int):∀n:Nat,∃B:Int,0<=B/\∀p,p<n->g p<=B
 |0=>⟨0,qF3 0,λp I=>absurd I (qE5 _)⟩
 | n+1=>by
  obtain ⟨B,h0,O⟩:=bnd g n;refine ⟨max B (g n),ox,λp I=>?_⟩;by_cases e:p=n
  ·subst e;omega
  ·have:=O p ox;omega
def v6 (c:Cap) (N:Int)(p:Nat):Int:=(c.getD p none).getD N
def HG (n:Nat) (N:Int)(c:Cap)(s:Nat->Int):Prop:=∀p,p<n->(∀v,c.getD p none=some v->s p=v)/\(c.getD p none=none->N<=s p)
def Rz (n:Nat)(ms:List Mv)(x c:Cap):Prop:=∀N:Int,∃(I:Int)(r:List Nat),gos n ms r (v6 x I)/\HG n N c λp=>v6 x I p+dsp ms r p
def Rz.refl (c:Cap):Rz n ms c c:=λN=>⟨N,[],trivial,λp _=>⟨λv h=>by show v6 c N p+0=v;unfold v6;rw[h];simp,λh=>by show N<=v6 c N p+0;unfold v6;rw[h];simp⟩⟩
def fD {a b:Cap}(h:i6 a b=true) (I:p<a.length):O1 (a.getD p none) (b.getD p none)=true:=by
 unfold i6 at h;rw[qE3]at h;exact h p (by simpa using I)
def Rz.aft (h:Rz n ms x c) (hk:k<ms.length) (hl:c.length=n) (hm:(mvN ms k).1.length=n) (ha:U9 c (mvN ms k)=true):Rz n ms x (E3 c (mvN ms k)):=λN=>by
 obtain ⟨B1,b1,a3⟩:=bnd (λp=>(mvN ms k).1.getD p 0) n;obtain ⟨B2,b2,a0⟩:=bnd (λp =>-mvD (mvN ms k) p) n;obtain ⟨MN,n0,n1⟩:∃x:Int,0<=x/\N<=x:=⟨max N 0,Int.le_max_right _ _,Int.le_max_left _ _⟩;obtain ⟨O,r,hg,hr⟩:=h (MN+B1+B2);refine ⟨O,r ++ [k],dw _ r _ hg ⟨hk,λp hp=>?_,trivial⟩,λp hp=>?_⟩
 ·obtain ⟨h1,h2⟩:(∀v,c.getD p none=some v->v6 x O p+dsp ms r p=v)/\(c.getD p none=none->MN+B1+B2<=v6 x O p+dsp ms r p):=hr p hp;have hu:=fD ha (p:=p) (by rw[qA6,hm];exact hp);have e1:((mvN ms k).1.map some).getD p none=some ((mvN ms k).1.getD p 0):=by
   rw[qA0,qA7,qA0,qA3 ox];rfl
  rw[e1]at hu
  show (mvN ms k).1.getD p 0<=v6 x O p+dsp ms r p;cases q:c.getD p none with
  | some v=>
   rw[q]at hu;have hu:(mvN ms k).1.getD p 0<=v:=qO9 hu;rw[h1 v q];exact hu
  | none=>
   have:=h2 q
   have:(mvN ms k).1.getD p 0<=B1:=a3 p hp
   omega
 ·obtain ⟨h1,h2⟩:(∀v,c.getD p none=some v->v6 x O p+dsp ms r p=v)/\(c.getD p none=none->MN+B1+B2<=v6 x O p+dsp ms r p):=hr p hp
  show (∀v,(E3 c (mvN ms k)).getD p none=some v->v6 x O p+dsp ms (r ++ [k]) p=v)/\((E3 c (mvN ms k)).getD p none=none->N<=v6 x O p+dsp ms (r ++ [k]) p);have ed:dsp ms (r ++ [k]) p=dsp ms r p+mvD (mvN ms k) p:=by
   rw[dD]
   show _+(mvD (mvN ms k) p+0)=_;omega
  have ea:(E3 c (mvN ms k)).getD p none=(c.getD p none).map λx=>x+mvD (mvN ms k) p:=by
   unfold E3 mvD;rw[qA0,qA7,qF2 ox];rfl
  rw[ea,ed];refine ⟨λv I=>?_,λI=>?_⟩
  ·cases q:c.getD p none with
   |none=>rw[q]at I;cases I
   | some u=>
    rw[q]at I
    have:=h1 u q
    have I:u+mvD (mvN ms k) p=v:=Option.some.inj I;omega
  ·cases q:c.getD p none with
   |some u=>rw[q]at I;cases I
   | none=>
    have h2:=h2 q;have :-mvD (mvN ms k) p<=B2:=a0 p hp;omega
def Rz.rai (h:Rz n ms x c) (he:Rz n ms e c) (hl:c.length=n) (b0:e.length=n):Rz n ms x (B9 c e):=by
 by_cases hu:¬ i6 e c=true
 ·unfold B9;rw[qA4 hu];exact h
 have hu:i6 e c=true:=by simpa using hu
 intro N;obtain ⟨L1,l1,ab⟩:=bnd (λp=>(e.getD p none).getD 0) n;obtain ⟨U,u0,hU⟩:=bnd (λp =>-(c.getD p none).getD 0) n;obtain ⟨Ne,I,a8,a6⟩:=he (L1+1);obtain ⟨D,d0,hD⟩:=bnd (λp =>-dsp ms I p) n;obtain ⟨MN,n0,n1⟩:∃x:Int,0<=x/\N<=x:=⟨max N 0,Int.le_max_right _ _,Int.le_max_left _ _⟩;obtain ⟨ME,e0,e1⟩:∃x:Int,0<=x/\Ne<=x:=⟨max Ne 0,Int.le_max_right _ _,Int.le_max_left _ _⟩;obtain ⟨k,hk⟩:∃k:Nat,(k:Int)=MN+U:=⟨(MN+U).toNat,qM9 (Int.add_nonneg n0 u0)⟩;have kD:0<=(k:Int)*D:=qH6 ox d0;obtain ⟨Nx,r1,a9,a4⟩:=h (MN+ME+L1+1+(k:Int)*D)
 -- how the loop moves each place
 have mv:∀p,p<n->(∃v u,e.getD p none=some v/\c.getD p none=some u/\v<=u/\v+dsp ms I p=u)\/(∃v,e.getD p none=some v/\c.getD p none=none/\1<=dsp ms I p/\v<=L1)\/(e.getD p none=none/\c.getD p none=none):=λp hp=>by
  have hup:=fD hu (p:=p) ox;obtain ⟨g1,g2⟩:(∀v,c.getD p none=some v->v6 e Ne p+dsp ms I p=v)/\(c.getD p none=none->L1+1<=v6 e Ne p+dsp ms I p):=a6 p hp;cases q:e.getD p none with
  | none=>
   cases O:c.getD p none with
   |none=>exact .inr (.inr ⟨rfl,rfl⟩)
   |some u=>rw[q,O]at hup;cases hup
  | some v=>
   have a0:v6 e Ne p=v:=by unfold v6;rw[q];rfl
   have hL:(e.getD p none).getD 0<=L1:=ab p hp;rw[q]at hL;have hL:v<=L1:=hL;cases O:c.getD p none with
   | none=>
    have g2:=g2 O;rw[a0]at g2;exact .inr (.inl ⟨v,rfl,rfl,ox,hL⟩)
   | some u=>
    have g1:=g1 u O;rw[a0]at g1;rw[q,O]at hup;exact .inl ⟨v,u,rfl,rfl,qO9 hup,g1⟩
 refine ⟨Nx,r1++ce I k,dw _ r1 _ a9 (oD I k _ λj hj=>J5 I _ _ (λp hp=>?_) a8),λp hp=>?_⟩
 ·obtain ⟨g1,g2⟩:(∀v,c.getD p none=some v->v6 x Nx p+dsp ms r1 p=v)/\(c.getD p none=none->MN+ME+L1+1+(k:Int)*D<=v6 x Nx p+dsp ms r1 p):=a4 p hp;have a7 :-dsp ms I p<=D:=hD p hp
  show v6 e Ne p<=v6 x Nx p+dsp ms r1 p+(j:Int)*dsp ms I p;have j0:(0:Int)<=(j:Int):=ox;have jk:(j:Int)*D<=(k:Int)*D:=qG7 ox d0;rcases mv p hp with ⟨v,u,q1,O,h1,h2⟩|⟨v,q1,O,h1,h2⟩|⟨q1,O⟩
  ·have:=g1 u O
   have hj:=qH6 j0 (show 0<=dsp ms I p by omega);have a0:v6 e Ne p=v:=by unfold v6;rw[q1];rfl
   rw[a0];omega
  ·have:=g2 O
   have hj:=qH6 j0 (show 0<=dsp ms I p by omega);have a0:v6 e Ne p=v:=by unfold v6;rw[q1];rfl
   rw[a0];omega
  ·have:=g2 O
   have hj:(j:Int)*(-D)<=(j:Int)*dsp ms I p:=qJ8 ox j0;rw[qM7]at hj;have a0:v6 e Ne p=Ne:=by unfold v6;rw[q1];rfl
   rw[a0];omega
 ·obtain ⟨g1,g2⟩:(∀v,c.getD p none=some v->v6 x Nx p+dsp ms r1 p=v)/\(c.getD p none=none->MN+ME+L1+1+(k:Int)*D<=v6 x Nx p+dsp ms r1 p):=a4 p hp;have a7 :-dsp ms I p<=D:=hD p hp;have a3 :-(c.getD p none).getD 0<=U:=hU p hp
  show (∀v,(B9 c e).getD p none=some v->v6 x Nx p+dsp ms (r1++ce I k) p=v)/\((B9 c e).getD p none=none->N<=v6 x Nx p+dsp ms (r1++ce I k) p);have k0:(0:Int)<=(k:Int):=ox;have ed:dsp ms (r1++ce I k) p=dsp ms r1 p+(k:Int)*dsp ms I p:=by rw[dD,oH]
  have er:(B9 c e).getD p none=cf (c.getD p none) (e.getD p none):=by
   unfold B9;rw[qA2 hu,qA0,qA7,qF2 ox];rfl
  rw[er,ed];rcases mv p hp with ⟨v,u,q1,O,h1,h2⟩|⟨v,q1,O,h1,h2⟩|⟨q1,O⟩
  ·have g1:=g1 u O;rw[q1,O];unfold cf;by_cases a5:u=v
   ·subst a5;have hz:dsp ms I p=0:=ox;rw[qA2 rfl,hz];exact ⟨(λw hw=>by have hw:=Option.some.inj hw;omega),(λhw=>by cases hw)⟩
   ·rw [qA4 (λz=>a5 (Option.some.inj z))]
    refine ⟨(λw hw=>by cases hw),λ_=>?_⟩;have hj:(k:Int)*1<=(k:Int)*dsp ms I p:=qJ8 ox k0;rw[O]at a3;have a3:-u<=U:=a3;omega
  ·have g2:=g2 O;rw[q1,O];unfold cf;rw[qA4 (λz=>by cases z)];refine ⟨(λw hw=>by cases hw),λ_=>?_⟩;have hj:=qH6 k0 (show 0<=dsp ms I p by omega);omega
  ·have g2:=g2 O;rw[q1,O];unfold cf;rw[qA2 rfl];refine ⟨(λw hw=>by cases hw),λ_=>?_⟩;have hj:(k:Int)*(-D)<=(k:Int)*dsp ms I p:=qJ8 ox k0;rw[qM7]at hj;omega
def rd {S:List Nat}:∀(l:List Nat) (x:Cap),(∀q∈l,q∈S)->(∀q∈S,(sC c es q).length=n)->x.length=n->(∀q∈S,Rz n ms (sC c es q) x)->∀q∈S,Rz n ms (sC c es q) (upC c es l x)
 | [],_,_,_,_,h=>h
 | a::l,x,hl,hn,hx,h=>by
  show ∀q∈S,Rz n ms (sC c es q) (upC c es l (B9 x (sC c es a)));have ha:=hl a qB2;exact rd l _ (λq I=>hl q (qA8 _ I)) hn (by rw[eX];exact hx) λq I=>(h q I).rai (h a ha) hx (hn a ha)
def GK.rz {kk:Nat}(h:GK c ms es A kk) (hm:∀m∈ms,m.1.length=c.length):∀j,j<=es.length->∀i∈y9 es j,Rz c.length ms (sC c es i) (sC c es j):=by
 intro j
 induction j using Nat.strongRecOn with
 | _ j ih=>
  intro hj i hi;cases j with
  |zero=>rw[jM]at hi;rw[qC4.mp hi];exact .refl _
  | succ j=>
   have I:es[j]?=some es[j]:=qA3 ox;have hp:=h.par j _ I;rw[N3 h.par I]at hi;rcases qB3.mp hi with rfl|hi
   ·exact .refl _
   obtain ⟨a6,a3,_⟩:=h.beh j _ I;have hk:=h.k8 _ (qD3 I);have a5:=(db h.par es[j].2.1 ox).1;have hlen:∀q∈y9 es es[j].2.1,(sC c es q).length=c.length:=λq O=>S5 h.len (by have:=a5 q O;omega);have a4:(mvN ms es[j].2.2).1.length=c.length:=hm _ (by unfold mvN;rw[qA0,qA3 hk];exact qF0 _);have a0:=S5 h.len (a:=es[j].2.1) ox;rw[rT I,a3];unfold t8;exact rd _ _ (λq O=>O) hlen (by rw[R4];exact a0) (λq O=>(ih es[j].2.1 ox ox q O).aft hk a0 a4 a6) i hi
def va (I:aw es):∀j,j<=es.length->0∈y9 es j:=by
 intro j
 induction j using Nat.strongRecOn with
 | _ j ih=>
  intro hj;cases j with
  |zero=>rw[jM];exact qC4.mpr rfl
  | succ j=>
   have O:es[j]?=some es[j]:=qA3 ox
   have:=I j _ O
   rw[N3 I O];exact qA8 _ (ih es[j].2.1 ox ox)
def A0:Nat->(Nat->Int)->Int
 |0,_=>0
 |n+1,f=>f n-A0 n f
def bF:∀{n:Nat},(∀k,k<n->f k=g k)->A0 n f=A0 n g
 |0,_=>rfl
 | n+1,h=>by
  show f n-A0 n f=g n-A0 n g;rw[h n (qD2 n),bF λk hk=>h k (qE9 hk)]
def mQ (a b:Int) (f g:Nat->Int):∀n:Nat,A0 n (λk=>a*f k+b*g k)=a*A0 n f+b*A0 n g
 |0=>by simp [A0]
 | n+1=>by
  show (a*f n+b*g n)-A0 n (λk=>a*f k+b*g k)=a*(f n-A0 n f)+b*(g n-A0 n g);rw[mQ a b f g n,qL6,qL6];omega
def cY:∀{n:Nat},(∀k,k<n->f k=0)->A0 n f=0
 |0,_=>rfl
 | n+1,h=>by
  show f n-A0 n f=0;rw[h n (qD2 n),cY λk hk=>h k (qE9 hk)];rfl
def mP:∀{n:Nat},i+1<n->(∀k,k<n->k≠i->k≠i+1->f k=0)->f i=f (i+1)->A0 n f=0
 |0,h,_,_=>absurd h (qE5 _)
 | n+1,h,hz,he=>by
  show f n-A0 n f=0;by_cases e:n=i+1
  ·subst e
   show f (i+1)-(f i-A0 i f)=0;rw[cY λk hk=>hz k ox ox ox,he];omega
  ·rw[hz n (qD2 n) ox e,mP (n:=n) ox (λk hk=>hz k ox) he];rfl
def skp (k i:Nat):Nat:=if i<k then i else i+1
def det:Nat->(Nat->Nat->Int)->Int
 |0,_=>1
 |n+1,v=>A0 (n+1) λk=>v k n*det n λi=>v (skp k i)
def rL (h:i<n):skp k i<n+1:=by unfold skp;split <;> omega
def Cs (k i:Nat):skp k i≠k:=by unfold skp;split <;> omega
def N9:∀{n:Nat}{v w:Nat->Nat->Int},(∀i,i<n->∀p,p<n->v i p=w i p)->det n v=det n w
 |0,_,_,_=>rfl
 | n+1,v,w,h=>bF λk hk=>by
  rw[h k hk n (qD2 n),N9 (n:=n) λi hi p I=>h (skp k i) (rL hi) p (qE9 I)]
def upv (v:Nat->Nat->Int)(i:Nat)(x:Nat->Int):Nat->Nat->Int:=λj=>if j=i then x else v j
def R8 (v:Nat->Nat->Int)(i:Nat)(x:Nat->Int):upv v i x i=x:=qA2 rfl
def L4 (h:j≠i):upv v i x j=v j:=qA4 h
def gK (h:k≠i):(λj=>upv v i x (skp k j))=upv (λj=>v (skp k j)) (if i<k then i else i-1) x:=by
 funext j
 unfold upv;by_cases e:skp k j=i
 ·rw [qA2 e]
  have:j=if i<k then i else i-1:=by
   unfold skp at e
   split at e <;> split <;> omega
  rw[qA2 this]
 ·rw [qA4 e]
  have:j≠if i<k then i else i-1:=by
   unfold skp at e;intro q;apply e
   split at q <;> split <;> omega
  rw[qA4 this]
def W5:(λj=>upv v i x (skp i j))=λj=>v (skp i j):=by
 funext j
 exact L4 (Cs i j)
def N8 (a b:Int) (x y:Nat->Int):∀(n:Nat) (v:Nat->Nat->Int) (i:Nat),i<n->det n (upv v i λp=>a*x p+b*y p)=a*det n (upv v i x)+b*det n (upv v i y)
 |0,_,_,h=>absurd h (qE5 _)
 | n+1,v,i,h=>by
  show A0 (n+1) _=a*A0 (n+1) _+b*A0 (n+1) _;rw[<- mQ];refine bF λk hk=>?_;by_cases e:k=i
  ·subst e;rw[R8,R8,R8,W5,W5,W5,qL1,qD0,qD0]
  ·rw[L4 e,L4 e,L4 e,gK e,gK e,gK e,N8 a b x y n _ _ (by split <;> omega),Int.mul_add,<- qD0,<- qD0,<- qD0,<- qD0,qC9 (v k n) a,qC9 (v k n) b]
def dF:∀(n:Nat) (v:Nat->Nat->Int) (i:Nat),i+1<n->v i=v (i+1)->det n v=0
 |0,_,_,h,_=>absurd h (qE5 _)
 | n+1,v,i,h,e=>by
  refine mP (i:=i) h (λk hk h1 O=>?_) ?_
  ·have:det n (λj=>v (skp k j))=0:=by
    by_cases q:k<i
    ·refine dF n _ (i-1) ox ?_
     show v (skp k (i-1))=v (skp k (i-1+1));unfold skp;rw[qA4 ox,qA4 ox,show i-1+1=i by omega];exact e
    ·refine dF n _ i ox ?_
     show v (skp k i)=v (skp k (i+1));unfold skp;rw[qA2 ox,qA2 ox];exact e
   rw[this,qI0]
  ·have:(λj=>v (skp i j))=λj=>v (skp (i+1) j):=by
    funext j
    unfold skp;by_cases q:j<i
    ·rw[qA2 q,qA2 ox]
    ·by_cases I:j=i
     ·subst I;rw[qA4 ox,qA2 ox];exact e.symm
     ·rw[qA4 q,qA4 ox]
   show v i n*det n (λj=>v (skp i j))=v (i+1) n*det n (λj=>v (skp (i+1) j));rw[this,e]
def J0 (h:i≠j):upv (upv v i x) j y=upv (upv v j y) i x:=by
 funext k
 unfold upv;by_cases q:k=j
 ·rw[qA2 q,qA4 ox,qA2 q]
 ·rw [qA4 q]
  by_cases I:k=i
  ·rw[qA2 I,qA2 I]
  ·rw[qA4 I,qA4 I,qA4 q]
def P6 (v:Nat->Nat->Int) (i:Nat):upv v i (v i)=v:=by
 funext k
 unfold upv;by_cases q:k=i
 ·rw[qA2 q,q]
 ·rw[qA4 q]
def yW (v:Nat->Nat->Int) (i:Nat) (x y:Nat->Int):upv (upv v i x) i y=upv v i y:=by
 funext k
 unfold upv;by_cases q:k=i
 ·rw[qA2 q,qA2 q]
 ·rw[qA4 q,qA4 q,qA4 q]
def mq (hi:i<n) (O:j<n) (I:i≠j) (h0:∀(v:Nat->Nat->Int) (x:Nat->Int),det n (upv (upv v i x) j x)=0) (v:Nat->Nat->Int) (x y:Nat->Int):det n (upv (upv v i x) j y) =-det n (upv (upv v i y) j x):=by
 have h:=h0 v λp=>1*x p+1*y p;rw[N8 1 1 x y n _ j O,J0 I,N8 1 1 x y n _ i hi,J0 (i:=i) (j:=j) I (x:=λp=>1*x p+1*y p) (y:=y),N8 1 1 x y n _ i hi]at h;have h1:=h0 v x;have h2:=h0 v y;rw[J0 I]at h1 h2;rw[J0 I (x:=x) (y:=y),J0 I (x:=y) (y:=x)];omega
def iG:∀(d i:Nat),i+d+1<n->∀(v:Nat->Nat->Int) (x:Nat->Int),det n (upv (upv v i x) (i+d+1) x)=0
 |0,i,h,v,x=>dF n _ i h (by rw[R8,L4 ox,R8])
 | d+1,i,h,v,x=>by
  have I:=mq (n:=n) (i:=i+d+1) (j:=i+d+1+1) ox h ox (λv x=>dF n _ (i+d+1) h (by rw[R8,L4 ox,R8])) (upv v i x) (v (i+d+1)) x;have e1:upv (upv (upv v i x) (i+d+1) (v (i+d+1))) (i+d+1+1) x=upv (upv v i x) (i+(d+1)+1) x:=by
   have:upv (upv v i x) (i+d+1) (v (i+d+1))=upv v i x:=by
    have O:=P6 (upv v i x) (i+d+1)
    rwa [L4 (show i+d+1≠i by omega)]at O
   rw[this,show i+(d+1)+1=i+d+1+1 by omega]
  rw[e1]at I;rw[I,J0 (i:=i+d+1) (j:=i+d+1+1) ox,J0 (i:=i) (j:=i+d+1+1) ox,iG d i ox];rfl
def oM (hi:i<n) (O:j<n) (I:i≠j) (v:Nat->Nat->Int) (x:Nat->Int):det n (upv (upv v i x) j x)=0:=by
 rcases Nat.lt_or_gt_of_ne I with q|q
 ·have:=iG (n:=n) (j-i-1) i ox v x
  rwa [show i+(j-i-1)+1=j by omega]at this
 ·have:=iG (n:=n) (i-j-1) j ox v x
  rw[show j+(i-j-1)+1=i by omega]at this;rw[J0 I];exact this
def iF (hi:i<n) (hk:k<n) (I:k≠i) (v:Nat->Nat->Int):det n (upv v i (v k))=0:=by
 have:=oM hk hi I v (v k)
 rwa [P6]at this
def xD (hi:i<n) (O:r<n) (I:r≠i) (v:Nat->Nat->Int) (c:Nat->Int):det n (upv (upv v r c) i (v r)) =-det n (upv v i c):=by
 rw[mq O hi I (oM O hi I) v c (v r),P6]
def gD:∀{n:Nat},(∀k,k<n->-B<=f k/\f k<=B)->-((n:Int)*B)<=A0 n f/\A0 n f<=(n:Int)*B
 |0,_=>by simp [A0]
 | n+1,h=>by
  have O:=h n (qD2 n);have I:=gD (n:=n) λk hk=>h k (qE9 hk)
  show -(((n+1:Nat):Int)*B)<=f n-A0 n f/\f n-A0 n f<=((n+1:Nat):Int)*B;have e:((n+1:Nat):Int)*B=(n:Int)*B+B:=by
   rw[show ((n+1:Nat):Int)=(n:Int)+1 by omega,qL1,qK1]
  rw[e];omega
def mm:∀n:Nat,det n (λi p=>if i=p then 1 else 0)=1
 |0=>rfl
 | n+1=>by
  show (if n=n then (1:Int) else 0)*det n (λi p=>if skp n i=p then 1 else 0)-A0 n (λk=>(if k=n then (1:Int) else 0)*det n (λi p=>if skp k i=p then 1 else 0))=1;have I:det n (λi p=>if skp n i=p then (1:Int) else 0)=1:=by
   refine (N9 λi hi p O=>?_).trans (mm n);unfold skp;rw[qA2 hi]
  rw[qA2 rfl,I,cY]
  ·rfl
  ·intro k hk;rw[qA4 ox,qJ5]
def d8:Nat->(Nat->Int)->Int
 |0,_=>0
 |n+1,f=>d8 n f+f n
def i7:∀{n:Nat},(∀k,k<n->f k=g k)->d8 n f=d8 n g
 |0,_=>rfl
 | n+1,h=>by
  show d8 n f+f n=d8 n g+g n;rw[h n (qD2 n),i7 λk hk=>h k (qE9 hk)]
def o0 (a:Int) (f:Nat->Int):∀n:Nat,d8 n (λk=>a*f k)=a*d8 n f
 |0=>by simp [d8]
 | n+1=>by
  show d8 n (λk=>a*f k)+a*f n=a*(d8 n f+f n);rw[o0 a f n,Int.mul_add]
def E6 (f g:Nat->Int):∀n:Nat,d8 n (λk=>f k+g k)=d8 n f+d8 n g
 |0=>rfl
 | n+1=>by
  show d8 n (λk=>f k+g k)+(f n+g n)=d8 n f+f n+(d8 n g+g n);rw[E6 f g n];omega
def B6:∀{n:Nat},(∀k,k<n->f k=0)->d8 n f=0
 |0,_=>rfl
 | n+1,h=>by
  show d8 n f+f n=0;rw[h n (qD2 n),B6 λk hk=>h k (qE9 hk)];rfl
def V9:∀{n:Nat},r<n->(∀k,k<n->k≠r->f k=g k)->d8 n f=d8 n g+(f r-g r)
 |0,h,_=>absurd h (qE5 _)
 | n+1,h,e=>by
  show d8 n f+f n=d8 n g+g n+(f r-g r);by_cases q:r=n
  ·subst q;rw[i7 λk hk=>e k ox ox];omega
  ·rw[V9 (n:=n) ox λk hk=>e k ox,e n (qD2 n) ox];omega
def E5 (h:r<n) (e:∀k,k<n->k≠r->f k=0):d8 n f=f r:=by
 rw[V9 (g:=λ_=>0) h e,B6 λ_ _=>rfl];omega
def Y6 (f:Nat->Nat->Int) (m:Nat):∀n:Nat,d8 n (λi=>d8 m λj=>f i j)=d8 m λj=>d8 n λi=>f i j
 |0=>(B6 λ_ _=>rfl).symm
 | n+1=>by
  show d8 n (λi=>d8 m λj=>f i j)+d8 m (λj=>f n j)=d8 m λj=>(d8 n λi=>f i j)+f n j;rw[Y6 f m n,E6]
def ag:∀{n:Nat},(∀k,k<n->f k<=0)->d8 n f<=0
 |0,_=>qF3 0
 | n+1,h=>by
  have O:=h n (qD2 n);have I:=ag (n:=n) λk hk=>h k (qE9 hk)
  show d8 n f+f n<=0;omega
def vx (I:r<n) (h:∀k,k<n->f k<=0) (hn:f r<0):d8 n f<0:=by
 have O:=V9 (f:=f) (g:=λk=>if k=r then 0 else f k) I λk _ q=>by rw[qA4 q]
 have h2:d8 n (λk=>if k=r then 0 else f k)<=0:=ag λk hk=>by
  show (if k=r then 0 else f k)<=0
  split
  ·exact qF3 0
  ·exact h k hk
 rw[O];simp only [qA2];omega
def dE (hi:i<m) (v:Nat->Nat->Int) (a:Nat->Int) (x:Nat->Nat->Int):∀n:Nat,det m (upv v i λp=>d8 n λk=>a k*x k p)=d8 n λk=>a k*det m (upv v i (x k))
 | 0=>by
  show det m (upv v i λ_=>0)=0
  have:=N8 0 0 (λ_=>0) (λ_=>0) m v i hi
  simp only [qJ5,Int.add_zero]at this;exact this
 | n+1=>by
  show det m (upv v i λp=>(d8 n λk=>a k*x k p)+a n*x n p)=(d8 n λk=>a k*det m (upv v i (x k)))+a n*det m (upv v i (x n));rw[<- dE hi v a x n]
  have:=N8 1 (a n) (λp=>d8 n λk=>a k*x k p) (x n) m v i hi
  simp only [qK1]at this;exact this
structure Tab (m n:Nat) (A:Nat->Nat->Int) (c:Nat->Int) (h:Nat->Nat) (t:Nat->Nat->Int) (o:Nat->Int) (d:Int):Prop where
 dp:0<d
 hn:∀i,i<m->h i<n
 dd:d=det m λi=>A (h i)
 tt:∀i,i<m->∀j,j<n->t i j=det m (upv (λi=>A (h i)) i (A j))
 cr:∀j,j<n->∀p,p<m->d*A j p=d8 m λi=>t i j*A (h i) p
 oo:∀j,j<n->o j=d*c j-d8 m λi=>c (h i)*t i j
def hup (h:Nat->Nat)(r s:Nat):Nat->Nat:=λi=>if i=r then s else h i
def Tab.unit (T:Tab m n A c h t o d) (hi:i<m) (hk:k<m):t i (h k)=if i=k then d else 0:=by
 rw[T.tt i hi _ (T.hn k hk)];by_cases e:i=k
 ·subst e;rw[qA2 rfl,T.dd];exact congrArg (det m) (P6 (λi=>A (h i)) i)
 ·rw [qA4 e]
  exact iF hi hk (λq=>e q.symm) λi=>A (h i)
def Tab.ozero (T:Tab m n A c h t o d) (hk:k<m):o (h k)=0:=by
 rw[T.oo _ (T.hn k hk),E5 (r:=k) hk λi hi q=>by rw[T.unit hi hk,qA4 q,qI0],T.unit hk hk,qA2 rfl,qC9];omega
def qe {A:Nat->Nat->Int}:(λi=>A (hup h r s i))=upv (λi=>A (h i)) r (A s):=by
 funext i
 unfold hup upv;by_cases e:i=r
 ·rw[qA2 e,qA2 e]
 ·rw[qA4 e,qA4 e]
def Tab.step (T:Tab m n A c h t o d) (hr:r<m) (hs:s<n) (hi:i<m) (hj:j<n) (I:i≠r):d*det m (upv (λi=>A (hup h r s i)) i (A j))=t i j*t r s-t i s*t r j:=by
 rw[qe];obtain ⟨v,O⟩:∃v:Nat->Nat->Int,v=λi=>A (h i):=⟨_,rfl⟩;have e1:d*det m (upv (upv v r (A s)) i (A j))=det m (upv (upv v r (A s)) i λp=>d*A j p):=by
  have:=N8 d 0 (A j) (A j) m (upv v r (A s)) i hi
  simp only [qJ5,Int.add_zero]at this;exact this.symm
 have e2:det m (upv (upv v r (A s)) i λp=>d*A j p)=det m (upv (upv v r (A s)) i λp=>d8 m λk=>t k j*v k p):=by
  refine N9 λa ha p hp=>?_;unfold upv;by_cases q:a=i
  ·rw[qA2 q,qA2 q,T.cr j hj p hp,O]
  ·rw[qA4 q,qA4 q]
 rw[<- O,e1,e2,dE hi];have hd:det m (upv (upv v r (A s)) i (v i))=t r s:=by
  have:upv (upv v r (A s)) i (v i)=upv v r (A s):=by
   have:=P6 (upv v r (A s)) i
   rwa [L4 I]at this
  rw[this,T.tt r hr s hs,O]
 have a0:det m (upv (upv v r (A s)) i (v r)) =-t i s:=by
  rw[xD hi hr (λq=>I q.symm),T.tt i hi s hs,O]
 rw [V9 (r:=i) (g:=λk=>if k=r then t r j*(- t i s) else 0) hi λk hk q=>by
  show t k j*det m (upv (upv v r (A s)) i (v k))=if k=r then t r j*(- t i s) else 0
  by_cases q2:k=r
  ·rw[qA2 q2,q2,a0]
  ·rw [qA4 q2]
   have:=iF hi hk q (upv v r (A s))
   rw[L4 q2]at this;rw[this,qI0]]
 rw[E5 (r:=r) hr λk _ q=>qA4 q,hd];simp only [qA2,qA4 I];rw[qM7,qC9 (t r j)];omega
def Tab.inj (T:Tab m n A c h t o d) (hi:i<m) (hk:k<m) (e:h i=h k):i=k:=by
 have I:=T.unit hi hk;rw[<- e,T.unit hi hi,qA2 rfl]at I
 have:=T.dp
 by_cases q:i=k
 ·exact q
 ·rw[qA4 q]at I;omega
def Tab.pivot (T:Tab m n A c h t o d) (hr:r<m) (hs:s<n) (hp:0<t r s) (h1:∀j,j<n->t' r j=t r j) (h2:∀i,i<m->i≠r->∀j,j<n->d*t' i j=t i j*t r s-t i s*t r j) (h3:∀j,j<n->d*o' j=o j*t r s-o s*t r j):Tab m n A c (hup h r s) t' o' (t r s):=by
 have hd:=T.dp;have O:∀{x y:Int},d*x=d*y->x=y:=λe=>Int.eq_of_mul_eq_mul_left ox e;have a4:∀i,i≠r->hup h r s i=h i:=λi q=>qA4 q;have a3:hup h r s r=s:=qA2 rfl
 -- sums over the new lines, times d
 have a0:∀(j:Nat),j<n->∀g:Nat->Int,d*d8 m (λi=>g (hup h r s i)*t' i j)=t r s*d8 m (λi=>g (h i)*t i j)-t r j*d8 m (λi=>g (h i)*t i s)+d*(g s*t r j):=λj I g=>by
  rw [<- o0,V9 (r:=r) (g:=λi=>t r s*(g (h i)*t i j)+(- t r j)*(g (h i)*t i s)) hr λi hi q=>by
   show d*(g (hup h r s i)*t' i j)=t r s*(g (h i)*t i j)+(- t r j)*(g (h i)*t i s);rw[a4 i q,show d*(g (h i)*t' i j)=g (h i)*(d*t' i j) by rw[<- qD0,qC9 d,qD0],h2 i hi q j I,qL6,qL7,show t r s*(g (h i)*t i j)=g (h i)*(t i j*t r s) by rw[qC9 (t r s),qD0],show t r j*(g (h i)*t i s)=g (h i)*(t i s*t r j) by rw[qC9 (t r j),qD0]];omega]
  rw[E6,o0,o0,a3,h1 j I,qL7,qL7,show t r s*(g (h r)*t r j)=t r j*(g (h r)*t r s) by rw[qC9 (g (h r)) (t r j),<- qD0,qC9 (t r s),qD0,qC9 (t r s)]];omega
 exact {
  dp:=hp
  hn:=λi hi=>by
   by_cases q:i=r
   ·rw[q,a3];exact hs
   ·rw[a4 i q];exact T.hn i hi
  dd:=by rw[qe];exact T.tt r hr s hs
  tt:=λi hi j I=>by
   by_cases q:i=r
   ·subst q;rw[h1 j I,qe,yW];exact T.tt i hi j I
   ·refine O ?_;rw[h2 i hi q j I,T.step hr hs hi I q]
  cr:=λj I p hp=>by
   refine O ?_;have e1:=a0 j I λa=>A a p;have e2:d8 m (λi=>A (h i) p*t i j)=d*A j p:=by
    rw[T.cr j I p hp];exact i7 λi _=>qC9 _ _
   have e3:d8 m (λi=>A (h i) p*t i s)=d*A s p:=by
    rw[T.cr s hs p hp];exact i7 λi _=>qC9 _ _
   have e4:d8 m (λi=>t' i j*A (hup h r s i) p)=d8 m (λi=>A (hup h r s i) p*t' i j):=i7 λi _=>qC9 _ _;rw[e4,e1,e2,e3,show t r j*(d*A s p)=d*(A s p*t r j) by rw[qC9 (t r j),qD0],show d*(t r s*A j p)=t r s*(d*A j p) by rw[<- qD0,qC9 d,qD0]];omega
  oo:=λj I=>by
   refine O ?_;have e1:=a0 j I c;have e2:d8 m (λi=>c (h i)*t i j)=d*c j-o j:=by rw[T.oo j I];omega
   have e3:d8 m (λi=>c (h i)*t i s)=d*c s-o s:=by rw[T.oo s hs];omega
   rw[h3 j I,qL6,e1,e2,e3,qL6,qL6,show t r j*(d*c s)=d*(c s*t r j) by rw[qC9 (t r j),qD0],show d*(t r s*c j)=t r s*(d*c j) by rw[<- qD0,qC9 d,qD0],qC9 (o j),qC9 (o s)];omega }
def Tab.ker (T:Tab m n A c h t o d){y:Nat->Int}(hy:∀p,p<m->d8 n (λj=>y j*A j p)=0):d8 n (λj=>o j*y j)=d*d8 n (λj=>c j*y j):=by
 have hz:∀i,i<m->d8 n (λj=>y j*t i j)=0:=λi hi=>by
  have e:d8 n (λj=>y j*t i j)=d8 n (λj=>y j*det m (upv (λi=>A (h i)) i (A j))):=i7 λj I=>by rw[T.tt i hi j I]
  rw[e,<- dE hi];have e2:det m (upv (λi=>A (h i)) i λp=>d8 n λk=>y k*A k p)=det m (upv (λi=>A (h i)) i λp=>0*(0:Int)+0*0):=N9 λa _ p O=>by
   unfold upv;by_cases q:a=i
   ·rw[qA2 q,qA2 q,hy p O];rfl
   ·rw[qA4 q,qA4 q]
  rw[e2,N8 0 0 (λ_=>0) (λ_=>0) m _ i hi,qJ5];rfl
 have e:d8 n (λj=>o j*y j)=d8 n (λj=>d*(c j*y j)+(-1)*d8 m (λi=>c (h i)*(y j*t i j))):=i7 λj I=>by
  show o j*y j=_;rw[T.oo j I,Int.sub_mul,qD0,qC9 (d8 m _),<- o0,show d8 m (λk=>y j*(c (h k)*t k j))=d8 m (λi=>c (h i)*(y j*t i j)) from i7 λi _=>by rw[<- qD0,qC9 (y j),qD0]];omega
 have e3:d8 m (λi=>d8 n λj=>c (h i)*(y j*t i j))=0:=B6 λi hi=>by
  show d8 n (λj=>c (h i)*(y j*t i j))=0;rw[o0,hz i hi,qI0]
 rw[e,E6,o0,o0,Y6,e3];omega
def n6 (m:Nat)(h:Nat->Nat)(t:Nat->Nat->Int) (d:Int)(s j:Nat):Int:=(if j=s then d else 0)+(-1)*d8 m λi=>if h i=j then t i s else 0
def Tab.dirSum (T:Tab m n A c h t o d) (I:s<n) (g:Nat->Int):d8 n (λj=>g j*n6 m h t d s j)=g s*d-d8 m λi=>g (h i)*t i s:=by
 have e:d8 n (λj=>g j*n6 m h t d s j)=d8 n (λj=>g j*(if j=s then d else 0)+(-1)*d8 m λi=>g j*(if h i=j then t i s else 0)):=i7 λj _=>by
  unfold n6;rw[Int.mul_add,o0,<- qD0,qC9 (g j) (-1),qD0]
 rw[e,E6,o0,Y6,E5 (r:=s) I λj _ q=>by rw[qA4 q,qI0],qA2 rfl];have O:d8 m (λi=>d8 n λj=>g j*(if h i=j then t i s else 0))=d8 m λi=>g (h i)*t i s:=i7 λi hi=>by
  rw[E5 (r:=h i) (T.hn i hi) λj _ q=>by rw[qA4 (λz=>q z.symm),qI0],qA2 rfl]
 rw[O];omega
def Tab.dirKer (T:Tab m n A c h t o d) (I:s<n):∀p,p<m->d8 n (λj=>n6 m h t d s j*A j p)=0:=λp O=>by
 have e:d8 n (λj=>n6 m h t d s j*A j p)=d8 n (λj=>A j p*n6 m h t d s j):=i7 λj _=>qC9 _ _;rw[e,T.dirSum I λj=>A j p,qC9,T.cr s I p O,i7 (g:=λi=>t i s*A (h i) p) λi _=>qC9 _ _];omega
def Tab.dirO (T:Tab m n A c h t o d) (I:s<n):d8 n (λj=>c j*n6 m h t d s j)=o s:=by
 rw[T.dirSum I c,T.oo s I,qC9]
def Tab.dirB (T:Tab m n A c h t o d) (hi:i<m) (I:h i≠s):n6 m h t d s (h i) =-t i s:=by
 unfold n6;rw[qA4 I,E5 (r:=i) hi λk hk q=>qA4 λe=>q (T.inj hk hi e),qA2 rfl];omega
def Tab.dirN (O:∀i,i<m->h i≠j) (I:j≠s):n6 m h t d s j=0:=by
 unfold n6;rw[qA4 I,B6 λi hi=>qA4 (O i hi)];rfl
def Tab.dirS (I:∀i,i<m->h i≠s):n6 m h t d s s=d:=by
 unfold n6;rw[qA2 rfl,B6 λi hi=>qA4 (I i hi)];omega
structure TB (m n:Nat) (A:Nat->Nat->Int) (c:Nat->Int) where
 h:Nat->Nat
 t:Nat->Nat->Int
 o:Nat->Int
 d:Int
 ok:Tab m n A c h t o d
def Bas {m n:Nat}{A:Nat->Nat->Int}{c:Nat->Int}(S:TB m n A c)(j:Nat):Prop:=∃i,i<m/\S.h i=j
structure Mv_ {m n:Nat}{A:Nat->Nat->Int}{c:Nat->Int}(S S':TB m n A c) (e l:Nat):Prop where
 en:e<n
 eo:0<S.o e
 el:∀j,j<e->S.o j<=0
 lv:∃r,r<m/\S.h r=l/\0<S.t r e/\(∀i,i<m->0<S.t i e->l<=S.h i)/\S'.h=hup S.h r e
def Mv_.nb {S:TB m n A c}(M:Mv_ S S' e l):¬ Bas S e:=λI=>by
 obtain ⟨i,hi,q⟩:=I
 have:=S.ok.ozero hi
 rw[q]at this
 have:=M.eo
 omega
def Mv_.lb {S:TB m n A c}(M:Mv_ S S' e l):Bas S l:=by
 obtain ⟨r,I,q,_⟩:=M.lv;exact ⟨r,I,q⟩
def Mv_.bas {S:TB m n A c}(M:Mv_ S S' e l) (j:Nat):Bas S' j↔j=e\/(Bas S j/\j≠l):=by
 obtain ⟨r,O,q,_,_,hh⟩:=M.lv;constructor
 ·rintro ⟨i,hi,I⟩;rw[hh]at I;unfold hup at I;by_cases z:i=r
  ·rw[qA2 z]at I;exact .inl I.symm
  ·rw [qA4 z]at I
   refine .inr ⟨⟨i,hi,I⟩,λw=>z (S.ok.inj hi O (by rw[I,q,w]))⟩
 ·rintro (I|⟨⟨i,hi,I⟩,e2⟩)
  ·exact ⟨r,O,by rw[hh,I];exact qA2 rfl⟩
  ·refine ⟨i,hi,?_⟩;rw[hh];unfold hup;rw[qA4 (λz=>e2 (by rw[<- I,z,q]))];exact I
def IV {O a6 I a5:TB m n A c}(M1:Mv_ O a6 q l1) (M2:Mv_ I a5 s q) (a7:s<q) (hup:∀j,q<j->j<n->Bas I j->Bas O j):False:=by
 obtain ⟨r,hr,a8,a4,a3,_⟩:=M2.lv;have hs:=M2.en;have nb:=M2.nb;have hq:=M1.en;have k1:=O.ok.ker (I.ok.dirKer hs);rw[I.ok.dirO hs]at k1;have b0:0<O.d*I.o s:=Int.mul_pos O.ok.dp M2.eo;have ab:d8 n (λj=>O.o j*n6 m I.h I.t I.d s j)<0:=by
  have a0:n6 m I.h I.t I.d s q =-I.t r s:=by
   have:=I.ok.dirB (s:=s) hr ox
   rwa [a8]at this
  refine vx hq (λj hj=>?_) ?_
  ·show O.o j*n6 m I.h I.t I.d s j<=0;by_cases j1:j=s
   ·subst j1;rw[Tab.dirS λi hi e=>nb ⟨i,hi,e⟩];exact Int.mul_nonpos_of_nonpos_of_nonneg (M1.el j a7) (by have:=I.ok.dp;omega)
   ·by_cases j2:Bas I j
    ·obtain ⟨i,hi,ei⟩:=j2;have hy:=I.ok.dirB (s:=s) hi ox;rw[ei]at hy;rcases qO2 j q with z|z|z
     ·have h1:=M1.el j z;have h2:¬ 0<I.t i s:=λw=>by have:=a3 i hi w;omega
      rw[hy];exact Int.mul_nonpos_of_nonpos_of_nonneg h1 ox
     ·subst z;rw[a0];exact Int.mul_nonpos_of_nonneg_of_nonpos (by have:=M1.eo;omega) ox
     ·obtain ⟨i1,a9,e1⟩:=hup j z hj ⟨i,hi,ei⟩;rw[<- e1,O.ok.ozero a9,qJ5];exact qF3 0
    ·rw [Tab.dirN (λi hi e=>j2 ⟨i,hi,e⟩) j1,qI0]
     exact qF3 0
  ·show O.o q*n6 m I.h I.t I.d s q<0;rw[a0,qM7]
   have:=Int.mul_pos M1.eo a4
   omega
 omega
def DV (q:Nat):2^(q+1)=2*2^q:=by rw[Nat.pow_succ,Nat.mul_comm]
def df (S:Nat->TB m n A c) (e l:Nat->Nat):∀(q a b:Nat),a<=b->(∀i,a<=i->i<b->Mv_ (S i) (S (i+1)) (e i) (l i)/\e i<q/\l i<q)->b-a<2^q
 | 0,a,b,hab,h=>by
  by_cases z:a<b
  ·have:=(h a (qB5 a) z).2.1
   omega
  ·simp;omega
 | q+1,a,b,hab,h=>by
  -- what stands above q stays
  have stay:∀j,q<j->∀k,a<=k->k<=b->(Bas (S k) j↔Bas (S a) j):=λj hj k=>by
   induction k with
   | zero=>
    intro h1 _
    have:a=0:=ox
    rw[this]
   | succ k ih=>
    intro h1 h2;by_cases z:a=k+1
    ·rw[z]
    ·obtain ⟨M,m1,m2⟩:=h k ox ox;rw[M.bas j,<- ih ox ox];constructor
     ·rintro (w|w)
      ·omega
      ·exact w.1
     ·exact λw=>.inr ⟨w,ox⟩
  have a0:∀i k,a<=i->i<b->a<=k->k<b->e i=q->l k=q->False:=λi k I i2 k1 k2 hi hk=>by
   obtain ⟨Mi,_,_⟩:=h i I i2;obtain ⟨Mk,mk,_⟩:=h k k1 k2;rw[hi]at Mi;rw[hk]at Mk;have a8:e k≠q:=λw=>Mk.nb (by rw[w];exact Mk.lb);exact IV Mi Mk ox λj hj _ hb=>(stay j hj i I ox).mpr ((stay j hj k k1 ox).mp hb)
  by_cases a5:∃i,a<=i/\i<b/\(e i=q\/l i=q)
  ·have a4:∀i k,a<=i->i<k->k<b->(e i=q\/l i=q)->(e k=q\/l k=q)->False:=λi k I ik kb hi hk=>by
    obtain ⟨Mi,_,_⟩:=h i I ox;obtain ⟨Mk,_,_⟩:=h k ox kb;rcases hi with hi|hi
    ·have a7:∀x,a<=x->x<b->l x≠q:=λx x1 O w=>a0 i x I ox x1 O hi w;have a3:∀x,i+1<=x->x<=b->Bas (S x) q:=λx=>by
      induction x with
      |zero=>intro w;omega
      | succ x ih=>
       intro x1 O;obtain ⟨M,_,_⟩:=h x ox ox;by_cases z:x=i
       ·subst z;exact (M.bas q).mpr (.inl hi.symm)
       ·exact (M.bas q).mpr (.inr ⟨ih ox ox,λw=>a7 x ox ox w.symm⟩)
     rcases hk with hk|hk
     ·exact Mk.nb (by rw[hk];exact a3 k ox ox)
     ·exact a7 k ox kb hk
    ·have a6:∀x,a<=x->x<b->e x≠q:=λx x1 O w=>a0 x i x1 O I ox w hi;have a3:∀x,i+1<=x->x<=b->¬ Bas (S x) q:=λx=>by
      induction x with
      |zero=>intro w;omega
      | succ x ih=>
       intro x1 O hb;obtain ⟨M,_,_⟩:=h x ox ox;rcases (M.bas q).mp hb with w|w
       ·exact a6 x ox ox w.symm
       ·by_cases z:x=i
        ·subst z;exact w.2 hi.symm
        ·exact ih ox ox w.1
     rcases hk with hk|hk
     ·exact a6 k ox kb hk
     ·exact a3 k ox ox (by rw[<- hk];exact Mk.lb)
   obtain ⟨i,I,i2,hi⟩:=a5;have h1:=df S e l q a i I λx x1 O=>⟨(h x x1 ox).1,by
    have:=(h x x1 ox).2.1
    have:e x≠q:=λw=>a4 x i x1 O i2 (.inl w) hi
    omega,by
    have:=(h x x1 ox).2.2
    have:l x≠q:=λw=>a4 x i x1 O i2 (.inr w) hi
    omega⟩
   have h2:=df S e l q (i+1) b ox λx x1 O=>⟨(h x ox O).1,by
    have:=(h x ox O).2.1
    have:e x≠q:=λw=>a4 i x I ox O hi (.inl w)
    omega,by
    have:=(h x ox O).2.2
    have:l x≠q:=λw=>a4 i x I ox O hi (.inr w)
    omega⟩
   rw[DV];omega
  ·have:=df S e l q a b hab λi I i2=>⟨(h i I i2).1,by
    have:=(h i I i2).2.1
    have:e i≠q:=λw=>a5 ⟨i,I,i2,.inl w⟩
    omega,by
    have:=(h i I i2).2.2
    have:l i≠q:=λw=>a5 ⟨i,I,i2,.inr w⟩
    omega⟩
   rw[DV];omega
def vJ (S:Nat->TB m n A c) (e l:Nat->Nat) (L:Nat) (h:∀i,i<L->Mv_ (S i) (S (i+1)) (e i) (l i)):L<2^n:=by
 have:=df S e l n 0 L (qD1 _) λi _ hi=>⟨h i hi,(h i hi).en,by
  obtain ⟨r,I,q,_⟩:=(h i hi).lv;rw[<- q];exact (S i).ok.hn r I⟩
 omega
def aU (f:Nat->Int) (k:Nat):∀m:Nat,d8 (k+m) f=d8 k f+d8 m λq=>f (k+q)
 |0=>by show d8 k f=d8 k f+0;omega
 | m+1=>by
  show d8 (k+m) f+f (k+m)=d8 k f+((d8 m λq=>f (k+q))+f (k+m));rw[aU f k m];omega
structure Cols (k m pl:Nat) (st:Nat->Nat->Int) (A:Nat->Nat->Int) (c:Nat->Int):Prop where
 am:∀j,j<k->∀p,p<m->A j p =-st j p
 au:∀q,q<m->∀p,p<m->A (k+q) p=if q=p then 1 else 0
 cm:∀j,j<k->c j=st j pl
 cu:∀q,q<m->c (k+q)=0
def Cols.comb (C:Cols k m pl st A c) (x:Nat->Int) (I:p<m):x p=d8 m λq=>x q*A (k+q) p:=by
 rw[E5 (r:=p) I λq O z=>by rw[C.au q O p I,qA4 z,qI0],C.au p I p I,qA2 rfl,Int.mul_one]
def Cols.detc (C:Cols k m pl st A c) (hi:i<m) (v:Nat->Nat->Int) (x:Nat->Int):det m (upv v i x)=d8 m λq=>x q*det m (upv v i (A (k+q))):=by
 rw[<- dE hi v x λq=>A (k+q)];refine N9 λa _ p I=>?_;unfold upv;by_cases z:a=i
 ·rw[qA2 z,qA2 z];exact C.comb x I
 ·rw[qA4 z,qA4 z]
def Cols.det1 (C:Cols k m pl st A c):det m (λi=>A (k+i))=1:=(N9 λi hi p I=>C.au i hi p I).trans (mm m)
def Cols.first (C:Cols k m pl st A c):Tab m (k+m) A c (λi=>k+i) (λi j=>A j i) c 1 where
 dp:=Qz
 hn i hi:=ox
 dd:=C.det1.symm
 tt i hi j hj:=by
  rw [C.detc hi,E5 (r:=i) hi λq I z=>by
   have:=iF hi I z λi=>A (k+i)
   rw[this,qI0]]
  have:=P6 (λi=>A (k+i)) i
  have e:upv (λi=>A (k+i)) i (A (k+i))=λi=>A (k+i):=this;rw[e,C.det1,Int.mul_one]
 cr j hj p hp:=by rw[qK1];exact C.comb (A j) hp
 oo j hj:=by
  rw[qK1,B6 λi hi=>by rw[C.cu i hi,qJ5]];omega
def Cols.weights (C:Cols k m pl st A c) (T:Tab m (k+m) A c h t o d) (O:pl<m) (hj:j<k):d8 m (λp=>(- o (k+p)+d*(if p=pl then 1 else 0))*st j p)=o j:=by
 have ho:∀q,q<m ->-o (k+q)=d8 m λi=>c (h i)*t i (k+q):=λq I=>by
  rw[T.oo (k+q) ox,C.cu q I,qI0];omega
 have ht:∀i,i<m->t i j=d8 m λq=>(- st j q)*t i (k+q):=λi hi=>by
  rw[T.tt i hi j ox,C.detc hi];exact i7 λq I=>by rw[C.am j hj q I,T.tt i hi (k+q) ox]
 have e1:d8 m (λp=>(- o (k+p)+d*(if p=pl then 1 else 0))*st j p)=d8 m (λp=>st j p*(d8 m λi=>c (h i)*t i (k+p))+d*((if p=pl then 1 else 0)*st j p)):=i7 λp hp=>by
  rw[ho p hp,qL1,qC9 (d8 m _),qD0]
 have e2:d8 m (λp=>st j p*(d8 m λi=>c (h i)*t i (k+p))) =-d8 m (λi=>c (h i)*t i j):=by
  have:d8 m (λi=>c (h i)*t i j)=d8 m (λi=>d8 m λp=>(-1)*(st j p*(c (h i)*t i (k+p)))):=i7 λi hi=>by
   rw[ht i hi,<- o0];exact i7 λq _=>by
    rw[qL7,qM7,qL7,qK1,<- qD0,<- qD0,qC9 (c (h i))]
  rw[this,Y6]
  have:d8 m (λp=>d8 m λi=>(-1)*(st j p*(c (h i)*t i (k+p))))=d8 m (λp=>(-1)*(st j p*d8 m λi=>c (h i)*t i (k+p))):=i7 λp _=>by
   rw[o0,o0]
  rw[this,o0];omega
 have e3:d8 m (λp=>(if p=pl then 1 else 0)*st j p)=st j pl:=by
  rw[E5 (r:=pl) O λp _ z=>by rw[qA4 z,qJ5],qA2 rfl,qK1]
 rw[e1,E6,o0,e2,e3,T.oo j ox,C.cm j hj];omega
def Cols.bag (C:Cols k m pl st A c) (T:Tab m (k+m) A c h t o d) (hs:s<k+m):(∀p,p<m->d8 k (λj=>n6 m h t d s j*st j p)=n6 m h t d s (k+p))/\d8 k (λj=>n6 m h t d s j*st j pl)=o s:=by
 refine ⟨λp I=>?_,?_⟩
 ·have e:=T.dirKer hs p I;rw[aU,E5 (r:=p) I λq O z=>by rw[C.au q O p I,qA4 z,qI0],C.au p I p I,qA2 rfl,Int.mul_one]at e;have e2:d8 k (λj=>n6 m h t d s j*A j p)=(-1)*d8 k (λj=>n6 m h t d s j*st j p):=by
   rw[<- o0];exact i7 λj hj=>by rw[C.am j hj p I,qM7,qL7,qK1]
  rw[e2]at e;omega
 ·have e:=T.dirO hs;rw[aU,B6 (n:=m) λq O=>by rw[C.cu q O,qJ5]]at e;rw[<- e,Int.add_zero];exact i7 λj hj=>by rw[C.cm j hj,qC9]
def Tab.dirP (T:Tab m n A c h t o d) (O:0<o s) (hn:∀i,i<m->t i s<=0) (j:Nat):0<=n6 m h t d s j:=by
 have nb:∀i,i<m->h i≠s:=λi hi e=>by
  have:=T.ozero hi
  rw[e]at this;omega
 by_cases js:j=s
 ·subst js;rw[Tab.dirS nb]
  have:=T.dp
  omega
 ·by_cases I:∃i,i<m/\h i=j
  ·obtain ⟨i,hi,e⟩:=I
   have:=T.dirB (s:=s) hi (nb i hi)
   rw[e]at this
   have:=hn i hi
   omega
  ·rw [Tab.dirN (λi hi e=>I ⟨i,hi,e⟩) js]
   exact qF3 0
def dB (M:Int):Nat->Int
 |0=>1
 |n+1=>((n+1:Nat):Int)*(M*dB M n)
def iN (h1:-A<=a/\a<=A) (h2:-B<=b/\b<=B):-(A*B)<=a*b/\a*b<=A*B:=by
 have O:a.natAbs<=A.natAbs:=ox;have I:b.natAbs<=B.natAbs:=ox;have h:=Nat.mul_le_mul O I;rw[<- Int.natAbs_mul,<- Int.natAbs_mul]at h;have hp:0<=A*B:=qH6 ox ox;omega
def cR (I:0<=M):∀(n:Nat) (v:Nat->Nat->Int),(∀i,i<n->∀p,p<n->-M<=v i p/\v i p<=M)->-dB M n<=det n v/\det n v<=dB M n
 |0,_,_=>by show -(1:Int)<=1/\(1:Int)<=1;omega
 | n+1,v,h=>by
  have:=gD (B:=M*dB M n) (n:=n+1) (f:=λk=>v k n*det n λi=>v (skp k i)) λk hk=>iN (h k hk n (qD2 n)) (cR I n _ λi hi p O=>h (skp k i) (rL hi) p ox)
  exact this
def fG:∀{n:Nat},(∀k,k<n->-B<=f k/\f k<=B)->-((n:Int)*B)<=d8 n f/\d8 n f<=(n:Int)*B
 |0,_=>by show -(((0:Nat):Int)*B)<=0/\(0:Int)<=((0:Nat):Int)*B;simp
 | n+1,h=>by
  have ih:=fG λk hk=>h k (qE9 hk);have O:=h n (qD2 n);have e:((n+1:Nat):Int)*B=(n:Int)*B+B:=by rw[Int.natCast_succ,qL1,qK1]
  have I:d8 (n+1) f=d8 n f+f n:=rfl;rw[e,I];omega
abbrev mM:Int:=2000000000
def dB6 (h:m<=6):dB mM m<=2^197:=by
 have:m=0\/m=1\/m=2\/m=3\/m=4\/m=5\/m=6:=ox
 rcases this with rfl|rfl|rfl|rfl|rfl|rfl|rfl <;> decide
def Tab.bt (T:Tab m n A c h t o d) (hm:m<=6) (hA:∀j,j<n->∀p,p<m->-mM<=A j p/\A j p<=mM):∀i,i<m->∀j,j<n->-(2^197)<=t i j/\t i j<=2^197:=λi hi j I=>by
 have:=cR (M:=mM) Qz m (upv (λi=>A (h i)) i (A j)) λk hk p O=>by
  by_cases e:k=i
  ·subst e;rw[R8];exact hA j I p O
  ·rw[L4 e];exact hA _ (T.hn k hk) p O
 rw[<- T.tt i hi j I]at this
 have:=dB6 hm
 omega
def Tab.bd (T:Tab m n A c h t o d) (hm:m<=6) (O:∀j,j<n->∀p,p<m->-mM<=A j p/\A j p<=mM):d<=2^197:=by
 have:=cR (M:=mM) Qz m (λi=>A (h i)) λk hk p I=>O _ (T.hn k hk) p I
 rw[<- T.dd]at this
 have:=dB6 hm
 omega
def Tab.bo (T:Tab m n A c h t o d) (hm:m<=6) (O:∀j,j<n->∀p,p<m->-mM<=A j p/\A j p<=mM) (hc:∀j,j<n->-mM<=c j/\c j<=mM):∀j,j<n->-(2^240)<=o j/\o j<=2^240:=λj I=>by
 have b1:=iN (a:=d) (A:=2^197) ⟨by have:=T.dp;omega,T.bd hm O⟩ (hc j I);have b2:=fG (f:=λi=>c (h i)*t i j) (B:=mM*2^197) (n:=m) λi hi=>iN (hc _ (T.hn i hi)) (T.bt hm O i hi j I);have e:(m:Int)*(mM*2^197)<=6*(mM*2^197):=qG7 ox Qz;rw[T.oo j I];have k1:(2:Int)^197*mM+6*(mM*2^197)<=2^240:=Qz;omega
structure Lv (m:Nat) (h:Nat->Nat) (t:Nat->Nat->Int) (s r:Nat):Prop where
 lt:r<m
 pos:0<t r s
 least:∀i,i<m->0<t i s->h r<=h i
inductive Run {m n:Nat}{A:Nat->Nat->Int}{c:Nat->Int}(S0:TB m n A c):Nat->TB m n A c->Prop where
 |zero:Run S0 0 S0
 |succ {L:Nat}{S S':TB m n A c}{e l:Nat}:Run S0 L S->Mv_ S S' e l->Run S0 (L+1) S'
def Run.seq:∀{L:Nat}{S:TB m n A c},Run S0 L S->∃(F:Nat->TB m n A c) (e l:Nat->Nat),F L=S/\∀i,i<L->Mv_ (F i) (F (i+1)) (e i) (l i)
 |_,_,.zero=>⟨λ_=>S0,λ_=>0,λ_=>0,rfl,λi hi=>absurd hi (qE5 _)⟩
 | _,_,.succ (L:=L) (S:=S) (S':=S') (e:=e) (l:=l) r mv=>by
  obtain ⟨F,es,ls,O,I⟩:=r.seq;refine ⟨λi=>if i<=L then F i else S',λi=>if i<L then es i else e,λi=>if i<L then ls i else l,qA4 ox,λi hi=>?_⟩;by_cases q:i<L
  ·dsimp only;rw[qA2 ox,qA2 ox,qA2 q,qA2 q];exact I i q
  ·have:i=L:=ox
   subst this;dsimp only;rw[qA2 (qB5 _),qA4 ox,qA4 (qE2 _),qA4 (qE2 _),O];exact mv
def Run.lt {S0:TB m n A c}(r:Run S0 L S):L<2^n:=by
 obtain ⟨F,e,l,_,h⟩:=r.seq;exact vJ F e l L h
abbrev vec (n:Nat)(f:Nat->Int):List Int:=(List.range n).map f
def n5 (n:Nat)(f:Nat->Int):(vec n f).length=n:=by simp [vec]
def dc (k m:Nat) (f:Nat->Int):vec (k+m) f=vec k f++vec m λq=>f (k+q):=by
 unfold vec;rw[List.range_add,qC3,qB9];rfl
abbrev w9 (m n:Nat)(t:Nat->Nat->Int)(o:Nat->Int):List (List Int):=(List.range m).map (λi=>vec n (t i)) ++ [vec n o]
def vL (m n:Nat)(t:Nat->Nat->Int)(o:Nat->Int):(w9 m n t o).length=m+1:=Qy
def bY (h:i<m):L2.atI ((w9 m n t o).map tI) (i:Int)=some (tI (vec n (t i))):=A6 (by
 rw[qA7,qD6 (by simpa using h),qA7,qF2 h];rfl)
def iU (m n:Nat) (t:Nat->Nat->Int) (o:Nat->Int):L2.atI ((w9 m n t o).map tI) (-1)=some (tI (vec n o)):=by
 unfold L2.atI
 have:L2.ixN ((w9 m n t o).map tI).length (-1)=some m:=by
  unfold L2.ixN;rw[qA6,vL];simp;omega
 rw[this]
 show ((w9 m n t o).map tI)[m]?=_;simp
def nB {p m:Nat}(hm:m<=6):gi [.int (p:Int),.int (m:Int)]=.ok (tI (vec m λq=>if q=p then 1 else 0)):=by
 have e:∀N mg me ρ (h:∀k∈List.range m,∃I,mg (.int (k:Nat)) (ρ++List.replicate (N-ρ.length) Sl.un)=some I/\me I=.ok (.int (if k=p then 1 else 0))),k7 N mg yes me ((List.range m).map λk=>W.int (k:Nat)) ρ=.ok (lI (vec m λq=>if q=p then 1 else 0)):=λN mg me ρ h=>by
  rw[i5 (λk=>W.int (if k=p then 1 else 0)) _ _ ρ (by simp;omega) h,Q6]
 exists rpB,tw;rw[e]
 ·exists rp18
 ·intro k hk;refine ⟨_,rfl,?_⟩;by_cases q:k=p
  ·have O:decide ((k:Int)=(p:Int))=true:=qO8 ox;exists aL,O;rw[qA2 q]
  ·have O:decide ((k:Int)=(p:Int))=false:=qO7 ox;exists aL,O;rw[qA4 q]
def stM (ms:List Mv)(j p:Nat):Int:=(ms.getD j ([],[])).2.getD p 0-(ms.getD j ([],[])).1.getD p 0
def cA (ms:List Mv)(j p:Nat):Int:=if j<ms.length then-stM ms j p else if j-ms.length=p then 1 else 0
def cC (ms:List Mv)(pl j:Nat):Int:=if j<ms.length then stM ms j pl else 0
def IB (ms:List Mv) (m pl:Nat):Cols ms.length m pl (stM ms) (cA ms) (cC ms pl) where
 am j hj p _:=qA2 hj
 au q _ p _:=by
  unfold cA;rw[qA4 ox,Nat.add_sub_cancel_left]
 cm j hj:=qA2 hj
 cu q _:=qA4 ox
def lX (h:xs.length+ys.length<=1000):fCatT (tI xs) (tI ys)=.ok (tI (xs++ys)):=by
 show (if _ then _ else _)=_;rw[qA2 ⟨by simpa using h,A2 xs,A2 ys⟩,<- qC3]
def Ex (ms:List Mv) (f:Mv->List Int):ms.map f=(List.range ms.length).map λj=>f (ms.getD j ([],[])):=by
 apply qG0
 ·simp
 ·intro i I O
  have:i<ms.length:=by simpa using I
  simp [qA0,this]
def xv (h1:1<=m) (h6:m<=6) (a0:∀x∈ms,okN m x) (h8:ms.length<=8) (a3:pl<m):M7 [tM_ ms,.int (pl:Int),.int (m:Int)]=.ok (lS (w9 m (ms.length+m) (λi j=>cA ms j i) (cC ms pl))):=by
 generalize hk:ms.length=k at h8
 have e1:∀N mg me ρ (h:∀x∈ms,∃I,mg (mW x) (ρ++List.replicate (N-ρ.length) Sl.un)=some I/\me I=.ok (tI (vec m λp=>x.2.getD p 0-x.1.getD p 0))),k7 N mg yes me (ms.map mW) ρ=.ok (.lst ((List.range k).map λj=>tI (vec m (stM ms j)))):=λN mg me ρ h=>by
  rw[i5 (λx=>tI (vec m λp=>x.2.getD p 0-x.1.getD p 0)) _ _ ρ ox h]
  have:=Ex ms λx=>vec m λp=>x.2.getD p 0-x.1.getD p 0
  rw[show (ms.map λx=>tI (vec m λp=>x.2.getD p 0-x.1.getD p 0))=(ms.map λx=>vec m λp=>x.2.getD p 0-x.1.getD p 0).map tI by rw[qB9];rfl,this,qB9,hk];rfl
 have e2:∀N mg me ρ (f:Nat->List Int) (h:∀i∈List.range m,∃I,mg (.int (i:Nat)) (ρ++List.replicate (N-ρ.length) Sl.un)=some I/\me I=.ok (tI (f i))),k7 N mg yes me ((List.range m).map λi=>W.int (i:Nat)) ρ=.ok (.lst ((List.range m).map λi=>tI (f i))):=λN mg me ρ f h=>i5 (λi=>tI (f i)) _ _ ρ (by simp;omega) h;have e3:∀N mg me ρ (f:Nat->Int) (h:∀j∈List.range k,∃I,mg (tI (vec m (stM ms j))) (ρ++List.replicate (N-ρ.length) Sl.un)=some I/\me I=.ok (.int (f j))),k7 N mg yes me ((List.range k).map λj=>tI (vec m (stM ms j))) ρ=.ok (lI (vec k f)):=λN mg me ρ f h=>by
  rw[i5 (λj=>W.int (f j)) _ _ ρ (by simp;omega) h,Q6]
 have fr:fRepT (.tup [.int 0]) (.int (m:Int))=.ok (tI (vec m λ_=>0)):=by
  show (if _ then _ else _)=_;rw[qA2 ⟨Qy,by simp;omega,ox,ox⟩,qD9]
  have:(List.replicate m [W.int 0]).flatten=(vec m λ_=>0).map W.int:=by
   clear a3 h1 h6 a0 e1 e2 e3
   induction m with
   |zero=>rfl
   | succ m ih=>
    rw[qE4,qG5,ih];unfold vec;rw[qT2,qC1,qC1,qB9,qB9,qB9];rfl
  rw[this]
 exists rpB,bK;rw[e1];rotate_left
 ·intro x hx;have k1:=cU h6 (a0 x hx);refine ⟨_,rfl,?_⟩;exists k1
 exists rp18;rw[e2 _ _ _ _ λi=>vec (k+m) λj=>cA ms j i];rotate_left
 ·intro i hi;have hi:i<m:=by simpa using hi
  have ku:=nB (p:=i) h6;have O:=lX (xs:=vec k λj =>-stM ms j i) (ys:=vec m λq=>if q=i then 1 else 0) (by simp;omega);have ev:(vec k λj =>-stM ms j i)++(vec m λq=>if q=i then 1 else 0)=vec (k+m) λj=>cA ms j i:=by
   rw[dc];congr 1
   ·refine qF1 λj hj=>?_
    have:j<k:=by simpa using hj
    unfold cA;rw[hk,qA2 this]
   ·refine qF1 λq _=>?_;unfold cA;rw[hk,qA4 (show ¬ (k+q<k) by omega),Nat.add_sub_cancel_left]
  rw[ev]at O;refine ⟨_,rfl,?_⟩;exists rp18;rw[e3 _ _ _ _ λj =>-stM ms j i]
  ·exists ku,O
  ·intro j hj;have a1:L2.atI ((vec m (stM ms j)).map W.int) (i:Int)=some (.int (stM ms j i)):=by
    have:=A6 (ws:=(vec m (stM ms j)).map W.int) (k:=i) (w:=.int (stM ms j i)) (by rw[qA7,qA7,qF2 hi];rfl)
    exact this
   refine ⟨_,rfl,?_⟩;exists a1
 exists rp18;rw[e3 _ _ _ _ λj=>stM ms j pl];rotate_left
 ·intro j hj;have a1:L2.atI ((vec m (stM ms j)).map W.int) (pl:Int)=some (.int (stM ms j pl)):=by
   have:=A6 (ws:=(vec m (stM ms j)).map W.int) (k:=pl) (w:=.int (stM ms j pl)) (by rw[qA7,qA7,qF2 a3];rfl)
   exact this
  refine ⟨_,rfl,?_⟩;exists a1
 have O:=lX (xs:=vec k λj=>stM ms j pl) (ys:=vec m λ_=>0) (by simp;omega);have ev:(vec k λj=>stM ms j pl)++(vec m λ_=>0)=vec (k+m) (cC ms pl):=by
  rw[dc];congr 1
  ·refine qF1 λj hj=>?_
   have:j<k:=by simpa using hj
   unfold cC;rw[hk,qA2 this]
  ·refine qF1 λq _=>?_;unfold cC;rw[hk,qA4 ox]
 rw[ev]at O;exists fr,O,C2 (S9 (vec (k+m) (cC ms pl)))
 show _=R.ok (W.lst ((w9 m (k+m) (λi j=>cA ms j i) (cC ms pl)).map tI));rw[qC3,qB9];rfl
def oG {xs:List Int}(h:((xs.map W.int).mapIdx λi x=>W.tup [.int (i:Int),x])[i]?=some w):i<xs.length/\w=.tup [.int (i:Int),.int (xs.getD i 0)]:=by
 rw[qU6,qA7]at h;by_cases hi:i<xs.length
 ·rw [qA3 hi]at h
  cases h;exact ⟨hi,by rw[qA0,qA3 hi];rfl⟩
 ·rw[qH2 ox]at h;cases h
inductive Com (n:Nat) (o:Nat->Int):W->Prop where
 |none:(∀j,j<n->o j<=0)->Com n o .non
 |some {j:Nat}:j<n->0<o j->(∀i,i<j->o i<=0)->Com n o (.int (j:Int))
def uB (hm:m<=6) (hn:n<=100):Ok (X8 [lS (w9 m n t o)]) (Com n o):=by
 have a1:=iU m n t o;have hl:=n5 n o;exists rpB,lG,a1;refine r6 (A8 (λi ρ=>∃(x y:Sl),ρ = [.par (lS (w9 m n t o)),x,y]/\∀j,j<i->o j<=0) ⟨_,_,rfl,λj O=>absurd O (qE5 _)⟩ ?_ ?_)
 ·rintro i u ρ hu ⟨x,y,rfl,I⟩;obtain ⟨hi,rfl⟩:=oG hu;have hi:i<n:=by rw[<- hl];exact hi
  have ev:(vec n o).getD i 0=o i:=n9 hi;rw[ev];refine ⟨_,rfl,?_⟩;exists rp18;refine V3 (λh=>?_) (λh=>?_)
  ·have h:=qO9 h;exists rp18;exact .some hi h I
  ·have h:=qQ2 h;exists rp18;refine ⟨_,_,rfl,λj O=>?_⟩;by_cases e:j=i
   ·subst e;omega
   ·exact I j ox
 ·rintro ρ ⟨x,y,rfl,I⟩;have I:∀j,j<n->o j<=0:=λj O=>I j (by rw[qO0,qA6,hl];exact O);exists rp18;exact .none I
def lY (I:Nat->Int):∀L:List Nat,L ≠ []->∃i∈L,∀j∈L,I i<=I j
 | [],h=>absurd rfl h
 | [a],_=>⟨a,qB2,λj O=>by rw[qC4.mp O];exact qF3 _⟩
 | a::b::L,_=>by
  obtain ⟨i,hi,hm⟩:=lY I (b::L) Qy;by_cases q:I a<=I i
  ·refine ⟨a,qB2,λj O=>?_⟩;rcases qB3.mp O with rfl|O
   ·exact qF3 _
   ·have:=hm j O;omega
  ·refine ⟨i,qA8 _ hi,λj O=>?_⟩;rcases qB3.mp O with rfl|O
   ·omega
   ·exact hm j O
inductive Lea (m:Nat) (h:Nat->Nat) (t:Nat->Nat->Int) (s:Nat):W->Prop where
 |none:(∀i,i<m->t i s<=0)->Lea m h t s .non
 |some {r:Nat}:Lv m h t s r->Lea m h t s (.int (r:Int))
def qc (hm:m<=6) (hn:n<=100) (hs:s<n):Ok (cL [lS (w9 m n t o),lI (vec m λi=>(h i:Int)),.int (s:Int)]) (Lea m h t s):=by
 have e1:∀N mg mc me ρ (q:∀i∈List.range m,∃O,mg (.int (i:Nat)) (ρ++List.replicate (N-ρ.length) Sl.un)=some O/\mc O=.ok (decide (0<t i s))/\me O=.ok (.int (i:Nat))),k7 N mg mc me ((List.range m).map λi=>W.int (i:Nat)) ρ=.ok (lI (((List.range m).filter λi=>decide (0<t i s)).map λ(i:Nat)=>(i:Int))):=λN mg mc me ρ q=>by
  rw [cG (λi=>W.int (i:Nat)) _ (λi=>decide (0<t i s)) _ ρ (by simp;omega) λi hi=>by
   obtain ⟨O,a1,a2,a3⟩:=q i hi;exact ⟨O,a1,a2,λ_=>a3⟩,Q6]
 have hl:=n5 m λi=>(h i:Int);exists rpB,jf;rw[e1];rotate_left
 ·intro i hi;have hi:i<m:=by simpa using hi
  have a1:=bY (n:=n) (t:=t) (o:=o) hi;have a2:L2.atI ((vec n (t i)).map W.int) (s:Int)=some (.int (t i s)):=by
   have:=A6 (ws:=(vec n (t i)).map W.int) (k:=s) (w:=.int (t i s)) (by rw[qA7,qA7,qF2 hs];rfl)
   exact this
  refine ⟨_,rfl,?_,?_⟩
  ·exists a1,a2
  ·exists rp18
 generalize hL:(List.range m).filter (λi=>decide (0<t i s))=L
 have I:∀i,i∈L↔i<m/\0<t i s:=λi=>by rw[<- hL,qI2,qH5,qQ8]
 have a6:ff (L.map λ(i:Nat)=>(i:Int)) (vec m λi=>(h i:Int))=.ok (vW (bg (λi=>(vec m λi=>(h i:Int)).getD i.toNat 0) (L.map λ(i:Nat)=>(i:Int)))):=by
  unfold ff;rw[qA2];rw[qE3];intro x hx;obtain ⟨i,hi,rfl⟩:=qB1.mp hx
  have:=(I i).mp hi
  rw[qG4,qQ8,qQ8,hl];omega
 exists a6;unfold bg;cases q:(L.map λ(i:Nat)=>(i:Int)).find? (λi=>(L.map λ(i:Nat)=>(i:Int)).all λx=>decide ((vec m λi=>(h i:Int)).getD i.toNat 0<=(vec m λi=>(h i:Int)).getD x.toNat 0)) with
 | none=>
  have a4:L = []:=qR5 λne=>by
   obtain ⟨i,hi,a5⟩:=lY (λi=>(h i:Int)) L ne
   have:=List.find?_eq_none.mp q (i:Int) (qB1.mpr ⟨i,hi,rfl⟩)
   refine this (qE3.mpr λx hx=>?_);obtain ⟨j,hj,rfl⟩:=qB1.mp hx;rw[qQ8,qD9,qD9,n9 ((I i).mp hi).1,n9 ((I j).mp hj).1];exact a5 j hj
  refine ⟨_,rfl,.none λi hi=>?_⟩
  have:=mt (I i).mpr (by rw[a4];exact qE1)
  omega
 | some x=>
  obtain ⟨hx,_⟩:=List.find?_eq_some_iff_append.mp q;obtain ⟨i,hi,rfl⟩:=qB1.mp (qR6 q);have a0:=(I i).mp hi;refine ⟨_,rfl,.some ⟨a0.1,a0.2,λj hj hp=>?_⟩⟩
  have:=qE3.mp hx (j:Int) (qB1.mpr ⟨j,(I j).mpr ⟨hj,hp⟩,rfl⟩)
  have this:=qO9 this;rw[qD9,qD9,n9 a0.1,n9 hj]at this;omega
def K7 (h:-(2^k)<=z/\z<=2^k):Builtin.Int.intBits z<=k+1:=by
 refine intBits_le_iff.mpr ?_;have I:(z.natAbs:Int)<=((2^k:Nat):Int):=by push_cast;omega
 have O:z.natAbs<=2^k:=by exact_mod_cast I
 exact qN7 O (Nat.pow_lt_pow_right Qz (qD2 k))
def mj (h0:0<j) (h:j<=2^400):fI V7 cK (.int i) (.int j)=.ok (.int (i/j)):=by
 show (if V7 i j then _ else _)=_;rw[qA2 ⟨h0,Int.lt_of_le_of_lt h (by unfold big8;decide)⟩]
def gy (hn:n<=100) (hs:s<n) (hx:∀j,j<n->-(2^240)<=x j/\x j<=2^240) (hb:∀j,j<n->-(2^240)<=b j/\b j<=2^240) (h0:0<d) (hd:d<=2^400):
  cM [tI (vec n x),tI (vec n b),.int (s:Int),.int d]=.ok (tI (vec n λj=>(x j*b s-x s*b j)/d)):=by
 have hz:=O0 (tI (vec n x)) (tI (vec n b)) _ _ rfl rfl;rw[V8 (by rw[n5,n5]),n5]at hz;have as:L2.atI ((vec n x).map W.int) (s:Int)=some (.int (x s)):=by
  have:=A6 (ws:=(vec n x).map W.int) (k:=s) (w:=.int (x s)) (by rw[qA7,qA7,qF2 hs];rfl)
  exact this
 have bs:L2.atI ((vec n b).map W.int) (s:Int)=some (.int (b s)):=by
  have:=A6 (ws:=(vec n b).map W.int) (k:=s) (w:=.int (b s)) (by rw[qA7,qA7,qF2 hs];rfl)
  exact this
 have e:∀N mg me ρ (h:∀j,j<n->∃I,mg (.tup [.int ((vec n x).getD j 0),.int ((vec n b).getD j 0)]) (ρ++List.replicate (N-ρ.length) Sl.un)=some I/\me I=.ok (.int ((x j*b s-x s*b j)/d))),k7 N mg yes me ((List.range n).map λj=>W.tup [.int ((vec n x).getD j 0),.int ((vec n b).getD j 0)]) ρ=.ok (lI (vec n λj=>(x j*b s-x s*b j)/d)):=λN mg me ρ h=>by
  rw[i5 (λj=>.int ((x j*b s-x s*b j)/d)) _ _ ρ (by simpa using (by omega:n<=1000)) (λk hk=>h k (by simpa using hk)),Q6]
 exists rpB,jg,hz;rw[e]
 ·exists rp18
 ·intro j O;have b1:=K7 (hx j O);have b2:=K7 (hx s hs);have b3:=K7 (hb j O);have b4:=K7 (hb s hs);have v1:(vec n x).getD j 0=x j:=n9 O;have v2:(vec n b).getD j 0=b j:=n9 O;have m1:fI CMulB v5 (.int (x j)) (.int (b s))=.ok (.int (x j*b s)):=cw ox;have m2:fI CMulB v5 (.int (x s)) (.int (b j))=.ok (.int (x s*b j)):=cw ox;have m3:=mj (i:=x j*b s-x s*b j) h0 hd;rw[v1,v2];refine ⟨_,rfl,?_⟩;exists as,bs,m1,m2,m3
def pvT (t:Nat->Nat->Int)(r s:Nat) (d:Int)(i j:Nat):Int:=if i=r then t r j else (t i j*t r s-t i s*t r j)/d
def pvO (t:Nat->Nat->Int)(o:Nat->Int)(r s:Nat) (d:Int)(j:Nat):Int:=(o j*t r s-o s*t r j)/d
def xA:((w9 m n t o).map tI).mapIdx (λi x=>W.tup [.int (i:Int),x])=(List.range (m+1)).map λ(i:Nat)=>W.tup [.int (i:Int),tI (if i<m then vec n (t i) else vec n o)]:=by
 apply qG0
 ·simp
 ·intro i O I;have hi:i<m+1:=by simpa using I
  rw[List.getElem_mapIdx,List.getElem_map,List.getElem_map,List.getElem_range];by_cases q:i<m
  ·rw[qA2 q,List.getElem_append_left (by simpa using q)];simp
  ·have:i=m:=ox
   subst this;rw[qA4 (qE2 _),List.getElem_append_right Qy];simp
def pK (hm:m<=6) (hn:n<=100) (I:r<m) (hs:s<n) (ht:∀i,i<m->∀j,j<n->-(2^240)<=t i j/\t i j<=2^240) (ho:∀j,j<n->-(2^240)<=o j/\o j<=2^240) (h0:0<d) (hd:d<=2^400):
  aa [lS (w9 m n t o),.int (r:Int),.int (s:Int),.int d]=.ok (lS (w9 m n (pvT t r s d) (pvO t o r s d))):=by
 have a1:=bY (n:=n) (t:=t) (o:=o) I;have e:∀N mg me ρ (h:∀i∈List.range (m+1),∃O,mg (.tup [.int (i:Int),tI (if i<m then vec n (t i) else vec n o)]) (ρ++List.replicate (N-ρ.length) Sl.un)=some O/\me O=.ok (tI (if i<m then vec n (pvT t r s d i) else vec n (pvO t o r s d)))),k7 N mg yes me ((List.range (m+1)).map λ(i:Nat)=>W.tup [.int (i:Int),tI (if i<m then vec n (t i) else vec n o)]) ρ=.ok (lS (w9 m n (pvT t r s d) (pvO t o r s d))):=λN mg me ρ h=>by
  rw[i5 (λi=>tI (if i<m then vec n (pvT t r s d i) else vec n (pvO t o r s d))) _ _ ρ (by simp;omega) h];congr 2;rw[List.range_succ,qC3,qC3,qB9];congr 1
  ·refine qF1 λi hi=>?_
   have:i<m:=by simpa using hi
   rw[qA2 this];rfl
  ·simp
 have he:P3 [lS (w9 m n t o)]=.ok ((List.range (m+1)).map λ(i:Nat)=>W.tup [.int (i:Int),tI (if i<m then vec n (t i) else vec n o)]):=by rw[<- xA];rfl
 exists rpB,je,a1,he;rw[e]
 ·exists rp18
 ·intro i hi;have hi:i<m+1:=by simpa using hi
  refine ⟨_,rfl,?_⟩;by_cases q:i=r
  ·subst q;have d1:decide ((i:Int)=(i:Int))=true:=qO8 rfl;rw[qA2 I,qA2 I];have ev:vec n (pvT t i s d i)=vec n (t i):=qF1 λj _=>qA2 rfl;rw[ev];exists aL,d1
  ·have d1:decide ((i:Int)=(r:Int))=false:=qO7 ox;by_cases q2:i<m
   ·have k1:=gy (x:=t i) (b:=t r) hn hs (ht i q2) (ht r I) h0 hd;have ev:vec n (pvT t r s d i)=vec n λj=>(t i j*t r s-t i s*t r j)/d:=qF1 λj _=>qA4 q;rw[qA2 q2,qA2 q2,ev];exists aL,d1,k1
   ·have k1:=gy (x:=o) (b:=t r) hn hs ho (ht r I) h0 hd;rw[qA4 q2,qA4 q2];exists aL,d1,k1;rfl
def FA (ha:0<=a) (hb:0<=b):D4 [.int a,.int b]=.ok (.int (Int.gcd a b:Nat)):=by
 have fin:Ok (D4 [.int a,.int b]) λv=>v=.int (Int.gcd a b:Nat):=by
  exists rpB,T6;refine r6 (O9 ?_);refine Q2 (λM ρ=>∃(x y:Int) (z:Sl),(ρ = [.par (.int x),.par (.int y),z]\/ρ = [.val (.int x),.val (.int y),z])/\0<=x/\0<=y/\Int.gcd x y=Int.gcd a b/\M=y.toNat) ?_ b.toNat _ ⟨a,b,.un,.inl rfl,ha,hb,rfl,rfl⟩;rintro M ρ ⟨x,y,z,I,hx,hy,hg,hM⟩;by_cases h0:y=0
  ·have O:decide (y=0)=true:=qO8 h0;refine ⟨false,?_,?_⟩
   ·rcases I with rfl|rfl
    all_goals exists O
   rw[qA4 Qz];have a0:(Int.gcd a b:Int)=x:=by
    rw[<- hg,h0,Int.gcd_zero_right];omega
   rcases I with rfl|rfl
   all_goals
    exists rp18;rw[a0]
  ·have O:decide (y=0)=false:=qO7 h0;have h1:0<y:=ox;refine ⟨true,?_,?_⟩
   ·rcases I with rfl|rfl
    all_goals exists O
   rw[qA2 rfl];have q0:0<=x%y:=Int.emod_nonneg _ h0;have q1:x%y<y:=qV4 _ h1;have a3:Int.gcd y (x%y)=Int.gcd a b:=by
    have e:=Int.gcd_add_mul_left_left y (x%y) (x/y);rw[Int.emod_add_mul_ediv]at e;rw[<- hg,Int.gcd_comm y,e]
   rcases I with rfl|rfl
   all_goals
    exists rp18;exact ⟨(x%y).toNat,ox,y,x%y,_,.inr rfl,hy,q0,a3,rfl⟩
 obtain ⟨v,e,rfl⟩:=fin;exact e
def int_at {xs:List Int}(h:(xs.map W.int)[i]?=some w):i<xs.length/\w=.int (xs.getD i 0):=by
 rw[qA7]at h;by_cases hi:i<xs.length
 ·rw [qA3 hi]at h
  cases h;exact ⟨hi,by rw[qA0,qA3 hi];rfl⟩
 ·rw[qH2 ox]at h;cases h
def fj (hL:L=lI xs\/L=tI xs) (hl:xs.length<=100) (h0:∀x∈xs,0<=x/\x<=2^400) (hp:∃j,j<xs.length/\0<xs.getD j 0):Ok (A4 [L]) λv=>∃(g:Int) (ys:List Int),v=tI ys/\0<g/\ys.length=xs.length/\∀i,i<xs.length->xs.getD i 0=g*ys.getD i 0:=by
 have hx:∀j,j<xs.length->0<=xs.getD j 0/\xs.getD j 0<=2^400:=λj I=>memD h0 I;have e:∀(g:Int) N mg me ρ (h:∀x∈xs,∃a3,mg (.int x) (ρ++List.replicate (N-ρ.length) Sl.un)=some a3/\me a3=.ok (.int (x/g))),k7 N mg yes me (xs.map W.int) ρ=.ok (lI (xs.map λx=>x/g)):=λg N mg me ρ h=>by
  rw[i5 (λx=>W.int (x/g)) _ _ ρ ox h,Q6]
 rcases hL with rfl|rfl
 all_goals
  exists rpB,T0;refine r6 (A8 (λi ρ=>∃(g:Nat) (y:Sl),(ρ = [.par (lI xs),.val (.int (g:Int)),y]\/ρ = [.par (tI xs),.val (.int (g:Int)),y])/\(∀j,j<i->(g:Int)∣xs.getD j 0)/\((∃j,j<i/\0<xs.getD j 0)->0<g)) ⟨0,_,by first|exact .inl rfl|exact .inr rfl,λj I=>absurd I (qE5 _),λO=>by obtain ⟨j,I,_⟩:=O;exact absurd I (qE5 _)⟩ ?_ ?_)
  ·rintro i u ρ hu ⟨g,y,a0,h1,h2⟩;obtain ⟨hi,rfl⟩:=int_at hu;have k1:=FA (a:=(g:Int)) (b:=xs.getD i 0) ox (hx i hi).1;have fin:(∀j,j<i+1->((Int.gcd (g:Int) (xs.getD i 0):Nat):Int)∣xs.getD j 0)/\((∃j,j<i+1/\0<xs.getD j 0)->0<Int.gcd (g:Int) (xs.getD i 0)):=by
    refine ⟨λj I=>?_,λ⟨j,I,hp⟩=>?_⟩
    ·by_cases e:j=i
     ·subst e;exact Int.gcd_dvd_right ..
     ·exact Int.dvd_trans (Int.gcd_dvd_left ..) (h1 j ox)
    ·refine Nat.pos_of_ne_zero λz=>?_;have z:=Int.gcd_eq_zero_iff.mp z;by_cases e:j=i
     ·subst e;omega
     ·have:=h2 ⟨j,ox,hp⟩;omega
   rcases a0 with rfl|rfl
   all_goals
    refine ⟨_,rfl,?_⟩;exists k1;exact ⟨_,_,by first|exact .inl rfl|exact .inr rfl,fin⟩
  ·rintro ρ ⟨g,y,a0,h1,h2⟩;rw[qA6]at h1 h2;have g0:=h2 hp;obtain ⟨j,I,a4⟩:=hp;have gb:(g:Int)<=2^400:=qG1 (Int.le_of_dvd a4 (h1 j I)) (hx j I).2;have fin:∃(g':Int) (ys:List Int),tI (xs.map λx=>x/(g:Int))=tI ys/\0<g'/\ys.length=xs.length/\∀i,i<xs.length->xs.getD i 0=g'*ys.getD i 0:=by
    refine ⟨g,_,rfl,ox,qA6 _,λi hi=>?_⟩
    have:(xs.map λx=>x/(g:Int)).getD i 0=xs.getD i 0/(g:Int):=by
     rw[qA0,qA0,qA7,qA3 hi];rfl
    rw[this,qU9 (h1 i hi)]
   rcases a0 with rfl|rfl
   all_goals
    exists rp18;rw[e (g:Int)]
    ·exists rp18;exact fin
    ·intro x _;have m3:=mj (i:=x) (j:=(g:Int)) ox gb;refine ⟨_,rfl,?_⟩;exists m3
def Gn {n:Nat}(h:n<=xs.length):J9 xs none (some (n:Int))=xs.take n:=by
 unfold J9;rw[HT.sIx_nat,HT.sIx_none,List.drop_zero,Nat.min_eq_left h,Nat.sub_zero]
def mB {n:Nat}(h:n<=xs.length):J9 xs (some (n:Int)) none=xs.drop n:=by
 unfold J9;rw[HT.sIx_nat,HT.sIx_none,Nat.min_eq_left h,List.take_of_length_le (by rw[qM3];omega)]
def vd (k m:Nat) (f:Nat->Int):(vec (k+m) f).take k=vec k f:=by
 rw[dc,List.take_left' (n5 _ _)]
def ve (k m:Nat) (f:Nat->Int):(vec (k+m) f).drop k=vec m λq=>f (k+q):=by
 rw[dc,List.drop_left' (n5 _ _)]
def gJ:(vec n f).set i v=vec n λj=>if j=i then v else f j:=by
 apply qG0
 ·simp
 ·intro j h1 I;have O:j<n:=by simpa using I
  rw[List.getElem_set];simp only [vec,List.getElem_map,List.getElem_range];by_cases e:i=j
  ·rw[qA2 e,qA2 e.symm]
  ·rw[qA4 e,qA4 λq=>e q.symm]
def rep0 (n:Nat) (h:n<=100):qm true (.lst [.int 0]) (.int (n:Int))=.ok (lI (vec n λ_=>0)):=by
 rw[ug ox]
 have:(List.replicate ((n:Int).toNat) [W.int 0]).flatten=(vec n λ_=>0).map W.int:=by
  rw[qD9];apply qL8;intro k;rw[qA7,qA7,List.flatten_replicate_singleton];by_cases hk:k<n
  ·rw[qF2 hk,qA3 (by simpa using hk)];simp
  ·rw[qH2 (by simpa using hk),qH2 (by simpa using hk)];rfl
 rw[this];rfl
def qW (h:i<n):L2.atI ((vec n f).map W.int) (i:Int)=some (.int (f i)):=by
 have:=A6 (ws:=(vec n f).map W.int) (k:=i) (w:=.int (f i)) (by rw[qA7,qA7,qF2 h];rfl)
 exact this
def xC (T:Tab m n A c h t o d) (hi:i<m) (I:h i≠s) (j:Nat):n6 (i+1) h t d s j=if j=h i then-t i s else n6 i h t d s j:=by
 unfold n6;have e:d8 (i+1) (λr=>if h r=j then t r s else 0)=d8 i (λr=>if h r=j then t r s else 0)+if h i=j then t i s else 0:=rfl
 rw[e];by_cases q:j=h i
 ·subst q;rw[qA2 rfl,qA2 rfl,qA4 I,B6 λr O=>qA4 λz=>by have:=T.inj ox hi z;omega];omega
 ·rw[qA4 (show ¬ (h i=j) from λz=>q z.symm),qA4 (show ¬ (j=h i) from q)];omega
def Hf (T:Tab m (k+m) A c h t o d) (h1:1<=m) (hm:m<=6) (hk:k<=8) (hs:s<k+m) (ho:0<o s) (hn:∀i,i<m->t i s<=0) (hb:∀j,n6 m h t d s j<=2^400) (hp:∃j,j<k/\0<n6 m h t d s j):
  Ok (fu [lS (w9 m (k+m) t o),lI (vec m λi=>(h i:Int)),.int (s:Int),.int d,.int (k:Int)]) λv=>∃(g:Int) (ys:List Int),v=tI ys/\0<g/\ys.length=k/\∀j,j<k->n6 m h t d s j=g*ys.getD j 0:=by
 have nb:∀i,i<m->h i≠s:=λi hi e=>by
  have:=T.ozero hi
  rw[e]at this;omega
 have a1:=bY (n:=k+m) (t:=t) (o:=o) (show 0<m by omega);have l1:((w9 m (k+m) t o).getD 0 []).length=k+m:=by
  rw[qA0,qD6 (by rw[qA6,qF5];omega),qA7,qF2 ox];exact n5 _ _
 have r0:=rep0 (k+m) ox;have l2:=n5 (k+m) λ_=>0;have he:P3 [lI (vec m λi=>(h i:Int))]=.ok (((vec m λi=>(h i:Int)).map W.int).mapIdx λi x=>W.tup [.int (i:Int),x]):=rfl;have x1:ixN (k+m) (s:Int)=some s:=by unfold ixN;rw[qA2 ox,qA2 ox,qD9]
 exists rpB,lJ,a1,r0,he,l1,l2,x1;have d0:(vec (k+m) λ_=>0).set s d=vec (k+m) (n6 0 h t d s):=by
  rw[gJ];refine qF1 λj _=>?_
  show _=(if j=s then d else 0)+(-1)*(0:Int);omega
 rw[d0];refine r6 (A8 (λi ρ=>∃(x y:Sl),ρ = [.par (lS (w9 m (k+m) t o)),.par (lI (vec m λi=>(h i:Int))),.par (.int (s:Int)),.par (.int d),.par (.int (k:Int)),.own ((vec (k+m) (n6 i h t d s)).map W.int),x,y]) ⟨_,_,rfl⟩ ?_ ?_)
 ·rintro i u ρ hu ⟨x,y,rfl⟩;obtain ⟨hi,rfl⟩:=oG hu;have hi:i<m:=by simpa using hi
  have ev:(vec m λi=>(h i:Int)).getD i 0=(h i:Int):=n9 hi;have b1:=bY (n:=k+m) (t:=t) (o:=o) hi;have b2:=qW (f:=t i) hs;have hh:=T.hn i hi;have x2:ixN (k+m) (h i:Int)=some (h i):=by unfold ixN;rw[qA2 ox,qA2 ox,qD9]
  have l3:=n5 (k+m) (n6 i h t d s);rw[ev];refine ⟨_,rfl,?_⟩;exists b1,b2,l3,x2;have d1:(vec (k+m) (n6 i h t d s)).set (h i) (- t i s)=vec (k+m) (n6 (i+1) h t d s):=by
   rw[gJ];exact qF1 λj _=>(xC T hi (nb i hi) j).symm
  rw[d1];exact ⟨_,_,rfl⟩
 ·rintro ρ ⟨x,y,rfl⟩;have hl:(((vec m λi=>(h i:Int)).map W.int).mapIdx λi x=>W.tup [.int (i:Int),x]).length=m:=Qy;rw[hl];have l4:=n5 (k+m) (n6 m h t d s);have c1:J9 (vec (k+m) (n6 m h t d s)) none (some (k:Int))=vec k (n6 m h t d s):=by
   rw[Gn (by rw[l4];omega),vd]
  have l5:=n5 k (n6 m h t d s);have kk:=fj (.inl rfl) (xs:=vec k (n6 m h t d s)) (by rw[l5];omega) (λz hz=>by
   obtain ⟨j,_,rfl⟩:=qB1.mp hz;exact ⟨T.dirP ho hn j,hb j⟩) (by
   obtain ⟨j,O,hp⟩:=hp;exact ⟨j,by rw[l5];exact O,by rw[n9 O];exact hp⟩)
  exists c1;obtain ⟨v,e,g,ys,rfl,g0,hy,I⟩:=kk;exists e;refine ⟨g,ys,rfl,g0,hy.trans l5,λj O=>?_⟩
  have:=I j (by rw[l5];exact O)
  rw[n9 O]at this;exact this
def pw (hm:m<=6) (hd:-(2^400)<=d/\d<=2^400) (hb:∀j,j<m->-(2^400)<=b j/\b j<=2^400):U0 [lI (vec m x),tI (vec m b),.int d]=.ok (tI (vec m λp=>x p+d*b p)):=by
 have hz:=O0 (lI (vec m x)) (tI (vec m b)) _ _ rfl rfl;rw[V8 (by rw[n5,n5]),n5]at hz;have e:∀N mg me ρ (h:∀j,j<m->∃I,mg (.tup [.int ((vec m x).getD j 0),.int ((vec m b).getD j 0)]) (ρ++List.replicate (N-ρ.length) Sl.un)=some I/\me I=.ok (.int (x j+d*b j))),k7 N mg yes me ((List.range m).map λj=>W.tup [.int ((vec m x).getD j 0),.int ((vec m b).getD j 0)]) ρ=.ok (lI (vec m λj=>x j+d*b j)):=λN mg me ρ h=>by
  rw[i5 (λj=>.int (x j+d*b j)) _ _ ρ (by simpa using (by omega:m<=1000)) (λk hk=>h k (by simpa using hk)),Q6]
 exists rpB,cD,hz;rw[e]
 ·exists rp18
 ·intro j O;have b1:=K7 hd;have b2:=K7 (hb j O);have m1:fI CMulB v5 (.int d) (.int (b j))=.ok (.int (d*b j)):=cw ox;have v1:(vec m x).getD j 0=x j:=n9 O;have v2:(vec m b).getD j 0=b j:=n9 O;rw[v1,v2];refine ⟨_,rfl,?_⟩;exists m1
def oZ (h1:1<=m) (hm:m<=6) (hk:k<=8) (a0:pl<m) (h0:0<d) (hd:d<=2^399) (ho:∀j,j<k+m->o j<=0 /\ -(2^399)<=o j):
  Ok (X4 [lS (w9 m (k+m) t o),.int (pl:Int),.int d,.int (k:Int)]) λv=>∃(g:Int) (ys:List Int),v=tI ys/\0<g/\ys.length=m/\∀p,p<m ->-o (k+p)+d*(if p=pl then 1 else 0)=g*ys.getD p 0:=by
 have a1:=iU m (k+m) t o;have l1:=n5 (k+m) o;have c1:J9 (vec (k+m) o) (some (k:Int)) none=vec m λq=>o (k+q):=by
  rw[mB (by rw[l1];omega),ve]
 have e:∀N mg me ρ (h:∀q∈List.range m,∃I,mg (.int (o (k+q))) (ρ++List.replicate (N-ρ.length) Sl.un)=some I/\me I=.ok (.int (- o (k+q)))),k7 N mg yes me ((vec m λq=>o (k+q)).map W.int) ρ=.ok (lI (vec m λq =>-o (k+q))):=λN mg me ρ h=>by
  rw[qB9]
  show k7 N mg yes me (List.map (λq=>W.int (o (k+q))) (List.range m)) ρ=_;rw[i5 (λq=>W.int (- o (k+q))) _ _ ρ (by simp;omega) h,Q6]
 have l2:=n5 m λq =>-o (k+q);have ku:=nB (p:=pl) hm;have ks:=pw (x:=λq =>-o (k+q)) (b:=λq=>if q=pl then 1 else 0) (d:=d) hm ⟨ox,ox⟩ (λj _=>by split <;> decide)
 have l5:=n5 m λp =>-o (k+p)+d*if p=pl then 1 else 0
 have kk:=fj (.inr rfl) (xs:=vec m λp =>-o (k+p)+d*if p=pl then 1 else 0) (by rw[l5];omega) (λz hz=>by
  obtain ⟨p,hp,rfl⟩:=qB1.mp hz;have hp:p<m:=by simpa using hp
  have:=ho (k+p) ox
  by_cases e:p=pl
  ·rw[qA2 e];omega
  ·rw [qA4 e];omega) ⟨pl,by rw[l5];exact a0,by
   rw[n9 a0,qA2 rfl]
   have:=ho (k+pl) ox
   omega⟩
 exists rpB,cB,a1,c1;rw[e];rotate_left
 ·intro q _;refine ⟨_,rfl,?_⟩;exists rp18
 exists l2,ku,ks;obtain ⟨v,e,g,ys,rfl,g0,hy,O⟩:=kk;exists e;refine ⟨_,rfl,g,ys,rfl,g0,hy.trans l5,λj hj=>?_⟩
 have:=O j (by rw[l5];exact hj)
 rw[n9 hj]at this;exact this
def jX:∀{n:Nat},(∀i,i<n->d∣f i)->d∣d8 n f
 |0,_=>⟨0,by rw[qI0];rfl⟩
 |n+1,h=>Int.dvd_add (jX λi hi=>h i (qE9 hi)) (h n (qD2 n))
def Tab.dt (T:Tab m n A c h t o d) (I:r<m) (hs:s<n) (hi:i<m) (O:j<n):d∣t i j*t r s-t i s*t r j:=by
 by_cases e:i=r
 ·subst e;rw[qC9 (t i j),Int.sub_self];exact ⟨0,by rw[qI0]⟩
 ·exact ⟨_,(T.step I hs hi O e).symm⟩
def Tab.do_ (T:Tab m n A c h t o d) (hr:r<m) (O:s<n) (I:j<n):d∣o j*t r s-o s*t r j:=by
 have e:d8 m (λi=>c (h i)*(t i j*t r s-t i s*t r j))=t r s*d8 m (λi=>c (h i)*t i j)+(- t r j)*d8 m (λi=>c (h i)*t i s):=by
  rw[<- o0,<- o0,<- E6];refine i7 λi _=>?_;rw[qL6,qL7,<- qD0,<- qD0,qC9 (t r s),qC9 (t r j)];omega
 have e2:o j*t r s-o s*t r j=d*(c j*t r s-c s*t r j)-d8 m (λi=>c (h i)*(t i j*t r s-t i s*t r j)):=by
  rw[e,T.oo j I,T.oo s O,Int.sub_mul,Int.sub_mul,qL6,qL7,<- qD0,<- qD0,qC9 (t r s) (d8 m _),qC9 (t r j) (d8 m _)];omega
 rw[e2];exact Int.dvd_sub (Int.dvd_mul_right _ _) (jX λi hi=>Int.dvd_trans (T.dt hr O hi I) (Int.dvd_mul_left _ _))
def Tab.next (T:Tab m n A c h t o d) (I:r<m) (hs:s<n) (hp:0<t r s):Tab m n A c (hup h r s) (pvT t r s d) (pvO t o r s d) (t r s):=
 T.pivot I hs hp (λj _=>qA2 rfl) (λi hi e j O=>by
  unfold pvT;rw[qA4 e,qU9 (T.dt I hs hi O)]) (λj O=>by
  unfold pvO;rw[qU9 (T.do_ I hs O)])
def zf {f g:Nat->Int}(O:∀j,j<n->0<=f j) (h:0<d8 n λj=>f j*g j):∃j,j<n/\0<f j:=qR5 λq=>by
 have:d8 n (λj=>f j*g j)=0:=B6 λj I=>by
  have z:f j=0:=by
   have:=O j I
   by_cases e:0<f j
   ·exact absurd ⟨j,I,e⟩ q
   ·omega
  rw[z,qJ5]
 omega
structure Wts (ms:List Mv) (m pl:Nat) (w:List Int):Prop where
 len:w.length=m
 nn:∀p,p<m->0<=w.getD p 0/\w.getD p 0<=2^300
 one:1<=w.getD pl 0
 down:∀j,j<ms.length->d8 m (λp=>w.getD p 0*stM ms j p)<=0
structure Bag_ (ms:List Mv) (m pl:Nat) (y:List Int):Prop where
 len:y.length=ms.length
 nn:∀j,j<ms.length->0<=y.getD j 0/\y.getD j 0<=2^400
 up:∀p,p<m->(if p=pl then 1 else 0)<=d8 ms.length (λj=>y.getD j 0*stM ms j p)
inductive Cei (ms:List Mv) (m pl:Nat):W->Prop where
 |w {y:List Int}:Wts ms m pl y->Cei ms m pl (.tup [.str "weights",tI y])
 |b {y:List Int}:Bag_ ms m pl y->Cei ms m pl (.tup [.str "bag",tI y])
def ii {g:Int}(h0:0<g) (h1:0<=x) (O:x<=B) (e:x=g*y):0<=y/\y<=B:=by
 have I:0<=y:=by
  by_cases q:0<=y
  ·exact q
  ·have:g*y<0:=Int.mul_neg_of_pos_of_neg h0 ox
   omega
 have:1*y<=g*y:=qG7 ox I
 omega
def jW {x y z:Nat->Int}(e:∀j,j<n->x j=g*y j):d8 n (λj=>x j*z j)=g*d8 n (λj=>y j*z j):=by
 rw[<- o0];exact i7 λj I=>by rw[e j I,qD0]
def lx {y:Int}(h0:0<g) (h:g*y<=0):y<=0:=by
 by_cases q:y<=0
 ·exact q
 ·have:=Int.mul_pos h0 (show 0<y by omega)
  omega
def wH {y:Int}(h0:0<g) (h:0<=g*y):0<=y:=by
 by_cases q:0<=y
 ·exact q
 ·have:=Int.mul_neg_of_pos_of_neg h0 (show y<0 by omega)
  omega
def fc {y:Int}(h0:0<g) (h:0<g*y):0<y:=by
 by_cases q:0<y
 ·exact q
 ·have:=qH6 (qN9 h0) (show 0 <=-y by omega)
  rw[qM7]at this;omega
def qz (h1:1<=m) (h6:m<=6) (b3:∀x∈ms,okN m x) (h8:ms.length<=8) (a4:pl<m) (hB:∀j,j<ms.length->∀p,p<m->-mM<=stM ms j p/\stM ms j p<=mM):Ok (cN [tM_ ms,.int (pl:Int),.int (m:Int)]) (Cei ms m pl):=by
 have C:=IB ms m pl;have hA:∀j,j<ms.length+m->∀p,p<m->-mM<=cA ms j p/\cA ms j p<=mM:=λj hj p hp=>by
  unfold cA;by_cases q:j<ms.length
  ·rw [qA2 q]
   have:=hB j q p hp
   omega
  ·rw [qA4 q]
   split <;> decide
 have hc:∀j,j<ms.length+m->-mM<=cC ms pl j/\cC ms pl j<=mM:=λj hj=>by
  unfold cC;by_cases q:j<ms.length
  ·rw[qA2 q];exact hB j q pl a4
  ·rw[qA4 q];decide
 have kf:=xv h1 h6 b3 h8 a4;have S0:∃S:TB m (ms.length+m) (cA ms) (cC ms pl),S.h=(λi=>ms.length+i)/\S.t=(λi j=>cA ms j i)/\S.o=cC ms pl/\S.d=1:=⟨⟨_,_,_,1,C.first⟩,rfl,rfl,rfl,rfl⟩;obtain ⟨S0,s1,s2,s3,s4⟩:=S0;have e:∀N mg me ρ (h:∀i∈List.range m,∃a8,mg (.int (i:Nat)) (ρ++List.replicate (N-ρ.length) Sl.un)=some a8/\me a8=.ok (.int ((ms.length:Int)+(i:Int)))),k7 N mg yes me ((List.range m).map λi=>W.int (i:Nat)) ρ=.ok (lI (vec m λi=>(S0.h i:Int))):=λN mg me ρ h=>by
  rw[i5 (λ(i:Nat)=>W.int ((ms.length:Int)+(i:Int))) _ _ ρ (by simp;omega) h,Q6,s1];congr 2
 have kf:M7 [tM_ ms,.int (pl:Int),.int (m:Int)]=.ok (lS (w9 m (ms.length+m) S0.t S0.o)):=by rw[s2,s3];exact kf
 have hn:ms.length+m<=100:=ox;have kc:∀S:TB m (ms.length+m) (cA ms) (cC ms pl),∃w,X8 [lS (w9 m (ms.length+m) S.t S.o)]=.ok w/\O3 w=.val w/\Com (ms.length+m) S.o w:=λS=>by
  obtain ⟨w,ew,hw⟩:=uB (t:=S.t) (o:=S.o) h6 hn;exact ⟨w,ew,by cases hw <;> rfl,hw⟩
 exists rpB,jh,kf;rw[e];rotate_left
 ·intro i _;refine ⟨_,rfl,?_⟩;exists rp18
 obtain ⟨w,ew,hs,hw⟩:=kc S0;exists ew,hs;refine r6 (O9 ?_);refine Q2 (λM ρ=>∃(L:Nat) (S:TB m (ms.length+m) (cA ms) (cC ms pl)) (w:W) (z:Sl),ρ = [.par (tM_ ms),.par (.int (pl:Int)),.par (.int (m:Int)),.own ((w9 m (ms.length+m) S.t S.o).map tI),.own ((vec m λi=>(S.h i:Int)).map W.int),.val (.int S.d),.val w,z]/\Run S0 L S/\Com (ms.length+m) S.o w/\M=2^(ms.length+m)-L) ?_ _ _ ⟨0,S0,w,.un,by rw[s4],.zero,hw,rfl⟩;rintro M ρ ⟨L,S,w,z,rfl,a6,hw,hM⟩;have T:=S.ok;have hd:=T.bd h6 hA;have ht:=T.bt h6 hA;have ho:=T.bo h6 hA hc;have hL:=a6.lt;cases hw with
 | none a0=>
  refine ⟨false,?_,?_⟩
  ·exists rp18
  rw[qA4 Qz];have kw:=oZ (k:=ms.length) (t:=S.t) (o:=S.o) (d:=S.d) h1 h6 h8 a4 T.dp (qG1 hd Qz) λj hj=>⟨a0 j hj,qG1 Qz (ho j hj).1⟩;obtain ⟨v,ev,g,ys,rfl,g0,hy,I⟩:=kw;exists ev;refine .w ⟨hy,λp hp=>?_,?_,λj hj=>?_⟩
  ·refine ii g0 (x :=-S.o (ms.length+p)+S.d*(if p=pl then 1 else 0)) ?_ ?_ (I p hp)
   ·have:=a0 (ms.length+p) ox
    have:=T.dp
    by_cases q:p=pl
    ·rw[qA2 q];omega
    ·rw[qA4 q];omega
   ·have:=ho (ms.length+p) ox
    have k1:(2:Int)^240+2^197<=2^300:=Qz;by_cases q:p=pl
    ·rw[qA2 q];omega
    ·rw[qA4 q];omega
  ·have e:=I pl a4;rw[qA2 rfl]at e
   have:=a0 (ms.length+pl) ox
   have:=T.dp
   exact fc g0 ox
  ·have e:=C.weights T a4 hj;rw[jW (y:=λp=>ys.getD p 0) I]at e;exact lx g0 (by rw[e];exact a0 j ox)
 | @some s hs a5 a7=>
  refine ⟨true,?_,?_⟩
  ·exists rp18
  rw[qA2 rfl];obtain ⟨v,ev,hv⟩:=qc (t:=S.t) (o:=S.o) (h:=S.h) h6 hn hs;cases hv with
  | none a9=>
   have dy:∀j,n6 m S.h S.t S.d s j<=2^400:=λj=>by
    have nb:∀i,i<m->S.h i≠s:=λi hi e=>by
     have:=T.ozero hi
     rw[e]at this;omega
    have k1:(2:Int)^197<=2^400:=Qz;by_cases js:j=s
    ·subst js;rw[Tab.dirS nb];omega
    ·by_cases jb:∃i,i<m/\S.h i=j
     ·obtain ⟨i,hi,e⟩:=jb;have e2:=T.dirB (s:=s) hi (nb i hi);rw[e]at e2
      have:=ht i hi s hs
      omega
     ·rw [Tab.dirN (λi hi e=>jb ⟨i,hi,e⟩) js]
      decide
   obtain ⟨b1,b2⟩:=C.bag T hs;have dp:=T.dirP a5 a9;have kb:=Hf T h1 h6 h8 hs a5 a9 dy (zf (g:=λj=>stM ms j pl) (λj _=>dp j) (by rw[b2];exact a5));obtain ⟨v,b0,g,ys,rfl,g0,hy,I⟩:=kb;exists ev,b0;refine .b ⟨hy,λj hj=>ii g0 (dp j) (dy j) (I j hj),λp hp=>?_⟩;have e1:=b1 p hp;have e2:=b2;rw[jW (y:=λj=>ys.getD j 0) I]at e1 e2;by_cases q:p=pl
   ·subst q;rw[qA2 rfl];exact fc g0 (by rw[e2];exact a5)
   ·rw [qA4 q]
    exact wH g0 (by rw[e1];exact dp _)
  | @some r O=>
   have T2:=T.next O.lt hs O.pos;have kp:=pK (t:=S.t) (o:=S.o) (d:=S.d) h6 hn O.lt hs (λi hi j hj=>by
    have:=ht i hi j hj
    have k1:(2:Int)^197<=2^240:=Qz;omega) ho T.dp (qG1 hd Qz)
   obtain ⟨S',q1,q2,q3,q4⟩:∃S':TB m (ms.length+m) (cA ms) (cC ms pl),S'.h=hup S.h r s/\S'.t=pvT S.t r s S.d/\S'.o=pvO S.t S.o r s S.d/\S'.d=S.t r s:=⟨⟨_,_,_,_,T2⟩,rfl,rfl,rfl,rfl⟩;have kp:aa [lS (w9 m (ms.length+m) S.t S.o),.int (r:Int),.int (s:Int),.int S.d]=.ok (lS (w9 m (ms.length+m) S'.t S'.o)):=by rw[q2,q3];exact kp
   obtain ⟨w,ew,ab,hw⟩:=kc S';have a1:=bY (n:=ms.length+m) (t:=S'.t) (o:=S'.o) O.lt;have a2:=qW (f:=S'.t r) hs;have a3:S'.t r s=S'.d:=by rw[q2,q4];exact qA2 rfl
   have x2:ixN m (r:Int)=some r:=by
    have:=O.lt
    unfold ixN;rw[qA2 ox,qA2 ox,qD9]
   have l3:=n5 m λi=>(S.h i:Int);have d1:(vec m λi=>(S.h i:Int)).set r (s:Int)=vec m λi=>(S'.h i:Int):=by
    rw[gJ,q1];refine qF1 λi _=>?_
    show (if i=r then (s:Int) else (S.h i:Int))=((hup S.h r s i:Nat):Int);unfold hup;by_cases e:i=r
    ·rw[qA2 e,qA2 e]
    ·rw[qA4 e,qA4 e]
   have mv:Mv_ S S' s (S.h r):=⟨hs,a5,a7,r,O.lt,rfl,O.pos,O.least,q1⟩;exists ev,kp,l3,x2,a1,a2,a3,ew,ab,d1;exact ⟨2^(ms.length+m)-(L+1),ox,L+1,S',w,_,rfl,.succ a6 mv,hw,rfl⟩
def okB (n:Nat)(m:Mv):Prop:=okN n m/\(∀x∈m.1,x<=2000000000)/\(∀x∈m.2,x<=2000000000)
def Cq (h:∀m∈ms,okB n m) (I:j<ms.length) (O:p<n):-mM<=stM ms j p/\stM ms j p<=mM:=by
 have hm:=h _ (qF0 I);have e:ms.getD j ([],[])=ms[j]:=by rw[qA0,qA3 I];rfl
 unfold stM;rw[e];have a1:=pT hm.1.2.2.1 p;have a2:=pT hm.1.2.2.2 p;have b1:=memD hm.2.1 (i:=p) (by rw[hm.1.1];exact O);have b2:=memD hm.2.2 (i:=p) (by rw[hm.1.2.1];exact O)
 show -(2000000000:Int)<=_/\_<=(2000000000:Int);omega
def fy {ns:List Int}:Ok (E2 [.scr (ns.map W.int),.int k]) λw=>∃z:Int,w=.int z:=by
 by_cases I:0<(ns.length:Int)
 ·have O:0<=k%(ns.length:Int):=Int.emod_nonneg _ ox;have m1:k%(ns.length:Int)<(ns.length:Int):=qV4 _ I;exists rpB,Q7,qO8 I;exact ⟨_,rfl,_,rfl⟩
 ·exists rpB,Q7,qO7 I;exact ⟨_,rfl,_,rfl⟩
def sqk {k:Int}(h0:0<=k) (I:k<=1000):0<=k*k/\k*k<=1000000:=⟨qH6 h0 h0,by
 have:=qV2 I I h0 (by omega:(0:Int)<=1000)
 omega⟩
def F4 {ns:List Int}(h0:0<=k) (I:k<=1000) (hm:0<m):Ok (o8 [.scr (ns.map W.int),.int k,.int m]) λw=>∃z:Int,w=.int z/\0<=z/\z<m:=by
 obtain ⟨_,O,c,rfl⟩:=fy (ns:=ns) (k:=k)
 have:=sqk h0 I
 exists rpB,dZ,O;exact ⟨_,rfl,_,rfl,Int.emod_nonneg _ ox,qV4 _ hm⟩
def oh (h:nn xs) (hz:0<=z):nn (xs ++ [z]):=λx I=>by
 rcases qE0.mp I with q|q
 ·exact h x q
 ·rw[qC4.mp q];exact hz
def oT {xs:List Int}(h:∀x∈xs,x<=B) (hz:z<=B):∀x∈xs ++ [z],x<=B:=λx I=>by
 rcases qE0.mp I with q|q
 ·exact h x q
 ·rw[qC4.mp q];exact hz
def bc {ns:List Int}{n:Nat}(hn:n<=6) (ha:0<=a) (b0:a<=300) (a3:0<=s) (a4:s<=100000001) (b3:0<mn.length) (a5:nn mn) (a8:∀x∈mn,x<=3):Ok (w8 [.scr (ns.map W.int),.int a,.int (n:Int),lI mn,.int s]) λw=>∃xs:List Int,w=tI xs/\xs.length=n/\nn xs/\∀x∈xs,x<=1000000000:=by
 exists rpB,aH;refine r6 (A8 (λi ρ=>∃(xs:List Int) (a6 a7:Sl),ρ = [.par (.scr (ns.map W.int)),.par (.int a),.par (.int (n:Int)),.par (lI mn),.par (.int s),.own (xs.map W.int),a6,a7]/\xs.length=i/\nn xs/\∀x∈xs,x<=1000000000) ⟨[],_,_,rfl,rfl,λx hx=>(by cases hx),λx hx=>(by cases hx)⟩ ?_ ?_)
 ·rintro i u ρ hu ⟨xs,a6,a7,rfl,I,O,a0⟩;obtain ⟨hi,rfl⟩:=bZ hu;obtain ⟨_,e1,d,rfl,a9,ab⟩:=F4 (ns:=ns) (k:=a+(i:Int)) (m:=(mn.length:Int)) ox ox ox;obtain ⟨_,e2,c,rfl⟩:=fy (ns:=ns) (k:=a+(i:Int));have hh:0<=mn.getD d.toNat 0:=mem_getD a5 ox;have h3:mn.getD d.toNat 0<=3:=mem_getD (P:=λx=>x<=3) a8 ox;refine ⟨_,rfl,?_⟩;exists e1;generalize mn.getD d.toNat 0=held at hh h3
  refine cg (λh=>?_) (λh=>?_)
  ·exists rp18;rw[e2];exists rp18;exact ⟨xs ++ [(c+(i:Int))*48271%1000000001],_,_,by rw[qC3],by simp [I],oh O ox,oT a0 ox⟩
  ·exists rp18;exact ⟨xs ++ [held*s],_,_,by rw[qC3],by simp [I],oh O (qH6 hh a3),oT a0 (by
    have:=qV2 h3 a4 a3 (by omega:(0:Int)<=3)
    omega)⟩
 ·rintro ρ ⟨xs,a6,a7,rfl,I,O,a0⟩;rw[qA6,qF5]at I;exists rp18;exact ⟨xs,rfl,I,O,a0⟩
def vG {ns:List Int}:Ok (Y0 [.scr (ns.map W.int)]) λw=>∃z:Int,w=.int z/\0<=z/\z<=100000001:=by
 obtain ⟨_,e1,d,rfl,O,I⟩:=F4 (ns:=ns) (k:=2) (m:=8) ox ox ox;obtain ⟨_,e2,c,rfl⟩:=fy (ns:=ns) (k:=2);exists rpB,cF,e1;refine r6 (cg (λh=>?_) (λh=>?_))
 ·exists rp18;exact ⟨_,rfl,ox,ox⟩
 exists rp18;refine cg (λh=>?_) (λh=>?_)
 ·exists e2;exact ⟨_,rfl,ox,ox⟩
 ·exists rp18;exact ⟨_,rfl,ox,ox⟩
def ir {l:List Int}{lo hi:Nat}(I:∀x∈l,(lo:Int)<=x/\x<=(hi:Int)){d:Int}(h0:0<=d) (h:d<l.length):∃p:Nat,L2.atI (l.map W.int) d=some (.int (p:Int))/\lo<=p/\p<=hi:=by
 obtain ⟨a,b⟩:=mem_getD (P:=λx=>(lo:Int)<=x/\x<=(hi:Int)) I (i:=d.toNat) ox;exact ⟨(l.getD d.toNat 0).toNat,by rw[atW h0 h,qM9 ox],ox,ox⟩
def pl8 (h0:0<=d)(h:d<8):∃p:Nat,L2.atI [W.int 2,W.int 3,W.int 1,W.int 5,W.int 3,W.int 4,W.int 2,W.int 6] d=some (.int (p:Int))/\(1<=p/\p<=6):=ir (l:=[2,3,1,5,3,4,2,6]) Qz h0 h
def mv11 (h0:0<=d) (h:d<11):∃p:Nat,L2.atI [W.int 3,W.int 2,W.int 4,W.int 1,W.int 3,W.int 5,W.int 2,W.int 8,W.int 0,W.int 6,W.int 7] d=some (.int (p:Int))/\p<=8:=by
 obtain ⟨p,e,_,q⟩:=ir (l:=[3,2,4,1,3,5,2,8,0,6,7]) (lo:=0) (hi:=8) Qz h0 h;exact ⟨p,e,q⟩
def tm4 (h0:0<=d) (h:d<4):∃p:Nat,L2.atI [W.int 1,W.int 1,W.int 7,W.int 1000000] d=some (.int (p:Int))/\p<=1000000:=by
 obtain ⟨p,e,_,q⟩:=ir (l:=[1,1,7,1000000]) (lo:=0) (hi:=1000000) Qz h0 h;exact ⟨p,e,q⟩
def Bl (h:xs.length+ys.length<=1000):fCatT (tI xs) (tI ys)=.ok (tI (xs++ys)):=by
 show (if (xs.map W.int).length+(ys.map W.int).length<=1000/\j7 (xs.map W.int)=true/\j7 (ys.map W.int)=true then _ else _)=_;rw[qA2 ⟨by rw[qA6,qA6];exact h,A2 xs,A2 ys⟩,<- qC3]
def iq (h:l.all (λx=>decide (0<=x))=true):nn l:=λx I=>qO9 (qE3.mp h x I)
def xt {ns:List Int}:Ok (aq [.scr (ns.map W.int)]) λw=>∃(b:List Int) (ms:List Mv),w=.tup [tI b,tM_ ms]/\1<=b.length/\b.length<=6/\nn b/\(∀m∈ms,okB b.length m)/\ms.length<=8/\∀x∈b,x<=1000000000000000:=by
 obtain ⟨_,e0,d0,rfl,b6,cp⟩:=F4 (ns:=ns) (k:=0) (m:=8) ox ox ox;obtain ⟨_,e1,d1,rfl,c2,cy⟩:=F4 (ns:=ns) (k:=1) (m:=11) ox ox ox;obtain ⟨_,e3,d3,rfl,ed,eb⟩:=F4 (ns:=ns) (k:=3) (m:=2) ox ox ox;obtain ⟨_,e4,d4,rfl,cn,cx⟩:=F4 (ns:=ns) (k:=4) (m:=4) ox ox ox;obtain ⟨_,es,sc,rfl,b0,a9⟩:=vG (ns:=ns);obtain ⟨p,hp,d7,b3⟩:=pl8 b6 cp;obtain ⟨q,hq,ee⟩:=mv11 c2 cy;obtain ⟨tm,c1,d6⟩:=tm4 cn cx;exists rpB,dY,e0,hp,es,e1,hq;refine r6 (A8 (λi ρ=>∃(ms:List Mv) (a4 a5 a6 a7 a8:Sl),ρ = [.par (.scr (ns.map W.int)),.val (.int (p:Int)),.val (.int sc),.own (ms.map mW),a4,a5,a6,a7,a8,.un,.un]/\(∀m∈ms,okB p m)/\ms.length=i) ⟨[],_,_,_,_,_,rfl,Qy,rfl⟩ ?_ ?_)
 ·rintro i u ρ hu ⟨ms,a4,a5,a6,a7,a8,rfl,b4,ab⟩;obtain ⟨hi,rfl⟩:=bZ hu;have ea:0<=(p:Int)*(2*(i:Int)+1)/\(p:Int)*(2*(i:Int)+1)<=6*17:=⟨qH6 ox ox,qV2 ox ox ox ox⟩;obtain ⟨_,e5,t,rfl,a3,O,a0⟩:=bc (ns:=ns) (mn:=[0,1,0,2,1,0]) (a:=5+(p:Int)*(2*(i:Int)+1)) (s:=sc) b3 ox ox b0 a9 Qz (iq Qz) Qz;obtain ⟨_,e6,u,rfl,cv,c4,c3⟩:=bc (ns:=ns) (mn:=[1,0,0,1,2,0]) (a:=5+(p:Int)*(2*(i:Int)+1)+(p:Int)) (s:=sc) b3 ox ox b0 a9 Qz (iq Qz) Qz;obtain ⟨_,e7,fr,rfl,dy,e2⟩:=F4 (ns:=ns) (k:=5+(p:Int)*(2*(i:Int)+1)+(p:Int)) (m:=(p:Int)) ox ox ox;have e5:w8 [.scr (ns.map W.int),.int (5+(p:Int)*(2*(i:Int)+1)),.int (p:Int),.lst [.int 0,.int 1,.int 0,.int 2,.int 1,.int 0],.int sc]=.ok (tI t):=e5;have e6:w8 [.scr (ns.map W.int),.int (5+(p:Int)*(2*(i:Int)+1)+(p:Int)),.int (p:Int),.lst [.int 1,.int 0,.int 0,.int 1,.int 2,.int 0],.int sc]=.ok (tI u):=e6;refine ⟨_,rfl,?_⟩;exists e5,e6,e3;generalize 5+(p:Int)*(2*(i:Int)+1)=at_ at *
  refine ci (λρ=>∃(v:List Int) (a8:Sl),ρ = [.par (.scr (ns.map W.int)),.val (.int (p:Int)),.val (.int sc),.own (ms.map mW),.par (.int (i:Int)),.val (.int at_),.val (tI t),.val (tI v),a8,.un,.un]/\v.length=p/\nn v/\∀x∈v,x<=1000000000) ?_ ?_
  ·refine V3 (λh=>?_) (λh=>?_)
   ·have c5:(J9 t (some fr) none).length+(J9 t none (some fr)).length=p:=by
     obtain ⟨f,rfl⟩:∃f:Nat,fr=(f:Int):=⟨fr.toNat,ox⟩;unfold J9;rw[HT.sIx_nat,HT.sIx_none,HT.sIx_none,HT.sIx_nat,qH9,qM3,qH9,qM3];omega
    have ec:=Bl (xs:=J9 t (some fr) none) (ys:=J9 t none (some fr)) ox;exists e7,ec;refine ⟨_,_,rfl,by rw[qC6];exact c5,λx I=>?_,λx I=>?_⟩
    ·rcases qE0.mp I with q|q
     ·exact bC O x q
     ·exact bC O x q
    ·rcases qE0.mp I with q|q
     ·exact bC (P:=λx=>x<=1000000000) a0 x q
     ·exact bC (P:=λx=>x<=1000000000) a0 x q
   ·exists rp18;exact ⟨u,_,rfl,cv,c4,c3⟩
  rintro ρ ⟨v,a8,rfl,c0,cc,d5⟩;exists rp18;refine ⟨ms ++ [(t,v)],_,_,_,_,_,by rw[qC3];rfl,λm hm=>?_,by simp [ab]⟩;rcases qE0.mp hm with q|q
  ·exact b4 m q
  ·rw[qC4.mp q];exact ⟨⟨a3,c0,O,cc⟩,λx I=>qG1 (a0 x I) Qz,λx I=>qG1 (d5 x I) Qz⟩
 ·rintro ρ ⟨ms,a4,a5,a6,a7,a8,rfl,b4,ab⟩;rw[qA6,qF5]at ab;obtain ⟨_,e5,t,rfl,a3,O,a0⟩:=bc (ns:=ns) (mn:=[1,0,2,1,3,0]) (a:=5) (s:=sc) b3 ox ox b0 a9 Qz (iq Qz) Qz;have e5:w8 [.scr (ns.map W.int),.int 5,.int (p:Int),.lst [.int 1,.int 0,.int 2,.int 1,.int 3,.int 0],.int sc]=.ok (tI t):=e5;have e:∀N mg me ρ (h:∀x∈t,∃b5,mg (.int x) (ρ++List.replicate (N-ρ.length) Sl.un)=some b5/\me b5=.ok (.int (x*(tm:Int)))),k7 N mg yes me (t.map W.int) ρ=.ok (lI (t.map λx=>x*(tm:Int))):=λN mg me ρ h=>by
   rw[i5 (λx=>W.int (x*(tm:Int))) _ _ ρ ox h,Q6]
  exists e4,c1,e5;rw[e]
  ·exists aQ (Eu ms),C2 (S9 (t.map λx=>x*(tm:Int)));have d2:(t.map λx=>x*(tm:Int)).length=p:=by rw[qA6];exact a3
   refine ⟨t.map λx=>x*(tm:Int),ms,rfl,ox,ox,λx I=>?_,by rw[d2];exact b4,ox,λx I=>?_⟩
   ·obtain ⟨y,hy,rfl⟩:=qB1.mp I;exact qH6 (O y hy) ox
   ·obtain ⟨y,hy,rfl⟩:=qB1.mp I;exact qG1 (qV2 (a0 y hy) (show (tm:Int)<=1000000 by omega) ox ox) Qz
  ·intro x I;refine ⟨_,rfl,?_⟩;exists rp18
def Fw (p:Int):∀I:List Int,iB (.int p) (I.map W.int)=I.findIdx? λq=>decide (q=p)
 | []=>rfl
 | q::I=>by
  have g:=Fw p I;have e:PyData.eqv (pd (.int q)) (pd (.int p))=decide (q=p):=by
   have:=eqI [q] [p]
   simpa [pds,PyData.eqvAll]using this
  unfold iB at g ⊢;rw[qC1,pds,List.findIdx?_cons,List.findIdx?_cons,g,e]
def Fv (hq:q∉A) (hl:(A++q::B).length<=500):lV ((A++q::B).map W.int) (.int q)=.ok (.int (A.length:Int)):=by
 have e:(A++q::B).findIdx? (λx=>decide (x=q))=some A.length:=by
  rw[List.findIdx?_eq_some_iff_getElem];refine ⟨by rw[qC6,qC5];omega,Qy,λj O=>?_⟩;have I:A[j]'O≠q:=λh=>hq (h ▸ qF0 _);rw[List.getElem_append_left O];simpa using I
 unfold lV;rw[W1,kn,qL3,qA2 rfl,Fw,e];exact qA2 (by rw[qC6,qC5]at hl;omega)
inductive Bt (es:List Ent) (k:Nat):Nat->List Nat->Prop where
 |self:Bt es k k []
 |step {i:Nat}{e:Ent}{pn:List Nat}:es[i]?=some e->k<i+1->Bt es k e.2.1 pn->Bt es k (i+1) (i::pn)
def mo (es:List Ent)(i:Nat):Int:=((es.getD i ([],0,0)).2.2:Int)
def rwB (es:List Ent)(pn:List Nat):List Int:=pn.reverse.map (mo es)
def Ik (h:es[i]?=some e):mo es i=(e.2.2:Int):=by
 unfold mo;rw[qA0,h];rfl
def Pt.le (O:∀(i:Nat) (e:Ent),es[i]?=some e->e.2.1<=i):∀{n:Nat}{l r:List Int},Pt es n l r->∀x∈l,0<=x/\x<=(n:Int)
 |_,_,_,.zero=>λx I=>by rw[qC4.mp I];decide
 | _,_,_,.succ h p=>λx I=>by
  have:=O _ _ h
  rcases qB3.mp I with q|q
  ·omega
  ·have:=Pt.le O p x q
   omega
def Pt.head (O:∀(i:Nat) (e:Ent),es[i]?=some e->e.2.1<=i) (p:Pt es n l r):∃t,l=(n:Int)::t/\∀x∈t,0<=x/\x<(n:Int):=by
 cases p with
 |zero=>exact ⟨[],rfl,λx I=>by cases I⟩
 | @succ i e l r h p=>
  refine ⟨l,rfl,λx I=>?_⟩
  have:=Pt.le O p x I
  have:=O _ _ h
  omega
def Pt.split (hp:∀(i:Nat) (e:Ent),es[i]?=some e->e.2.1<=i):∀{n:Nat}{l r:List Int},Pt es n l r->∀{a:Int},a∈l->∃(k:Nat) (I O:List Int) (pn:List Nat),a=(k:Int)/\k<=n/\Pt es k I O/\l=(pn.map λ(i:Nat)=>((i+1:Nat):Int))++I/\Bt es k n pn/\(∀i∈pn,i<es.length)
 |_,_,_,.zero,a,ha=>⟨0,_,_,[],qC4.mp ha,qB5 _,.zero,rfl,.self,λi hi=>by cases hi⟩
 | _,_,_,.succ (i:=i) (e:=e) h p,a,ha=>by
  by_cases q:a=((i+1:Nat):Int)
  ·exact ⟨i+1,_,_,[],q,qB5 _,.succ h p,rfl,.self,λi hi=>by cases hi⟩
  ·have ha:a∈_:=(qB3.mp ha).resolve_left q;obtain ⟨k,I,O,pn,e1,e2,e3,e4,e5,e6⟩:=Pt.split hp p ha
   have:=hp _ _ h
   refine ⟨k,I,O,i::pn,e1,ox,e3,by rw[e4];rfl,.step h ox e5,λj hj=>?_⟩;rcases qB3.mp hj with rfl|hj
   ·exact (qB0.mp h).1
   ·exact e6 j hj
def kB (hp:∀(i:Nat) (e:Ent),es[i]?=some e->e.2.1<=i) (hl:es.length<=100) (hn:n<=es.length) (p:Pt es n l r) (p1:Pt es k l1 r1) (hs:l=(pn.map λ(i:Nat)=>((i+1:Nat):Int))++l1) (a6:∀i∈pn,i<es.length):F2 [.lst (o5 b es),.int (k:Int),.int (n:Int)]=.ok (lI (rwB es pn)):=by
 have k1:=nz (b:=b) hp hl hn p;have a7:=Pt.len hp p;obtain ⟨t,ht,a4⟩:=p1.head hp;have I:l.reverse=t.reverse++(k:Int)::(pn.reverse.map λ(i:Nat)=>((i+1:Nat):Int)):=by
  rw[hs,ht,List.reverse_append,qI6,qL0,qL2];rfl
 have hlen:(t.reverse++(k:Int)::(pn.reverse.map λ(i:Nat)=>((i+1:Nat):Int))).length<=500:=by
  rw[<- I,qC0];omega
 have k2:ql [.lst (o5 b es),.int (n:Int)]=.ok (lI l.reverse):=by
  exists rpB,yu,k1
 rw[I]at k2;have a3:=Fv (A:=t.reverse) (B:=pn.reverse.map λ(i:Nat)=>((i+1:Nat):Int)) (q:=(k:Int)) (λh=>by have:=a4 _ (qT5.mp h);omega) hlen;have O:J9 (t.reverse++(k:Int)::(pn.reverse.map λ(i:Nat)=>((i+1:Nat):Int))) (some ((t.reverse.length:Int)+1)) none=pn.reverse.map λ(i:Nat)=>((i+1:Nat):Int):=by
  have:=mB (xs:=t.reverse++(k:Int)::(pn.reverse.map λ(i:Nat)=>((i+1:Nat):Int))) (n:=t.reverse.length+1) (by rw[qC6,qC5];omega)
  rw[show ((t.reverse.length:Int)+1)=((t.reverse.length+1:Nat):Int) by omega,this,List.drop_append,List.drop_eq_nil_of_le ox];simp
 have a8:pn.length<=500:=by
  rw[qC6,qC5,qA6,qC0]at hlen;rw[qC0]at hlen;omega
 have e:∀N mg me ρ,(∀i∈pn.reverse,∃a0,mg (.int ((i+1:Nat):Int)) (ρ++List.replicate (N-ρ.length) Sl.un)=some a0/\me a0=.ok (.int (mo es i)))->k7 N mg yes me ((pn.reverse.map λ(i:Nat)=>((i+1:Nat):Int)).map W.int) ρ=.ok (lI (rwB es pn)):=λN mg me ρ h=>by
  rw[qB9];refine (i5 (λi=>W.int (mo es i)) (W.int∘λ(i:Nat)=>((i+1:Nat):Int)) pn.reverse ρ (by rw[qC0];omega) h).trans ?_;unfold rwB;rw[Q6]
 generalize hg:t.reverse++(k:Int)::(pn.reverse.map λ(i:Nat)=>((i+1:Nat):Int))=g at *
 exists rpB,bJ,k2,a3,O;rw[e]
 ·exists rp18
 ·intro i hi;have a5:=a6 i (qT5.mp hi);have hg:es[i]?=some (es.getD i ([],0,0)):=by rw[qA0,qA3 a5];rfl
  have r1:=nQ (b:=b) hg;unfold mo;generalize es.getD i ([],0,0)=e at r1
  have b2:L2.atI [tI e.1,.int (e.2.1:Int),.int (e.2.2:Int)] 2=some (.int (e.2.2:Int)):=rfl;refine ⟨_,rfl,?_⟩;exists r1,b2
section
variable {b:List Int}{es:List Ent}(L R:Nat->List Int)
def F_ (b:List Int)(es:List Ent)(L:Nat->List Int)(n:Nat):Option Int:=(L n).tail.find? λa=>m5 (sA b es n) (sA b es a.toNat)
def oW:Option Int->W
 |none=>.non
 |some a=>.int a
inductive LW (F:Nat->Option Int) (N:Nat):W->Prop where
 |none:(∀n,n<=N->F n=none)->LW F N .non
 |some {n:Nat}{a:Int}:n<=N->F n=some a->(∀i,i<n->F i=none)->LW F N (.tup [.int a,.int (n:Int)])
def fL (I:FlK b ms es A T) (h:a<=es.length):(sA b es a).length=b.length:=by
 have:=rV (b:=b) (es:=es) (a:=a) ox
 rcases qB3.mp this with q|q
 ·rw[q]
 ·obtain ⟨e,O,q⟩:=qB1.mp q;rw[<- q];exact I.len e O
def AI (hp:∀(i:Nat) (e:Ent),es[i]?=some e->e.2.1<=i) (hl:es.length<=100) (hL:∀n,n<=es.length->Pt es n (L n) (R n)) (hs:∀a,a<=es.length->(sA b es a).length=b.length):Ok (X6 [.lst (o5 b es)]) (LW (F_ b es L) es.length):=by
 have he:P3 [.lst (o5 b es)]=.ok ((o5 b es).mapIdx λi x=>W.tup [.int (i:Int),x]):=rfl;exists rpB,cE,he;refine r6 (A8 (λi ρ=>∃(x y z:Sl),ρ = [.par (.lst (o5 b es)),x,y,z]/\∀j,j<i->F_ b es L j=none) ⟨_,_,_,rfl,λj hj=>absurd hj (qE5 _)⟩ ?_ ?_)
 ·rintro i u ρ hu ⟨x,y,z,rfl,I⟩;rw[qU6]at hu;have hi:i<es.length+1:=by
   rcases Nat.lt_or_ge i (es.length+1) with q|q
   ·exact q
   ·rw[qH2 (by simpa using q)]at hu;cases hu
  obtain ⟨x1,y1,hr⟩:=gX (b:=b) hi;have a7:(o5 b es)[i]?=some (.tup [tI (sA b es i),x1,y1]):=by
   have:=hr
   unfold L2.atI at this;have e:L2.ixN (o5 b es).length (i:Int)=some i:=by
    unfold L2.ixN;rw[qA2 ox,qA2 (by simp;omega),qD9]
   rw[e]at this;exact this
  rw[a7]at hu;cases hu;have p:=hL i ox;have k1:=nz (b:=b) hp hl ox p;obtain ⟨t,ht,a6⟩:=p.head hp;have a9:=Pt.len hp p;have hF:F_ b es L i=t.find? λa=>m5 (sA b es i) (sA b es a.toNat):=by unfold F_;rw[ht];rfl
  have a4:J9 (L i) (some 1) none=t:=by
   have:=mB (xs:=L i) (n:=1) (by rw[ht,qC5];omega)
   rw[ht]at this ⊢;exact this
  have a0:L2.atI [tI (sA b es i),x1,y1] 0=some (tI (sA b es i)):=rfl;refine ⟨_,rfl,?_⟩;exists k1;rw[a4];refine fP (λj ρ=>∃z,ρ = [.par (.lst (o5 b es)),.par (.int (i:Int)),.par (.tup [tI (sA b es i),x1,y1]),z]/\∀j',j'<j->m5 (sA b es i) (sA b es (t.getD j' 0).toNat)=false) ⟨_,rfl,λj hj=>absurd hj (qE5 _)⟩ ?_ ?_
  ·rintro j u ρ hu ⟨z,rfl,a3⟩;obtain ⟨hj,rfl⟩:=int_at hu;have a5:=memD a6 hj;obtain ⟨a,ha⟩:∃a:Nat,t.getD j 0=(a:Int):=⟨(t.getD j 0).toNat,ox⟩;rw[ha]at a5 ⊢;obtain ⟨x2,y2,a8⟩:=gX (b:=b) (es:=es) (a:=a) ox;have b0:L2.atI [tI (sA b es a),x2,y2] 0=some (tI (sA b es a)):=rfl;have kc:=jq (a:=sA b es i) (b:=sA b es a) (by rw[hs a ox,hs i ox]);refine ⟨_,rfl,?_⟩;exists a0,a8,b0,kc;refine V3 (λh=>?_) (λh=>?_)
   ·exists rp18;refine .some ox ?_ I;rw[hF,List.find?_eq_some_iff_getElem];refine ⟨by rw[qD9];exact h,j,hj,?_,λj2 O=>?_⟩
    ·rw [qA0,qA3 hj]at ha
     exact ha
    ·have:=a3 j2 O
     rw[qA0,qA3 ox]at this;simpa using this
   ·exists rp18;refine ⟨_,rfl,λj2 O=>?_⟩;by_cases q:j2=j
    ·subst q;rw[ha,qD9];exact h
    ·exact a3 j2 ox
  ·rintro ρ ⟨z,rfl,a3⟩;refine ⟨_,_,_,rfl,λj hj=>?_⟩;by_cases q:j=i
   ·subst q;rw[hF,List.find?_eq_none];intro a ha;obtain ⟨j2,O,rfl⟩:=qI9 ha
    have:=a3 j2 (by rw[qA6];exact O)
    rw[qA0,qA3 O]at this;simpa using this
   ·exact I j ox
 ·rintro ρ ⟨x,y,z,rfl,I⟩;exists rp18;refine .none λn hn=>I n ?_;rw[qO0];simpa using Nat.lt_succ_of_le hn
end
def Pt.zm:∀{n:Nat}{l r:List Int},Pt es n l r->(0:Int)∈l
 |_,_,_,.zero=>qB2
 |_,_,_,.succ _ p=>qA8 _ p.zm
def BW {R:Nat->List Int}(hp:∀(i:Nat) (e:Ent),es[i]?=some e->e.2.1<=i) (hL:∀n,n<=es.length->Pt es n (L n) (R n)) (hn:n<=es.length) (h:F_ b es L n=some a):∃(k:Nat) (I r1 O r0:List Int) (pn1 pn0:List Nat),a=(k:Int)/\k<=n/\Pt es k I r1/\L n=(pn1.map λ(i:Nat)=>((i+1:Nat):Int))++I/\Bt es k n pn1/\(∀i∈pn1,i<es.length)/\Pt es 0 O r0/\I=(pn0.map λ(i:Nat)=>((i+1:Nat):Int))++O/\Bt es 0 k pn0/\(∀i∈pn0,i<es.length):=by
 have ha:a∈L n:=List.mem_of_mem_tail (qR6 h);obtain ⟨k,I,r1,pn,e1,e2,e3,e4,e5,e6⟩:=Pt.split hp (hL n hn) ha;obtain ⟨k0,O,r0,pn0,f1,f2,f3,f4,f5,f6⟩:=Pt.split hp e3 e3.zm
 have:k0=0:=ox
 subst this;exact ⟨k,I,r1,O,r0,pn,pn0,e1,e2,e3,e4,e5,e6,f3,f4,f5,f6⟩
def nM (h:es[i]?=some e):sA b es (i+1)=e.1:=by
 unfold sA stS;rw[qA0,qS7,qA7,h];rfl
def aS (h:p<s.length):(B4 s m).getD p 0=s.getD p 0+(m.2.getD p 0-m.1.getD p 0):=by
 unfold B4;rw[qA0,qA7,qF2 h];rfl
def U2 (h:m5 a c=true) (I:p<a.length):c.getD p 0<=a.getD p 0:=by
 unfold m5 at h;exact qO9 (qE3.mp h p (by simpa using I))
section
variable {b:List Int}{ms:List Mv}{es:List Ent}{A:Nat}{T:List Nat}
def az (I:FlK b ms es A T) (O:es[i]?=some e) (hp:p<b.length):e.2.2<ms.length/\(mvN ms e.2.2).1.getD p 0<=(sA b es e.2.1).getD p 0/\(sA b es (i+1)).getD p 0=(sA b es e.2.1).getD p 0+stM ms e.2.2 p:=by
 have hm:=qD3 O;have hi:=(qB0.mp O).1;obtain ⟨h1,h2⟩:=I.beh e hm;have hl:=fL I (a:=e.2.1) (by have:=I.par i e O;omega);refine ⟨I.k8 e hm,U2 h1 (by rw[hl];exact hp),?_⟩;rw[nM O,h2];exact aS (by rw[hl];exact hp)
structure Lft (b:List Int) (es:List Ent) (k n:Nat):Prop where
 hk:k<n
 hn:n<=es.length
 le:∀p,p<b.length->(sA b es k).getD p 0<=(sA b es n).getD p 0
 lt:∃p,p<b.length/\(sA b es k).getD p 0<(sA b es n).getD p 0
def ED {R:Nat->List Int}(hK:FlK b ms es A T) (hL:∀n,n<=es.length->Pt es n (L n) (R n)){k:Nat}(hn:n<=es.length) (I:F_ b es L n=some (k:Int)):Lft b es k n:=by
 obtain ⟨t,ht,a0⟩:=(hL n hn).head hK.par;unfold F_ at I;rw[ht]at I;have hk:=(a0 _ (qR6 I)).2;have hc:m5 (sA b es n) (sA b es (k:Int).toNat)=true:=List.find?_some (p:=λa:Int=>m5 (sA b es n) (sA b es a.toNat)) I;rw[qD9]at hc;have l1:=fL hK (a:=k) ox;have l2:=fL hK hn;have le:∀p,p<b.length->(sA b es k).getD p 0<=(sA b es n).getD p 0:=λp O=>U2 hc (by rw[l2];exact O);refine ⟨ox,hn,le,qR5 λq=>?_⟩;have e:sA b es k=sA b es n:=by
  refine qG0 (by rw[l1,l2]) λp h1 h2=>?_;have O:p<b.length:=ox;have a1:=le p O;have a2:¬ (sA b es k).getD p 0<(sA b es n).getD p 0:=λz=>q ⟨p,O,z⟩;rw[qA0,qA0,qA3 h1,qA3 h2]at a1 a2;change (sA b es k)[p]<=(sA b es n)[p]at a1;change ¬ (sA b es k)[p]<(sA b es n)[p]at a2;omega
 unfold sA at e;have k1:k<(stS b es).length:=by rw[P9];omega
 have k2:n<(stS b es).length:=by rw[P9];omega
 rw[qA0,qA0,qA3 k1,qA3 k2]at e;exact qG8.mp hK.nod k n k1 k2 ox e
def jp (I:FlK b ms es (es.length+1) []) (hs:s∈stS b es) (O:j<ms.length) (hc:m5 s (mvN ms j).1=true):B4 s (mvN ms j)∈stS b es:=by
 obtain ⟨a,ha,rfl⟩:=qI9 hs;have ea:(stS b es)[a]=sA b es a:=by
  unfold sA;rw[qA0,qA3 ha];rfl
 rw[ea]at hc ⊢;rw[P9]at ha;rcases I.set a j (.inl ha) O hc with ⟨e,he,q⟩|q|⟨e,he,_,q⟩
 ·have:=(I.beh e he).2
  rw[q]at this;exact qA8 _ (qB1.mpr ⟨e,he,this⟩)
 ·show bhN b ms es a j∈_;rw[q];exact qB2
 ·exact qA8 _ (qB1.mpr ⟨e,he,q⟩)
def S3 (I:FlK b ms es A T) (hs:s∈stS b es):s.length=b.length:=by
 rcases qB3.mp hs with q|q
 ·rw[q]
 ·obtain ⟨e,O,q⟩:=qB1.mp q;rw[<- q];exact I.len e O
def Bt.again (hK:FlK b ms es (es.length+1) []) (B:Bt es k n pn) (hs:s∈stS b es) (hc:∀p,p<b.length->(sA b es k).getD p 0<=s.getD p 0):∃s'∈stS b es,∀p,p<b.length->s'.getD p 0=s.getD p 0+((sA b es n).getD p 0-(sA b es k).getD p 0):=by
 induction B with
 |self=>exact ⟨s,hs,λp _=>ox⟩
 | @step i e pn he _ _ ih=>
  obtain ⟨s',O,q⟩:=ih;have hl:=S3 hK O;have hm:=qD3 he;refine ⟨_,jp hK O (hK.k8 e hm) (dH λp I=>?_),λp I=>?_⟩
  ·rw [hl]at I
   have:=az hK he I
   rw[q p I]
   have:=hc p I
   omega
  ·have:=(az hK he I).2.2
   rw[aS (by rw[hl];exact I),q p I,this]
   show _+_+stM ms e.2.2 p=_;omega
def lA {α:Type}(f:α->Int):∀{l:List α}{x:α},x∈l->∃y∈l,∀z∈l,f z<=f y
 | [],_,h=>by cases h
 | [y],_,_=>⟨y,qC4.mpr rfl,λz hz=>by rw[qC4.mp hz];exact qF3 _⟩
 | y::u::l,_,_=>by
  obtain ⟨v,I,h⟩:=lA f (l:=u::l) qB2;by_cases q:f v<=f y
  ·refine ⟨y,qB2,λz hz=>?_⟩;rcases qB3.mp hz with e|e
   ·rw[e];exact qF3 _
   ·have:=h z e
    omega
  ·refine ⟨v,qA8 _ I,λz hz=>?_⟩;rcases qB3.mp hz with e|e
   ·rw[e];omega
   ·exact h z e
end
def rN (hm:m<=6):U0 [tI (vec m x),tI (vec m y),.int 1]=.ok (tI (vec m λp=>x p+1*y p)):=by
 have hz:=O0 (tI (vec m x)) (tI (vec m y)) _ _ rfl rfl;rw[V8 (by rw[n5,n5]),n5]at hz;have e:∀N mg me ρ (h:∀j,j<m->∃I,mg (.tup [.int ((vec m x).getD j 0),.int ((vec m y).getD j 0)]) (ρ++List.replicate (N-ρ.length) Sl.un)=some I/\me I=.ok (.int (x j+1*y j))),k7 N mg yes me ((List.range m).map λj=>W.tup [.int ((vec m x).getD j 0),.int ((vec m y).getD j 0)]) ρ=.ok (lI (vec m λj=>x j+1*y j)):=λN mg me ρ h=>by
  rw[i5 (λj=>.int (x j+1*y j)) _ _ ρ (by simpa using (by omega:m<=1000)) (λk hk=>h k (by simpa using hk)),Q6]
 exists rpB,cD,hz;rw[e]
 ·exists rp18
 ·intro j O;have v1:(vec m x).getD j 0=x j:=n9 O;have v2:(vec m y).getD j 0=y j:=n9 O;rw[v1,v2];refine ⟨_,rfl,?_⟩;exists rp18
structure WtA (ms:List Mv) (m:Nat) (y:List Int):Prop where
 len:y.length=m
 pos:∀p,p<m->1<=y.getD p 0/\y.getD p 0<=2^400
 down:∀j,j<ms.length->d8 m (λp=>y.getD p 0*stM ms j p)<=0
inductive Lev (ms:List Mv) (m:Nat):W->Prop where
 |b {p:Nat}{y:List Int}:Lev ms m (.tup [.str "bag",.int (p:Int),tI y])
 |w {y:List Int}:WtA ms m y->Lev ms m (.tup [.str "weights",tI y])
def Lev.wt {w:W}(h:Lev ms m w) (e:w=.tup [.str "weights",tI y]):WtA ms m y:=by
 cases h with
 |b=>cases e
 | @w z hz=>
  injection e with e
  injection e with _ e
  injection e with e _
  injection e with e
  rw[<- (List.map_inj_right λ_ _ h=>by injection h).mp e];exact hz
def Ba {m:Nat}(O:1<=m) (I:m<=6):fRepT (.tup [.int 0]) (.int (m:Int))=.ok (tI (vec m λ_=>0)):=by
 show (if _ then _ else _)=_;rw[qA2 ⟨Qy,by simp;omega,ox,ox⟩,qD9]
 have:(List.replicate m [W.int 0]).flatten=(vec m λ_=>0).map W.int:=by
  clear O I
  induction m with
  |zero=>rfl
  | succ m ih=>
   rw[qE4,qG5,ih];unfold vec;rw[qT2,qC1,qC1,qB9,qB9,qB9];rfl
 rw[this]
def wR (h1:1<=m) (h6:m<=6) (h8:ms.length<=8) (a5:∀x∈ms,okB m x):Ok (dz [tM_ ms,.int (m:Int)]) (Lev ms m):=by
 have fr:=Ba h1 h6;have s1:o6 false (W.str "weights") (W.str "bag")=.ok (.bl false):=rfl;have s2:o6 false (W.str "bag") (W.str "bag")=.ok (.bl true):=rfl;exists rpB,oq,fr;refine r6 (A8 (λi ρ=>∃(x:Nat->Int) (a b:Sl),ρ = [.par (tM_ ms),.par (.int (m:Int)),.val (tI (vec m x)),a,b]/\i<=m/\(∀p,p<m->0<=x p/\x p<=(i:Int)*2^300)/\(∀p,p<i->1<=x p)/\∀j,j<ms.length->d8 m (λp=>x p*stM ms j p)<=0) ⟨_,_,_,rfl,ox,λp _=>⟨qF3 _,Qy⟩,λp I=>absurd I (qE5 _),λj _=>ag λp _=>by rw[qJ5];exact qF3 _⟩ ?_ ?_)
 ·rintro i u ρ hu ⟨x,a,b,rfl,a6,hx,a3,a4⟩;obtain ⟨hi,rfl⟩:=bZ hu;obtain ⟨w,e1,hw⟩:=qz h1 h6 (λm hm=>(a5 m hm).1) h8 hi (λj hj p I=>Cq a5 hj I);cases hw with
  | @w y hy=>
   have a0:L2.atI [W.str "weights",tI y] 0=some (.str "weights"):=rfl;have a1:L2.atI [W.str "weights",tI y] 1=some (tI y):=rfl;have ey:y=vec m λp=>y.getD p 0:=by
    have:=Hk y
    rw[hy.len]at this;exact this.symm
   have k1:=rN (x:=x) (y:=λp=>y.getD p 0) h6;rw[<- ey]at k1;refine ⟨_,rfl,?_⟩;exists e1,a0,a1,s1,k1;refine ⟨λp=>x p+1*y.getD p 0,_,_,rfl,ox,λp I=>?_,λp I=>?_,λj hj=>?_⟩
   ·have q1:=hx p I;have q2:=hy.nn p I
    have:((i+1:Nat):Int)*2^300=(i:Int)*2^300+2^300:=by rw[Int.natCast_succ,qL1,qK1]
    show 0<=x p+1*y.getD p 0/\x p+1*y.getD p 0<=_;omega
   ·have q1:=hx p ox;have q2:=hy.nn p ox
    show 1<=x p+1*y.getD p 0;by_cases e:p=i
    ·subst e
     have:=hy.one
     omega
    ·have:=a3 p ox
     omega
   ·have q1:=a4 j hj;have q2:=hy.down j hj;have e:d8 m (λp=>(x p+1*y.getD p 0)*stM ms j p)=d8 m (λp=>x p*stM ms j p)+d8 m λp=>y.getD p 0*stM ms j p:=by
     rw[<- E6];exact i7 λp _=>by rw[qK1,qL1]
    show d8 m (λp=>(x p+1*y.getD p 0)*stM ms j p)<=0;omega
  | @b y hy=>
   have a0:L2.atI [W.str "bag",tI y] 0=some (.str "bag"):=rfl;have a1:L2.atI [W.str "bag",tI y] 1=some (tI y):=rfl;refine ⟨_,rfl,?_⟩;exists e1,a0,a1,s2;exact .b
 ·rintro ρ ⟨x,a,b,rfl,a6,hx,a3,a4⟩;rw[qA6,qF5]at hx a3;have l5:=n5 m x;obtain ⟨v,e,g,ys,rfl,hg,a7,O⟩:=fj (.inr rfl) (xs:=vec m x) (by rw[l5];omega) (λz hz=>by
   obtain ⟨p,I,rfl⟩:=qB1.mp hz;have q:=hx p (by simpa using I);refine ⟨q.1,qG1 q.2 (qG1 (qG7 (show (m:Int)<=6 by omega) Qz) Qz)⟩) ⟨0,by rw[l5];omega,by
    rw[n9 ox]
    have:=a3 0 ox
    omega⟩
  have O:∀p,p<m->x p=g*ys.getD p 0:=λp I=>by
   have:=O p (by rw[l5];exact I)
   rwa [n9 I]at this
  exists e;refine .w ⟨by rw[a7,l5],λp I=>?_,λj hj=>lx hg ?_⟩
  ·have q:=hx p I;have q2:x p<=2^400:=qG1 q.2 (qG1 (qG7 (show (m:Int)<=6 by omega) Qz) Qz)
   have:=ii hg q.1 q2 (O p I)
   have:=fc hg (show 0<g*ys.getD p 0 by rw[<- O p I];exact a3 p I)
   omega
  ·rw [<- jW O]
   exact a4 j hj
inductive FW (b:List Int) (es:List Ent) (L:Nat->List Int) (wh:Bool) (wl:W):W->Prop where
 |lift {n k:Nat}{pn0 pn1:List Nat}:n<=es.length->F_ b es L n=some (k:Int)->Bt es 0 k pn0->Bt es k n pn1->FW b es L wh wl (.tup [.str "lift",lI (rwB es pn0),lI (rwB es pn1)])
 |all:wh=true->FW b es L wh wl (.tup [.str "all",lS (stS b es)])
 |wts {y:List Int}:wh=false->wl=.tup [.str "weights",tI y]->FW b es L wh wl (.tup [.str "weights",tI y])
 |opn {p:Nat}{y:List Int}:wh=false->wl=.tup [.str "bag",.int (p:Int),tI y]->FW b es L wh wl (.tup [.str "open"])
def Iq (hl:es.length<=100):al [.lst (o5 b es)]=.ok (lS (stS b es)):=by
 have e:∀N mg me ρ (h:∀o∈(none::es.map some),∃I,mg (pB b o) (ρ++List.replicate (N-ρ.length) Sl.un)=some I/\me I=.ok (tI (stO b o))),k7 N mg yes me (o5 b es) ρ=.ok (lS (stS b es)):=λN mg me ρ h=>by
  rw[CO,i5 (λo=>tI (stO b o)) _ _ ρ (by simp;omega) h,<- st_O]
  show _=R.ok (W.lst (((none::es.map some).map (stO b)).map tI));rw[qB9];rfl
 exists rpB,dU;rw[e]
 ·exists rp18
 ·intro o ho;refine ⟨_,rfl,?_⟩;cases o with
  | none=>
   have a0:L2.atI [tI b,W.non,W.non] 0=some (tI b):=rfl;have O:pB b none=.tup [tI b,.non,.non]:=rfl;exists O,a0;rfl
  | some e=>
   have a0:L2.atI [tI e.1,.int (e.2.1:Int),.int (e.2.2:Int)] 0=some (tI e.1):=rfl;have O:pB b (some e)=.tup [tI e.1,.int (e.2.1:Int),.int (e.2.2:Int)]:=rfl;exists O,a0;rfl
def qE {R:Nat->List Int}{most:Nat}(e2:dz [tM_ ms,.int (b.length:Int)]=.ok wl) (hw:Lev ms b.length wl) (I:dA [.tup [tI b,tM_ ms],.int (most:Int)]=.ok (.tup [.lst (o5 b es),.bl wh])) (hp:∀(i:Nat) (e:Ent),es[i]?=some e->e.2.1<=i) (O:es.length<=100) (hL:∀n,n<=es.length->Pt es n (L n) (R n)) (hs:∀a,a<=es.length->(sA b es a).length=b.length):Ok (ac [.tup [tI b,tM_ ms],.int (most:Int)]) (FW b es L wh wl):=by
 have f0:L2.atI [W.lst (o5 b es),W.bl wh] 0=some (.lst (o5 b es)):=rfl;have f1:L2.atI [W.lst (o5 b es),W.bl wh] 1=some (.bl wh):=rfl;have m0:L2.atI [tI b,tM_ ms] 0=some (tI b):=rfl;have m1:L2.atI [tI b,tM_ ms] 1=some (tM_ ms):=rfl;obtain ⟨w,e1,a4⟩:=AI L R hp O hL hs;cases a4 with
 | @some n a hn hF a7=>
  obtain ⟨k,l1,r1,l0,r0,pn1,pn0,rfl,hk,p1,a5,B1,a8,p0,a3,B0,a6⟩:=BW hp hL hn hF;have k1:=kB (b:=b) hp O hn (hL n hn) p1 a5 a8;have k0:=kB (b:=b) hp O (show k<=es.length by omega) p1 p0 a3 a6;have k0:F2 [.lst (o5 b es),.int 0,.int (k:Int)]=.ok (lI (rwB es pn0)):=k0;have k2:ft [.lst (o5 b es),.int (k:Int)]=.ok (lI (rwB es pn0)):=by
   exists rpB,lB,k0
  have g0:L2.atI [W.int (k:Int),.int (n:Int)] 0=some (.int (k:Int)):=rfl;have g1:L2.atI [W.int (k:Int),.int (n:Int)] 1=some (.int (n:Int)):=rfl;exists rpB,T7,I,f0,e1,g0,g1,k1,k2;exact ⟨_,rfl,.lift hn hF B0 B1⟩
 | none a9=>
  have ki:=Iq (b:=b) O;have s1:o6 false (W.str "weights") (W.str "weights")=.ok (.bl true):=rfl;have s2:o6 false (W.str "bag") (W.str "weights")=.ok (.bl false):=rfl;cases wh with
  | true=>
   exists rpB,T7,I,f0,f1,e1,ki;exact ⟨_,rfl,.all rfl⟩
  | false=>
   cases hw with
   | @b p y=>
    have a0:L2.atI [W.str "bag",.int (p:Int),tI y] 0=some (.str "bag"):=rfl;exists rpB,T7,I,f0,f1,e1,m0,m1,e2,a0,s2;exact ⟨_,rfl,.opn rfl rfl⟩
   | @w y _=>
    have a0:L2.atI [W.str "weights",tI y] 0=some (.str "weights"):=rfl;exists rpB,T7,I,f0,f1,e1,m0,m1,e2,a0,s1;exact ⟨_,rfl,.wts rfl rfl⟩
def Hd (O:nn s) (hm:okN s.length m) (hc:m5 s m.1=true):nn (B4 s m):=λx I=>by
 obtain ⟨k,hk,rfl⟩:=qB1.mp I
 have:=U2 hc (show k<s.length by simpa using hk)
 have:=pT hm.2.2.2 k
 show 0<=s.getD k 0+(m.2.getD k 0-m.1.getD k 0);omega
def nI:∀{n:Nat},(∀k,k<n->0<=f k)->0<=d8 n f
 |0,_=>qF3 0
 |n+1,h=>Int.add_nonneg (nI λk hk=>h k (qE9 hk)) (h n (qD2 n))
def ze (I:r<n) (h:∀k,k<n->0<=f k):f r<=d8 n f:=by
 have:=V9 (f:=f) (g:=λk=>if k=r then 0 else f k) I λk _ q=>by rw[qA4 q]
 have O:0<=d8 n λk=>if k=r then 0 else f k:=nI λk hk=>by
  show 0<=if k=r then 0 else f k
  split
  ·exact qF3 0
  ·exact h k hk
 simp only [qA2]at this;omega
structure Dn (b y s:List Int):Prop where
 len:s.length=b.length
 nn:nn s
 le:d8 b.length (λp=>y.getD p 0*s.getD p 0)<=d8 b.length λp=>y.getD p 0*b.getD p 0
def Dn.go (I:∀z∈ms,okB b.length z) (hy:WtA ms b.length y) (h:Dn b y s) (hm:m∈ms) (hc:m5 s m.1=true):Dn b y (B4 s m):=by
 refine ⟨by rw[fA,h.len],Hd h.nn (by rw[h.len];exact (I m hm).1) hc,qG1 ?_ h.le⟩;obtain ⟨j,O,rfl⟩:=qI9 hm;have e:d8 b.length (λp=>y.getD p 0*(B4 s ms[j]).getD p 0)=d8 b.length (λp=>y.getD p 0*s.getD p 0)+d8 b.length λp=>y.getD p 0*stM ms j p:=by
  rw[<- E6];refine i7 λp hp=>?_;rw[aS (by rw[h.len];exact hp),Int.mul_add];unfold stM;rw[qA0 (l:=ms),qA3 O];rfl
 have:=hy.down j O
 omega
def Cl (b:List Int)(ms:List Mv)(P:List Int->Prop):Prop:=(∀s,P s->s.length=b.length)/\∀s,P s->∀j,j<ms.length->m5 s (mvN ms j).1=true->P (B4 s (mvN ms j))
def Cl.gos (h:Cl b ms P):∀(r:List Nat){s:List Int},P s->gos b.length ms r (λp=>s.getD p 0)->∃s',P s'/\∀p,p<b.length->s'.getD p 0=s.getD p 0+dsp ms r p
 | [],s,hs,_=>⟨s,hs,λp _=>by show _=_+(0:Int);omega⟩
 | k::r,s,hs,⟨h1,h2,h3⟩=>by
  have hl:=h.1 s hs;have hP:=h.2 s hs k h1 (dH λp I=>h2 p (by rw[<- hl];exact I));obtain ⟨s',O,q⟩:=Cl.gos h r hP (J5 r _ _ (λp I=>by
   show s.getD p 0+mvD (mvN ms k) p<=(B4 s (mvN ms k)).getD p 0;rw[aS (by rw[hl];exact I)];exact qF3 _) h3)
  refine ⟨s',O,λp I=>?_⟩;rw[q p I,aS (by rw[hl];exact I)]
  show _=_+(mvD (mvN ms k) p+dsp ms r p);unfold mvD;omega
def Cl.again (h:Cl b ms P) (hK:FlK b ms es A T) (B:Bt es k n pn) (hs:P s) (hc:∀p,p<b.length->(sA b es k).getD p 0<=s.getD p 0):∃s',P s'/\∀p,p<b.length->s'.getD p 0=s.getD p 0+((sA b es n).getD p 0-(sA b es k).getD p 0):=by
 induction B with
 |self=>exact ⟨s,hs,λp _=>ox⟩
 | @step i e pn he _ _ ih=>
  obtain ⟨s',O,q⟩:=ih;have hl:=h.1 s' O;have hm:=qD3 he;refine ⟨_,h.2 s' O _ (hK.k8 e hm) (dH λp I=>?_),λp I=>?_⟩
  ·rw [hl]at I
   have:=az hK he I
   rw[q p I]
   have:=hc p I
   omega
  ·have:=(az hK he I).2.2
   rw[aS (by rw[hl];exact I),q p I,this]
   show _+_+stM ms e.2.2 p=_;omega
def Cl.all (h:Cl b ms P) (I:FlK b ms es A T) (hb:P b):∀i,i<=es.length->P (sA b es i):=by
 intro i
 induction i using Nat.strongRecOn with
 | _ i ih=>
  intro hi;cases i with
  |zero=>exact hb
  | succ i=>
   have O:es[i]?=some es[i]:=qA3 ox;have hm:=qD3 O;have hp:=I.par i _ O;rw[nM O,(I.beh _ hm).2];exact h.2 _ (ih _ ox ox) _ (I.k8 _ hm) (I.beh _ hm).1
def Cl.pump (h:Cl b ms P) (hK:FlK b ms es A T) (B:Bt es k n pn) (L:Lft b es k n) (hs:P (sA b es k)):∀N:Nat,∃s,P s/\∀p,p<b.length->s.getD p 0=(sA b es k).getD p 0+(N:Int)*((sA b es n).getD p 0-(sA b es k).getD p 0)
 |0=>⟨_,hs,λp _=>Qy⟩
 | N+1=>by
  obtain ⟨s,O,q⟩:=Cl.pump h hK B L hs N;obtain ⟨s',h1,q'⟩:=h.again hK B O (λp I=>by
   rw[q p I];have h2:=L.le p I
   have:=qH6 (Int.natCast_nonneg N) (show 0<=(sA b es n).getD p 0-(sA b es k).getD p 0 by omega)
   omega)
  refine ⟨s',h1,λp I=>?_⟩;rw[q' p I,q p I];push_cast;rw[qL1];omega
def He (m:Mv):B4 s m=bhS s m:=by
 unfold B4 bhS;exact qF1 λk _=>ox
def mD {ts:List Cap}(hG:GK (b.map some) ms gs (gs.length+1) 0) (I:∀m∈ms,okN b.length m) (q1:∀t∈ts,t∈stC (b.map some) gs) (O:∀c∈stC (b.map some) gs,∃t∈ts,i6 c t=true):Cl b ms λs=>s.length=b.length/\∃t∈ts,i6 (s.map some) t=true:=by
 refine ⟨λs h=>h.1,λs ⟨hl,hu⟩ j hj hc=>⟨by rw[fA,hl],?_⟩⟩;have hm:mvN ms j∈ms:=by
  unfold mvN;rw[qA0,qA3 hj];exact qF0 _
 rw[He];exact uu hG (by rw[qA6];exact I) q1 O (by rw[qA6];exact hl) hm hc hu
def iK {b:List Int}{ts:List Cap}(I:∀c∈stC (b.map some) gs,∃t∈ts,i6 c t=true):∃t∈ts,i6 (b.map some) t=true:=I _ qB2
def wQ {ts:List Cap}(hG:GK (b.map some) ms gs (gs.length+1) 0) (a3:∀m∈ms,okN b.length m) (q1:∀t∈ts,t∈stC (b.map some) gs) (q4:∀c∈stC (b.map some) gs,∃t∈ts,i6 c t=true) (hK:FlK b ms es A T) (B:Bt es k n pn) (L:Lft b es k n) (hp:p<b.length) (a6:(sA b es k).getD p 0<(sA b es n).getD p 0):∃t∈ts,t.getD p none=none:=by
 by_cases q:∃t∈ts,t.getD p none=none
 ·exact q
 ·exfalso;have hC:=mD hG a3 q1 q4;obtain ⟨t0,O,h0⟩:=iK q4;obtain ⟨y,hy,a0⟩:=lA (λt:Cap=>(t.getD p none).getD 0) O;have a4:=L.hk;have a5:=L.hn;obtain ⟨s,⟨hl,t,ht,hu⟩,e⟩:=hC.pump hK B L (hC.all hK ⟨rfl,t0,O,h0⟩ k ox) ((y.getD p none).getD 0-(sA b es k).getD p 0+1).toNat;have e:=e p hp;have hm:=a0 t ht;have h1:=fD hu (p:=p) (by rw[qA6,hl];exact hp);rw[L5 (by rw[hl];exact hp)]at h1;cases I:t.getD p none with
  |none=>exact q ⟨t,ht,I⟩
  | some v=>
   rw[I]at h1 hm;have h1:s.getD p 0<=v:=qO9 h1;have hm:v<=(y.getD p none).getD 0:=hm;generalize (y.getD p none).getD 0=V at *
   generalize (sA b es k).getD p 0=a at *
   generalize (sA b es n).getD p 0=d at *
   have h3:(((V-a+1).toNat:Nat):Int)*1<=(((V-a+1).toNat:Nat):Int)*(d-a):=qJ8 ox (Int.natCast_nonneg _);omega
def gx (hG:GK (b.map some) ms gs (gs.length+1) 0) (O:∀m∈ms,okN b.length m) (h:Cl b ms P) (hb:P b) (ht:t∈stC (b.map some) gs) (N:Int):∃s,P s/\∀p,p<b.length->(∀v,t.getD p none=some v->s.getD p 0=v)/\(t.getD p none=none->N<=s.getD p 0):=by
 obtain ⟨a,ha,rfl⟩:=jZ ht;have hr:=hG.rz (λm hm=>by rw[qA6];exact (O m hm).1) a ha 0 (va hG.par a ha);rw[qA6]at hr;obtain ⟨N0,r,g,re⟩:=hr N;have ec:∀p,p<b.length->v6 (sC (b.map some) gs 0) N0 p=b.getD p 0:=λp I=>by
  show ((b.map some).getD p none).getD N0=_;rw[L5 I];rfl
 obtain ⟨s,hs,q⟩:=h.gos r hb (J5 r _ _ (λp I=>by rw[ec p I];exact qF3 _) g);refine ⟨s,hs,λp I=>?_⟩
 have:=re p I
 dsimp only at this;rw[ec p I,<- q p I]at this;exact this
def iX (hG:GK (b.map some) ms gs (gs.length+1) 0) (I:∀m∈ms,okN b.length m) (h:Cl b ms P) (O:P b) (hp:p<b.length){V:Int}(hV:∀s,P s->s.getD p 0<=V) (ht:t∈stC (b.map some) gs):∃v,t.getD p none=some v:=by
 cases q:t.getD p none with
 |some v=>exact ⟨v,rfl⟩
 | none=>
  obtain ⟨s,hs,e⟩:=gx hG I h O ht (V+1);have h1:=(e p hp).2 q
  have:=hV s hs
  omega
def fB (hG:GK (b.map some) ms gs (gs.length+1) 0) (O:∀m∈ms,okN b.length m) (hK:FlK b ms es (es.length+1) []) (ht:t∈stC (b.map some) gs):∃s∈stS b es,t=s.map some:=by
 have hC:Cl b ms λs=>s∈stS b es:=⟨λs I=>S3 hK I,λs I j hj hc=>jp hK I hj hc⟩;have hb:b∈stS b es:=qB2;have hn:∀p,p<b.length->∃v,t.getD p none=some v:=λp hp=>by
  obtain ⟨y,hy,a0⟩:=lA (λs:List Int=>s.getD p 0) hb;exact iX hG O hC hb hp a0 ht
 obtain ⟨s,I,e⟩:=gx hG O hC hb ht 0;have lt:=eQ hG t ht;rw[qA6]at lt;have ls:=S3 hK I;refine ⟨s,I,qL8 λp=>?_⟩;by_cases hp:p<b.length
 ·obtain ⟨v,hv⟩:=hn p hp;have h1:=(e p hp).1 v hv;rw[qA0,qA3 ox]at hv h1;rw[qA7,qA3 ox,qA3 ox];have hv:t[p]=some v:=hv;have h1:s[p]=v:=h1;rw[hv,qN3,h1]
 ·rw[qH2 ox,qH2 (by rw[qA6];omega)]
def Dn.top (O:WtA ms b.length y) (h:Dn b y s) (I:p<b.length):s.getD p 0<=d8 b.length λp=>y.getD p 0*b.getD p 0:=by
 have h0:∀k,k<b.length->0<=s.getD k 0:=λk hk=>mem_getD (P:=λx=>0<=x) h.nn (by rw[h.len];exact hk);have h1:=ze (f:=λp=>y.getD p 0*s.getD p 0) I λk hk=>qH6 (by have:=O.pos k hk;omega) (h0 k hk);have h2:1*s.getD p 0<=y.getD p 0*s.getD p 0:=qG7 (O.pos p I).1 (h0 p I)
 have:=h.le
 omega
def memS {ss:List (List Int)}(h:i<ss.length):ss.getD i []∈ss:=TP.getD_mem h
def Aw {ss:List (List Int)}(h:(ss.map tI)[i]?=some w):i<ss.length/\w=tI (ss.getD i []):=by
 rw[qA7]at h;cases q:ss[i]? with
 |none=>rw[q]at h;cases h
 | some m=>
  rw[q]at h;cases h;refine ⟨(qB0.mp q).1,?_⟩;rw[qA0,q];rfl
def AZ (h:ss.length<64) (O:∀z∈ss,z ≠ []):fSort [lS ss]=.ok (lS (K1 ss)):=by
 have I:ss.all (λx=>!x.isEmpty)=true:=by
  rw[qE3];intro x hx
  have:=O x hx
  cases x with
  |nil=>exact absurd rfl this
  |cons _ _=>rfl
 show (match O2 (ss.map λx=>W.tup (x.map W.int)) with|some ss=>_|none=>_)=_;rw[eN]
 show (if _ then _ else _)=_;rw[qA2 ⟨h,I⟩]
def AK (O:a.length<=6) (hl:c.length=a.length):U8 [tI a,tI c]=.ok (.bl (m5 a c)):=by
 have e:∀N mg me ρ (h:∀k∈List.range a.length,∃I,mg (.int (k:Nat)) (ρ++List.replicate (N-ρ.length) Sl.un)=some I/\me I=.ok (.bl (decide (c.getD k 0<=a.getD k 0)))),k7 N mg yes me ((List.range a.length).map λk=>W.int (k:Nat)) ρ=.ok (.lst (((List.range a.length).map λk=>decide (c.getD k 0<=a.getD k 0)).map W.bl)):=λN mg me ρ h=>by
  rw[i5 (λk=>W.bl (decide (c.getD k 0<=a.getD k 0))) _ _ ρ (by simp;omega) h,qB9];rfl
 have ha:qj ((List.range a.length).map λk=>decide (c.getD k 0<=a.getD k 0))=m5 a c:=by unfold qj m5;rw[List.all_map];rfl
 exists rpB,bL;rw[e]
 ·exists ha
 ·intro k hk;have hk:k<a.length:=by simpa using hk
  refine ⟨_,rfl,?_⟩;exists rp18
def mxB (ss:List (List Int))(s:List Int):Bool:=!(ss.any λo=>!decide (o=s)&&m5 o s)
def vp {l:List (List Int)}(hi:i<l.length):(l.take (i+1)).filter f=(l.take i).filter f++(if f (l.getD i []) then [l.getD i []] else []):=by
 rw[List.take_succ,List.filter_append,qA0,qA3 hi]
 show _ ++ [l[i]].filter f=_++(if f l[i] then [l[i]] else []);cases q:f l[i] <;> simp [List.filter,q]
def wP (h1:1<=n) (h6:n<=6) (h:∀s∈ss,s.length=n) (a3:ss.length<64):M3 [lS ss]=.ok (lS (K1 (ss.filter (mxB ss)))):=by
 have fin:Ok (M3 [lS ss]) λv=>v=lS (K1 (ss.filter (mxB ss))):=by
  have k0:fSort [lS (ss.filter (mxB ss))]=.ok (lS (K1 (ss.filter (mxB ss)))):=AZ (qN7 (qK7 _ _) a3) λz hz e=>by have:=h z (qI2.mp hz).1;rw[e]at this;simp at this;omega
  have ek:∀(s:List Int) N mg me ρ (h:∀o∈ss,∃a0,mg (tI o) (ρ++List.replicate (N-ρ.length) Sl.un)=some a0/\me a0=.ok (.bl (!decide (o=s)&&m5 o s))),k7 N mg yes me (ss.map tI) ρ=.ok (.lst ((ss.map λo=>!decide (o=s)&&m5 o s).map W.bl)):=λs N mg me ρ h=>by
   rw[i5 (λo=>W.bl (!decide (o=s)&&m5 o s)) _ _ ρ ox h,qB9];rfl
  have ha:∀s:List Int,M9 (ss.map λo=>!decide (o=s)&&m5 o s)=!mxB ss s:=λs=>by unfold M9 mxB;rw[List.any_map,Bool.not_not];rfl
  obtain ⟨ws,a5⟩:∃ws,ws=ss.map tI:=⟨_,rfl⟩;exists rpB,dX;refine r6 (A8 (λi ρ=>∃a:Sl,ρ = [.par (lS ss),.own (((ss.take i).filter (mxB ss)).map tI),a]) ⟨_,rfl⟩ ?_ ?_)
  ·rintro i u ρ hu ⟨a,rfl⟩;obtain ⟨hi,rfl⟩:=Aw hu;have O:=memS hi;have I:=vp (f:=mxB ss) hi;have a4:((ss.take i).filter (mxB ss)).length<=63:=by
    have:=qK7 (mxB ss) (ss.take i)
    have:=List.length_take_le i ss
    rw[qH9]at *;omega
   generalize (ss.take i).filter (mxB ss)=F at I a4
   generalize ss.getD i []=z at O I
   refine ⟨_,rfl,?_⟩;exists rp18;rw[ek z];rotate_left
   ·intro o ho;have k1:fEq true (tI o) (tI z)=.ok (.bl (!decide (o=z))):=uh true o z;have k2:=AK (a:=o) (c:=z) (by rw[h o ho];exact h6) (by rw[h o ho,h z O]);refine ⟨_,rfl,?_⟩;by_cases q:o=z
    ·have k1:fEq true (tI o) (tI z)=.ok (.bl false):=by rw[k1,qO8 q];rfl
     exists k1,qO8 q
    ·have k1:fEq true (tI o) (tI z)=.ok (.bl true):=by rw[k1,qO7 q];rfl
     exists k1,k2,qO7 q
   exists ha z;refine V3 (λh=>?_) (λh=>?_)
   ·exists C2 (S9 z);refine ⟨.par (tI z),?_⟩;rw[I,qA2 (by simpa using h),qC3]
   ·exists rp18;refine ⟨.par (tI z),?_⟩;rw[I,qA4 (by simpa using h),qG3]
  ·rintro ρ ⟨a,rfl⟩;rw[qA6,qK0];exists k0
 obtain ⟨v,e,rfl⟩:=fin;exact e
def Bt.short (I:FlK b ms es A T) (B:Bt es k n pn):pn.length<=n:=by
 induction B with
 |self=>exact qD1 _
 | @step i e pn O _ _ ih=>
  have:=I.par i e O
  rw[qC5];omega
def Bt.js (hK:FlK b ms es A T) (B:Bt es k n pn):∃js:List Nat,rwB es pn=js.map (λj:Nat=>(j:Int))/\(∀j∈js,j<ms.length)/\js.length=pn.length/\∀p,p<b.length->(js.map λj=>(mvN ms j).2.getD p 0-(mvN ms j).1.getD p 0).sum=(sA b es n).getD p 0-(sA b es k).getD p 0:=by
 induction B with
 |self=>exact ⟨[],rfl,Qy,rfl,λp _=>Qy⟩
 | @step i e pn I _ _ ih=>
  obtain ⟨js,e1,h1,h2,h3⟩:=ih;refine ⟨js ++ [e.2.2],?_,?_,by simp [h2],λp O=>?_⟩
  ·unfold rwB at e1 ⊢;rw[qI6,qC3,e1,qC3,List.map_singleton,Ik I];rfl
  ·intro j hj;rcases qE0.mp hj with q|q
   ·exact h1 j q
   ·rw[qC4.mp q];exact hK.k8 e (qD3 I)
  ·have:=(az hK I O).2.2
   rw[qC3,List.sum_append,h3 p O,this]
   show _+(stM ms e.2.2 p+0)=_;omega
def zu (f:Nat->Bool) (i:Nat):(List.range (i+1)).filter f=(List.range i).filter f++(if f i then [i] else []):=by
 rw[List.range_succ,List.filter_append];cases q:f i <;> simp [List.filter,q]
def xj {js:List Nat}{d:Nat->Int}(h6:n<=6) (a4:∀m∈ms,okN n m) (hj:∀j∈js,j<ms.length) (hl:js.length<=100) (hd:∀p,p<n->(js.map λj=>(mvN ms j).2.getD p 0-(mvN ms j).1.getD p 0).sum=d p):y8 [tM_ ms,lI (js.map λj:Nat=>(j:Int)),.int (n:Int)]=.ok (lI (((List.range n).filter λp=>decide (0<d p)).map λp:Nat=>(p:Int))):=by
 have fin:Ok (y8 [tM_ ms,lI (js.map λj:Nat=>(j:Int)),.int (n:Int)]) λv=>v=lI (((List.range n).filter λp=>decide (0<d p)).map λp:Nat=>(p:Int)):=by
  have ek:∀(p:Nat) N mg me ρ (h:∀j∈js,∃a3,mg (.int (j:Int)) (ρ++List.replicate (N-ρ.length) Sl.un)=some a3/\me a3=.ok (.int ((mvN ms j).2.getD p 0-(mvN ms j).1.getD p 0))),k7 N mg yes me ((js.map λj:Nat=>(j:Int)).map W.int) ρ=.ok (lI (js.map λj=>(mvN ms j).2.getD p 0-(mvN ms j).1.getD p 0)):=λp N mg me ρ h=>by
   rw[qB9];refine (i5 (λj=>W.int ((mvN ms j).2.getD p 0-(mvN ms j).1.getD p 0)) _ _ ρ ox h).trans ?_;unfold lI;rw[qB9];rfl
  have gs:∀p,p<n->xk (js.map λj=>(mvN ms j).2.getD p 0-(mvN ms j).1.getD p 0)=d p:=hd;generalize hz:(js.map λj:Nat=>(j:Int))=zs at ek ⊢
  exists rpB,P5;refine r6 (A8 (λi ρ=>∃a:Sl,ρ = [.par (tM_ ms),.par (lI zs),.par (.int (n:Int)),.own ((((List.range i).filter λp=>decide (0<d p)).map λp:Nat=>(p:Int)).map W.int),a]) ⟨_,rfl⟩ ?_ ?_)
  ·rintro i u ρ hu ⟨a,rfl⟩;obtain ⟨hi,rfl⟩:=bZ hu;have I:=zu (λp=>decide (0<d p)) i;have a5:((List.range i).filter λp=>decide (0<d p)).length<=63:=by
    have:=qK7 (λp=>decide (0<d p)) (List.range i)
    rw[qF5]at this;omega
   generalize ((List.range i).filter λp=>decide (0<d p))=F at I a5
   refine ⟨_,rfl,?_⟩;exists rp18;rw[ek i];rotate_left
   ·intro j a6;have O:=hj j a6;have em:L2.atI (ms.map mW) (j:Int)=some (mW (mvN ms j)):=A6 (by rw[qA7,qA3 O];unfold mvN;rw[qA0,qA3 O];rfl);have hm:=a4 (mvN ms j) (by unfold mvN;rw[qA0,qA3 O];exact qF0 _);have e1:=hm.1;have e2:=hm.2.1;generalize mvN ms j=m at *
    have a0:L2.atI [tI m.1,tI m.2] 0=some (tI m.1):=rfl;have a1:L2.atI [tI m.1,tI m.2] 1=some (tI m.2):=rfl;refine ⟨_,rfl,?_⟩;exists em,a0,a1
   exists gs i hi;refine V3 (λh=>?_) (λh=>?_)
   ·exists rp18;refine ⟨.par (.int (i:Int)),?_⟩;rw[I,qA2 (by simpa using h),qC3 (f:=λp:Nat=>(p:Int))];rfl
   ·exists rp18;refine ⟨.par (.int (i:Int)),?_⟩;rw[I,qA4 (by simpa using h),qG3]
  ·rintro ρ ⟨a,rfl⟩;rw[qA6,qF5];exists rp18
 obtain ⟨v,e,rfl⟩:=fin;exact e
def bw (cs:Cap):fIn false .non (tC cs)=.ok (.bl (cs.any (·.isNone))):=by
 unfold fIn;rw[Ct,show shp 8 W.non=true from rfl,qL3,qA2 rfl]
 have:((pds (cs.map TP.oW)).any λy=>PyData.eqv y (pd .non))=cs.any (·.isNone):=by
  induction cs with
  |nil=>rfl
  | cons q O I=>
   rw[qC1,pds,qO4,qO4,I];cases q <;> rfl
 show (match some ((pds (cs.map TP.oW)).any λy=>PyData.eqv y (pd .non)) with|some b=>R.ok (W.bl (if false=true then !b else b))|none=>.stuck)=_;rw[this];rfl
def Z9 {ts:List Cap}(O:ts.length<=100):∀N mg me ρ (_:∀t∈ts,∃I,mg (tC t) (ρ++List.replicate (N-ρ.length) Sl.un)=some I/\me I=.ok (.bl (t.any (·.isNone)))),k7 N mg yes me (ts.map tC) ρ=.ok (.lst ((ts.map λt=>t.any (·.isNone)).map W.bl)):=λN mg me ρ h=>by
 rw[i5 (λt=>W.bl (t.any (·.isNone))) _ _ ρ ox h,qB9];rfl
def uc {ts:List Cap}(h:∀t∈ts,t.any (·.isNone)=false):M9 (ts.map λt=>t.any (·.isNone))=false:=by
 unfold M9;rw[qI1];intro x I;obtain ⟨t,O,rfl⟩:=qB1.mp I;rw[h t O];exact qA9
def Fz {ts:List Cap}(O:t∈ts) (I:p<t.length) (h:t.getD p none=none):M9 (ts.map λt=>t.any (·.isNone))=true:=by
 unfold M9;refine qI3.mpr ⟨_,qB1.mpr ⟨t,O,rfl⟩,qI3.mpr ⟨none,?_,rfl⟩⟩;rw[qA0,qA3 I]at h;have h:t[p]=none:=h;rw[<- h];exact qF0 _
def qK {ts:List Cap}(hl:ts.length<=100):A5 [.lst (ts.map tC),tM_ ms,.tup [.str "open"]]=.ok (.bl true):=by
 have I:=Z9 hl;have a0:L2.atI [W.str "open"] 0=some (.str "open"):=rfl;have O:o6 false (W.str "open") (W.str "all")=.ok (.bl false):=rfl;have y3:o6 false (W.str "open") (W.str "weights")=.ok (.bl false):=rfl;have y4:o6 false (W.str "open") (W.str "lift")=.ok (.bl false):=rfl;generalize hz:ts.map tC=zs at I ⊢
 exists rpB,J2;rw[I]
 ·exists a0,O,y3,y4
 ·intro t ht;have k:=bw t;refine ⟨_,rfl,?_⟩;exists k
def uR {ts:List Cap}(hl:ts.length<=100) (h:∀t∈ts,t.any (·.isNone)=false):A5 [.lst (ts.map tC),tM_ ms,.tup [.str "weights",tI y]]=.ok (.bl true):=by
 have I:=Z9 hl;have hg:=uc h;have a0:L2.atI [W.str "weights",tI y] 0=some (.str "weights"):=rfl;have O:o6 false (W.str "weights") (W.str "all")=.ok (.bl false):=rfl;have y3:o6 false (W.str "weights") (W.str "weights")=.ok (.bl true):=rfl;generalize hz:ts.map tC=zs at I ⊢
 exists rpB,J2;rw[I]
 ·exists hg,a0,O,y3
 ·intro t ht;have k:=bw t;refine ⟨_,rfl,?_⟩;exists k
def uS {ts:List Cap}(hl:ts.length<=100) (O:ts=L.map λs=>s.map some) (k:M3 [lS ss]=.ok (lS L)):A5 [.lst (ts.map tC),tM_ ms,.tup [.str "all",lS ss]]=.ok (.bl true):=by
 have ek:=Z9 hl;have hg:=uc (ts:=ts) λt I=>by
  rw[O]at I;obtain ⟨s,_,rfl⟩:=qB1.mp I;rw[List.any_map,qI1];intro x _;exact qA9
 have e:ts.map tC=L.map tI:=by
  rw[O,qB9];refine qF1 λs _=>?_
  show W.tup ((s.map some).map TP.oW)=W.tup (s.map W.int);rw[qB9];rfl
 have a0:L2.atI [W.str "all",lS ss] 0=some (.str "all"):=rfl;have a1:L2.atI [W.str "all",lS ss] 1=some (lS ss):=rfl;have y2:o6 false (W.str "all") (W.str "all")=.ok (.bl true):=rfl;have ke:fEq false (.lst (ts.map tC)) (lS L)=.ok (.bl true):=by rw[e];exact xw (km 6 L)
 generalize hz:ts.map tC=zs at ek ke ⊢
 exists rpB,J2;rw[ek]
 ·exists hg,a0,a1,y2,k,ke
 ·intro t I;have k:=bw t;refine ⟨_,rfl,?_⟩;exists k
def oA:∀{x y:List Int},x.length=y.length->r9 (l9 (x.map some)) (l9 (y.map some))=TP.lexLt x y
 | [],[],_=>rfl
 | a::x,c::y,h=>by
  have I:=oA (x:=x) (y:=y) (by simpa using h)
  show (if ([0,a]:List Int) = [0,c] then r9 (l9 (x.map some)) (l9 (y.map some)) else TP.lexLt [0,a] [0,c])=TP.lexLt (a::x) (c::y);rw[I];by_cases q:a=c
  ·subst q;rw[qA2 rfl];simp [TP.lexLt]
  ·rw[qA4 (by simpa using q)];simp [TP.lexLt,q]
def yZ (O:x.length=y.length) (h:i6 (x.map some) (y.map some)=true):m5 y x=true:=dH λk hk=>by
 have I:=fD h (p:=k) (by rw[qA6];omega);rw[L5 ox,L5 hk]at I;exact qO9 I
def Bw (I:x.length=y.length) (h:m5 y x=true):i6 (x.map some) (y.map some)=true:=by
 unfold i6;rw[qE3];intro k hk;have hk:k<x.length:=by simpa using hk
 rw[L5 hk,L5 ox];exact qO8 (U2 h ox)
def xI (hl:x.length=y.length) (h1:m5 x y=true) (h2:m5 y x=true):x=y:=by
 refine qG0 hl λk a b=>?_;have O:=U2 h1 (p:=k) a;have I:=U2 h2 (p:=k) b;rw[qA0,qA0,qA3 a,qA3 b]at O I;exact Int.le_antisymm I O
def Gq (O:m5 x y=true)(I:m5 y z=true)(l1:x.length=y.length):m5 x z=true:=dH λk hk=>qG1 (U2 I ox) (U2 O hk)
def oY {ts:List Cap}(hG:GK (b.map some) ms gs (gs.length+1) 0) (a4:∀m∈ms,okN b.length m) (q1:∀t∈ts,t∈stC (b.map some) gs) (q3:ts.Pairwise λa b=>r9 (l9 a) (l9 b)=true/\i6 a b=false/\i6 b a=false) (q4:∀c∈stC (b.map some) gs,∃t∈ts,i6 c t=true) (hK:FlK b ms es (es.length+1) []):ts=(K1 ((stS b es).filter (mxB (stS b es)))).map λs=>s.map some:=by
 have hC:=mD hG a4 q1 q4;obtain ⟨t0,b0,h0⟩:=iK q4;have a7:∀s∈stS b es,∃u∈stS b es,u.map some∈ts/\m5 u s=true:=λs O=>by
  obtain ⟨a,ha,rfl⟩:=qI9 O;have ea:(stS b es)[a]=sA b es a:=by
   unfold sA;rw[qA0,qA3 ha];rfl
  rw[P9]at ha;obtain ⟨hl,t,ht,I⟩:=hC.all hK ⟨rfl,t0,b0,h0⟩ a ox;obtain ⟨u,a5,rfl⟩:=fB hG a4 hK (q1 t ht);exact ⟨u,a5,ht,by rw[ea];exact yZ (by rw[hl,S3 hK a5]) I⟩
 obtain ⟨us,rfl,a6⟩:∃us:List (List Int),ts=us.map (λs=>s.map some)/\∀u∈us,u∈stS b es:=by
  have:∀l:List Cap,(∀t∈l,∃s∈stS b es,t=s.map some)->∃us:List (List Int),l=us.map (λs=>s.map some)/\∀u∈us,u∈stS b es:=λl=>by
   induction l with
   |nil=>exact λ_=>⟨[],rfl,λu I=>(nomatch I)⟩
   | cons t l ih=>
    intro h;obtain ⟨us,e,I⟩:=ih λx hx=>h x (qA8 _ hx);obtain ⟨s,O,e2⟩:=h t qB2;refine ⟨s::us,by rw[qC1,e,e2],λu a9=>?_⟩;rcases qB3.mp a9 with q|q
    ·rw[q];exact O
    ·exact I u q
  exact this ts λt ht=>fB hG a4 hK (q1 t ht)
 have hlen:∀u∈us,u.length=b.length:=λu I=>S3 hK (a6 u I);have a0:∀{u:List Int},u.map some∈us.map (λs=>s.map some)->u∈us:=λ{u} h=>by
  obtain ⟨s,O,e⟩:=qB1.mp h
  have:s=u:=by
   have:=congrArg (List.map λo:Option Int=>o.getD 0) e
   simpa [qB9,Function.comp_def]using this
  rw[<- this];exact O
 rw[qI7]at q3;have a8:∀x∈us,∀y∈us,m5 x y=true->x=y:=λx hx y hy hc=>by
  have I:=Bw (x:=y) (y:=x) (by rw[hlen x hx,hlen y hy]) hc;obtain ⟨i,hi,rfl⟩:=qI9 hx;obtain ⟨j,hj,rfl⟩:=qI9 hy;rw[qG8]at q3;rcases qO2 i j with h|h|h
  ·have:=(q3 i j hi hj h).2.2
   rw[this]at I;cases I
  ·subst h;rfl
  ·have:=(q3 j i hj hi h).2.1
   rw[this]at I;cases I
 have up:us.Pairwise λa c=>TP.lexLt a c=true:=by
  refine qS2 (λ{a c} ha hc h=>?_) q3;rw[<- oA (by rw[hlen a ha,hlen c hc])];exact h.1
 have nd:us.Nodup:=up.imp λ{a c} h e=>by rw[e,aJ]at h;cases h
 have ab:us.Pairwise λa c=>TP.lexLt c a=false:=up.imp λ{a c} h=>by
  cases q:TP.lexLt c a with
  |false=>rfl
  |true=>have:=cH _ _ _ h q;rw[aJ]at this;cases this
 congr 1;refine (List.Perm.eq_of_pairwise (le:=λa b=>TP.lexLt b a=false) (λa b _ _ x y=>du _ _ y x) (zg _) ab ((rB _).trans ((List.perm_ext_iff_of_nodup (hK.nod.filter _) nd).mpr λs=>⟨λO=>?_,λO=>?_⟩))).symm
 ·obtain ⟨h1,h2⟩:=qI2.mp O;obtain ⟨u,I,a3,hc⟩:=a7 s h1;by_cases e:u=s
  ·rw[<- e];exact a0 a3
  ·exfalso;unfold mxB at h2;rw[qV9,qI1]at h2;exact h2 u I (by rw[qO7 e,hc];rfl)
 ·refine qI2.mpr ⟨a6 s O,?_⟩;unfold mxB;rw[qV9,qI1];intro o ho h;obtain ⟨h1,h2⟩:=qV0.mp h;obtain ⟨u,I,a3,hc⟩:=a7 o ho;have lo:=S3 hK ho;have lu:=S3 hK I;have ls:=hlen s O;have e:=a8 u (a0 a3) s O (Gq hc h2 ox);subst e
  have:o=u:=xI ox h2 hc
  rw[this]at h1;simp at h1
def any_none {ts:List Cap}(h:∃t∈ts,t.getD p none=none):M9 (ts.map λt=>(t.getD p none).isNone)=true:=by
 obtain ⟨t,I,e⟩:=h;unfold M9;exact qI3.mpr ⟨_,qB1.mpr ⟨t,I,rfl⟩,by rw[e];rfl⟩
def qL {ts:List Cap}(hl:ts.length<=100) (h0:ts ≠ []) (h6:n<=6) (I:∀t∈ts,t.length=n) (k:y8 [tM_ ms,lI zs,.int (n:Int)]=.ok (lI (ps.map λp:Nat=>(p:Int)))) (a6:∀p∈ps,p<n) (b0:ps.length<=6) (ab:ps ≠ []) (hn:∀p∈ps,∃t∈ts,t.getD p none=none):A5 [.lst (ts.map tC),tM_ ms,.tup [.str "lift",lI xs,lI zs]]=.ok (.bl true):=by
 have fin:Ok (A5 [.lst (ts.map tC),tM_ ms,.tup [.str "lift",lI xs,lI zs]]) λv=>v=.bl true:=by
  have ek:=Z9 hl;obtain ⟨p0,pl,O⟩:∃p0 pl,ps=p0::pl:=by
   cases ps with
   |nil=>exact absurd rfl ab
   |cons p l=>exact ⟨p,l,rfl⟩
  have hg:M9 (ts.map λt=>t.any (·.isNone))=true:=by
   obtain ⟨t,ht,e⟩:=hn p0 (by rw[O];exact qB2);exact Fz ht (by rw[I t ht];exact a6 p0 (by rw[O];exact qB2)) e
  have a0:L2.atI [W.str "lift",lI xs,lI zs] 0=some (.str "lift"):=rfl;have a2:L2.atI [W.str "lift",lI xs,lI zs] 2=some (lI zs):=rfl;have y2:o6 false (W.str "lift") (W.str "all")=.ok (.bl false):=rfl;have y3:o6 false (W.str "lift") (W.str "weights")=.ok (.bl false):=rfl;have y4:o6 false (W.str "lift") (W.str "lift")=.ok (.bl true):=rfl;obtain ⟨t0,tl,a5⟩:∃t0 tl,ts=t0::tl:=by
   cases ts with
   |nil=>exact absurd rfl h0
   |cons p l=>exact ⟨p,l,rfl⟩
  have c0:L2.atI (ts.map tC) 0=some (tC t0):=A6 (k:=0) (by rw[a5];rfl);have cl:t0.length=n:=I t0 (by rw[a5];exact qB2);have ej:∀(p:Nat) N mg me ρ (h:∀t∈ts,∃a4,mg (tC t) (ρ++List.replicate (N-ρ.length) Sl.un)=some a4/\me a4=.ok (.bl (t.getD p none).isNone)),k7 N mg yes me (ts.map tC) ρ=.ok (.lst ((ts.map λt=>(t.getD p none).isNone).map W.bl)):=λp N mg me ρ h=>by
   rw[i5 (λt=>W.bl (t.getD p none).isNone) _ _ ρ ox h,qB9];rfl
  generalize hz:ts.map tC=ws at ek ej c0 ⊢
  exists rpB,J2;rw[ek];rotate_left
  ·intro t ht;have k:=bw t;refine ⟨_,rfl,?_⟩;exists k
  exists hg,a0,a2,y2,y3,y4,c0,cl,k;have pos:decide ((0:Int)<(ps.length:Int))=true:=qO8 (by rw[O,qC5];omega);refine r6 (ci (λ_=>False) (A8 (λi ρ=>∃b:Sl,ρ = [.par (.lst ws),.par (tM_ ms),.par (.tup [.str "lift",lI xs,lI zs]),.val (.bl true),.val (.lst ((ps.map λp:Nat=>(p:Int)).map W.int)),b]) ⟨_,rfl⟩ ?_ ?_) λρ h=>h.elim)
  ·rintro i u ρ hu ⟨b,rfl⟩;rw[qB9,qA7]at hu;obtain ⟨p,hp,a7⟩:=qF9.mp hu;obtain rfl:u=.int (p:Int):=a7.symm;have a3:=qD3 hp;have a8:=a6 p a3;refine ⟨_,rfl,?_⟩;exists rp18;rw[ej p];rotate_left
   ·intro t ht;have a9:L2.atI (t.map TP.oW) (p:Int)=some (TP.oW (t.getD p none)):=A6 (by rw[qA7,qA0,qA3 (by rw[I t ht];exact a8)];rfl);have hf:N1 false (TP.oW (t.getD p none)) .non=.ok (.bl (t.getD p none).isNone):=by cases t.getD p none <;> rfl
    refine ⟨_,rfl,?_⟩;exists a9,hf
   exists any_none (hn p a3);exact ⟨_,rfl⟩
  ·rintro ρ ⟨b,rfl⟩;exists pos
 obtain ⟨v,e,rfl⟩:=fin;exact e
def law_pure (ns:List Int) (_:ns.length<=63) (_:∀x∈ns,Builtin.Int.intBits x<=1048576):jI [.scr (ns.map W.int)]=.ok (.bl true):=by
 have fin:Ok (jI [.scr (ns.map W.int)]) λv=>v=.bl true:=by
  obtain ⟨_,e1,b,ms,rfl,h1,h6,c4,a5,h8,cn⟩:=xt (ns:=ns);obtain ⟨_,b3,d3,rfl,d0,d2⟩:=F4 (ns:=ns) (k:=40) (m:=2) ox ox ox;obtain ⟨_,c0,cc,rfl,cy,cx⟩:=F4 (ns:=ns) (k:=41) (m:=30) ox ox ox;obtain ⟨_,a4,a8,rfl,d1,cp⟩:=F4 (ns:=ns) (k:=42) (m:=2) ox ox ox;exists rpB,yw,e1,b3;refine r6 (ci (λρ=>∃most:Nat,ρ = [.par (.scr (ns.map W.int)),.par (tI b),.par (tM_ ms),.val (.int (most:Int)),.un,.un]/\1<=most/\most<=30) ?_ ?_)
  ·refine V3 (λh=>?_) (λh=>?_)
   ·exists c0;exact ⟨(1+cc).toNat,by rw[qM9 ox],ox,ox⟩
   ·exists rp18;exact ⟨30,rfl,ox,ox⟩
  rintro ρ ⟨most,rfl,b4,cv⟩;have a0:∀m∈ms,okN b.length m:=λm hm=>(a5 m hm).1;obtain ⟨_,e2,es,wh,rfl,d5,hE⟩:=xu (b:=b) (ms:=ms) (most:=most) h6 a0 h8 b4 ox;obtain ⟨A,T,hK,b6⟩:∃A T,FlK b ms es A T/\(wh=true->FlK b ms es (es.length+1) []):=by
   rcases hE with ⟨_,h⟩|⟨hw,_,A,T,k,h,_⟩
   ·exact ⟨_,_,h,λ_=>h⟩
   ·exact ⟨_,_,h,λq=>by rw[hw]at q;cases q⟩
  have O:=hK.par;have hl:es.length<=100:=ox;obtain ⟨L,R,hL⟩:∃L R:Nat->List Int,∀n,n<=es.length->Pt es n (L n) (R n):=by
   refine ⟨λn=>if h:n<=es.length then (Pt.ex O n h).choose else [],λn=>if h:n<=es.length then (Pt.ex O n h).choose_spec.choose else [],λn hn=>?_⟩;dsimp only;rw[dif_pos hn,dif_pos hn];exact (Pt.ex O n hn).choose_spec.choose_spec
  have hs:=λa (ha:a<=es.length)=>fL hK ha;obtain ⟨wl,e5,a9⟩:=wR h1 h6 h8 a5;obtain ⟨wf,e3,ab⟩:=qE e5 a9 e2 O hl hL hs;obtain ⟨wg,wc,eg,ec,c5⟩:=xH (b:=b) (ms:=ms) (most:=30) h1 h6 a0 h8 ox ox;have ec:dC [.tup [tI b,tM_ ms],.int 30]=.ok wc:=ec;have b5:∃xs:List W,wf=.tup xs/\xs ≠ []/\(wc=.non\/∃ts:List Cap,wc=.lst (ts.map tC)/\ts ≠ []/\ts.length<=100/\A5 [.lst (ts.map tC),tM_ ms,wf]=.ok (.bl true)):=by
   rcases c5 with ⟨_,rfl⟩|⟨gs,ts,_,hgl,hG,rfl,q1,q2,q3,q4⟩
   ·cases ab with
    |lift=>exact ⟨_,rfl,Qy,.inl rfl⟩
    |all=>exact ⟨_,rfl,Qy,.inl rfl⟩
    |wts=>exact ⟨_,rfl,Qy,.inl rfl⟩
    |opn=>exact ⟨_,rfl,Qy,.inl rfl⟩
   have I:ts.length<=100:=ox;have a3:ts ≠ []:=by
    obtain ⟨t,ht,_⟩:=iK q4;intro e;rw[e]at ht;cases ht
   have a6:∀t∈ts,t.length=b.length:=λt ht=>by rw[eQ hG t (q1 t ht),qA6]
   cases ab with
   | @lift n k pn0 pn1 hn hF B0 B1=>
    refine ⟨_,rfl,Qy,.inr ⟨ts,rfl,a3,I,?_⟩⟩;have b0:=ED hK hL hn hF;obtain ⟨js,ej,c1,d4,c2⟩:=B1.js hK;have d6:=B1.short hK;have kg:=xj (n:=b.length) (d:=λp=>(sA b es n).getD p 0-(sA b es k).getD p 0) h6 a0 c1 ox c2;rw[<- ej]at kg;refine qL I a3 h6 a6 kg (λp O=>by simpa using (qI2.mp O).1) ?_ ?_ λp O=>?_
    ·have:=qK7 (λp=>decide (0<(sA b es n).getD p 0-(sA b es k).getD p 0)) (List.range b.length)
     rw[qF5]at this;omega
    ·obtain ⟨p,O,d7⟩:=b0.lt;intro e
     have:p∈(List.range b.length).filter λp=>decide (0<(sA b es n).getD p 0-(sA b es k).getD p 0):=qI2.mpr ⟨by simpa using O,qO8 ox⟩
     rw[e]at this;cases this
    ·obtain ⟨h2,h3⟩:=qI2.mp O;have h3:=qO9 h3;exact wQ hG a0 q1 q4 hK B1 b0 (by simpa using h2) ox
   | all q=>
    refine ⟨_,rfl,Qy,.inr ⟨ts,rfl,a3,I,?_⟩⟩;exact uS I (oY hG a0 q1 q3 q4 (b6 q)) (wP h1 h6 (λs hs=>S3 hK hs) (by rw[P9];omega))
   | @wts y q2 q5=>
    refine ⟨_,rfl,Qy,.inr ⟨ts,rfl,a3,I,?_⟩⟩;have hy:=a9.wt q5;have hC:Cl b ms (Dn b y):=⟨λs h=>h.len,λs h j hj hc=>h.go a5 hy (by
     unfold mvN;rw[qA0,qA3 hj];exact qF0 _) hc⟩
    refine uR I λt ht=>?_;rw[qI1];intro o ho;obtain ⟨p,O,rfl⟩:=qI9 ho;have a7:p<b.length:=by rw[<- a6 t ht];exact O
    obtain ⟨v,hv⟩:=iX hG a0 hC ⟨rfl,c4,qF3 _⟩ a7 (λs hs=>hs.top hy a7) (q1 t ht);rw[qA0,qA3 O]at hv;have hv:t[p]=some v:=hv;rw[hv];exact qA9
   | opn=>
    refine ⟨_,rfl,Qy,.inr ⟨ts,rfl,a3,I,?_⟩⟩;exact qK I
  obtain ⟨xs,rfl,c3,hw⟩:=b5;have dx:decide ((xs.length:Int)=0)=false:=qO7 λh=>c3 (qG9 ox);rcases (show a8=0\/a8=1 by omega) with rfl|rfl
  ·rcases hw with rfl|⟨ts,rfl,ht0,htl,ka⟩
   ·exists a4,e3,ec
   ·have dt:decide ((ts.length:Int)=0)=false:=qO7 λh=>ht0 (qG9 ox);exists a4,e3,ec,dx,dt,ka
  ·rcases hw with rfl|⟨ts,rfl,ht0,htl,ka⟩
   ·exists a4,e3,ec
   ·have dt:decide ((ts.length:Int)=0)=false:=qO7 λh=>ht0 (qG9 ox);exists a4,e3,ec,dx,dt,ka
 obtain ⟨v,e,rfl⟩:=fin;exact e
end K78
set_option maxHeartbeats 4000000
open PySem L2 TP
namespace K78
def F5 {K:Frag}{d:Mode}:=(fW (K:=K) (d:=d) (g:=E1) (λ_ _=>rfl) (λ_ _ _=>.int))
def uY {K:Frag}{d:Mode}:=(fW (K:=K) (d:=d) (g:=gSub) (λ_ _=>rfl) (λ_ _ _=>.int))
def xLt {K:Frag}{d:Mode}:=(fW (K:=K) (d:=d) (g:=gLt) (λ_ _=>rfl) (λ_ _ _=>.bl))
def xGt {K:Frag}{d:Mode}:=(fW (K:=K) (d:=d) (g:=gGt) (λ_ _=>rfl) (λ_ _ _=>.bl))
local macro_rules | `(tactic| trivial)=>`(tactic| first | exact Or.inl rfl | exact Or.inr rfl | exact Or.inr (Or.inl rfl) | exact Or.inr (Or.inr rfl) | assumption | exact ⟨rfl,rfl,rfl,by decide +kernel,rfl,by decide +kernel,by decide +kernel⟩ | exact Room.mono (by assumption) (by decide) | exact lq _ | rfl | exact ⟨rfl,by decide +kernel,by decide +kernel,by decide +kernel,by decide +kernel,by decide,by decide +kernel,by decide +kernel⟩)
abbrev hk (w:World):Frag:=tZ w.params
structure Blt (mg:Str->Option Value):Prop where
 all_:mg "all" = none
 any_:mg "any" = none
 enumerate_:mg "enumerate" = none
 isinstance_:mg "isinstance" = none
 len_:mg "len" = none
 list_:mg "list" = none
 min_:mg "min" = none
 range_:mg "range" = none
 reversed_:mg "reversed" = none
 sorted_:mg "sorted" = none
 sum_:mg "sum" = none
 tuple_:mg "tuple" = none
 zip_:mg "zip" = none
def En (w:World)(mg:Str->Option Value):Prop:=∃h:Heap,(hk w).In h/\h.Ns mainGlobals mg
def bn (Y:En w mg)(e:PySem.W.nsIn (hk w) mainGlobals x=some none):mg x=none:=Y.elim λ_ q=>PySem.W.mg_none_of q.1 q.2 e
def bl (Y:En w mg):Blt mg:=⟨bn Y (by kernel_rfl),bn Y (by kernel_rfl),bn Y (by kernel_rfl),bn Y (by kernel_rfl),bn Y (by kernel_rfl),bn Y (by kernel_rfl),bn Y (by kernel_rfl),bn Y (by kernel_rfl),bn Y (by kernel_rfl),bn Y (by kernel_rfl),bn Y (by kernel_rfl),bn Y (by kernel_rfl),bn Y (by kernel_rfl)⟩
abbrev FD (I:String)(i:Nat)(pm:Value)(c:Nat):FuncData:=PySem.W.fnOf I I (Q9 (top i)) (C7 (top i)) (c6 (top i)) .none .none .none pm none (.ref c) .none
def dk (Y:En w mg){I:String}{c:Nat}(e:(PySem.W.nsIn (hk w) mainGlobals I,(hk w).lookup f,PySem.W.codeIn (hk w) (.ref c) I,PySem.W.keepIn (hk w) (.ref f))=(some (some (.ref f)),some (hxG I i pm c),true,true)) (O:∀(kV doc pm:Value) (an:Option Addr) (cdv ct:Value) (us:List Value),us.length=ps.length->bindArgs (PySem.W.fnOf I I (Q9 (top i)) (C7 (top i)) (c6 (top i)) .none kV doc pm an cdv ct) ⟨us,[]⟩=pure (ps.zip us)):Def (hk w) mg I (top i) ps f (FD I i pm c):=by
 obtain ⟨h,X,G⟩:=Y;injection e with a e
 injection e with l e
 injection e with c k
 have F:=FI (st:=top i) l c k;exact ⟨F,PySem.W.mg_of X G a,F.binds O⟩
def okF (D:Def K mg x st ps f fd) (S:f8 N ps (c6 st)) (hd:d=.F\/d=.V) (hn:ps.length=n) (O:N.length=l) (b:∀{cdv:Value}{A:Around}{outer:List Env}{s:Shared}{H:Hp}{E:XK},Room k (A.deeper (PyProof.Rows.envOfC x (c6 st) s.heap.objs.size f cdv))->PSs (ar CX0 P w K mg base N x (c6 st) f cdv A outer s H E).nox (C7 st) (tSt K (λ_ _=>False) d m)):FnOk P w K mg base CX0 (k+1) f fd ps (spM K n d (g8 n l m)):=by
 subst hn O;exact D.F.ok S (λ_ _ _ _ h=>h.1) λcdv A outer s H vs Q E I h=>⟨_,b I,uJ hd h⟩
def okI (D:Def K mg x st ps f fd) (S:f8 N ps (c6 st)) (hn:ps.length=n) (O:N.length=l) (b:∀(p:Addr){cdv:Value}{A:Around}{outer:List Env}{s:Shared}{H:Hp}{E:XK},Room k (A.deeper (PyProof.Rows.envOfC x (c6 st) s.heap.objs.size f cdv))->PSs (ar CX0 P w K mg base N x (c6 st) f cdv A outer s H E).nox (C7 st) (tStI K (λ_ _=>False) p (m p))):FnOk P w K mg base CX0 (k+1) f fd ps (gO K n (F1 n l m)):=by
 subst hn O;exact D.F.ok S (λ_ _ _ _ h=>h.1) λcdv A outer s H vs Q E I h=>(BF h).elim λp q=>⟨_,b p I,q⟩
def okL (D:Def K mg x st ps f fd) (S:f8 N ps (c6 st)) (hd:d=.F\/d=.V) (hn:ps.length=n) (O:N.length=l) (b:∀{A:Around}{outer:List Env}{s:Shared}{H:Hp}{E:XK},Room k (A.deeper (PyProof.Rows.envOfC x (c6 st) s.heap.objs.size f fd.code))->PSs (ar CX0 P w K mg base N x (c6 st) f fd.code A outer s H E).nox (C7 st) (tSt K (λ_ _=>False) d m)):FnOk P w K mg base CX0 (k+1) f fd ps (spM K n d (g8 n l m)):=by
 subst hn O;exact D.F.okC S (λ_ _ _ _ h=>h.1) λA outer s H vs Q E I h=>⟨_,b I,uJ hd h⟩
def qcD {X:Cx}{K:Frag}{d:Mode}{e:Expr}{es:List Expr}{pos:Pos}{mr:Rho->R (List W)}{k:Nat}{f:Addr}{fd:FuncData}{ps:List Str}{x:Str}{st:Stmt}{p:Pos}{n N:Nat}{m:Rho->R Fl}(F:FnOk X.prog X.w X.K X.mg X.base CX0 k f fd ps (spM K n d (g8 n N m))) (D:Def X.K X.mg x st ps f fd)
  (ha:PA X (e::es) (tA K (λ_ _=>False) .B mr)) (hd:d=.F\/d=.V:=by first|exact .inl rfl|exact .inr rfl) (hr:Room k X.A:=by exact Room.mono (by assumption) Qz) (hg:Gl X x:=by rfl) (I:(x == ("__debug__" : Str))=false:=by decide) (he:starEach (e::es) X.env=(false,eval e X.env)::starEach es X.env:=by rfl) (O:(backTo pos (starEach es X.env)).any (·.1)=false:=by rfl) :
  PE X (.Call (.Name x p) (e::es) [] pos) (tM K (λ_ _=>False) d (bA (g8 n N m) mr)):=L8 F hd hr hg D.m D.F.kp D.b ha I he O
def Im:((99,55,26, "leaving.<locals>.<lambda>"): Addr×Nat×Nat×Str)∈L2.lamT:=by
 unfold L2.lamT;exact qB2
def m8 {X:Cx}{K:Frag}{EX:EXT}{cs:Scope}{N':List Str}{n:Nat}{tg iter I:Expr}{O:List Expr}{dd:Mode}{g:TG}{mg:W->Rho->Option Rho}{mi:Rho->R (List W)}{ta:Rho->R Bool}{ma:Rho->R W}{pos:Pos}(S:g6 X.env.scope cs X.N N') (hc:X.calm=true) (hi:PI X tg iter (tIt K EX false dd mi))
  (hg:∀cl ex s H,PG (j8 X cs cl N' ex s H) tg g) (a0:Gt K dd g mg) (hk:E9 X.N.length g) (ht:∀cl ex s H,PIf (j8 X cs cl N' ex s H) O (tT K EX ta)) (he:∀cl ex s H,PE (j8 X cs cl N' ex s H) I (tM K EX .V ma))
  (hn:N'.length=n:=by rfl) (hs:∀x,foldedSetIterable iter X.env x=pure x:=by intro _;rfl):PE X (.ListComp I [⟨tg,iter,O,0⟩] cs pos) (tM K EX .F (l6 n mi mg ta ma)):=by
 subst hn;exact DJ S hc hi hg a0 hk ht he hs
def ia {X:Cx}{K:Frag}{EX:EXT}{d:Mode}{i n:Nat}{y:Str}{py:Pos}{cs:Scope}{N':List Str}{tg iter O:Expr}{a0:List Expr}{dd:Mode}{g:TG}{mg:W->Rho->Option Rho}{mi:Rho->R (List W)}{ta:Rho->R Bool}{ma:Rho->R W}{I pos:Pos}(S:g6 X.env.scope cs X.N N') (hc:X.calm=true) (hi:PI X tg iter (tIt K EX false dd mi))
  (hg:∀cl ex s H,PG (j8 X cs cl N' ex s H) tg g) (a3:Gt K dd g mg) (hk:E9 X.N.length g) (ht:∀cl ex s H,PIf (j8 X cs cl N' ex s H) a0 (tT K EX ta)) (he:∀cl ex s H,PE (j8 X cs cl N' ex s H) O (tM K EX .V ma))
  (hN:X.N.Nodup) (hy:X.N[i]?=some y) (hl:Loc X.env.scope y)
  (hn:N'.length=n:=by rfl) (a4:swapsWith (.ListComp O [⟨tg,iter,a0,0⟩] cs I) (some (.Name y py)) pos.line X.env=pure true:=by rfl) (hf:X.fn y=true\/X.env.scope.names.lookup y=some .local:=by first|exact .inl rfl|exact .inr rfl|assumption)
  (hs:∀x,foldedSetIterable iter X.env x=pure x:=by intro _;rfl):PS X (.Assign [.Name y py] (.ListComp O [⟨tg,iter,a0,0⟩] cs I) pos) (tSt K EX d (sF i (l6 n mi mg ta ma))):=by
 subst hn;exact Dz S hc hi hg a3 hk ht he hN hy hl a4 hf hs
def wj {X:Cx}{K:Frag}{EX:EXT}{d:Mode}{i n:Nat}{y:Str}{py:Pos}{cs:Scope}{N':List Str}{yc:Str}{tg iter O:Expr}{a0:List Expr}{dd:Mode}{g:TG}{mg:W->Rho->Option Rho}{mi:Rho->R (List W)}{ta:Rho->R Bool}{ma:Rho->R W}{I pos:Pos}(S:F0 X.env.scope cs X.N N' yc) (hc:X.calm=true) (hi:PI X tg iter (tIt K EX false dd mi))
  (hg:∀cl ex s H,PG (k6 X cs yc cl N' ex s H) tg g) (a3:Gt K dd g mg) (hk:E9 X.N.length g) (ht:∀cl ex s H,PIf (k6 X cs yc cl N' ex s H) a0 (tT K EX ta)) (he:∀cl ex s H,PE (k6 X cs yc cl N' ex s H) O (tM K EX .V ma))
  (hN:X.N.Nodup) (hy:X.N[i]?=some y) (hl:Loc X.env.scope y)
  (hn:N'.length=n:=by rfl) (a4:swapsWith (.ListComp O [⟨tg,iter,a0,0⟩] cs I) (some (.Name y py)) pos.line X.env=pure true:=by rfl) (hf:X.fn y=true\/X.env.scope.names.lookup y=some .local:=by first|exact .inl rfl|exact .inr rfl|assumption)
  (hs:∀x,foldedSetIterable iter X.env x=pure x:=by intro _;rfl):PS X (.Assign [.Name y py] (.ListComp O [⟨tg,iter,a0,0⟩] cs I) pos) (tSt K EX d (sF i (l6 n mi mg ta ma))):=by
 subst hn;exact zL S hc hi hg a3 hk ht he hN hy hl a4 hf hs
def us0 {P:List Value->Prop}(h:P []):∀us:List Value,us.length=0->P us:=λus e=>by
 rw[List.length_eq_zero_iff.mp e];exact h
def us1 {P:List Value->Prop}(h:∀I,P [I]):∀us:List Value,us.length=1->P us:=λus e=>by
 cases us with
 |nil=>cases e
 |cons a us=>exact us0 (P:=λus=>P (a::us)) (h a) us (Nat.succ.inj e)
def us2 {P:List Value->Prop}(h:∀O I,P [O,I]):∀us:List Value,us.length=2->P us:=λus e=>by
 cases us with
 |nil=>cases e
 |cons a us=>exact us1 (P:=λus=>P (a::us)) (λI=>h a I) us (Nat.succ.inj e)
def us3 {P:List Value->Prop}(h:∀a0 I O,P [a0,I,O]):∀us:List Value,us.length=3->P us:=λus e=>by
 cases us with
 |nil=>cases e
 |cons a us=>exact us2 (P:=λus=>P (a::us)) (λI O=>h a I O) us (Nat.succ.inj e)
def us4 {P:List Value->Prop}(h:∀a0 O a2 I,P [a0,O,a2,I]):∀us:List Value,us.length=4->P us:=λus e=>by
 cases us with
 |nil=>cases e
 |cons a us=>exact us3 (P:=λus=>P (a::us)) (λO a2 I=>h a O a2 I) us (Nat.succ.inj e)
def us5 {P:List Value->Prop}(h:∀a0 O a2 I a4,P [a0,O,a2,I,a4]):∀us:List Value,us.length=5->P us:=λus e=>by
 cases us with
 |nil=>cases e
 |cons a us=>exact us4 (P:=λus=>P (a::us)) (λO a2 I a4=>h a O a2 I a4) us (Nat.succ.inj e)
def eR:f8 ["stand","other","number","wanted"] ["stand","other"] (c6 (top 4)):=Qq
def CD:f8 ["stand","move"] ["stand","move"] (c6 (top 5)):=Qq
def vF:f8 ["move"] ["move"] (c6 (top 7)):=Qq
def zo:f8 ["stand","move"] ["stand","move"] (c6 (top 6)):=Qq
def rP:f8 ["stand","step","times"] ["stand","step","times"] (c6 (top 9)):=Qq
def CC:f8 ["place","many"] ["place","many"] (c6 (top 11)):=Qq
def U5:f8 ["moves","place","many","steps","table"] ["moves","place","many"] (c6 (top 14)):=Qq
def eT:f8 ["table","column","gain"] ["table"] (c6 (top 15)):=Qq
def iS:f8 ["table","held","column","lines"] ["table","held","column"] (c6 (top 16)):=Qq
def rR:f8 ["row","by","column","scale"] ["row","by","column","scale"] (c6 (top 18)):=Qq
def iR:f8 ["table","line","column","scale","by"] ["table","line","column","scale"] (c6 (top 17)):=Qq
def C9:f8 ["one","other","rest"] ["one","other"] (c6 (top 22)):=Qq
def C8:f8 ["numbers","shared","number"] ["numbers"] (c6 (top 21)):=Qq
def bV:f8 ["table","place","scale","many_moves","losses"] ["table","place","scale","many_moves"] (c6 (top 20)):=Qq
def aX:f8 ["table","held","column","scale","many_moves","times","line","holder"] ["table","held","column","scale","many_moves"] (c6 (top 19)):=Qq
def D0:f8 ["moves","place","many","table","held","scale","column","line"] ["moves","place","many"] (c6 (top 13)):=Qq
def aA:f8 ["moves","many","total","place","told"] ["moves","many"] (c6 (top 23)):=Qq
def gQ:f8 ["cap","other","number","bound"] ["cap","other"] (c6 (top 25)):=Qq
def dO:f8 ["cap","caps","other"] ["cap","caps"] (c6 (top 26)):=Qq
def pz:f8 ["cap","move"] ["cap","move"] (c6 (top 27)):=Qq
def nc:f8 ["cap","move"] ["cap","move"] (c6 (top 28)):=Qq
def vE:f8 ["cap","elder"] ["cap","elder"] (c6 (top 29)):=Qq
def px:f8 ["cap"] ["cap"] (c6 (top 31)):=Qq
def ko:f8 ["caps","found","cap"] ["caps"] (c6 (top 30)):=Qq
def V1:f8 ["tree","number","numbers","at"] ["tree","number"] (c6 (top 34)):=Qq
def bW:f8 ["moor","tree","at","number","move","cap","elder"] ["moor","tree","at","number"] (c6 (top 33)):=Qq
def W7:f8 ["moor","most","tree","at","number"] ["moor","most"] (c6 (top 32)):=Qq
def nL:f8 ["moor","most","tree"] ["moor","most"] (c6 (top 35)):=Qq
def Hz:f8 ["tree","number"] ["tree","number"] (c6 (top 37)):=Qq
def bG:f8 ["tree","elder","number","path"] ["tree","elder","number"] (c6 (top 38)):=Qq
def fK:f8 ["moor","stand"] ["moor","stand"] (c6 (top 41)):=Qq
def N5:f8 ["moor","most","rows","known","at","stand","behind","number"] ["moor","most"] (c6 (top 40)):=Qq
def mZ:f8 ["rows"] ["rows"] (c6 (top 42)):=Qq
def vD:f8 ["rows","number"] ["rows","number"] (c6 (top 43)):=Qq
def O4:f8 ["rows","number","row","elder"] ["rows"] (c6 (top 45)):=Qq
def S4:f8 ["moor","most","told","rows","lift","height"] ["moor","most"] (c6 (top 44)):=Qq
def gR:f8 ["_law_script","_law_k"] ["_law_script","_law_k"] (c6 (top 47)):=Qq
def ng:f8 ["_law_script","_law_k","_law_many"] ["_law_script","_law_k","_law_many"] (c6 (top 48)):=Qq
def B7:f8 ["_law_script","_law_at","_law_places","_law_menu","_law_scale_here","_law_found","_law_k","_law_held"] ["_law_script","_law_at","_law_places","_law_menu","_law_scale_here"] (c6 (top 49)):=Qq
def bX:f8 ["_law_script","_law_kind"] ["_law_script"] (c6 (top 50)):=Qq
def t4:f8 ["_law_script","_law_places","_law_scale_here","_law_moves","_law_k","_law_at","_law_take","_law_put","_law_far","_law_times","_law_begin"] ["_law_script"] (c6 (top 51)):=Qq
def jw:f8 ["_law_stand","_law_other"] ["_law_stand","_law_other"] (c6 (top 52)):=Qq
def ah:f8 ["_law_stands","_law_found","_law_stand"] ["_law_stands"] (c6 (top 53)):=Qq
def F6:f8 ["_law_moves","_law_row","_law_places","_law_found","_law_k"] ["_law_moves","_law_row","_law_places"] (c6 (top 54)):=Qq
def O5:f8 ["_law_caps","_law_moves","_law_found","_law_growing","_law_places","_law_k"] ["_law_caps","_law_moves","_law_found"] (c6 (top 55)):=Qq
def V2:f8 ["_law_script","_law_begin","_law_moves","_law_most","_law_found","_law_caps"] ["_law_script"] (c6 (top 56)):=Qq
section
variable {P:Program}{w:World}{mg:Str->Option Value}{base:Heap}(Y:En w mg)
include Y
def iH:Def (hk w) mg "covers" (top 4) ["stand","other"] 53 (FD "covers" 4 U7 52):=dk Y (by kernel_rfl) λ_ _ _ _ _ _=>us2 λ_ _=>rfl
def lg:FnOk P w (hk w) mg base CX0 1 53 (FD "covers" 4 U7 52) ["stand","other"] (spM (hk w) 2 .F X7):=
 okF (iH Y) eR (.inl rfl) rfl rfl λI=>(c7 (C3 qD8 rfl (sk Qo (bl Y).zip_ (b7 (qv .U 0) (b7 (qv .U 1) b9))) (@z7 _ (hk w) _ _ _ _ 2 rfl (i3 (@e9 _ _ 2 _ eR.nd rfl Qq Qq) (i3 (@e9 _ _ 3 _ eR.nd rfl Qq Qq) z6)) Qo Qo Qo) (C1 (.inr rfl) (i4 (.inr rfl) h9 (i4 (.inr rfl) h9 z9))) (c9 (n4 (i8 pO xLt (qv .B 2) (qv .B 3)) (c9 (g7 O8)) m7))) (c9 (g7 O8)))
def qu:Def (hk w) mg "able" (top 5) ["stand","move"] 60 (FD "able" 5 U7 59):=dk Y (by kernel_rfl) λ_ _ _ _ _ _=>us2 λ_ _=>rfl
def sT:FnOk P w (hk w) mg base CX0 2 60 (FD "able" 5 U7 59) ["stand","move"] (spM (hk w) 2 .F gm):=
 okF (qu Y) CD (.inl rfl) rfl rfl λI=>(c9 (g7 (qcD (lg Y) (iH Y) (b7 (qv .B 0) (b7 (j5 (g5 (qv .B 1) d9)) b9)))))
def dG:Def (hk w) mg "change" (top 7) ["move"] 70 (FD "change" 7 U7 69):=dk Y (by kernel_rfl) λ_ _ _ _ _ _=>us1 λ_=>rfl
def eY:FnOk P w (hk w) mg base CX0 1 70 (FD "change" 7 U7 69) ["move"] (spM (hk w) 1 .F X9):=
 okF (dG Y) vF (.inl rfl) rfl rfl λI=>(c9 (g7 (O7 G8 (G7 (c:=true)) Qo (bl Y).tuple_ v9 (b7 (h7 (m8 (show g6 (c6 (top 7)) _ ["move"] ["move","take","put"] from Qq) rfl (aD Qo (bl Y).zip_ (b7 (j5 (g5 (qv .B 0) d9)) (b7 (j5 (g5 (qv .B 0) d9)) b9))) (λ_ _ _ _=>(@z7 _ (hk w) _ _ _ _ 2 rfl (i3 (@e9 _ _ 1 _ (by decide +kernel:(["move","take","put"]:List Str).Nodup) rfl (Or.inl rfl) (.inr rfl)) (i3 (@e9 _ _ 2 _ (by decide +kernel:(["move","take","put"]:List Str).Nodup) rfl (Or.inl rfl) (.inr rfl)) z6)) Qo Qo Qo)) (C1 (.inr rfl) (i4 (.inr rfl) h9 (i4 (.inr rfl) h9 z9))) (T8 (x3 (show 1<=1 by decide) (x3 (show 1<=2 by decide) T9))) (λ_ _ _ _=>n8) (λ_ _ _ _=>(j9 kT uY (qv .B 2) (qv .B 1))))) b9))))
def uq:Def (hk w) mg "after" (top 6) ["stand","move"] 65 (FD "after" 6 U7 64):=dk Y (by kernel_rfl) λ_ _ _ _ _ _=>us2 λ_ _=>rfl
def Ah:FnOk P w (hk w) mg base CX0 3 65 (FD "after" 6 U7 64) ["stand","move"] (spM (hk w) 2 .F iE):=
 okF (uq Y) zo (.inl rfl) rfl rfl λI=>(c7 (n4 (L6 (F8 (l7 (h7 (qcD (sT Y) (qu Y) (b7 (qv .B 0) (b7 (qv .B 1) b9))))))) (c9 nU) m7) (c9 (g7 (O7 G8 (G7 (c:=true)) Qo (bl Y).tuple_ v9 (b7 (h7 (m8 (show g6 (c6 (top 6)) _ ["stand","move"] ["stand","move","number","step"] from Qq) rfl (aD Qo (bl Y).zip_ (b7 (qv .B 0) (b7 (l7 (h7 (qcD (eY Y) (dG Y) (b7 (qv .B 1) b9)))) b9))) (λ_ _ _ _=>(@z7 _ (hk w) _ _ _ _ 2 rfl (i3 (@e9 _ _ 2 _ (by decide +kernel:(["stand","move","number","step"]:List Str).Nodup) rfl (Or.inl rfl) (.inr rfl)) (i3 (@e9 _ _ 3 _ (by decide +kernel:(["stand","move","number","step"]:List Str).Nodup) rfl (Or.inl rfl) (.inr rfl)) z6)) Qo Qo Qo)) (C1 (.inr rfl) (i4 (.inr rfl) h9 (i4 (.inr rfl) h9 z9))) (T8 (x3 (show 2<=2 by decide) (x3 (show 2<=3 by decide) T9))) (λ_ _ _ _=>n8) (λ_ _ _ _=>(j9 y6 F5 (qv .B 2) (qv .B 3))))) b9)))))
def fv:Def (hk w) mg "shifted" (top 9) ["stand","step","times"] 75 (FD "shifted" 9 xb 74):=dk Y (by kernel_rfl) λ_ _ _ _ _ _=>us3 λ_ _ _=>rfl
def iZ:FnOk P w (hk w) mg base CX0 1 75 (FD "shifted" 9 xb 74) ["stand","step","times"] (spM (hk w) 3 .F U0):=
 okF (fv Y) rP (.inl rfl) rfl rfl λI=>(c9 (g7 (O7 G8 (G7 (c:=true)) Qo (bl Y).tuple_ v9 (b7 (h7 (m8 (show g6 (c6 (top 9)) _ ["stand","step","times"] ["stand","step","times","number","by"] from Qq) rfl (aD Qo (bl Y).zip_ (b7 (qv .B 0) (b7 (qv .B 1) b9))) (λ_ _ _ _=>(@z7 _ (hk w) _ _ _ _ 2 rfl (i3 (@e9 _ _ 3 _ (by decide +kernel:(["stand","step","times","number","by"]:List Str).Nodup) rfl (Or.inl rfl) (.inr rfl)) (i3 (@e9 _ _ 4 _ (by decide +kernel:(["stand","step","times","number","by"]:List Str).Nodup) rfl (Or.inl rfl) (.inr rfl)) z6)) Qo Qo Qo)) (C1 (.inr rfl) (i4 (.inr rfl) h9 (i4 (.inr rfl) h9 z9))) (T8 (x3 (show 3<=3 by decide) (x3 (show 3<=4 by decide) T9))) (λ_ _ _ _=>n8) (λ_ _ _ _=>(j9 y6 F5 (qv .B 3) (j9 C5 (B5 (C:=CMulB) (g:=v5) (λ_ _=>rfl) (λ_ _ _=>.int)) (qv .B 2) (qv .B 4)))))) b9))))
def qr:Def (hk w) mg "unit" (top 11) ["place","many"] 80 (FD "unit" 11 xc 79):=dk Y (by kernel_rfl) λ_ _ _ _ _ _=>us2 λ_ _=>rfl
def sO:FnOk P w (hk w) mg base CX0 1 80 (FD "unit" 11 xc 79) ["place","many"] (spM (hk w) 2 .F gi):=
 okF (qr Y) CC (.inl rfl) rfl rfl λI=>(c9 (g7 (O7 G8 (G7 (c:=true)) Qo (bl Y).tuple_ v9 (b7 (h7 (m8 (show g6 (c6 (top 11)) _ ["place","many"] ["place","many","at"] from Qq) rfl (L7 Qo (bl Y).range_ (b7 (qv .B 1) b9)) (λ_ _ _ _=>(@e9 _ _ 2 _ (by decide +kernel:(["place","many","at"]:List Str).Nodup) rfl (Or.inl rfl) (.inr rfl))) h9 (o9 (show 2<=2 by decide)) (λ_ _ _ _=>n8) (λ_ _ _ _=>(ig (i8 (fR (ak I)) (cq (neg:=false)) (qv .B 2) (qv .B 0)) d9 d9)))) b9))))
def cQ:Def (hk w) mg "first_table" (top 14) ["moves","place","many"] 90 (FD "first_table" 14 t7 89):=dk Y (by kernel_rfl) λ_ _ _ _ _ _=>us3 λ_ _ _=>rfl
def jx:FnOk P w (hk w) mg base CX0 2 90 (FD "first_table" 14 t7 89) ["moves","place","many"] (spM (hk w) 3 .F M7):=
 okF (cQ Y) U5 (.inl rfl) rfl rfl λI=>(c7 (j6 (i:=3) U5.nd rfl Qq (m8 (show g6 (c6 (top 14)) _ ["moves","place","many","steps","table"] ["moves","place","many","steps","table","move"] from Qq) rfl (C0 (qv .B 0)) (λ_ _ _ _=>(@e9 _ _ 5 _ (by decide +kernel:(["moves","place","many","steps","table","move"]:List Str).Nodup) rfl (Or.inl rfl) (.inr rfl))) h9 (o9 (show 5<=5 by decide)) (λ_ _ _ _=>n8) (λ_ _ _ _=>(v7 (qcD (eY Y) (dG Y) (b7 (qv .B 5) b9))))) Qo Qq) (c7 (wj (i:=4) (show F0 (c6 (top 14)) _ ["moves","place","many","steps","table"] ["moves","place","many","steps","table","at"] "at" from ⟨rfl,⟨λ_ _=>rfl,λ_=>rfl⟩,by decide +kernel,Qo,by decide +kernel,by decide +kernel,by decide +kernel,Qz,by decide +kernel,by decide +kernel⟩) rfl (L7 Qo (bl Y).range_ (b7 (qv .B 2) b9)) (λ_ _ _ _=>(@e9 _ _ 5 _ (by decide +kernel:(["moves","place","many","steps","table","at"]:List Str).Nodup) rfl (Or.inr rfl) (.inl (by first|rfl|exact qR3 _)))) h9 (o9 (show 5<=5 by decide)) (λ_ _ _ _=>n8) (λ_ _ _ _=>(v7 (j9 ij im (l7 (h7 (O7 G8 (G7 (c:=true)) Qo (bl Y).tuple_ v9 (b7 (h7 (m8 (by exact uA ⟨rfl,by decide +kernel,by decide +kernel,by decide +kernel,by decide +kernel,Qz,by decide +kernel,by decide +kernel⟩) rfl (C0 (qv .B 3)) (λ_ _ _ _=>(@e9 _ _ 6 _ (by decide +kernel:(["moves","place","many","steps","table","at","step"]:List Str).Nodup) rfl (Or.inl rfl) (.inr rfl))) h9 (o9 (show 6<=6 by decide)) (λ_ _ _ _=>n8) (λ_ _ _ _=>(kH bQ (ln (g:=X3) (λ_=>rfl) (λ_ _=>.int)) (j5 (g5 (qv .B 6) (qv .B 5))))))) b9)))) (l7 (h7 (qcD (sO Y) (qr Y) (b7 (qv .B 5) (b7 (qv .B 2) b9)))))))) U5.nd rfl Qq) (c7 (@Z4 _ _ _ _ _ _ _ 4 _ _ _ _ rfl Qq (v7 (j9 ij im (l7 (h7 (O7 G8 (G7 (c:=true)) Qo (bl Y).tuple_ v9 (b7 (h7 (m8 (show g6 (c6 (top 14)) _ ["moves","place","many","steps","table"] ["moves","place","many","steps","table","step"] from Qq) rfl (C0 (qv .B 3)) (λ_ _ _ _=>(@e9 _ _ 5 _ (by decide +kernel:(["moves","place","many","steps","table","step"]:List Str).Nodup) rfl (Or.inl rfl) (.inr rfl))) h9 (o9 (show 5<=5 by decide)) (λ_ _ _ _=>n8) (λ_ _ _ _=>(W8 (g5 (qv .B 5) (qv .B 1)))))) b9)))) (l7 (h7 (j9 oa og (h7 (x8 (f9 b9))) (qv .C 2)))))) Qz Qz Qo Qo Qo Qo Qo) (c9 (@S7 _ _ _ _ _ 4 _ _ (.inl rfl) Qo Qq Qz Qz)))))
def iI:Def (hk w) mg "coming" (top 15) ["table"] 97 (FD "coming" 15 t7 96):=dk Y (by kernel_rfl) λ_ _ _ _ _ _=>us1 λ_=>rfl
def lh:FnOk P w (hk w) mg base CX0 1 97 (FD "coming" 15 t7 96) ["table"] (spM (hk w) 1 .F X8):=
 okF (iI Y) eT (.inl rfl) rfl rfl λI=>(c7 (C3 qD8 rfl (@kK _ _ _ _ _ _ _ _ _ _ Qo (bl Y).enumerate_ (b7 (g5 (qv .B 0) (kH bQ (ln (g:=X3) (λ_=>rfl) (λ_ _=>.int)) d9)) b9) Qo Qo) (@z7 _ (hk w) _ _ _ _ 2 rfl (i3 (@e9 _ _ 1 _ eT.nd rfl Qq Qq) (i3 (@e9 _ _ 2 _ eT.nd rfl Qq Qq) z6)) Qo Qo Qo) (C1 (.inr rfl) (i4 (.inr rfl) h9 (i4 (.inr rfl) h9 z9))) (c9 (n4 (i8 V4 xGt (qv .B 2) d9) (c9 (@S7 _ _ _ _ _ 1 _ _ (.inl rfl) Qo Qq Qz Qz)) m7))) (c9 (g7 x9)))
def mf:Def (hk w) mg "leaving" (top 16) ["table","held","column"] 102 (FD "leaving" 16 t7 101):=dk Y (by kernel_rfl) λ_ _ _ _ _ _=>us3 λ_ _ _=>rfl
def sQ:FnOk P w (hk w) mg base CX0 3 102 (FD "leaving" 16 t7 101) ["table","held","column"] (spM (hk w) 3 .F cL):=
 okL (mf Y) iS (.inl rfl) rfl rfl λI=>(c7 (ia (i:=3) (show g6 (c6 (top 16)) _ ["table","held","column","lines"] ["table","held","column","lines","line"] from Qq) rfl (L7 Qo (bl Y).range_ (b7 (x5 B3 A9 Qo (bl Y).len_ qE8 (b7 (qv .B 1) b9)) b9)) (λ_ _ _ _=>(@e9 _ _ 4 _ (by decide +kernel:(["table","held","column","lines","line"]:List Str).Nodup) rfl (Or.inl rfl) (.inr rfl))) h9 (o9 (show 4<=4 by decide)) (λ_ _ _ _=>(sv (i8 V4 xGt (j5 (g5 (j5 (g5 (qv .B 0) (qv .B 4))) (qv .B 2))) d9))) (λ_ _ _ _=>(qv .V 4)) iS.nd rfl Qq) (c9 (g7 (DC (j:=1) (c:=101) Im (by kernel_rfl) Qo Qo Qo Qo Qo Qo rfl (by exact I) Qo (bl Y).min_ (b7 (qv .B 3) b9)))))
def mw:Def (hk w) mg "cleared" (top 18) ["row","by","column","scale"] 112 (FD "cleared" 18 t7 111):=dk Y (by kernel_rfl) λ_ _ _ _ _ _=>us4 λ_ _ _ _=>rfl
def sR:FnOk P w (hk w) mg base CX0 1 112 (FD "cleared" 18 t7 111) ["row","by","column","scale"] (spM (hk w) 4 .F cM):=
 okF (mw Y) rR (.inl rfl) rfl rfl λI=>(c9 (g7 (O7 G8 (G7 (c:=true)) Qo (bl Y).tuple_ v9 (b7 (h7 (m8 (show g6 (c6 (top 18)) _ ["row","by","column","scale"] ["row","by","column","scale","number","mate"] from Qq) rfl (aD Qo (bl Y).zip_ (b7 (qv .B 0) (b7 (qv .B 1) b9))) (λ_ _ _ _=>(@z7 _ (hk w) _ _ _ _ 2 rfl (i3 (@e9 _ _ 4 _ (by decide +kernel:(["row","by","column","scale","number","mate"]:List Str).Nodup) rfl (Or.inl rfl) (.inr rfl)) (i3 (@e9 _ _ 5 _ (by decide +kernel:(["row","by","column","scale","number","mate"]:List Str).Nodup) rfl (Or.inl rfl) (.inr rfl)) z6)) Qo Qo Qo)) (C1 (.inr rfl) (i4 (.inr rfl) h9 (i4 (.inr rfl) h9 z9))) (T8 (x3 (show 4<=4 by decide) (x3 (show 4<=5 by decide) T9))) (λ_ _ _ _=>n8) (λ_ _ _ _=>(j9 kY (B5 (C:=V7) (g:=cK) (λ_ _=>rfl) (λ_ _ _=>.int)) (j9 kT uY (j9 C5 (B5 (C:=CMulB) (g:=v5) (λ_ _=>rfl) (λ_ _ _=>.int)) (qv .B 4) (j5 (g5 (qv .B 1) (qv .B 2)))) (j9 C5 (B5 (C:=CMulB) (g:=v5) (λ_ _=>rfl) (λ_ _ _=>.int)) (j5 (g5 (qv .B 0) (qv .B 2))) (qv .B 5))) (qv .B 3))))) b9))))
def lZ:Def (hk w) mg "pivoted" (top 17) ["table","line","column","scale"] 107 (FD "pivoted" 17 t7 106):=dk Y (by kernel_rfl) λ_ _ _ _ _ _=>us4 λ_ _ _ _=>rfl
def sP:FnOk P w (hk w) mg base CX0 2 107 (FD "pivoted" 17 t7 106) ["table","line","column","scale"] (spM (hk w) 4 .F aa):=
 okF (lZ Y) iR (.inl rfl) rfl rfl λI=>(c7 (@fM _ _ _ _ _ _ _ 4 _ _ iR.nd rfl Qq (g5 (qv .B 0) (qv .B 1)) Qo Qq) (c9 (g7 (m8 (show g6 (c6 (top 17)) _ ["table","line","column","scale","by"] ["table","line","column","scale","by","at","row"] from Qq) rfl (@sw _ _ _ _ _ _ _ _ _ _ Qo (bl Y).enumerate_ (b7 (qv .B 0) b9) Qo Qo) (λ_ _ _ _=>(@z7 _ (hk w) _ _ _ _ 2 rfl (i3 (@e9 _ _ 5 _ (by decide +kernel:(["table","line","column","scale","by","at","row"]:List Str).Nodup) rfl (Or.inl rfl) (.inr rfl)) (i3 (@e9 _ _ 6 _ (by decide +kernel:(["table","line","column","scale","by","at","row"]:List Str).Nodup) rfl (Or.inl rfl) (.inr rfl)) z6)) Qo Qo Qo)) (C1 (.inr rfl) (i4 (.inr rfl) h9 (i4 (.inr rfl) h9 z9))) (T8 (x3 (show 5<=5 by decide) (x3 (show 5<=6 by decide) T9))) (λ_ _ _ _=>n8) (λ_ _ _ _=>(ig (i8 (fR (ak I)) (cq (neg:=false)) (qv .B 5) (qv .B 1)) (qv .V 6) (v7 (qcD (sR Y) (mw Y) (b7 (qv .B 6) (b7 (qv .B 4) (b7 (qv .B 2) (b7 (qv .B 3) b9))))))))))))
def V0:Def (hk w) mg "greatest_divisor" (top 22) ["one","other"] 136 (FD "greatest_divisor" 22 t7 135):=dk Y (by kernel_rfl) λ_ _ _ _ _ _=>us2 λ_ _=>rfl
def ck:FnOk P w (hk w) mg base CX0 1 136 (FD "greatest_divisor" 22 t7 135) ["one","other"] (spM (hk w) 2 .F D4):=
 okF (V0 Y) C9 (.inl rfl) rfl rfl λI=>(c7 (aE qD8 (i8 HX Ep (qv .B 1) d9) (c7 (t9 (i:=2) C9.nd rfl Qq (j9 aG (B5 (C:=P4) (g:=Q8) (λ_ _=>rfl) (λ_ _ _=>.int)) (qv .B 0) (qv .B 1)) Qo Qq) (c7 (t9 (i:=0) C9.nd rfl Qq (qv .V 1) Qo Qq) (c9 (t9 (i:=1) C9.nd rfl Qq (qv .V 2) Qo Qq))))) (c9 (@S7 _ _ _ _ _ 0 _ _ (.inl rfl) Qo Qq Qz Qz)))
def D7:Def (hk w) mg "in_least_numbers" (top 21) ["numbers"] 129 (FD "in_least_numbers" 21 t7 128):=dk Y (by kernel_rfl) λ_ _ _ _ _ _=>us1 λ_=>rfl
def J1:FnOk P w (hk w) mg base CX0 2 129 (FD "in_least_numbers" 21 t7 128) ["numbers"] (spM (hk w) 1 .F A4):=
 okF (D7 Y) C8 (.inl rfl) rfl rfl λI=>(c7 (t9 (i:=1) C8.nd rfl Qq d9 Qo Qq) (c7 (C3 qD8 rfl (S8 (qv .U 0)) (@e9 _ _ 2 _ C8.nd rfl Qq Qq) h9 (c9 (j6 (i:=1) C8.nd rfl Qq (qcD (ck Y) (V0 Y) (b7 (qv .B 1) (b7 (qv .B 2) b9))) Qo Qq))) (c9 (g7 (O7 G8 (G7 (c:=true)) Qo (bl Y).tuple_ v9 (b7 (h7 (m8 (show g6 (c6 (top 21)) _ ["numbers","shared","number"] ["numbers","shared","#number","number"] from Qq) rfl (C0 (qv .B 0)) (λ_ _ _ _=>(@e9 _ _ 3 _ (by decide +kernel:(["numbers","shared","#number","number"]:List Str).Nodup) rfl (Or.inl rfl) (.inr rfl))) h9 (o9 (show 3<=3 by decide)) (λ_ _ _ _=>n8) (λ_ _ _ _=>(j9 kY (B5 (C:=V7) (g:=cK) (λ_ _=>rfl) (λ_ _ _=>.int)) (qv .B 3) (qv .B 1))))) b9))))))
def eh:Def (hk w) mg "weights_of" (top 20) ["table","place","scale","many_moves"] 124 (FD "weights_of" 20 t7 123):=dk Y (by kernel_rfl) λ_ _ _ _ _ _=>us4 λ_ _ _ _=>rfl
def kZ:FnOk P w (hk w) mg base CX0 3 124 (FD "weights_of" 20 t7 123) ["table","place","scale","many_moves"] (spM (hk w) 4 .F X4):=
 okF (eh Y) bV (.inl rfl) rfl rfl λI=>(c7 (ia (i:=4) (show g6 (c6 (top 20)) _ ["table","place","scale","many_moves","losses"] ["table","place","scale","many_moves","losses","gain"] from Qq) rfl (C0 (l7 (h7 (@pF _ _ _ _ _ _ _ _ _ _ _ (j5 (g5 (qv .B 0) (kH bQ (ln (g:=X3) (λ_=>rfl) (λ_ _=>.int)) d9))) (ib (qv .B 3)) ic Qo)))) (λ_ _ _ _=>(@e9 _ _ 5 _ (by decide +kernel:(["table","place","scale","many_moves","losses","gain"]:List Str).Nodup) rfl (Or.inl rfl) (.inr rfl))) h9 (o9 (show 5<=5 by decide)) (λ_ _ _ _=>n8) (λ_ _ _ _=>(kH bQ (ln (g:=X3) (λ_=>rfl) (λ_ _=>.int)) (qv .B 5))) bV.nd rfl Qq) (c9 (g7 (qcD (J1 Y) (D7 Y) (b7 (l7 (h7 (qcD (iZ Y) (fv Y) (b7 (qv .B 4) (b7 (l7 (h7 (qcD (sO Y) (qr Y) (b7 (qv .B 1) (b7 (x5 B3 A9 Qo (bl Y).len_ qE8 (b7 (qv .B 4) b9)) b9))))) (b7 (qv .B 2) b9)))))) b9)))))
def oQ:Def (hk w) mg "bag_of" (top 19) ["table","held","column","scale","many_moves"] 119 (FD "bag_of" 19 t7 118):=dk Y (by kernel_rfl) λ_ _ _ _ _ _=>us5 λ_ _ _ _ _=>rfl
def wB:FnOk P w (hk w) mg base CX0 3 119 (FD "bag_of" 19 t7 118) ["table","held","column","scale","many_moves"] (spM (hk w) 5 .F fu):=
 okF (oQ Y) aX (.inl rfl) rfl rfl λI=>(c7 (j6 (i:=5) aX.nd rfl Qq (j9 Ei (Eo (c:=true)) (h7 (K3 (f9 b9))) (x5 B3 A9 Qo (bl Y).len_ qE8 (b7 (j5 (g5 (qv .B 0) d9)) b9))) Qo Qq) (c7 (@pG _ _ _ _ _ _ _ _ 5 _ _ _ _ rfl Qq (qv .B 2) (qv .V 3) Qz Qz (@kN _ _ _ _ _ _ _ (@pv _ 5 _ _ Qo Qq Qz Qz) (qv .B 2) set_list (by intro _;rfl)) Qo Qo) (c7 (C3 qD8 rfl (@kK _ _ _ _ _ _ _ _ _ _ Qo (bl Y).enumerate_ (b7 (qv .U 1) b9) Qo Qo) (@z7 _ (hk w) _ _ _ _ 2 rfl (i3 (@e9 _ _ 6 _ aX.nd rfl Qq Qq) (i3 (@e9 _ _ 7 _ aX.nd rfl Qq Qq) z6)) Qo Qo Qo) (C1 (.inr rfl) (i4 (.inr rfl) h9 (i4 (.inr rfl) h9 z9))) (c9 (@pG _ _ _ _ _ _ _ _ 5 _ _ _ _ rfl Qq (qv .B 7) (kH bQ (ln (g:=X3) (λ_=>rfl) (λ_ _=>.int)) (j5 (g5 (j5 (g5 (qv .B 0) (qv .B 6))) (qv .B 2)))) Qz Qz (@kN _ _ _ _ _ _ _ (@pv _ 5 _ _ Qo Qq Qz Qz) (qv .B 7) set_list (by intro _;rfl)) Qo Qo))) (c9 (g7 (qcD (J1 Y) (D7 Y) (b7 (l7 (h7 (@we _ _ _ _ _ _ true _ _ _ _ _ (qv .C 5) ic (ib (qv .B 4)) Qo))) b9)))))))
def mz:Def (hk w) mg "ceiling" (top 13) ["moves","place","many"] 85 (FD "ceiling" 13 t7 84):=dk Y (by kernel_rfl) λ_ _ _ _ _ _=>us3 λ_ _ _=>rfl
def sS:FnOk P w (hk w) mg base CX0 4 85 (FD "ceiling" 13 t7 84) ["moves","place","many"] (spM (hk w) 3 .F cN):=
 okF (mz Y) D0 (.inl rfl) rfl rfl λI=>(c7 (j6 (i:=3) D0.nd rfl Qq (qcD (jx Y) (cQ Y) (b7 (qv .B 0) (b7 (qv .B 1) (b7 (qv .B 2) b9)))) Qo Qq) (c7 (ia (i:=4) (show g6 (c6 (top 13)) _ ["moves","place","many","table","held","scale","column","line"] ["moves","place","many","table","held","scale","column","line","at"] from Qq) rfl (L7 Qo (bl Y).range_ (b7 (qv .B 2) b9)) (λ_ _ _ _=>(@e9 _ _ 8 _ (by decide +kernel:(["moves","place","many","table","held","scale","column","line","at"]:List Str).Nodup) rfl (Or.inl rfl) (.inr rfl))) h9 (o9 (show 8<=8 by decide)) (λ_ _ _ _=>n8) (λ_ _ _ _=>(j9 y6 F5 (x5 B3 A9 Qo (bl Y).len_ qE8 (b7 (qv .B 0) b9)) (qv .B 8))) D0.nd rfl Qq) (c7 (t9 (i:=5) D0.nd rfl Qq d9 Qo Qq) (c7 (j6 (i:=6) D0.nd rfl Qq (qcD (lh Y) (iI Y) (b7 (qv .B 3) b9)) Qo Qq) (c7 (aE qD8 (i8 dm dq (qv .B 6) x9) (c7 (j6 (i:=7) D0.nd rfl Qq (qcD (sQ Y) (mf Y) (b7 (qv .B 3) (b7 (qv .B 4) (b7 (qv .B 6) b9)))) Qo Qq) (c7 (n4 (i8 W9 X0 (qv .B 7) x9) (c9 (g7 (x8 (b7 M6 (b7 (v7 (qcD (wB Y) (oQ Y) (b7 (qv .B 3) (b7 (qv .B 4) (b7 (qv .B 6) (b7 (qv .B 5) (b7 (x5 B3 A9 Qo (bl Y).len_ qE8 (b7 (qv .B 0) b9)) b9))))))) b9))))) m7) (c7 (j6 (i:=3) D0.nd rfl Qq (qcD (sP Y) (lZ Y) (b7 (qv .B 3) (b7 (qv .B 7) (b7 (qv .B 6) (b7 (qv .B 5) b9))))) Qo Qq) (c7 (aZ (@pG _ _ _ _ _ _ _ _ 4 _ _ _ _ rfl Qq (qv .B 7) (qv .V 6) Qz Qz (@kN _ _ _ _ _ _ _ (@pv _ 4 _ _ Qo Qq Qz Qz) (qv .B 7) set_list (by intro _;rfl)) Qo Qo)) (c7 (t9 (i:=5) D0.nd rfl Qq (Z3 (DM (Z3 (qv .C 3) (qv .C 7))) (qv .C 6)) Qo Qq) (c9 (j6 (i:=6) D0.nd rfl Qq (qcD (lh Y) (iI Y) (b7 (qv .B 3) b9)) Qo Qq)))))))) (c9 (g7 (x8 (b7 M6 (b7 (v7 (qcD (kZ Y) (eh Y) (b7 (qv .B 3) (b7 (qv .B 1) (b7 (qv .B 5) (b7 (x5 B3 A9 Qo (bl Y).len_ qE8 (b7 (qv .B 0) b9)) b9)))))) b9))))))))))
def uk:Def (hk w) mg "level" (top 23) ["moves","many"] 143 (FD "level" 23 t7 142):=dk Y (by kernel_rfl) λ_ _ _ _ _ _=>us2 λ_ _=>rfl
def Ae:FnOk P w (hk w) mg base CX0 5 143 (FD "level" 23 t7 142) ["moves","many"] (spM (hk w) 2 .F dz):=
 okF (uk Y) aA (.inl rfl) rfl rfl λI=>(c7 (j6 (i:=2) aA.nd rfl Qq (j9 oa og (h7 (x8 (f9 b9))) (qv .C 1)) Qo Qq) (c7 (C3 qD8 rfl (L7 Qo (bl Y).range_ (b7 (qv .B 1) b9)) (@e9 _ _ 3 _ aA.nd rfl Qq Qq) h9 (c7 (j6 (i:=4) aA.nd rfl Qq (qcD (sS Y) (mz Y) (b7 (qv .B 0) (b7 (qv .B 3) (b7 (qv .B 1) b9)))) Qo Qq) (c7 (n4 (i8 F9 D2 (j5 (g5 (qv .B 4) d9)) M6) (c9 (g7 (x8 (b7 M6 (b7 (qv .V 3) (b7 (Z3 (qv .C 4) d9) b9)))))) m7) (c9 (j6 (i:=2) aA.nd rfl Qq (qcD (iZ Y) (fv Y) (b7 (qv .B 2) (b7 (j5 (g5 (qv .B 4) d9)) (f9 b9)))) Qo Qq))))) (c9 (g7 (x8 (b7 M6 (b7 (v7 (qcD (J1 Y) (D7 Y) (b7 (qv .B 2) b9))) b9)))))))
def dunder:Def (hk w) mg "under" (top 25) ["cap","other"] 150 (FD "under" 25 t6 149):=dk Y (by kernel_rfl) λ_ _ _ _ _ _=>us2 λ_ _=>rfl
def il:FnOk P w (hk w) mg base CX0 1 150 (FD "under" 25 t6 149) ["cap","other"] (spM (hk w) 2 .F W3):=
 okF (dunder Y) gQ (.inl rfl) rfl rfl λI=>(c7 (C3 qD8 rfl (sk Qo (bl Y).zip_ (b7 (qv .U 0) (b7 (qv .U 1) b9))) (@z7 _ (hk w) _ _ _ _ 2 rfl (i3 (@e9 _ _ 2 _ gQ.nd rfl Qq Qq) (i3 (@e9 _ _ 3 _ gQ.nd rfl Qq Qq) z6)) Qo Qo Qo) (C1 (.inr rfl) (i4 (.inr rfl) h9 (i4 (.inr rfl) h9 z9))) (c9 (n4 (PW.pt (sr (i8 dm dq (qv .B 3) x9) (nT (PW.pt (jE (i8 W9 X0 (qv .B 2) x9) (so (i8 V4 xGt (qv .B 2) (qv .B 3)))))))) (c9 (g7 O8)) m7))) (c9 (g7 O8)))
def bz:Def (hk w) mg "under_any" (top 26) ["cap","caps"] 157 (FD "under_any" 26 t6 156):=dk Y (by kernel_rfl) λ_ _ _ _ _ _=>us2 λ_ _=>rfl
def dR:FnOk P w (hk w) mg base CX0 2 157 (FD "under_any" 26 t6 156) ["cap","caps"] (spM (hk w) 2 .F M0):=
 okF (bz Y) dO (.inl rfl) rfl rfl λI=>(c7 (C3 qD8 rfl (S8 (qv .U 1)) (@e9 _ _ 2 _ dO.nd rfl Qq Qq) h9 (c9 (n4 (F8 (l7 (h7 (qcD (il Y) (dunder Y) (b7 (qv .B 0) (b7 (qv .B 2) b9)))))) (c9 (g7 O8)) m7))) (c9 (g7 O8)))
def cS:Def (hk w) mg "cap_able" (top 27) ["cap","move"] 164 (FD "cap_able" 27 t6 163):=dk Y (by kernel_rfl) λ_ _ _ _ _ _=>us2 λ_ _=>rfl
def fV:FnOk P w (hk w) mg base CX0 2 164 (FD "cap_able" 27 t6 163) ["cap","move"] (spM (hk w) 2 .F V5):=
 okF (cS Y) pz (.inl rfl) rfl rfl λI=>(c9 (g7 (qcD (il Y) (dunder Y) (b7 (j5 (g5 (qv .B 1) d9)) (b7 (qv .B 0) b9)))))
def gt:Def (hk w) mg "cap_after" (top 28) ["cap","move"] 169 (FD "cap_after" 28 t6 168):=dk Y (by kernel_rfl) λ_ _ _ _ _ _=>us2 λ_ _=>rfl
def ni:FnOk P w (hk w) mg base CX0 3 169 (FD "cap_after" 28 t6 168) ["cap","move"] (spM (hk w) 2 .F ao):=
 okF (gt Y) nc (.inl rfl) rfl rfl λI=>(c7 (n4 (L6 (F8 (l7 (h7 (qcD (fV Y) (cS Y) (b7 (qv .B 0) (b7 (qv .B 1) b9))))))) (c9 nU) m7) (c9 (g7 (O7 G8 (G7 (c:=true)) Qo (bl Y).tuple_ v9 (b7 (h7 (m8 (show g6 (c6 (top 28)) _ ["cap","move"] ["cap","move","number","step"] from Qq) rfl (aD Qo (bl Y).zip_ (b7 (qv .B 0) (b7 (l7 (h7 (qcD (eY Y) (dG Y) (b7 (qv .B 1) b9)))) b9))) (λ_ _ _ _=>(@z7 _ (hk w) _ _ _ _ 2 rfl (i3 (@e9 _ _ 2 _ (by decide +kernel:(["cap","move","number","step"]:List Str).Nodup) rfl (Or.inl rfl) (.inr rfl)) (i3 (@e9 _ _ 3 _ (by decide +kernel:(["cap","move","number","step"]:List Str).Nodup) rfl (Or.inl rfl) (.inr rfl)) z6)) Qo Qo Qo)) (C1 (.inr rfl) (i4 (.inr rfl) h9 (i4 (.inr rfl) h9 z9))) (T8 (x3 (show 2<=2 by decide) (x3 (show 2<=3 by decide) T9))) (λ_ _ _ _=>n8) (λ_ _ _ _=>(ig (i8 W9 X0 (qv .B 2) x9) x9 (j9 y6 F5 (qv .B 2) (qv .B 3)))))) b9)))))
def oJ:Def (hk w) mg "raised" (top 29) ["cap","elder"] 174 (FD "raised" 29 t6 173):=dk Y (by kernel_rfl) λ_ _ _ _ _ _=>us2 λ_ _=>rfl
def wz:FnOk P w (hk w) mg base CX0 2 174 (FD "raised" 29 t6 173) ["cap","elder"] (spM (hk w) 2 .F bv):=
 okF (oJ Y) vE (.inl rfl) rfl rfl λI=>(c7 (n4 (L6 (F8 (l7 (h7 (qcD (il Y) (dunder Y) (b7 (qv .B 1) (b7 (qv .B 0) b9))))))) (c9 (@S7 _ _ _ _ _ 0 _ _ (.inl rfl) Qo Qq Qz Qz)) m7) (c9 (g7 (O7 G8 (G7 (c:=true)) Qo (bl Y).tuple_ v9 (b7 (h7 (m8 (show g6 (c6 (top 29)) _ ["cap","elder"] ["cap","elder","number","old"] from Qq) rfl (aD Qo (bl Y).zip_ (b7 (qv .B 0) (b7 (qv .B 1) b9))) (λ_ _ _ _=>(@z7 _ (hk w) _ _ _ _ 2 rfl (i3 (@e9 _ _ 2 _ (by decide +kernel:(["cap","elder","number","old"]:List Str).Nodup) rfl (Or.inl rfl) (.inr rfl)) (i3 (@e9 _ _ 3 _ (by decide +kernel:(["cap","elder","number","old"]:List Str).Nodup) rfl (Or.inl rfl) (.inr rfl)) z6)) Qo Qo Qo)) (C1 (.inr rfl) (i4 (.inr rfl) h9 (i4 (.inr rfl) h9 z9))) (T8 (x3 (show 2<=2 by decide) (x3 (show 2<=3 by decide) T9))) (λ_ _ _ _=>n8) (λ_ _ _ _=>(ig (i8 (fR (ak I)) (cq (neg:=false)) (qv .B 2) (qv .B 3)) (qv .V 2) x9)))) b9)))))
def cP:Def (hk w) mg "sort_key" (top 31) ["cap"] 186 (FD "sort_key" 31 t6 185):=dk Y (by kernel_rfl) λ_ _ _ _ _ _=>us1 λ_=>rfl
def pP:FnOk P w (hk w) mg base CX0 1 186 (FD "sort_key" 31 t6 185) ["cap"] (spM (hk w) 1 .F K6):=
 okF (cP Y) px (.inl rfl) rfl rfl λI=>(c9 (g7 (O7 G8 (G7 (c:=true)) Qo (bl Y).tuple_ v9 (b7 (h7 (m8 (show g6 (c6 (top 31)) _ ["cap"] ["cap","number"] from Qq) rfl (C0 (qv .B 0)) (λ_ _ _ _=>(@e9 _ _ 1 _ (by decide +kernel:(["cap","number"]:List Str).Nodup) rfl (Or.inl rfl) (.inr rfl))) h9 (o9 (show 1<=1 by decide)) (λ_ _ _ _=>n8) (λ_ _ _ _=>(ig (i8 W9 X0 (qv .B 1) x9) (v7 (x8 (f9 (f9 b9)))) (v7 (x8 (f9 (b7 (qv .V 1) b9)))))))) b9))))
def yD:Def (hk w) mg "tops" (top 30) ["caps"] 181 (FD "tops" 30 t6 180):=dk Y (by kernel_rfl) λ_ _ _ _ _ _=>us1 λ_=>rfl
def El:FnOk P w (hk w) mg base CX0 4 181 (FD "tops" 30 t6 180) ["caps"] (spM (hk w) 1 .F lW):=
 okF (yD Y) ko (.inl rfl) rfl rfl λI=>(c7 (j6 (i:=1) ko.nd rfl Qq (K3 b9) Qo Qq) (c7 (C3 qD8 rfl (S8 (kL (v7 (@zK _ _ _ _ _ _ _ _ _ _ _ _ _ _ _ _ _ _ _ _ false (pP Y) Qq Qo (cP Y).m (cP Y).b Qo (bl Y).sorted_ jt (b7 (qv .B 0) b9) Qo Qz Qz Qz Qo Qo Qo Qo Qo)))) (@e9 _ _ 2 _ ko.nd rfl Qq Qq) h9 (c9 (n4 (L6 (F8 (l7 (h7 (qcD (dR Y) (bz Y) (b7 (qv .B 2) (b7 (qv .B 1) b9))))))) (c9 (@Z4 _ _ _ _ _ _ _ 1 _ _ _ _ rfl Qq (qv .V 2) Qz Qz Qo Qo Qo Qo Qo)) m7))) (c7 (@HH _ _ _ _ _ 1 _ _ _ _ rfl Qq Qo Qz Qz Qo Qo Qo) (c9 (@S7 _ _ _ _ _ 1 _ _ (.inl rfl) Qo Qq Qz Qz)))))
def ad:Def (hk w) mg "way_back" (top 34) ["tree","number"] 205 (FD "way_back" 34 t6 204):=dk Y (by kernel_rfl) λ_ _ _ _ _ _=>us2 λ_ _=>rfl
def bb:FnOk P w (hk w) mg base CX0 1 205 (FD "way_back" 34 t6 204) ["tree","number"] (spM (hk w) 2 .F D3):=
 okF (ad Y) V1 (.inl rfl) rfl rfl λI=>(c7 (j6 (i:=2) V1.nd rfl Qq (K3 b9) Qo Qq) (c7 (t9 (i:=3) V1.nd rfl Qq (qv .V 1) Qo Qq) (c7 (aE qD8 (i8 dm dq (qv .B 3) x9) (c7 (@Z4 _ _ _ _ _ _ _ 2 _ _ _ _ rfl Qq (qv .V 3) Qz Qz Qo Qo Qo Qo Qo) (c9 (@fM _ _ _ _ _ _ _ 3 _ _ V1.nd rfl Qq (g5 (j5 (g5 (qv .B 0) (qv .B 3))) d9) Qo Qq)))) (c9 (@S7 _ _ _ _ _ 2 _ _ (.inl rfl) Qo Qq Qz Qz)))))
def jK:Def (hk w) mg "grow" (top 33) ["moor","tree","at","number"] 198 (FD "grow" 33 t6 197):=dk Y (by kernel_rfl) λ_ _ _ _ _ _=>us4 λ_ _ _ _=>rfl
def Em:FnOk P w (hk w) mg base CX0 4 198 (FD "grow" 33 t6 197) ["moor","tree","at","number"] (gO (hk w) 4 gj):=
 okI (jK Y) bW rfl rfl λp=>λI=>(dh (@q_i _ _ _ .F _ _ _ (@fM _ _ _ _ _ _ _ 4 _ _ bW.nd rfl Qq (g5 (j5 (g5 (qv .B 0) d9)) (qv .B 3)) Qo Qq)) (dh (yl (L6 (F8 (l7 (h7 (qcD (fV Y) (cS Y) (b7 (j5 (g5 (j5 (g5 (qv .B 1) (qv .B 2))) d9)) (b7 (qv .B 4) b9))))))) (ie DB) (@DF _ _ _ .F _ _ _ m7)) (dh (@q_i _ _ _ .F _ _ _ (j6 (i:=5) bW.nd rfl Qq (qcD (ni Y) (gt Y) (b7 (j5 (g5 (j5 (g5 (qv .B 1) (qv .B 2))) d9)) (b7 (qv .B 4) b9))) Qo Qq)) (dh (@q_i _ _ _ .F _ _ _ (C3 qD8 rfl (S8 (kL (v7 (qcD (bb Y) (ad Y) (b7 (qv .B 1) (b7 (qv .B 2) b9)))))) (@e9 _ _ 6 _ bW.nd rfl Qq Qq) h9 (c9 (j6 (i:=5) bW.nd rfl Qq (qcD (wz Y) (oJ Y) (b7 (qv .B 5) (b7 (j5 (g5 (j5 (g5 (qv .B 1) (qv .B 6))) d9)) b9))) Qo Qq)))) (ie (yl (L6 (F8 (l7 (h7 (qcD (dR Y) (bz Y) (b7 (qv .B 5) (b7 (l7 (h7 (m8 (show g6 (c6 (top 33)) _ ["moor","tree","at","number","move","cap","elder"] ["moor","tree","at","number","move","cap","elder","row"] from Qq) rfl (C0 (qv .B 1)) (λ_ _ _ _=>(@e9 _ _ 7 _ (by decide +kernel:(["moor","tree","at","number","move","cap","elder","row"]:List Str).Nodup) rfl (Or.inl rfl) (.inr rfl))) h9 (o9 (show 7<=7 by decide)) (λ_ _ _ _=>n8) (λ_ _ _ _=>(W8 (g5 (qv .B 7) d9)))))) b9))))))) (ie (@DL _ _ _ _ _ _ _ 1 _ _ _ _ rfl Qq (v7 (x8 (b7 (qv .V 5) (b7 (qv .V 2) (b7 (qv .V 3) b9))))) Qz Qz Qo Qo Qo Qo Qo)) (@DF _ _ _ .F _ _ _ m7)))))))
def oK:Def (hk w) mg "growth" (top 32) ["moor","most"] 193 (FD "growth" 32 t6 192):=dk Y (by kernel_rfl) λ_ _ _ _ _ _=>us2 λ_ _=>rfl
def wA:FnOk P w (hk w) mg base CX0 5 193 (FD "growth" 32 t6 192) ["moor","most"] (spM (hk w) 2 .F X5):=
 okF (oK Y) W7 (.inl rfl) rfl rfl λI=>(c7 (j6 (i:=2) W7.nd rfl Qq (K3 (b7 (v7 (x8 (b7 (W8 (g5 (qv .B 0) d9)) (b7 x9 (b7 x9 b9))))) b9)) Qo Qq) (c7 (t9 (i:=3) W7.nd rfl Qq d9 Qo Qq) (c7 (aE qD8 (i8 pO xLt (qv .B 3) (x5 B3 A9 Qo (bl Y).len_ qE8 (b7 (qv .B 2) b9))) (c7 (C3 qD8 rfl (L7 Qo (bl Y).range_ (b7 (x5 B3 A9 Qo (bl Y).len_ qE8 (b7 (j5 (g5 (qv .B 0) d9)) b9)) b9)) (@e9 _ _ 4 _ W7.nd rfl Qq Qq) h9 (c9 (@zO _ _ _ _ _ _ _ _ 2 _ _ _ _ _ _ _ _ _ _ _ _ rfl Qq (Em Y) Qq Qo (jK Y).m (jK Y).F.kp (jK Y).b (qv .B 0) (b7 (qv .B 3) (b7 (qv .B 4) b9)) Qz Qz Qz Qo Qo Qo Qo))) (c7 (n4 (i8 V4 xGt (x5 B3 A9 Qo (bl Y).len_ qE8 (b7 (qv .B 2) b9)) (qv .B 1)) (c9 (g7 x9)) m7) (c9 (@yn _ _ _ _ _ _ _ 3 _ _ _ _ W7.nd rfl Qq d9 tU Qq))))) (c9 (@S7 _ _ _ _ _ 2 _ _ (.inl rfl) Qo Qq Qz Qz)))))
def uo:Def (hk w) mg "crown" (top 35) ["moor","most"] 210 (FD "crown" 35 t6 209):=dk Y (by kernel_rfl) λ_ _ _ _ _ _=>us2 λ_ _=>rfl
def Ag:FnOk P w (hk w) mg base CX0 6 210 (FD "crown" 35 t6 209) ["moor","most"] (spM (hk w) 2 .F dC):=
 okF (uo Y) nL (.inl rfl) rfl rfl λI=>(c7 (j6 (i:=2) nL.nd rfl Qq (qcD (wA Y) (oK Y) (b7 (qv .B 0) (b7 (qv .B 1) b9))) Qo Qq) (c7 (n4 (i8 W9 X0 (qv .B 2) x9) (c9 (g7 x9)) m7) (c9 (g7 (qcD (El Y) (yD Y) (b7 (l7 (h7 (m8 (show g6 (c6 (top 35)) _ ["moor","most","tree"] ["moor","most","tree","row"] from Qq) rfl (C0 (qv .B 2)) (λ_ _ _ _=>(@e9 _ _ 3 _ (by decide +kernel:(["moor","most","tree","row"]:List Str).Nodup) rfl (Or.inl rfl) (.inr rfl))) h9 (o9 (show 3<=3 by decide)) (λ_ _ _ _=>n8) (λ_ _ _ _=>(W8 (g5 (qv .B 3) d9)))))) b9))))))
def Gj:Def (hk w) mg "way" (top 37) ["tree","number"] 217 (FD "way" 37 iC 216):=dk Y (by kernel_rfl) λ_ _ _ _ _ _=>us2 λ_ _=>rfl
def Ia:FnOk P w (hk w) mg base CX0 2 217 (FD "way" 37 iC 216) ["tree","number"] (spM (hk w) 2 .F ql):=
 okF (Gj Y) Hz (.inl rfl) rfl rfl λI=>(c9 (g7 (@DD _ _ _ _ _ _ _ _ _ rfl Qo (bl Y).list_ Qo (bl Y).reversed_ (b7 (l7 (h7 (qcD (bb Y) (ad Y) (b7 (qv .B 0) (b7 (qv .B 1) b9))))) b9) Qo Qo Qo)))
def Y1:Def (hk w) mg "row_between" (top 38) ["tree","elder","number"] 222 (FD "row_between" 38 iC 221):=dk Y (by kernel_rfl) λ_ _ _ _ _ _=>us3 λ_ _ _=>rfl
def bH:FnOk P w (hk w) mg base CX0 3 222 (FD "row_between" 38 iC 221) ["tree","elder","number"] (spM (hk w) 3 .F F2):=
 okF (Y1 Y) bG (.inl rfl) rfl rfl λI=>(c7 (j6 (i:=3) bG.nd rfl Qq (qcD (Ia Y) (Gj Y) (b7 (qv .B 0) (b7 (qv .B 2) b9))) Qo Qq) (c9 (g7 (m8 (show g6 (c6 (top 38)) _ ["tree","elder","number","path"] ["tree","elder","number","path","at"] from Qq) rfl (C0 (l7 (h7 (@we _ _ _ _ _ _ true _ _ _ _ _ (qv .C 3) (ib (j9 y6 F5 (@zN _ _ _ _ _ _ _ _ _ _ (ak I) (qv .B 3) (qv .B 1) Qo Qo Qo Qo Qo Qo) d9)) ic Qo)))) (λ_ _ _ _=>(@e9 _ _ 4 _ (by decide +kernel:(["tree","elder","number","path","at"]:List Str).Nodup) rfl (Or.inl rfl) (.inr rfl))) h9 (o9 (show 4<=4 by decide)) (λ_ _ _ _=>n8) (λ_ _ _ _=>(W8 (g5 (j5 (g5 (qv .B 0) (qv .B 4))) d9)))))))
def aO:Def (hk w) mg "stands_behind" (top 41) ["moor","stand"] 234 (FD "stands_behind" 41 F7 233):=dk Y (by kernel_rfl) λ_ _ _ _ _ _=>us2 λ_ _=>rfl
def fS:FnOk P w (hk w) mg base CX0 4 234 (FD "stands_behind" 41 F7 233) ["moor","stand"] (spM (hk w) 2 .F P2):=
 okF (aO Y) fK (.inl rfl) rfl rfl λI=>(c9 (g7 (m8 (show g6 (c6 (top 41)) _ ["moor","stand"] ["moor","stand","number","move"] from Qq) rfl (@sw _ _ _ _ _ _ _ _ _ _ Qo (bl Y).enumerate_ (b7 (j5 (g5 (qv .B 0) d9)) b9) Qo Qo) (λ_ _ _ _=>(@z7 _ (hk w) _ _ _ _ 2 rfl (i3 (@e9 _ _ 2 _ (by decide +kernel:(["moor","stand","number","move"]:List Str).Nodup) rfl (Or.inl rfl) (.inr rfl)) (i3 (@e9 _ _ 3 _ (by decide +kernel:(["moor","stand","number","move"]:List Str).Nodup) rfl (Or.inl rfl) (.inr rfl)) z6)) Qo Qo Qo)) (C1 (.inr rfl) (i4 (.inr rfl) h9 (i4 (.inr rfl) h9 z9))) (T8 (x3 (show 2<=2 by decide) (x3 (show 2<=3 by decide) T9))) (λ_ _ _ _=>(sv (F8 (l7 (h7 (qcD (sT Y) (qu Y) (b7 (qv .B 1) (b7 (qv .B 3) b9)))))))) (λ_ _ _ _=>(v7 (x8 (b7 (v7 (qcD (Ah Y) (uq Y) (b7 (qv .B 1) (b7 (qv .B 3) b9)))) (b7 (qv .V 2) b9))))))))
def ul:Def (hk w) mg "flood" (top 40) ["moor","most"] 229 (FD "flood" 40 F7 228):=dk Y (by kernel_rfl) λ_ _ _ _ _ _=>us2 λ_ _=>rfl
def Af:FnOk P w (hk w) mg base CX0 5 229 (FD "flood" 40 F7 228) ["moor","most"] (spM (hk w) 2 .F dA):=
 okF (ul Y) N5 (.inl rfl) rfl rfl λI=>(c7 (j6 (i:=2) N5.nd rfl Qq (K3 (b7 (v7 (x8 (b7 (W8 (g5 (qv .B 0) d9)) (b7 x9 (b7 x9 b9))))) b9)) Qo Qq) (c7 (@DH _ _ _ _ _ _ _ _ _ 3 _ _ _ (ak I) N5.nd rfl Qq (j5 (g5 (qv .B 0) d9)) O8 Qo (by first|exact Or.inl rfl|exact Or.inr rfl|assumption)) (c7 (t9 (i:=4) N5.nd rfl Qq d9 Qo Qq) (c7 (aE qD8 (i8 pO xLt (qv .B 4) (x5 B3 A9 Qo (bl Y).len_ qE8 (b7 (qv .B 2) b9))) (c7 (t9 (i:=5) N5.nd rfl Qq (Z3 (DM (Z3 (qv .C 2) (qv .C 4))) d9) Qo Qq) (c7 (C3 qD8 rfl (S8 (kL (v7 (qcD (fS Y) (aO Y) (b7 (qv .B 0) (b7 (qv .B 5) b9)))))) (@z7 _ (hk w) _ _ _ _ 2 rfl (i3 (@e9 _ _ 6 _ N5.nd rfl Qq Qq) (i3 (@e9 _ _ 7 _ N5.nd rfl Qq Qq) z6)) Qo Qo Qo) (C1 (.inr rfl) (i4 (.inr rfl) h9 (i4 (.inr rfl) h9 z9))) (c7 (n4 (@HI _ _ _ _ _ _ 3 _ _ (ak I) rfl Qq (qv .B 6) Qz Qz Qo) (c9 DI) m7) (c7 (n4 (i8 F9 D2 (x5 B3 A9 Qo (bl Y).len_ qE8 (b7 (qv .B 2) b9)) (qv .B 1)) (c9 (aZ (g7 (x8 (b7 (qv .V 2) (b7 O8 b9)))))) m7) (c7 (@DG _ _ _ _ _ _ _ _ _ 3 _ _ _ (ak I) rfl Qq (qv .B 6) O8 Qz Qz Qo) (c9 (@Z4 _ _ _ _ _ _ _ 2 _ _ _ _ rfl Qq (v7 (x8 (b7 (qv .V 6) (b7 (qv .V 4) (b7 (qv .V 7) b9))))) Qz Qz Qo Qo Qo Qo Qo)))))) (c9 (@yn _ _ _ _ _ _ _ 4 _ _ _ _ N5.nd rfl Qq d9 tU Qq))))) (c9 (aZ (g7 (x8 (b7 (qv .V 2) (b7 O8 b9))))))))))
def gq:Def (hk w) mg "stands_in" (top 42) ["rows"] 239 (FD "stands_in" 42 F7 238):=dk Y (by kernel_rfl) λ_ _ _ _ _ _=>us1 λ_=>rfl
def nh:FnOk P w (hk w) mg base CX0 1 239 (FD "stands_in" 42 F7 238) ["rows"] (spM (hk w) 1 .F al):=
 okF (gq Y) mZ (.inl rfl) rfl rfl λI=>(c9 (g7 (m8 (show g6 (c6 (top 42)) _ ["rows"] ["rows","row"] from Qq) rfl (C0 (qv .B 0)) (λ_ _ _ _=>(@e9 _ _ 1 _ (by decide +kernel:(["rows","row"]:List Str).Nodup) rfl (Or.inl rfl) (.inr rfl))) h9 (o9 (show 1<=1 by decide)) (λ_ _ _ _=>n8) (λ_ _ _ _=>(W8 (g5 (qv .B 1) d9))))))
def oI:Def (hk w) mg "row_to" (top 43) ["rows","number"] 246 (FD "row_to" 43 F7 245):=dk Y (by kernel_rfl) λ_ _ _ _ _ _=>us2 λ_ _=>rfl
def wy:FnOk P w (hk w) mg base CX0 4 246 (FD "row_to" 43 F7 245) ["rows","number"] (spM (hk w) 2 .F ft):=
 okF (oI Y) vD (.inl rfl) rfl rfl λI=>(c9 (g7 (qcD (bH Y) (Y1 Y) (b7 (qv .B 0) (f9 (b7 (qv .B 1) b9))))))
def eA:Def (hk w) mg "first_lift" (top 45) ["rows"] 260 (FD "first_lift" 45 F7 259):=dk Y (by kernel_rfl) λ_ _ _ _ _ _=>us1 λ_=>rfl
def lf:FnOk P w (hk w) mg base CX0 2 260 (FD "first_lift" 45 F7 259) ["rows"] (spM (hk w) 1 .F X6):=
 okF (eA Y) O4 (.inl rfl) rfl rfl λI=>(c7 (C3 qD8 rfl (@kK _ _ _ _ _ _ _ _ _ _ Qo (bl Y).enumerate_ (b7 (qv .U 0) b9) Qo Qo) (@z7 _ (hk w) _ _ _ _ 2 rfl (i3 (@e9 _ _ 1 _ O4.nd rfl Qq Qq) (i3 (@e9 _ _ 2 _ O4.nd rfl Qq Qq) z6)) Qo Qo Qo) (C1 (.inr rfl) (i4 (.inr rfl) h9 (i4 (.inr rfl) h9 z9))) (c9 (C3 qD8 rfl (S8 (kL (v7 (@we _ _ _ _ _ _ true _ _ _ _ _ (h7 (qcD (bb Y) (ad Y) (b7 (qv .B 0) (b7 (qv .B 1) b9)))) (ib d9) ic Qo)))) (@e9 _ _ 3 _ O4.nd rfl Qq Qq) h9 (c9 (n4 (F8 (l7 (h7 (qcD (lg Y) (iH Y) (b7 (j5 (g5 (qv .B 2) d9)) (b7 (j5 (g5 (j5 (g5 (qv .B 0) (qv .B 3))) d9)) b9)))))) (c9 (g7 (x8 (b7 (qv .V 3) (b7 (qv .V 1) b9))))) m7))))) (c9 (g7 x9)))
def fx:Def (hk w) mg "bounded" (top 44) ["moor","most"] 253 (FD "bounded" 44 F7 252):=dk Y (by kernel_rfl) λ_ _ _ _ _ _=>us2 λ_ _=>rfl
def ja:FnOk P w (hk w) mg base CX0 6 253 (FD "bounded" 44 F7 252) ["moor","most"] (spM (hk w) 2 .V ac):=
 okF (fx Y) S4 (.inr rfl) rfl rfl λI=>(c7 (j6 (i:=2) S4.nd rfl Qq (qcD (Af Y) (ul Y) (b7 (qv .B 0) (b7 (qv .B 1) b9))) Qo Qq) (c7 (t9 (i:=3) S4.nd rfl Qq (Z3 (qv .C 2) d9) Qo Qq) (c7 (j6 (i:=4) S4.nd rfl Qq (qcD (lf Y) (eA Y) (b7 (qv .B 3) b9)) Qo Qq) (c7 (n4 (i8 dm dq (qv .B 4) x9) (c9 (g7 (v7 (x8 (b7 M6 (b7 (v7 (qcD (wy Y) (oI Y) (b7 (qv .B 3) (b7 (j5 (g5 (qv .B 4) d9)) b9)))) (b7 (v7 (qcD (bH Y) (Y1 Y) (b7 (qv .B 3) (b7 (j5 (g5 (qv .B 4) d9)) (b7 (j5 (g5 (qv .B 4) d9)) b9))))) b9))))))) m7) (c7 (n4 (F8 (j5 (g5 (qv .B 2) d9))) (c9 (g7 (v7 (x8 (b7 M6 (b7 (v7 (qcD (nh Y) (gq Y) (b7 (qv .B 3) b9))) b9)))))) m7) (c7 (j6 (i:=5) S4.nd rfl Qq (qcD (Ae Y) (uk Y) (b7 (j5 (g5 (qv .B 0) d9)) (b7 (x5 B3 A9 Qo (bl Y).len_ qE8 (b7 (j5 (g5 (qv .B 0) d9)) b9)) b9))) Qo Qq) (c9 (aZ (g7 (ig (i8 F9 D2 (j5 (g5 (qv .B 5) d9)) M6) (qv .V 5) (v7 (x8 (b7 M6 b9)))))))))))))
def M8:Def (hk w) mg "_law_cell_at" (top 47) ["_law_script","_law_k"] 267 (FD "_law_cell_at" 47 v8 266):=dk Y (by kernel_rfl) λ_ _ _ _ _ _=>us2 λ_ _=>rfl
def Q5:FnOk P w (hk w) mg base CX0 1 267 (FD "_law_cell_at" 47 v8 266) ["_law_script","_law_k"] (spM (hk w) 2 .F E2):=
 okF (M8 Y) gR (.inl rfl) rfl rfl λI=>(c7 (n4 (i8 V4 xGt (x5 B3 A9 Qo (bl Y).len_ qE8 (b7 (qv .B 0) b9)) d9) (c9 (g7 (DK (g5 (qv .B 0) (j9 aG (B5 (C:=P4) (g:=Q8) (λ_ _=>rfl) (λ_ _ _=>.int)) (qv .B 1) (x5 B3 A9 Qo (bl Y).len_ qE8 (b7 (qv .B 0) b9))))))) m7) (c9 (g7 d9)))
def j4:Def (hk w) mg "_law_draw" (top 48) ["_law_script","_law_k","_law_many"] 274 (FD "_law_draw" 48 v8 273):=dk Y (by kernel_rfl) λ_ _ _ _ _ _=>us3 λ_ _ _=>rfl
def v4:FnOk P w (hk w) mg base CX0 2 274 (FD "_law_draw" 48 v8 273) ["_law_script","_law_k","_law_many"] (spM (hk w) 3 .F o8):=
 okF (j4 Y) ng (.inl rfl) rfl rfl λI=>(c9 (g7 (j9 aG (B5 (C:=P4) (g:=Q8) (λ_ _=>rfl) (λ_ _ _=>.int)) (j9 Ac (B5 (C:=da) (g:=cK) (λ_ _=>rfl) (λ_ _ _=>.int)) (j9 aG (B5 (C:=P4) (g:=Q8) (λ_ _=>rfl) (λ_ _ _=>.int)) (j9 C5 (B5 (C:=CMulB) (g:=v5) (λ_ _=>rfl) (λ_ _ _=>.int)) (j9 y6 F5 (l7 (h7 (qcD (Q5 Y) (M8 Y) (b7 (qv .B 0) (b7 (qv .B 1) b9))))) d9) (j9 y6 F5 (j9 y6 F5 (j9 C5 (B5 (C:=CMulB) (g:=v5) (λ_ _=>rfl) (λ_ _ _=>.int)) (qv .B 1) (qv .B 1)) (j9 C5 (B5 (C:=CMulB) (g:=v5) (λ_ _=>rfl) (λ_ _ _=>.int)) d9 (qv .B 1))) d9)) d9) d9) (qv .B 2))))
def t5:Def (hk w) mg "_law_numbers" (top 49) ["_law_script","_law_at","_law_places","_law_menu","_law_scale_here"] 281 (FD "_law_numbers" 49 v8 280):=dk Y (by kernel_rfl) λ_ _ _ _ _ _=>us5 λ_ _ _ _ _=>rfl
def Q4:FnOk P w (hk w) mg base CX0 3 281 (FD "_law_numbers" 49 v8 280) ["_law_script","_law_at","_law_places","_law_menu","_law_scale_here"] (spM (hk w) 5 .F w8):=
 okF (t5 Y) B7 (.inl rfl) rfl rfl λI=>(c7 (j6 (i:=5) B7.nd rfl Qq (K3 b9) Qo Qq) (c7 (C3 qD8 rfl (L7 Qo (bl Y).range_ (b7 (qv .B 2) b9)) (@e9 _ _ 6 _ B7.nd rfl Qq Qq) h9 (c7 (@fM _ _ _ _ _ _ _ 7 _ _ B7.nd rfl Qq (g5 (qv .B 3) (l7 (h7 (qcD (v4 Y) (j4 Y) (b7 (qv .B 0) (b7 (j9 y6 F5 (qv .B 1) (qv .B 6)) (b7 (x5 B3 A9 Qo (bl Y).len_ qE8 (b7 (qv .B 3) b9)) b9))))))) Qo Qq) (c7 (n4 (PW.pt (sr (i8 F9 D2 (qv .B 4) d9) (nT (i8 V4 xGt (qv .B 7) d9)))) (c9 (t9 (i:=7) B7.nd rfl Qq (j9 aG (B5 (C:=P4) (g:=Q8) (λ_ _=>rfl) (λ_ _ _=>.int)) (j9 C5 (B5 (C:=CMulB) (g:=v5) (λ_ _=>rfl) (λ_ _ _=>.int)) (j9 y6 F5 (l7 (h7 (qcD (Q5 Y) (M8 Y) (b7 (qv .B 0) (b7 (j9 y6 F5 (qv .B 1) (qv .B 6)) b9))))) (qv .B 6)) d9) (j9 y6 F5 (j9 kX (B5 (C:=Y5) (g:=fq) (λ_ _=>rfl) (λ_ _ _=>.int)) d9 d9) d9)) Qo Qq)) (c9 (t9 (i:=7) B7.nd rfl Qq (j9 C5 (B5 (C:=CMulB) (g:=v5) (λ_ _=>rfl) (λ_ _ _=>.int)) (qv .B 7) (qv .B 4)) Qo Qq))) (c9 (@Z4 _ _ _ _ _ _ _ 5 _ _ _ _ rfl Qq (qv .V 7) Qz Qz Qo Qo Qo Qo Qo))))) (c9 (g7 (O7 G8 (G7 (c:=true)) Qo (bl Y).tuple_ v9 (b7 (qv .C 5) b9))))))
def R7:Def (hk w) mg "_law_scale" (top 50) ["_law_script"] 288 (FD "_law_scale" 50 v8 287):=dk Y (by kernel_rfl) λ_ _ _ _ _ _=>us1 λ_=>rfl
def ll:FnOk P w (hk w) mg base CX0 3 288 (FD "_law_scale" 50 v8 287) ["_law_script"] (spM (hk w) 1 .F Y0):=
 okF (R7 Y) bX (.inl rfl) rfl rfl λI=>(c7 (j6 (i:=1) bX.nd rfl Qq (qcD (v4 Y) (j4 Y) (b7 (qv .B 0) (f9 (f9 b9)))) Qo Qq) (c7 (n4 (i8 F9 D2 (qv .B 1) d9) (c9 (g7 d9)) m7) (c7 (n4 (i8 V4 xGt (qv .B 1) d9) (c9 (g7 (j9 y6 F5 d9 (j9 aG (B5 (C:=P4) (g:=Q8) (λ_ _=>rfl) (λ_ _ _=>.int)) (j9 C5 (B5 (C:=CMulB) (g:=v5) (λ_ _=>rfl) (λ_ _ _=>.int)) (l7 (h7 (qcD (Q5 Y) (M8 Y) (b7 (qv .B 0) (f9 b9))))) d9) (j9 kX (B5 (C:=Y5) (g:=fq) (λ_ _=>rfl) (λ_ _ _=>.int)) d9 d9))))) m7) (c9 (g7 d9)))))
def gw:Def (hk w) mg "_law_moor" (top 51) ["_law_script"] 293 (FD "_law_moor" 51 v8 292):=dk Y (by kernel_rfl) λ_ _ _ _ _ _=>us1 λ_=>rfl
def nk:FnOk P w (hk w) mg base CX0 4 293 (FD "_law_moor" 51 v8 292) ["_law_script"] (spM (hk w) 1 .F aq):=
 okF (gw Y) t4 (.inl rfl) rfl rfl λI=>(@c7 _ _ _ _ _ _ _ _ (@t9 _ _ _ _ _ _ _ 1 _ _ t4.nd rfl Qq (@Z3 _ _ _ _ _ _ _ _ (@h7 _ _ _ _ _ (@DE _ _ _ _ _ _ _ _ _ _ _ _ _ _ _ _ _ _ _ _ _ _ _ _ _ _ _ _)) (@h7 _ _ _ _ _ (@L8 _ _ _ _ _ _ _ _ _ _ _ _ _ _ _ _ (v4 Y) (.inl rfl) Qq Qo (j4 Y).m (j4 Y).F.kp (j4 Y).b (@b7 _ _ _ _ _ _ _ _ (@qv _ _ _ _ .B 0 _ Qo Qq Qz Qz) (@f9 _ _ _ _ _ _ _ _ _ (@f9 _ _ _ _ _ _ _ _ _ (@b9 _ _ _ _))) Qo) Qz Qo Qo)) (by exact λ_ _=>rfl) Qo) Qo Qq) (@c7 _ _ _ _ _ _ _ _ (@j6 _ _ _ _ _ _ _ 2 _ _ t4.nd rfl Qq (@L8 _ _ _ _ _ _ _ _ _ _ _ _ _ _ _ _ (ll Y) (.inl rfl) Qq Qo (R7 Y).m (R7 Y).F.kp (R7 Y).b (@b7 _ _ _ _ _ _ _ _ (@qv _ _ _ _ .B 0 _ Qo Qq Qz Qz) (@b9 _ _ _ _) Qo) Qz Qo Qo) Qo Qq) (@c7 _ _ _ _ _ _ _ _ (@j6 _ _ _ _ _ _ _ 3 _ _ t4.nd rfl Qq (@K3 _ _ _ _ _ _ (@b9 _ _ _ _)) Qo Qq) (@c7 _ _ _ _ _ _ _ _ (@C3 _ _ _ _ _ _ _ _ _ _ _ _ _ qD8 rfl (@L7 _ _ _ _ _ _ _ _ _ Qo (bl Y).range_ (@b7 _ _ _ _ _ _ _ _ (@j5 _ _ _ _ _ (@g5 _ _ _ _ _ _ _ _ (@l7 _ _ _ _ _ (@h7 _ _ _ _ _ (@zM _ _ _ _ _ _ _ _ _ _ _ _ _ _ _ _ _ _ _ _ _ _ _ _ _ _ _ _ _ _ _ _ _ _ _ _ _))) (@l7 _ _ _ _ _ (@h7 _ _ _ _ _ (@L8 _ _ _ _ _ _ _ _ _ _ _ _ _ _ _ _ (v4 Y) (.inl rfl) Qq Qo (j4 Y).m (j4 Y).F.kp (j4 Y).b (@b7 _ _ _ _ _ _ _ _ (@qv _ _ _ _ .B 0 _ Qo Qq Qz Qz) (@f9 _ _ _ _ _ _ _ _ _ (@f9 _ _ _ _ _ _ _ _ _ (@b9 _ _ _ _))) Qo) Qz Qo Qo))) (by exact λ_ _=>rfl) Qo)) (@b9 _ _ _ _) Qo) Qo) (@e9 _ _ 4 _ t4.nd rfl Qq Qq) (@h9 _ _) (@c7 _ _ _ _ _ _ _ _ (@t9 _ _ _ _ _ _ _ 5 _ _ t4.nd rfl Qq (@j9 _ _ _ _ _ _ _ _ _ _ _ _ _ y6 F5 (@d9 _ _ _ _ _ _ _) (@j9 _ _ _ _ _ _ _ _ _ _ _ _ _ C5 (B5 (C:=CMulB) (g:=v5) (λ_ _=>rfl) (λ_ _ _=>.int)) (@qv _ _ _ _ .B 1 _ Qo Qq Qz Qz) (@j9 _ _ _ _ _ _ _ _ _ _ _ _ _ y6 F5 (@j9 _ _ _ _ _ _ _ _ _ _ _ _ _ C5 (B5 (C:=CMulB) (g:=v5) (λ_ _=>rfl) (λ_ _ _=>.int)) (@d9 _ _ _ _ _ _ _) (@qv _ _ _ _ .B 4 _ Qo Qq Qz Qz)) (@d9 _ _ _ _ _ _ _)))) Qo Qq) (@c7 _ _ _ _ _ _ _ _ (@j6 _ _ _ _ _ _ _ 6 _ _ t4.nd rfl Qq (@L8 _ _ _ _ _ _ _ _ _ _ _ _ _ _ _ _ (Q4 Y) (.inl rfl) Qq Qo (t5 Y).m (t5 Y).F.kp (t5 Y).b (@b7 _ _ _ _ _ _ _ _ (@qv _ _ _ _ .B 0 _ Qo Qq Qz Qz) (@b7 _ _ _ _ _ _ _ _ (@qv _ _ _ _ .B 5 _ Qo Qq Qz Qz) (@b7 _ _ _ _ _ _ _ _ (@qv _ _ _ _ .B 1 _ Qo Qq Qz Qz) (@b7 _ _ _ _ _ _ _ _ (@l7 _ _ _ _ _ (@h7 _ _ _ _ _ (@kJ _ _ _ _ _ _ _ _ _ _ _ _ _ _ _ _ _ _ _ _ _ _))) (@b7 _ _ _ _ _ _ _ _ (@qv _ _ _ _ .B 2 _ Qo Qq Qz Qz) (@b9 _ _ _ _) Qo) Qo) Qo) Qo) Qo) Qz Qo Qo) Qo Qq) (@c7 _ _ _ _ _ _ _ _ (@j6 _ _ _ _ _ _ _ 7 _ _ t4.nd rfl Qq (@L8 _ _ _ _ _ _ _ _ _ _ _ _ _ _ _ _ (Q4 Y) (.inl rfl) Qq Qo (t5 Y).m (t5 Y).F.kp (t5 Y).b (@b7 _ _ _ _ _ _ _ _ (@qv _ _ _ _ .B 0 _ Qo Qq Qz Qz) (@b7 _ _ _ _ _ _ _ _ (@j9 _ _ _ _ _ _ _ _ _ _ _ _ _ y6 F5 (@qv _ _ _ _ .B 5 _ Qo Qq Qz Qz) (@qv _ _ _ _ .B 1 _ Qo Qq Qz Qz)) (@b7 _ _ _ _ _ _ _ _ (@qv _ _ _ _ .B 1 _ Qo Qq Qz Qz) (@b7 _ _ _ _ _ _ _ _ (@l7 _ _ _ _ _ (@h7 _ _ _ _ _ (@kJ _ _ _ _ _ _ _ _ _ _ _ _ _ _ _ _ _ _ _ _ _ _))) (@b7 _ _ _ _ _ _ _ _ (@qv _ _ _ _ .B 2 _ Qo Qq Qz Qz) (@b9 _ _ _ _) Qo) Qo) Qo) Qo) Qo) Qz Qo Qo) Qo Qq) (@c7 _ _ _ _ _ _ _ _ (@n4 _ _ _ _ _ _ _ _ _ _ _ (@i8 _ _ _ _ _ _ _ _ _ _ _ _ F9 D2 (@l7 _ _ _ _ _ (@h7 _ _ _ _ _ (@L8 _ _ _ _ _ _ _ _ _ _ _ _ _ _ _ _ (v4 Y) (.inl rfl) Qq Qo (j4 Y).m (j4 Y).F.kp (j4 Y).b (@b7 _ _ _ _ _ _ _ _ (@qv _ _ _ _ .B 0 _ Qo Qq Qz Qz) (@f9 _ _ _ _ _ _ _ _ _ (@f9 _ _ _ _ _ _ _ _ _ (@b9 _ _ _ _))) Qo) Qz Qo Qo))) (@d9 _ _ _ _ _ _ _) Qq) (@c7 _ _ _ _ _ _ _ _ (@j6 _ _ _ _ _ _ _ 8 _ _ t4.nd rfl Qq (@L8 _ _ _ _ _ _ _ _ _ _ _ _ _ _ _ _ (v4 Y) (.inl rfl) Qq Qo (j4 Y).m (j4 Y).F.kp (j4 Y).b (@b7 _ _ _ _ _ _ _ _ (@qv _ _ _ _ .B 0 _ Qo Qq Qz Qz) (@b7 _ _ _ _ _ _ _ _ (@j9 _ _ _ _ _ _ _ _ _ _ _ _ _ y6 F5 (@qv _ _ _ _ .B 5 _ Qo Qq Qz Qz) (@qv _ _ _ _ .B 1 _ Qo Qq Qz Qz)) (@b7 _ _ _ _ _ _ _ _ (@qv _ _ _ _ .B 1 _ Qo Qq Qz Qz) (@b9 _ _ _ _) Qo) Qo) Qo) Qz Qo Qo) Qo Qq) (@c9 _ _ _ _ _ _ (@t9 _ _ _ _ _ _ _ 7 _ _ t4.nd rfl Qq (@v7 _ _ _ _ _ (@j9 _ _ _ _ _ _ _ _ _ _ _ _ _ ij im (@l7 _ _ _ _ _ (@h7 _ _ _ _ _ (@pF _ _ _ _ _ _ _ _ _ _ _ (@qv _ _ _ _ .B 6 _ Qo Qq Qz Qz) (@ib _ _ _ _ _ (@qv _ _ _ _ .B 8 _ Qo Qq Qz Qz)) (@ic _ _ _) Qo))) (@l7 _ _ _ _ _ (@h7 _ _ _ _ _ (@pF _ _ _ _ _ _ _ _ _ _ _ (@qv _ _ _ _ .B 6 _ Qo Qq Qz Qz) (@ic _ _ _) (@ib _ _ _ _ _ (@qv _ _ _ _ .B 8 _ Qo Qq Qz Qz)) Qo))))) Qo Qq))) (@m7 _ _ _ _)) (@c9 _ _ _ _ _ _ (@aZ _ _ _ _ _ _ _ (@aZ _ _ _ _ _ _ _ (@Z4 _ _ _ _ _ _ _ 3 _ _ _ _ rfl Qq (@v7 _ _ _ _ _ (@x8 _ _ _ _ _ _ _ (@b7 _ _ _ _ _ _ _ _ (@qv _ _ _ _ .V 6 _ Qo Qq Qz Qz) (@b7 _ _ _ _ _ _ _ _ (@qv _ _ _ _ .V 7 _ Qo Qq Qz Qz) (@b9 _ _ _ _) Qo) Qo))) Qz Qz Qo Qo Qo Qo Qo)))))))) (by intro _;rfl)) (@c7 _ _ _ _ _ _ _ _ (@t9 _ _ _ _ _ _ _ 9 _ _ t4.nd rfl Qq (@Z3 _ _ _ _ _ _ _ _ (@h7 _ _ _ _ _ (@K3 _ _ _ _ _ _ (@f9 _ _ _ _ _ _ _ _ _ (@f9 _ _ _ _ _ _ _ _ _ (@f9 _ _ _ _ _ _ _ _ _ (@b7 _ _ _ _ _ _ _ _ (@j9 _ _ _ _ _ _ _ _ _ _ _ _ _ kX (B5 (C:=Y5) (g:=fq) (λ_ _=>rfl) (λ_ _ _=>.int)) (@d9 _ _ _ _ _ _ _) (@d9 _ _ _ _ _ _ _)) (@b9 _ _ _ _) Qo)))))) (@h7 _ _ _ _ _ (@L8 _ _ _ _ _ _ _ _ _ _ _ _ _ _ _ _ (v4 Y) (.inl rfl) Qq Qo (j4 Y).m (j4 Y).F.kp (j4 Y).b (@b7 _ _ _ _ _ _ _ _ (@qv _ _ _ _ .B 0 _ Qo Qq Qz Qz) (@f9 _ _ _ _ _ _ _ _ _ (@f9 _ _ _ _ _ _ _ _ _ (@b9 _ _ _ _))) Qo) Qz Qo Qo)) (by exact λ_ _=>rfl) Qo) Qo Qq) (@c7 _ _ _ _ _ _ _ _ (@j6 _ _ _ _ _ _ _ 10 _ _ t4.nd rfl Qq (@L8 _ _ _ _ _ _ _ _ _ _ _ _ _ _ _ _ (Q4 Y) (.inl rfl) Qq Qo (t5 Y).m (t5 Y).F.kp (t5 Y).b (@b7 _ _ _ _ _ _ _ _ (@qv _ _ _ _ .B 0 _ Qo Qq Qz Qz) (@f9 _ _ _ _ _ _ _ _ _ (@b7 _ _ _ _ _ _ _ _ (@qv _ _ _ _ .B 1 _ Qo Qq Qz Qz) (@b7 _ _ _ _ _ _ _ _ (@l7 _ _ _ _ _ (@h7 _ _ _ _ _ (@kJ _ _ _ _ _ _ _ _ _ _ _ _ _ _ _ _ _ _ _ _ _ _))) (@b7 _ _ _ _ _ _ _ _ (@qv _ _ _ _ .B 2 _ Qo Qq Qz Qz) (@b9 _ _ _ _) Qo) Qo) Qo)) Qo) Qz Qo Qo) Qo Qq) (@c9 _ _ _ _ _ _ (@g7 _ _ _ _ _ _ _ (@x8 _ _ _ _ _ _ _ (@b7 _ _ _ _ _ _ _ _ (@v7 _ _ _ _ _ (@O7 _ _ _ _ _ _ _ _ _ _ _ _ _ _ G8 (G7 (c:=true)) Qo (bl Y).tuple_ v9 (@b7 _ _ _ _ _ _ _ _ (@h7 _ _ _ _ _ (m8 (show g6 (c6 (top 51)) _ ["_law_script","_law_places","_law_scale_here","_law_moves","_law_k","_law_at","_law_take","_law_put","_law_far","_law_times","_law_begin"] ["_law_script","_law_places","_law_scale_here","_law_moves","_law_k","_law_at","_law_take","_law_put","_law_far","_law_times","_law_begin","_law_held"] from Qq) rfl (@C0 _ _ _ _ _ _ (@qv _ _ _ _ .B 10 _ Qo Qq Qz Qz) Qo) (λ_ _ _ _=>(@e9 _ _ 11 _ (by decide +kernel:(["_law_script","_law_places","_law_scale_here","_law_moves","_law_k","_law_at","_law_take","_law_put","_law_far","_law_times","_law_begin","_law_held"]:List Str).Nodup) rfl (Or.inl rfl) (.inr rfl))) (@h9 _ _) (o9 (show 11<=11 by decide)) (λ_ _ _ _=>(@n8 _ _ _)) (λ_ _ _ _=>(@j9 _ _ _ _ _ _ _ _ _ _ _ _ _ C5 (B5 (C:=CMulB) (g:=v5) (λ_ _=>rfl) (λ_ _ _=>.int)) (@qv _ _ _ _ .B 11 _ Qo Qq Qz Qz) (@qv _ _ _ _ .B 9 _ Qo Qq Qz Qz))))) (@b9 _ _ _ _) Qo) Qz Qz Qo Qo)) (@b7 _ _ _ _ _ _ _ _ (@v7 _ _ _ _ _ (@O7 _ _ _ _ _ _ _ _ _ _ _ _ _ _ G8 (G7 (c:=true)) Qo (bl Y).tuple_ v9 (@b7 _ _ _ _ _ _ _ _ (@qv _ _ _ _ .C 3 _ Qo Qq Qz Qz) (@b9 _ _ _ _) Qo) Qz Qz Qo Qo)) (@b9 _ _ _ _) Qo) Qo))))))))))
def cT:Def (hk w) mg "_law_covers" (top 52) ["_law_stand","_law_other"] 298 (FD "_law_covers" 52 v8 297):=dk Y (by kernel_rfl) λ_ _ _ _ _ _=>us2 λ_ _=>rfl
def jy:FnOk P w (hk w) mg base CX0 1 298 (FD "_law_covers" 52 v8 297) ["_law_stand","_law_other"] (spM (hk w) 2 .F U8):=
 okF (cT Y) jw (.inl rfl) rfl rfl λI=>(c9 (g7 (x5 (uG rfl) (dL (g:=qj)) Qo (bl Y).all_ GY (b7 (l7 (h7 (m8 (show g6 (c6 (top 52)) _ ["_law_stand","_law_other"] ["_law_stand","_law_other","_law_k"] from Qq) rfl (L7 Qo (bl Y).range_ (b7 (x5 B3 A9 Qo (bl Y).len_ qE8 (b7 (qv .B 0) b9)) b9)) (λ_ _ _ _=>(@e9 _ _ 2 _ (by decide +kernel:(["_law_stand","_law_other","_law_k"]:List Str).Nodup) rfl (Or.inl rfl) (.inr rfl))) h9 (o9 (show 2<=2 by decide)) (λ_ _ _ _=>n8) (λ_ _ _ _=>(di HZ (fW (g:=gGe) (λ_ _=>rfl) (λ_ _ _=>.bl)) (j5 (g5 (qv .B 0) (qv .B 2))) (j5 (g5 (qv .B 1) (qv .B 2)))))))) b9))))
def gu:Def (hk w) mg "_law_tops" (top 53) ["_law_stands"] 303 (FD "_law_tops" 53 v8 302):=dk Y (by kernel_rfl) λ_ _ _ _ _ _=>us1 λ_=>rfl
def nj:FnOk P w (hk w) mg base CX0 2 303 (FD "_law_tops" 53 v8 302) ["_law_stands"] (spM (hk w) 1 .F M3):=
 okF (gu Y) ah (.inl rfl) rfl rfl λI=>(c7 (j6 (i:=1) ah.nd rfl Qq (K3 b9) Qo Qq) (c7 (C3 qD8 rfl (S8 (qv .U 0)) (@e9 _ _ 2 _ ah.nd rfl Qq Qq) h9 (c9 (n4 (L6 (F8 (x5 (cV rfl) (dL (g:=M9)) Qo (bl Y).any_ mL (b7 (l7 (h7 (m8 (show g6 (c6 (top 53)) _ ["_law_stands","_law_found","_law_stand"] ["_law_stands","_law_found","_law_stand","_law_other"] from Qq) rfl (C0 (qv .B 0)) (λ_ _ _ _=>(@e9 _ _ 3 _ (by decide +kernel:(["_law_stands","_law_found","_law_stand","_law_other"]:List Str).Nodup) rfl (Or.inl rfl) (.inr rfl))) h9 (o9 (show 3<=3 by decide)) (λ_ _ _ _=>n8) (λ_ _ _ _=>(pI (di (Ej (ak I)) (cq (neg:=true)) (qv .B 3) (qv .B 2)) (pH (v7 (qcD (jy Y) (cT Y) (b7 (qv .B 3) (b7 (qv .B 2) b9)))))))))) b9)))) (c9 (@Z4 _ _ _ _ _ _ _ 1 _ _ _ _ rfl Qq (qv .V 2) Qz Qz Qo Qo Qo Qo Qo)) m7))) (c9 (g7 (x5 qB (Hg (c:=true)) Qo (bl Y).sorted_ jt (b7 (qv .C 1) b9))))))
def U1:Def (hk w) mg "_law_grown_places" (top 54) ["_law_moves","_law_row","_law_places"] 308 (FD "_law_grown_places" 54 v8 307):=dk Y (by kernel_rfl) λ_ _ _ _ _ _=>us3 λ_ _ _=>rfl
def bM:FnOk P w (hk w) mg base CX0 1 308 (FD "_law_grown_places" 54 v8 307) ["_law_moves","_law_row","_law_places"] (spM (hk w) 3 .F y8):=
 okF (U1 Y) F6 (.inl rfl) rfl rfl λI=>(c7 (j6 (i:=3) F6.nd rfl Qq (K3 b9) Qo Qq) (c7 (C3 qD8 rfl (L7 Qo (bl Y).range_ (b7 (qv .B 2) b9)) (@e9 _ _ 4 _ F6.nd rfl Qq Qq) h9 (c9 (n4 (i8 V4 xGt (x5 (uE rfl) (Hi (g:=xk)) Qo (bl Y).sum_ GX (b7 (l7 (h7 (m8 (show g6 (c6 (top 54)) _ ["_law_moves","_law_row","_law_places","_law_found","_law_k"] ["_law_moves","_law_row","_law_places","_law_found","_law_k","_law_number"] from Qq) rfl (C0 (qv .B 1)) (λ_ _ _ _=>(@e9 _ _ 5 _ (by decide +kernel:(["_law_moves","_law_row","_law_places","_law_found","_law_k","_law_number"]:List Str).Nodup) rfl (Or.inl rfl) (.inr rfl))) h9 (o9 (show 5<=5 by decide)) (λ_ _ _ _=>n8) (λ_ _ _ _=>(j9 kT uY (j5 (g5 (j5 (g5 (j5 (g5 (qv .B 0) (qv .B 5))) d9)) (qv .B 4))) (j5 (g5 (j5 (g5 (j5 (g5 (qv .B 0) (qv .B 5))) d9)) (qv .B 4)))))))) b9)) d9) (c9 (@Z4 _ _ _ _ _ _ _ 3 _ _ _ _ rfl Qq (qv .V 4) Qz Qz Qo Qo Qo Qo Qo)) m7))) (c9 (@S7 _ _ _ _ _ 3 _ _ (.inl rfl) Qo Qq Qz Qz))))
def eC:Def (hk w) mg "_law_agree" (top 55) ["_law_caps","_law_moves","_law_found"] 313 (FD "_law_agree" 55 v8 312):=dk Y (by kernel_rfl) λ_ _ _ _ _ _=>us3 λ_ _ _=>rfl
def lm:FnOk P w (hk w) mg base CX0 3 313 (FD "_law_agree" 55 v8 312) ["_law_caps","_law_moves","_law_found"] (spM (hk w) 3 .F A5):=
 okF (eC Y) O5 (.inl rfl) rfl rfl λI=>(c7 (j6 (i:=3) O5.nd rfl Qq (x5 (cV rfl) (dL (g:=M9)) Qo (bl Y).any_ mL (b7 (l7 (h7 (m8 (show g6 (c6 (top 55)) _ ["_law_caps","_law_moves","_law_found","_law_growing","_law_places","_law_k"] ["_law_caps","_law_moves","_law_found","_law_growing","_law_places","_law_k","_law_cap"] from Qq) rfl (C0 (qv .B 0)) (λ_ _ _ _=>(@e9 _ _ 6 _ (by decide +kernel:(["_law_caps","_law_moves","_law_found","_law_growing","_law_places","_law_k","_law_cap"]:List Str).Nodup) rfl (Or.inl rfl) (.inr rfl))) h9 (o9 (show 6<=6 by decide)) (λ_ _ _ _=>n8) (λ_ _ _ _=>(di (HY (ak I)) (Id (neg:=false)) x9 (qv .B 6)))))) b9)) Qo Qq) (c7 (n4 (i8 F9 D2 (j5 (g5 (qv .B 2) d9)) M6) (c9 (g7 (pI (yk (qv .B 3)) (pH (di (fR (ak I)) (cq (neg:=false)) (qv .B 0) (l7 (h7 (qcD (nj Y) (gu Y) (b7 (j5 (g5 (qv .B 2) d9)) b9))))))))) m7) (c7 (n4 (i8 F9 D2 (j5 (g5 (qv .B 2) d9)) M6) (c9 (g7 (yk (qv .B 3)))) m7) (c7 (n4 (i8 F9 D2 (j5 (g5 (qv .B 2) d9)) M6) (c7 (j6 (i:=4) O5.nd rfl Qq (qcD (bM Y) (U1 Y) (b7 (qv .B 1) (b7 (j5 (g5 (qv .B 2) d9)) (b7 (x5 B3 A9 Qo (bl Y).len_ qE8 (b7 (j5 (g5 (qv .B 0) d9)) b9)) b9)))) Qo Qq) (c7 (aZ (C3 qD8 rfl (S8 (qv .U 4)) (@e9 _ _ 5 _ O5.nd rfl Qq Qq) h9 (c9 (n4 (L6 (F8 (x5 (cV rfl) (dL (g:=M9)) Qo (bl Y).any_ mL (b7 (l7 (h7 (m8 (show g6 (c6 (top 55)) _ ["_law_caps","_law_moves","_law_found","_law_growing","_law_places","_law_k"] ["_law_caps","_law_moves","_law_found","_law_growing","_law_places","_law_k","_law_cap"] from Qq) rfl (C0 (qv .B 0)) (λ_ _ _ _=>(@e9 _ _ 6 _ (by decide +kernel:(["_law_caps","_law_moves","_law_found","_law_growing","_law_places","_law_k","_law_cap"]:List Str).Nodup) rfl (Or.inl rfl) (.inr rfl))) h9 (o9 (show 6<=6 by decide)) (λ_ _ _ _=>n8) (λ_ _ _ _=>(di W9 X0 (j5 (g5 (qv .B 6) (qv .B 5))) x9))))) b9)))) (c9 (g7 O8)) m7)))) (c9 (g7 (pI (qv .B 3) (pH (di V4 xGt (x5 B3 A9 Qo (bl Y).len_ qE8 (b7 (qv .B 4) b9)) d9))))))) m7) (c9 (g7 O8))))))
def Gk:Def (hk w) mg "law" (top 56) ["_law_script"] 320 (FD "law" 56 v8 319):=dk Y (by kernel_rfl) λ_ _ _ _ _ _=>us1 λ_=>rfl
def Ib:FnOk P w (hk w) mg base CX0 7 320 (FD "law" 56 v8 319) ["_law_script"] (spM (hk w) 1 .F jI):=
 okF (Gk Y) V2 (.inl rfl) rfl rfl λI=>(c7 (@HJ _ _ _ _ _ _ _ _ _ _ _ (kL (v7 (qcD (nk Y) (gw Y) (b7 (qv .B 0) b9)))) (@z7 _ (hk w) _ _ _ _ 2 rfl (i3 (@e9 _ _ 1 _ V2.nd rfl Qq Qq) (i3 (@e9 _ _ 2 _ V2.nd rfl Qq Qq) z6)) Qo Qo Qo) (C1 (.inr rfl) (i4 (.inr rfl) h9 (i4 (.inr rfl) h9 z9))) Qo Qo Qo) (c7 (t9 (i:=3) V2.nd rfl Qq d9 Qo Qq) (c7 (n4 (i8 F9 D2 (l7 (h7 (qcD (v4 Y) (j4 Y) (b7 (qv .B 0) (f9 (f9 b9)))))) d9) (c9 (t9 (i:=3) V2.nd rfl Qq (j9 y6 F5 d9 (l7 (h7 (qcD (v4 Y) (j4 Y) (b7 (qv .B 0) (f9 (f9 b9))))))) Qo Qq)) m7) (c7 (j6 (i:=4) V2.nd rfl Qq (x8 b9) Qo Qq) (c7 (n4 (i8 F9 D2 (l7 (h7 (qcD (v4 Y) (j4 Y) (b7 (qv .B 0) (f9 (f9 b9)))))) d9) (c9 (t9 (i:=4) V2.nd rfl Qq (qcD (ja Y) (fx Y) (b7 (j5 (kI (b7 (qv .U 1) (b7 (qv .U 2) b9)))) (b7 (qv .B 3) b9))) Qo Qq)) m7) (c7 (j6 (i:=5) V2.nd rfl Qq (qcD (Ag Y) (uo Y) (b7 (j5 (kI (b7 (qv .U 1) (b7 (qv .U 2) b9)))) (f9 b9))) Qo Qq) (c7 (n4 (i8 F9 D2 (l7 (h7 (qcD (v4 Y) (j4 Y) (b7 (qv .B 0) (f9 (f9 b9)))))) d9) (c9 (t9 (i:=4) V2.nd rfl Qq (qcD (ja Y) (fx Y) (b7 (j5 (kI (b7 (qv .U 1) (b7 (qv .U 2) b9)))) (b7 (qv .B 3) b9))) Qo Qq)) m7) (c7 (n4 (i8 W9 X0 (qv .B 5) x9) (c9 (g7 O8)) m7) (c7 (n4 (PW.pt (jE (L6 (F8 (x5 mG yJ Qo (bl Y).isinstance_ PyProof.Rows.boot_isinstance (b7 (qv .B 5) (b7 (@Dy _ _ _ _ _ _ _ Qo (bl Y).list_ oS Qz Qz) b9))))) (jE (i8 F9 D2 (x5 B3 A9 Qo (bl Y).len_ qE8 (b7 (qv .B 5) b9)) d9) (jE (L6 (F8 (x5 mG yJ Qo (bl Y).isinstance_ PyProof.Rows.boot_isinstance (b7 (qv .B 4) (b7 (@Dy _ _ _ _ _ _ _ Qo (bl Y).tuple_ v9 Qz Qz) b9))))) (so (i8 F9 D2 (x5 B3 A9 Qo (bl Y).len_ qE8 (b7 (qv .B 4) b9)) d9)))))) (c9 (g7 O8)) m7) (c9 (g7 (qcD (lm Y) (eC Y) (b7 (qv .B 5) (b7 (qv .B 2) (b7 (qv .B 4) b9)))))))))))))))
end
def spLaw (K:Frag):Sp:=λvs H Q _=>∃(a:Addr)(ns:List Int),vs = [.ref a]/\SqL K H a (ns.map V.int)/\ns.length<=63/\(∀x∈ns,Builtin.Int.intBits x<=1048576)/\∀H',Q (.bl true) H'
def all_ {l:PySem.W.OpenLaw}(Y:En w mg) (I:∀ns:List Int,ns.length<=63->(∀x∈ns,Builtin.Int.intBits x<=1048576)->jI [.scr (ns.map W.int)]=.ok (.bl true)) (e:mg "law" = some (.ref fa)):∃fd:FuncData,(∀(s:Shared) (v:Value),BindsTo s fd ⟨[v],[]⟩ [("_law_script",v)])/\∀base:Heap,(hk w).In base->base.Ns mainGlobals mg->FnOk l.prog w (hk w) mg base CX0 7 fa fd ["_law_script"] (spLaw (hk w)):=by
 cases e.symm.trans (Gk Y).m;exact ⟨FD "law" 56 v8 319,λs v=>.of_eq rfl,λbase _ _=>AL (Ib Y) I⟩
end K78
open PySem PySem.W PyProof.Rows
namespace K78
end K78
set_option maxHeartbeats 0 in
theorem PySem.Challenge.cw_tokenmoor_k78_whole_bounds_and_the_crown_holds : PySem.Challenge.rw_tokenmoor_k78_whole_bounds_and_the_crown.Holds := by
 w_on;o_law
 refine holds_open (q:=K78.view) (loose:=[]) (Xt:=λs=>xlAt K78.view [] s&&recOk [] s) (XP:=XL K78.view [])
  (Yf:=K78.hook.obs) (Ya:=K78.hook.val) (YP:=K78.hook.says) (N:=3808) K78.hl0 K78.hook.of K78.hook.keeps
  (λs e=>xl_of s (qV0.mp e).1) XL.keeps (by rfl) (by rfl) (by rfl)
  (λs e=>recFacts_of (qV0.mp e).2) (by rfl) (by first|assumption|decide +kernel)
  (by decide +kernel) ⟨rfl,rfl,rfl,rfl,rfl,by decide +kernel⟩ ?hw ?hc
 (case hw=>w_witness2)
 refine L2.walk_ofKB (l:=PySem.Challenge.rw_tokenmoor_k78_whole_bounds_and_the_crown) (n:=63) (k:=7) (x := "_law_script") (CX:=L2.CX0) (sp:=K78.spLaw) rfl (by decide) rfl ⟨rfl,by decide,by decide⟩ (λw h Y=>PySem.W.km_in_of Y) (λw h Y p hp=>by
  obtain rfl:p=((99,55,26, "leaving.<locals>.<lambda>"):PySem.Addr×Nat×Nat×PySem.Str):=by simpa [L2.lamT]using hp
  exact ⟨PySem.W.km_tabs_of Y 99 (by simp),L2.codeTab (PySem.W.codeHd_of_K (c:=101) (PySem.W.km_in_of Y) (by kernel_rfl)),by kernel_rfl,by unfold L2.lamT;rfl⟩)
  (λw mg fa h X G e=>K78.all_ ⟨h,X,G⟩ K78.law_pure e)
  (λK H a ns hl hb hO hS=>⟨a,ns,rfl,hS,hl,hb,λ_=>rfl⟩) λ_ _ _ _ z=>z
