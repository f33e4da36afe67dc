import PyProof.Rows.All
import Wide.All
import OpenK.AllK
import Wide.FinOn
import Lean
import PyProof.EqAt
import PyProof.EqKinds
import PyProof.TupleCall
import PyProof.ZipIter
import PyProof.TupleIter
import PyProof.WalksMore
import PyProof.EnumMake
import PyProof.Draws
import PyProof.P3In
import KE.KSortTup
import PyProof.Rows.SortWalk
import KE.IntBitsLaws
import KE.KRevIter
import PyProof.TupleOfGen
import PySem.Challenge.RW_tokenmoor_k94_whole_cover_and_crown_agre
open PySem.W (Frag)
set_option Elab.async false
set_option linter.all false
def qA0:=@List.getD_eq_getElem?_getD
def qA1:=@List.length_map
def qA2:=@PySem.wpAny_bind
def qA3:=@List.getElem?_eq_getElem
def qA4:=@if_pos
def qA5:=@Bool.false_ne_true
def qA6:=@if_neg
def qA7:=@List.mem_cons_of_mem
def qA8:=@List.getElem?_map
def qA9:=@PySem.Heap.get?_push_of_some
def qB0:=@List.getElem?_eq_some_iff
def qB1:=@List.mem_cons_self
def qB2:=@List.length_reverse
def qB3:=@List.mem_cons
def qB4:=@PySem.Heap.lt_size
def qB5:=@List.size_toArray
def qB6:=@List.mem_map
def qB7:=@Nat.lt_of_lt_of_le
def qB8:=@Nat.le_trans
def qB9:=@Nat.le_refl
def qC0:=@List.getElem?_set_ne
def qC1:=@List.length_cons
def qC2:=@PySem.Heap.get?_push_size
def qC3:=@List.length_append
def qC4:=@List.map_cons
def qC5:=@PySem.PassesOwn.never
def qC6:=@List.map_append
def qC7:=@List.map_map
def qC8:=@List.mem_of_getElem?
def qC9:=@List.mem_append_right
def qD0:=@List.mem_singleton
def qD1:=@Nat.zero_le
def qD2:=@Nat.ne_of_lt
def qD3:=@List.any_eq_true
def qD4:=@PySem.boot_len
def qD5:=@Bool.false_eq_true
def qD6:=@List.not_mem_nil
def qD7:=@List.length_set
def qD8:=@List.getElem?_set
def qD9:=@List.length_singleton
def qE0:=@List.getElem?_append_left
def qE1:=@List.getElem?_range
def qE2:=@Array.getD_eq_getD_getElem?
def qE3:=@Option.map_eq_some_iff
def qE4:=@List.mem_append
def qE5:=@List.all_eq_true
def qE6:=@List.mem_iff_getElem
def qE7:=@List.mem_range
def qE8:=@List.length_range
def qE9:=@List.getElem?_eq_none
def qF0:=@List.getElem_mem
def qF1:=@Nat.lt_irrefl
def qF2:=@List.getElem?_set_self
def qF3:=@List.append_nil
def qF4:=@List.replicate_succ
def qF5:=@PyProof.Rows.callWith_type1
def qF6:=@List.getElem?_replicate
def qF7:=@Nat.not_lt_zero
def qF8:=@Int.toNat_natCast
def qF9:=@Nat.succ_add_eq_add_succ
def qG0:=@Nat.lt_of_le_of_lt
def qG1:=@List.mem_append_left
def qG2:=@List.take_length
def qG3:=@List.getElem?_append_right
def qG4:=@Nat.le_of_succ_le_succ
def qG5:=@Int.le_refl
def qG6:=@Option.some.injEq
def qG7:=@Bool.and_eq_true
def qG8:=@List.map_reverse
def qG9:=@List.reverse_cons
def qH0:=@Nat.le_of_succ_le
def qH1:=@List.any_eq_false
def qH2:=@List.mem_filter
def qH3:=@List.filterMap_cons
def qH4:=@PySem.mem_of_lookup
def qH5:=@Nat.succ_le_succ
def qH6:=@List.ext_getElem
def qH7:=@List.getElem?_zipWith
def qH8:=@Int.mul_nonneg
def qH9:=@Nat.le_of_lt
def qI0:=@List.map_nil
def qI1:=@PySem.AutoSeq1.wpAny_loadPart'
def qI2:=@List.flatten_cons
def qI3:=@List.append_assoc
def qI4:=@List.pairwise_map
def qI5:=@List.ext_getElem?
def qI6:=@Nat.le_of_lt_succ
def qI7:=@List.pairwise_singleton
def qI8:=@List.zip_cons_cons
def qI9:=@PySem.Heap.get?_update_self
def qJ0:=@PySem.F.slot_tuple_iterator_next
def qJ1:=@Array.perm_iff_toList_perm
def qJ2:=@Nat.ne_of_gt
def qJ3:=@List.lookup_cons
def qJ4:=@Nat.lt_succ_self
def qJ5:=@Int.le_trans
def qJ6:=@List.map_congr_left
def qJ7:=@PySem.F.plainAttrs_list
def qJ8:=@Bool.eq_iff_iff
def qJ9:=@List.forIn_cons
def qK0:=@PySem.Heap.get?_update_other
def qK1:=@Nat.lt_of_succ_lt
def qK2:=@List.reverse_perm
def qK3:=@PySem.Heap.size_push
def qK4:=@List.countP_mono_left
def qK5:=@Bool.or_true
def qK6:=@Int.add_zero
def qK7:=@Nat.le_add_right
def qK8:=@List.cons_append
def qK9:=@List.mem_reverse
def qL0:=@Bool.and_self
def qL1:=@PySem.Heap.SameBut.update
def qL2:=@Nat.add_sub_cancel'
def qL3:=@PySem.Heap.get?_update_ne
def qL4:=@List.takeWhile_cons
def qL5:=@List.reverse_append
def qL6:=@List.length_nil
def qL7:=@List.nil_append
def qL8:=@Nat.le_antisymm
def qL9:=@Nat.lt_or_eq_of_le
def qM0:=@Int.emod_lt_of_pos
def qM1:=@List.take_succ
def qM2:=@List.take_add_one
def qM3:=@List.length_take
def qM4:=@List.length_drop
def qM5:=@Nat.le_of_not_lt
def qM6:=@Nat.min_le_right
def qM7:=@Nat.not_lt_of_le
def qM8:=@List.countP_cons
set_option maxRecDepth 100000
theorem Z1 {p q:Prop}(a:p)(b:q):p/\q:=⟨a,b⟩
noncomputable section
namespace L2
open PySem PySem.Spec PyProof.Rows
def Q6 (s:Stmt):Arguments:=match s with
 | .FunctionDef _ a _ _ _ _ _ _ _ _=>a
 |_=>{ posonlyargs:=[],args:=[],vararg:=none,kwonlyargs:=[],kw_defaults:=[],kwarg:=none,defaults:=[] }
def E1 (s:Stmt):List Stmt:=match s with
 | .FunctionDef _ _ b _ _ _ _ _ _ _=>b
 |_=>[]
def b9 (s:Stmt):Scope:=match s with
 | .FunctionDef _ _ _ _ _ _ sc _ _ _=>sc
 |_=>{ kind:=.function,names:=[],isGenerator:=false,isCoroutine:=false }
end L2
section
end
namespace K94
open PySem L2 PySem.W PyProof.Rows
def top (i:Nat):Stmt:=PySem.Challenge.pw_tokenmoor_k94_whole_cover_and_crown_agre.main.body.getD i (.Pass ⟨0,0,0,0⟩)
abbrev hxS (s:String)(t:Nat):Value:=.str (Str.ofString s) t
abbrev hxI (i:Int):Value:=.int i 0
abbrev hxO (c:String)(d:Data):Obj:=⟨.type c,none,d,#[]⟩
abbrev hxE (P:Params)(s:String)(t:Nat)(v:Value):DictEntry:=⟨PyData.keyHash P (Str.ofString s),.str (Str.ofString s) t,v⟩
abbrev hxF (n q:String)(st:Stmt)(dV kV doc pm:Value)(an:Option Addr)(cd ct:Value):Data:=.func (PySem.W.fnOf (Str.ofString n) (Str.ofString q) (Q6 st) (E1 st) (b9 st) dV kV doc pm an cd ct)
abbrev hxG (n:String)(i:Nat)(pm:Value)(c:Nat):Obj:=hxO "function" (hxF n n (top i) .none .none .none pm none (.ref c) .none)
abbrev hxD (n:String)(t:Nat) (l a:Int)(r8:Nat)(r11:Nat)(v13 v14:Value)(r15:Nat) (x16:Int)(t18:Nat):Data:=.fields #[.str (Str.ofString n) t,.str (Str.ofString n) (t+1),.str (Str.ofString "/claim/cut.py") (t+2),hxI l,hxI a,hxI 0,hxI 0,hxI 3,.ref r8,.bool true,hxI 181,.ref r11,.none,v13,v14,.ref r15,hxI x16,hxI l,.str (Str.ofString "/claim/cut.py") t18]
abbrev o9:Value:=hxS "law_tokenmoor_k94_whole_cover_and_crown_agre" 566
abbrev U2:Value:=hxS "tokenmoor.backs" 316
abbrev D2:Value:=hxS "tokenmoor.bases" 264
abbrev D1:Value:=hxS "tokenmoor.climbs" 509
abbrev t6:Value:=hxS "tokenmoor.crowns" 359
abbrev U1:Value:=hxS "tokenmoor.moors" 232
abbrev G8:Value:=hxS "tokenmoor.walks" 448
@[irreducible] def rM:Params->Frag:=λP=>
 (nat_lit 2,⟨.none,none,(.dict #[] 0),#[]⟩) ::
 (nat_lit 3,hxO "dict" (.dict #[hxE P "__name__" 165 (hxS "law_tokenmoor_k94_whole_cover_and_crown_agre" 566),hxE P "__doc__" 166 .none,hxE P "__package__" 167 .none,hxE P "__loader__" 168 (.builtin "__main__.__loader__#opaque"),hxE P "__spec__" 169 .none,hxE P "__annotations__" 170 (.ref 6),hxE P "__builtins__" 171 (.ref 4),hxE P "__file__" 173 (hxS "/claim/cut.py" 172),hxE P "__cached__" 174 .none,hxE P "MoorError" 206 (.ref 24),hxE P "Stuck" 231 (.ref 44),hxE P "covers" 243 (.ref 53),hxE P "able" 251 (.ref 60),hxE P "after" 257 (.ref 65),hxE P "change" 263 (.ref 70),hxE P "least" 274 (.ref 77),hxE P "lifted" 283 (.ref 84),hxE P "source" 289 (.ref 89),hxE P "sources" 295 (.ref 94),hxE P "step_back" 303 (.ref 101),hxE P "is_shut" 309 (.ref 106),hxE P "least_over" 315 (.ref 111),hxE P "cover" 328 (.ref 118),hxE P "ending" 340 (.ref 125),hxE P "row_inward" 352 (.ref 132),hxE P "moves_into" 358 (.ref 137),hxE P "under" 370 (.ref 144),hxE P "under_any" 379 (.ref 151),hxE P "cap_able" 387 (.ref 158),hxE P "cap_after" 393 (.ref 163),hxE P "raised" 399 (.ref 168),hxE P "tops" 408 (.ref 175),hxE P "sort_key" 414 (.ref 180),hxE P "growth" 425 (.ref 187),hxE P "grow" 431 (.ref 192),hxE P "way_back" 441 (.ref 199),hxE P "crown" 447 (.ref 204),hxE P "hurdle" 459 (.ref 211),hxE P "sum_of" 469 (.ref 218),hxE P "stride" 483 (.ref 225),hxE P "goes" 495 (.ref 232),hxE P "shifted" 501 (.ref 237),hxE P "noughts" 508 (.ref 244),hxE P "way" 518 (.ref 251),hxE P "row_between" 524 (.ref 256),hxE P "lifts_of" 530 (.ref 261),hxE P "unraised" 540 (.ref 268),hxE P "climb" 546 (.ref 273),hxE P "times_for" 552 (.ref 278),hxE P "wanted_ahead" 565 (.ref 285),hxE P "_law_cell" 576 (.ref 292),hxE P "_law_move" 582 (.ref 297),hxE P "_law_covers" 591 (.ref 304),hxE P "_law_behind" 597 (.ref 309),hxE P "_law_drawn" 603 (.ref 314),hxE P "_law_target" 609 (.ref 319),hxE P "_law_under" 615 (.ref 324),hxE P "_law_row" 627 (.ref 331),hxE P "_law_lifted" 636 (.ref 338),hxE P "_law_fence" 642 (.ref 343),hxE P "_law_climbs" 653 (.ref 350),hxE P "law" 659 (.ref 355)] 62)) ::
 (nat_lit 15,hxO "tuple" (.seq #[(.type "ValueError")] 0)) ::
 (nat_lit 22,hxO "tuple" (.seq #[] 0)) ::
 (nat_lit 23,hxO "dict" (.dict #[hxE P "__module__" 196 (hxS "tokenmoor.errors" 187),hxE P "__firstlineno__" 200 (.int 2 199),hxE P "__static_attributes__" 201 (.ref 22),hxE P "__weakref__" 203 (.ref 25),hxE P "__doc__" 204 .none] 3)) ::
 (nat_lit 25,hxO "getset_descriptor" (.fields #[(hxS "__weakref__" 202),(.ref 24),(.builtin "ExceptionGroup.__weakref__"),.none])) ::
 (nat_lit 28,hxO "tuple" (.seq #[(.ref 24)] 0)) ::
 (nat_lit 40,hxO "code" (.fields #[(hxS "__init__" 219),(hxS "Stuck.__init__" 220),(hxS "/claim/cut.py" 221),(hxI 6),(hxI 2),(hxI 0),(hxI 0),(hxI 3),(.ref 35),(.bool true),(hxI 181),(.ref 36),.none,(.ref 37),(.ref 38),(.ref 39),(hxI 224),(hxI 6),(hxS "/claim/cut.py" 225)])) ::
 (nat_lit 42,hxO "tuple" (.seq #[(hxS "at" 227)] 0)) ::
 (nat_lit 43,hxO "dict" (.dict #[hxE P "__module__" 214 (hxS "tokenmoor.errors" 187),hxE P "__firstlineno__" 218 (.int 4 217),hxE P "__init__" 226 (.ref 41),hxE P "__static_attributes__" 228 (.ref 42),hxE P "__doc__" 229 .none] 2)) ::
 (nat_lit 52,hxO "code" (hxD "covers" 234 9 2 47 48 (.ref 49) (.ref 50) 51 241 242)) ::
 (nat_lit 53,hxG "covers" 4 U1 52) ::
 (nat_lit 59,hxO "code" (hxD "able" 244 14 2 54 55 (.ref 56) (.ref 57) 58 249 250)) ::
 (nat_lit 60,hxG "able" 5 U1 59) ::
 (nat_lit 64,hxO "code" (hxD "after" 252 16 2 61 62 .none .none 63 255 256)) ::
 (nat_lit 65,hxG "after" 6 U1 64) ::
 (nat_lit 69,hxO "code" (hxD "change" 258 20 1 66 67 .none .none 68 261 262)) ::
 (nat_lit 70,hxG "change" 7 U1 69) ::
 (nat_lit 76,hxO "code" (hxD "least" 266 23 1 71 72 (.ref 73) (.ref 74) 75 272 273)) ::
 (nat_lit 77,hxG "least" 9 D2 76) ::
 (nat_lit 83,hxO "code" (hxD "lifted" 275 29 2 78 79 (.ref 80) (.ref 81) 82 281 282)) ::
 (nat_lit 84,hxG "lifted" 10 D2 83) ::
 (nat_lit 88,hxO "code" (hxD "source" 284 34 2 85 86 .none .none 87 287 288)) ::
 (nat_lit 89,hxG "source" 11 D2 88) ::
 (nat_lit 93,hxO "code" (hxD "sources" 290 36 2 90 91 .none .none 92 293 294)) ::
 (nat_lit 94,hxG "sources" 12 D2 93) ::
 (nat_lit 100,hxO "code" (hxD "step_back" 296 41 2 95 96 (.ref 97) (.ref 98) 99 301 302)) ::
 (nat_lit 101,hxG "step_back" 13 D2 100) ::
 (nat_lit 105,hxO "code" (hxD "is_shut" 304 43 2 102 103 .none .none 104 307 308)) ::
 (nat_lit 106,hxG "is_shut" 14 D2 105) ::
 (nat_lit 110,hxO "code" (hxD "least_over" 310 45 2 107 108 .none .none 109 313 314)) ::
 (nat_lit 111,hxG "least_over" 15 D2 110) ::
 (nat_lit 117,hxO "code" (hxD "cover" 318 48 3 112 113 (.ref 114) (.ref 115) 116 326 327)) ::
 (nat_lit 118,hxG "cover" 17 U2 117) ::
 (nat_lit 124,hxO "code" (hxD "ending" 329 56 4 119 120 (.ref 121) (.ref 122) 123 338 339)) ::
 (nat_lit 125,hxG "ending" 18 U2 124) ::
 (nat_lit 131,hxO "code" (hxD "row_inward" 341 66 2 126 127 (.ref 128) (.ref 129) 130 350 351)) ::
 (nat_lit 132,hxG "row_inward" 19 U2 131) ::
 (nat_lit 136,hxO "code" (hxD "moves_into" 353 74 3 133 134 .none .none 135 356 357)) ::
 (nat_lit 137,hxG "moves_into" 20 U2 136) ::
 (nat_lit 143,hxO "code" (hxD "under" 361 77 2 138 139 (.ref 140) (.ref 141) 142 368 369)) ::
 (nat_lit 144,hxG "under" 22 t6 143) ::
 (nat_lit 150,hxO "code" (hxD "under_any" 371 82 2 145 146 (.ref 147) (.ref 148) 149 377 378)) ::
 (nat_lit 151,hxG "under_any" 23 t6 150) ::
 (nat_lit 157,hxO "code" (hxD "cap_able" 380 87 2 152 153 (.ref 154) (.ref 155) 156 385 386)) ::
 (nat_lit 158,hxG "cap_able" 24 t6 157) ::
 (nat_lit 162,hxO "code" (hxD "cap_after" 388 89 2 159 160 .none .none 161 391 392)) ::
 (nat_lit 163,hxG "cap_after" 25 t6 162) ::
 (nat_lit 167,hxO "code" (hxD "raised" 394 93 2 164 165 .none .none 166 397 398)) ::
 (nat_lit 168,hxG "raised" 26 t6 167) ::
 (nat_lit 174,hxO "code" (hxD "tops" 400 97 1 169 170 (.ref 171) (.ref 172) 173 406 407)) ::
 (nat_lit 175,hxG "tops" 27 t6 174) ::
 (nat_lit 179,hxO "code" (hxD "sort_key" 409 104 1 176 177 .none .none 178 412 413)) ::
 (nat_lit 180,hxG "sort_key" 28 t6 179) ::
 (nat_lit 186,hxO "code" (hxD "growth" 415 106 2 181 182 (.ref 183) (.ref 184) 185 423 424)) ::
 (nat_lit 187,hxG "growth" 29 t6 186) ::
 (nat_lit 191,hxO "code" (hxD "grow" 426 116 4 188 189 .none .none 190 429 430)) ::
 (nat_lit 192,hxG "grow" 30 t6 191) ::
 (nat_lit 198,hxO "code" (hxD "way_back" 432 125 2 193 194 (.ref 195) (.ref 196) 197 439 440)) ::
 (nat_lit 199,hxG "way_back" 31 t6 198) ::
 (nat_lit 203,hxO "code" (hxD "crown" 442 132 2 200 201 .none .none 202 445 446)) ::
 (nat_lit 204,hxG "crown" 32 t6 203) ::
 (nat_lit 210,hxO "code" (hxD "hurdle" 450 138 2 205 206 (.ref 207) (.ref 208) 209 457 458)) ::
 (nat_lit 211,hxG "hurdle" 34 G8 210) ::
 (nat_lit 217,hxO "code" (hxD "sum_of" 460 143 2 212 213 (.ref 214) (.ref 215) 216 467 468)) ::
 (nat_lit 218,hxG "sum_of" 35 G8 217) ::
 (nat_lit 224,hxO "code" (hxD "stride" 470 148 3 219 220 (.ref 221) (.ref 222) 223 481 482)) ::
 (nat_lit 225,hxG "stride" 36 G8 224) ::
 (nat_lit 231,hxO "code" (hxD "goes" 484 157 4 226 227 (.ref 228) (.ref 229) 230 493 494)) ::
 (nat_lit 232,hxG "goes" 37 G8 231) ::
 (nat_lit 236,hxO "code" (hxD "shifted" 496 163 3 233 234 .none .none 235 499 500)) ::
 (nat_lit 237,hxG "shifted" 38 G8 236) ::
 (nat_lit 243,hxO "code" (hxD "noughts" 502 165 1 238 239 (.ref 240) (.ref 241) 242 506 507)) ::
 (nat_lit 244,hxG "noughts" 39 G8 243) ::
 (nat_lit 250,hxO "code" (hxD "way" 511 168 2 245 246 (.ref 247) (.ref 248) 249 516 517)) ::
 (nat_lit 251,hxG "way" 41 D1 250) ::
 (nat_lit 255,hxO "code" (hxD "row_between" 519 170 3 252 253 .none .none 254 522 523)) ::
 (nat_lit 256,hxG "row_between" 42 D1 255) ::
 (nat_lit 260,hxO "code" (hxD "lifts_of" 525 173 3 257 258 .none .none 259 528 529)) ::
 (nat_lit 261,hxG "lifts_of" 43 D1 260) ::
 (nat_lit 267,hxO "code" (hxD "unraised" 531 185 3 262 263 (.ref 264) (.ref 265) 266 538 539)) ::
 (nat_lit 268,hxG "unraised" 44 D1 267) ::
 (nat_lit 272,hxO "code" (hxD "climb" 541 188 4 269 270 .none .none 271 544 545)) ::
 (nat_lit 273,hxG "climb" 45 D1 272) ::
 (nat_lit 277,hxO "code" (hxD "times_for" 547 203 4 274 275 .none .none 276 550 551)) ::
 (nat_lit 278,hxG "times_for" 46 D1 277) ::
 (nat_lit 284,hxO "code" (hxD "wanted_ahead" 553 205 4 279 280 (.ref 281) (.ref 282) 283 563 564)) ::
 (nat_lit 285,hxG "wanted_ahead" 47 D1 284) ::
 (nat_lit 291,hxO "code" (hxD "_law_cell" 568 211 2 286 287 (.ref 288) (.ref 289) 290 574 575)) ::
 (nat_lit 292,hxG "_law_cell" 49 o9 291) ::
 (nat_lit 296,hxO "code" (hxD "_law_move" 577 218 5 293 294 .none .none 295 580 581)) ::
 (nat_lit 297,hxG "_law_move" 50 o9 296) ::
 (nat_lit 303,hxO "code" (hxD "_law_covers" 583 231 2 298 299 (.ref 300) (.ref 301) 302 589 590)) ::
 (nat_lit 304,hxG "_law_covers" 51 o9 303) ::
 (nat_lit 308,hxO "code" (hxD "_law_behind" 592 236 2 305 306 .none .none 307 595 596)) ::
 (nat_lit 309,hxG "_law_behind" 52 o9 308) ::
 (nat_lit 313,hxO "code" (hxD "_law_drawn" 598 238 3 310 311 .none .none 312 601 602)) ::
 (nat_lit 314,hxG "_law_drawn" 53 o9 313) ::
 (nat_lit 318,hxO "code" (hxD "_law_target" 604 245 5 315 316 .none .none 317 607 608)) ::
 (nat_lit 319,hxG "_law_target" 54 o9 318) ::
 (nat_lit 323,hxO "code" (hxD "_law_under" 610 261 2 320 321 .none .none 322 613 614)) ::
 (nat_lit 324,hxG "_law_under" 55 o9 323) ::
 (nat_lit 330,hxO "code" (hxD "_law_row" 616 263 4 325 326 (.ref 327) (.ref 328) 329 625 626)) ::
 (nat_lit 331,hxG "_law_row" 56 o9 330) ::
 (nat_lit 337,hxO "code" (hxD "_law_lifted" 628 270 2 332 333 (.ref 334) (.ref 335) 336 634 635)) ::
 (nat_lit 338,hxG "_law_lifted" 57 o9 337) ::
 (nat_lit 342,hxO "code" (hxD "_law_fence" 637 275 4 339 340 .none .none 341 640 641)) ::
 (nat_lit 343,hxG "_law_fence" 58 o9 342) ::
 (nat_lit 349,hxO "code" (hxD "_law_climbs" 643 283 3 344 345 (.ref 346) (.ref 347) 348 651 652)) ::
 (nat_lit 350,hxG "_law_climbs" 59 o9 349) ::
 (nat_lit 354,hxO "code" (hxD "law" 654 289 1 351 352 .none .none 353 657 658)) ::
 (nat_lit 355,hxG "law" 60 o9 354) ::
 []
def hxas:List Addr:=[2,3,15,22,23,25,28,40,42,43,52,53,59,60,64,65,69,70,76,77,83,84,88,89,93,94,100,101,105,106,110,111,117,118,124,125,131,132,136,137,143,144,150,151,157,158,162,163,167,168,174,175,179,180,186,187,191,192,198,199,203,204,210,211,217,218,224,225,231,232,236,237,243,244,250,251,255,256,260,261,267,268,272,273,277,278,284,285,291,292,296,297,303,304,308,309,313,314,318,319,323,324,330,331,337,338,342,343,349,350,354,355]
def view:Program:={ PySem.Challenge.pw_tokenmoor_k94_whole_cover_and_crown_agre with main:={ PySem.Challenge.pw_tokenmoor_k94_whole_cover_and_crown_agre.main with body:=[1,2,4,5,6,7,9,10,11,12,13,14,15,17,18,19,20,22,23,24,25,26,27,28,29,30,31,32,34,35,36,37,38,39,41,42,43,44,45,46,47,49,50,51,52,53,54,55,56,57,58,59,60].map top } }
def hook:PySem.W.Hook:=PySem.W.kHook rM hxas (λ_=>by kernel_rfl)
theorem hl0:LeftO PySem.Challenge.rw_tokenmoor_k94_whole_cover_and_crown_agre.prog view [] (λs=>xlAt view [] s&&recOk [] s) hook.obs hook.val 4108:=by
  intro w;kernel_rfl
end K94
local macro_rules | `(tactic| omega)=>`(tactic| first | with_reducible assumption | decide | lia)
set_option genSizeOf false
set_option genSizeOfSpec false
namespace L2
open PySem PySem.Spec PyProof.Rows
abbrev Key:=Sum Int Str
def wK:Key->Value->Bool
 | .inl k,v=>Value.isInt k v
 | .inr x,v=>Value.isStrOf x v
def keyH (w:World):Key->Int
 | .inl k=>hashInt k
 | .inr x=>hashStr w x
theorem y4:∀{k:Key}{v:Value},wK k v=true->(∃i t,k=Sum.inl i/\v=Value.int i t)\/(∃x t,k=Sum.inr x/\v=Value.str x t)
 | .inl i,v,h=>by
  obtain ⟨t,e⟩:=Value.isInt_shape (k:=i) (v:=v) h;exact .inl ⟨i,t,rfl,e⟩
 | .inr x,v,h=>by
  obtain ⟨t,e⟩:=Value.isStrOf_shape (x:=x) (v:=v) h;exact .inr ⟨x,t,rfl,e⟩
theorem CQ (a b:Int):decide ((Sum.inl a:Key)=Sum.inl b)=(a == b):=by
 by_cases e:a=b
 ·subst e;simp
 ·have h:¬ (Sum.inl a:Key)=Sum.inl b:=λq=>e (Sum.inl.inj q);rw[decide_eq_false h];exact (beq_eq_false_iff_ne.mpr e).symm
theorem CN (a b:Str):decide ((Sum.inr a:Key)=Sum.inr b)=decide (a=b):=by
 by_cases e:a=b
 ·subst e;simp
 ·have h:¬ (Sum.inr a:Key)=Sum.inr b:=λq=>e (Sum.inr.inj q);rw[decide_eq_false h,decide_eq_false e]
theorem CP (a:Int)(b:Str):decide ((Sum.inl a:Key)=Sum.inr b)=false:=decide_eq_false (λq=>nomatch q)
theorem CO (a:Str) (b:Int):decide ((Sum.inr a:Key)=Sum.inl b)=false:=decide_eq_false (λq=>nomatch q)
def mS (prog:Program) (w:World):PySem.KeyKind prog w Key where
 is:=wK
 hash:=keyH w
 inj:=λv a b ha hb=>by
  rcases y4 ha with ⟨i,t,rfl,rfl⟩|⟨x,t,rfl,rfl⟩
  ·rcases y4 hb with ⟨j,u,rfl,e⟩|⟨y,u,rfl,e⟩
   ·injection e with e1 _;rw[e1]
   ·exact nomatch e
  ·rcases y4 hb with ⟨j,u,rfl,e⟩|⟨y,u,rfl,e⟩
   ·exact nomatch e
   ·injection e with e1 _;rw[e1]
 byValue:=λk v h=>by
  rcases y4 h with ⟨i,t,rfl,rfl⟩|⟨x,t,rfl,rfl⟩ <;> rfl
 pyHash:=λhv h=>by
  rcases y4 hv with ⟨i,t,rfl,rfl⟩|⟨x,t,rfl,rfl⟩
  ·exact wpAny_pyHash_int h
  ·exact wpAny_pyHash_str h
 eqBool:=λhu hv h=>by
  rcases y4 hu with ⟨i,t,rfl,rfl⟩|⟨x,t,rfl,rfl⟩
  ·rcases y4 hv with ⟨j,u,rfl,rfl⟩|⟨y,u,rfl,rfl⟩
   ·rw[CQ]at h;exact wpAny_eqBool_int h
   ·rw[CP]at h;exact SeqAt.EqAt.int_str i t y u _ _ _ _ h
  ·rcases y4 hv with ⟨j,u,rfl,rfl⟩|⟨y,u,rfl,rfl⟩
   ·rw[CO]at h;exact SeqAt.EqAt.str_int x t j u _ _ _ _ h
   ·rw[CN]at h;exact wpAny_eqBool_str h
 «strs»:=λk x t v h=>by
  rcases y4 h with ⟨i,u,rfl,e⟩|⟨y,u,rfl,e⟩
  ·exact nomatch e
  ·injection e with e1 _
   subst e1;cases v <;> rfl
end L2
namespace L2
open PySem PySem.Spec PyProof.Rows
inductive V where
 |non|bl (b:Bool)|int (i:Int)|str (x:Str)|byt (b:Array UInt8)|flt (b:UInt64)|ref (a:Addr)|ty (n:String)
 deriving DecidableEq
def RelV:V->Value->Prop
 | .non,u=>u=Value.none
 | .bl b,u=>u=Value.bool b
 | .int i,u=>∃t,u=Value.int i t
 | .str x,u=>∃t,u=Value.str x t
 | .byt b,u=>∃t,u=Value.bytes b t
 | .flt b,u=>∃t,u=Value.float b t
 | .ref a,u=>u=Value.ref a
 | .ty n,u=>u=Value.type n
abbrev Vals:List V->List Value->Prop:=Paired RelV
theorem Vals.length {xs:List V}{us:List Value}(r:Vals xs us):xs.length=us.length:=Paired.length r
theorem Vals.get:∀{xs:List V}{us:List Value}{i:Nat}{x:V},Vals xs us->xs[i]?=some x->∃u,us[i]?=some u/\RelV x u:=by
 intro xs us i x a
 induction a generalizing i with
 |nil=>intro e;cases e
 | cons r t ih=>
  intro e;cases i with
  |zero=>cases e;exact ⟨_,rfl,r⟩
  |succ i=>exact ih e
theorem Vals.set {x:V}{u:Value}(r:RelV x u):∀{xs:List V}{us:List Value}(i:Nat),Vals xs us->Vals (xs.set i x) (us.set i u):=by
 intro xs us i h
 induction h generalizing i with
 |nil=>exact .nil
 | cons q t ih=>
  cases i with
  |zero=>exact .cons r t
  |succ i=>exact .cons q (ih i)
theorem Vals.append:∀{xs ys:List V}{us ws:List Value},Vals xs us->Vals ys ws->Vals (xs++ys) (us++ws):=by
 intro xs ys us ws a s
 induction a with
 |nil=>exact s
 |cons r t ih=>exact .cons r ih
theorem Vals.take:∀{xs:List V}{us:List Value}(n:Nat),Vals xs us->Vals (xs.take n) (us.take n):=by
 intro xs us n h
 induction h generalizing n with
 |nil=>cases n <;> exact .nil
 | cons r t ih=>
  cases n with
  |zero=>exact .nil
  |succ n=>exact .cons r (ih n)
theorem Vals.drop:∀{xs:List V}{us:List Value}(n:Nat),Vals xs us->Vals (xs.drop n) (us.drop n)
 |_,_,0,r=>r
 |_,_,_+1,.nil=>.nil
 |_,_,n+1,.cons _ t=>Vals.drop n t
def Ff:Option V->Option Value->Prop
 |some v,some u=>RelV v u
 |none,none=>True
 |_,_=>False
def KV {κ:Type}:List (κ×V)->List (κ×Value)->Prop:=Paired λ(p:κ×V)(q:κ×Value)=>p.1=q.1/\RelV p.2 q.2
def kV:Key->V
 | .inl i=>.int i
 | .inr x=>.str x
inductive HO where
 |lst (xs:List V)
 |tup (xs:List V)
 |dK (kvs:List (Key×V))|dT (kvs:List (List Key×V))
 |set (S:Int->Bool) (n:Nat)
 |ins (C dx:Addr) (fs:List (Str×V))
 |own (x:Addr)
 |xd (fs:List (Str×V))
 |met (f x:Addr)
 |rng (lo hi:Int)
 |frz (o:Obj) (u:HO)
 |tbl (ps:Array Value)
 |ext (φ:Heap->Prop)
abbrev Hp:=Addr->Option HO
def upd (H:Hp)(a:Addr)(o:HO):Hp:=λb=>if b=a then some o else H b
theorem n6 {H:Hp}{a:Addr}{o:HO}:upd H a o a=some o:=by unfold upd;rw[qA4 rfl]
theorem d4 {H:Hp}{a b:Addr}{o:HO}(h:b≠a):upd H a o b=H b:=by unfold upd;rw[qA6 h]
theorem e8 {H:Hp}{a b:Addr}{o:HO}(h:H a=some o) (h':H b=none):a≠b:=by
 intro e;subst e;rw[h]at h';cases h'
section
variable (P:Program)(w:World)
def ObjOk (H:Hp) (h:Heap) (a:Addr):HO->Prop
 | .lst xs=>xs.length<=sizeLine/\∃(its:List Value) (n:Nat),Vals xs its/\h.get? a=some { cls:=.type "list",data:=.seq its.toArray n }
 | .tup xs=>xs.length<=sizeLine/\∃its:List Value,Vals xs its/\IsTup h a its.toArray
 | .dK kvs=>kvs.length<=sizeLine/\(a == sysModules)=false/\∃vs,KV kvs vs/\h.DictOf (mS P w) a vs
 | .dT kvs=>kvs.length<=sizeLine/\(a == sysModules)=false/\∃xs:List (List Key×Addr×Value),
   Paired (λ(p:List Key×V) (q:List Key×Addr×Value)=>p.1=q.1/\H q.2.1=some (.tup (p.1.map kV))/\RelV p.2 q.2.2) kvs xs /\
   ∃o es ep,h.get? a=some o/\o.ExactDict/\o.data=.dict es ep/\es.toList=xs.map (entryOfKey (tupleKind (mS P w)))/\(xs.map (·.1)).Nodup
 | .set S n=>h.SetOf (intKind P w) a S n
 | .ins C dx fs=>H dx=some (.own a)/\fs.length<=1000/\dx≠a/\h.get? a=some (PySem.W.instObj C dx) /\
   ∃mA,h.Ns1 dx mA/\(∀f,Ff (fs.lookup f) (mA f))/\PySem.Within mA (fs.map (·.1))
 | .own _=>∃o,h.get? a=some o
 | .xd fs=>∃mA,h.Ns1 a mA/\∀f,Ff (fs.lookup f) (mA f)
 | .rng lo hi=>∃t u v,h.get? a=some { cls:=.type "range",data:=.fields #[.int lo t,.int hi u,.int 1 v] }
 | .frz o u=>h.get? a=some o/\ObjOk H h a u
 | .tbl ps=>h.get? a=some { cls:=.none,data:=.fields ps }
 | .met f x=>h.get? a=some (PySem.W.methodObj (.ref f) (.ref x))
 | .ext φ=>φ h/\(∃o,h.get? a=some o)/\∀h1 h2:Heap,φ h1->(∀o,h1.get? a=some o->h2.get? a=some o)->φ h2
def HOk (H:Hp)(h:Heap):Prop:=∀a o,H a=some o->ObjOk P w H h a o
end
section
variable {P:Program}{w:World}{H H':Hp}{h h':Heap}{a:Addr}{o:HO}
theorem ObjOk.lt (x:ObjOk P w H h a o):a<h.objs.size:=by
 cases o with
 |lst xs=>obtain ⟨_,_,_,_,e⟩:=x;exact qB4 e
 |tup xs=>obtain ⟨_,_,_,p⟩:=x;exact p.lt
 |dK kvs=>obtain ⟨_,_,_,_,o,_,_,e,_⟩:=x;exact qB4 e
 |dT kvs=>obtain ⟨_,_,_,_,o,_,_,e,_⟩:=x;exact qB4 e
 |set S n=>obtain ⟨o,_,_,_,e,_⟩:=x;exact qB4 e
 |ins C dx fs=>obtain ⟨_,_,_,e,_⟩:=x;exact qB4 e
 |own y=>obtain ⟨_,e⟩:=x;exact qB4 e
 |xd fs=>obtain ⟨_,⟨_,_,_,e,_⟩,_⟩:=x;exact qB4 e
 |rng lo hi=>obtain ⟨_,_,_,e⟩:=x;exact qB4 e
 |frz ob u=>obtain ⟨e,_⟩:=x;exact qB4 e
 |tbl ps=>exact qB4 (show h.get? a=some _ from x)
 |met f y=>exact qB4 (show h.get? a=some _ from x)
 |ext φ=>obtain ⟨_,⟨_,e⟩,_⟩:=x;exact qB4 e
theorem Paired.mapP {α β:Type}{F G:α->β->Prop}:∀{l₁:List α}{l₂:List β},Paired F l₁ l₂->(∀a b,F a b->G a b)->Paired G l₁ l₂:=by
 intro l₁ l₂ h f
 induction h with
 |nil=>exact .nil
 |cons r t ih=>exact .cons (f _ _ r) ih
theorem ObjOk.stay (x:ObjOk P w H h a o) (k:∀b u,(b=a\/H b=some (.own a))->h.get? b=some u->h'.get? b=some u)
  (ho:∀b,H b=some (.own a)->H' b=some (.own a)) (ht:∀b xs,H b=some (.tup xs)->H' b=some (.tup xs)):ObjOk P w H' h' a o:=by
 induction o with
 |lst xs=>obtain ⟨z,its,n,r,e⟩:=x;exact ⟨z,its,n,r,k _ _ (.inl rfl) e⟩
 |tup xs=>obtain ⟨z,its,r,ob,e,c⟩:=x;exact ⟨z,its,r,ob,k _ _ (.inl rfl) e,c⟩
 |dK kvs=>obtain ⟨z,y,vs,r,ob,es,ep,e,c⟩:=x;exact ⟨z,y,vs,r,ob,es,ep,k _ _ (.inl rfl) e,c⟩
 | dT kvs=>
  obtain ⟨z,y,xs,r,ob,es,ep,e,c⟩:=x;exact ⟨z,y,xs,Paired.mapP r λp q z=>⟨z.1,ht _ _ z.2.1,z.2.2⟩,ob,es,ep,k _ _ (.inl rfl) e,c⟩
 |set S n=>obtain ⟨ob,es,ep,t,e,c⟩:=x;exact ⟨ob,es,ep,t,k _ _ (.inl rfl) e,c⟩
 | ins C dx fs=>
  obtain ⟨d,z,ne,e,mA,⟨od,es,ep,e2,c⟩,r⟩:=x;exact ⟨ho _ d,z,ne,k _ _ (.inl rfl) e,mA,⟨od,es,ep,k _ _ (.inr d) e2,c⟩,r⟩
 |own y=>obtain ⟨ob,e⟩:=x;exact ⟨ob,k _ _ (.inl rfl) e⟩
 |xd fs=>obtain ⟨mA,⟨od,es,ep,e,c⟩,r⟩:=x;exact ⟨mA,⟨od,es,ep,k _ _ (.inl rfl) e,c⟩,r⟩
 |rng lo hi=>obtain ⟨t,u,v,e⟩:=x;exact ⟨t,u,v,k _ _ (.inl rfl) e⟩
 |frz ob u ih=>obtain ⟨e,q⟩:=x;exact ⟨k _ _ (.inl rfl) e,ih q⟩
 | tbl ps=>
  have e:h.get? a=some { cls:=.none,data:=.fields ps }:=x
  show h'.get? a=some { cls:=.none,data:=.fields ps };exact k a _ (.inl rfl) e
 | met f y=>
  have e:h.get? a=some (PySem.W.methodObj (.ref f) (.ref y)):=x
  show h'.get? a=some (PySem.W.methodObj (.ref f) (.ref y));exact k a _ (.inl rfl) e
 |ext φ=>obtain ⟨p,⟨o,e⟩,st⟩:=x;exact ⟨st _ _ p λo q=>k _ _ (.inl rfl) q,⟨o,k _ _ (.inl rfl) e⟩,st⟩
theorem HOk.lt (x:HOk P w H h)(e:H a=some o):a<h.objs.size:=(x a o e).lt
theorem HOk.fresh (x:HOk P w H h) (e:h.objs.size<=a):H a=none:=by
 cases q:H a with
 |none=>rfl
 |some u=>exact absurd (qB7 (x.lt q) e) (qF1 _)
theorem HOk.kept (x:HOk P w H h) (k:∀b u,h.get? b=some u->h'.get? b=some u):HOk P w H h':=λa o e=>
 (x a o e).stay (λb u _ q=>k b u q) (λ_ q=>q) λ_ _ q=>q
theorem HOk.laid (x:HOk P w H h) (k:∀b u,h.get? b=some u->h'.get? b=some u) (hp:h.objs.size<=a) (new:ObjOk P w (upd H a o) h' a o):HOk P w (upd H a o) h':=λb u e=>by
 have hn:=x.fresh hp;by_cases hb:b=a
 ·subst hb;rw[n6]at e;cases e;exact new
 ·rw [d4 hb]at e
  exact (x b u e).stay (λc v _ q=>k c v q) (λc q=>by rw[d4 (e8 q hn)];exact q) λc xs q=>by rw[d4 (e8 q hn)];exact q
end
def Rd (H:Hp)(a:Addr)(u:HO):Prop:=H a=some u\/∃o,H a=some (.frz o u)
theorem Rd.ok {P:Program}{w:World}{H:Hp}{h:Heap}{a:Addr}{u:HO}(r:Rd H a u) (x:HOk P w H h):ObjOk P w H h a u:=by
 rcases r with r|⟨o,r⟩
 ·exact x a u r
 ·obtain ⟨_,q⟩:=x a _ r;exact q
def Mut:Option HO->Prop
 |some (.lst _)=>True
 |some (.dK _)=>True
 |some (.dT _)=>True
 |some (.set _ _)=>True
 |some (.ins _ _ _)=>True
 |some (.ext _)=>True
 |_=>False
section
variable {P:Program}{w:World}{H:Hp}{h h':Heap}{x e:Addr}{o':HO}
theorem HOk.write (ok:HOk P w H h) (mu:Mut (H x)) (he:e=x\/H e=some (.own x)) (k:∀b u,b≠e->h.get? b=some u->h'.get? b=some u) (heo:∃u,h'.get? e=some u)
  (new:ObjOk P w (upd H x o') h' x o'):HOk P w (upd H x o') h':=λb u q=>by
 have nown:∀c y,H c=some (.own y)->c≠x:=λc y r z=>by subst z;rw[r]at mu;exact mu
 have ntup:∀c xs,H c=some (.tup xs)->c≠x:=λc xs r z=>by subst z;rw[r]at mu;exact mu
 by_cases hb:b=x
 ·subst hb;rw[n6]at q;cases q;exact new
 ·rw [d4 hb]at q
  by_cases hbe:b=e
  ·have q':H b=some (.own x):=by
    rcases he with z|z
    ·exact absurd (hbe.trans z) hb
    ·rw[hbe];exact z
   rw[q]at q';cases q';obtain ⟨v,hv⟩:=heo;exact ⟨v,by rw[hbe];exact hv⟩
  ·refine (ok b u q).stay (λc v hc r=>k c v ?_ r) (λc r=>by rw[d4 (nown c b r)];exact r) λc xs r=>by rw[d4 (ntup c xs r)];exact r
   rcases hc with rfl|hc
   ·exact hbe
   ·rintro rfl;rcases he with z|z
    ·exact nown c b hc z
    ·rw[hc]at z;cases z;exact hb rfl
end
structure Un (fs ex:List Addr) (H H':Hp) (h h':Heap):Prop where
 keep:∀b o,h.get? b=some o->H b=none->b∉fs->b∉ex->h'.get? b=some o
 slot:∀b o,h.get? b=some o->H b=none->b∈fs->b∉ex->∃sl,h'.get? b=some { o with slots:=sl }
 free:∀b o,h.get? b=some o->H b=none->b∉ex->H' b=none
 there:∀b o,h.get? b=some o->b∉ex->∃o',h'.get? b=some o'
 tups:∀b xs,H b=some (.tup xs)->H' b=some (.tup xs)
 frzs:∀b o u,H b=some (.frz o u)->H' b=some (.frz o u)
 tbls:∀b ps,H b=some (.tbl ps)->∃more,H' b=some (.tbl (ps++more))
section
variable {fs fs' ex ex':List Addr}{H H1 H2:Hp}{h h1 h2 h':Heap}{a x e:Addr}{o:HO}
theorem Un.any (u:Un fs ex H H1 h h1){b:Addr}{ob:Obj}(q:h.get? b=some ob) (n:H b=none) (hx:b∉ex):∃sl,h1.get? b=some { ob with slots:=sl }:=by
 by_cases hb:b∈fs
 ·exact u.slot b ob q n hb hx
 ·exact ⟨ob.slots,u.keep b ob q n hb hx⟩
theorem Un.kept (k:∀b u,h.get? b=some u->h'.get? b=some u):Un fs ex H H h h':=
 ⟨λb ob q _ _ _=>k b ob q,λb ob q _ _ _=>⟨ob.slots,k b ob q⟩,λ_ _ _ n _=>n,λb ob q _=>⟨ob,k b ob q⟩,λ_ _ q=>q,λ_ _ _ q=>q,λ_ ps q=>⟨#[],by rw[q];simp⟩⟩
theorem Un.refl:Un fs ex H H h h:=Un.kept λ_ _ q=>q
theorem Un.laid (k:∀b u,h.get? b=some u->h'.get? b=some u) (hp:h.objs.size<=a) (hn:H a=none):Un fs ex H (upd H a o) h h' where
 keep:=λb u q _ _ _=>k b u q
 slot:=λb u q _ _ _=>⟨u.slots,k b u q⟩
 free:=λb u q n _=>by rw[d4 (qD2 (qB7 (qB4 q) hp))];exact n
 there:=λb u q _=>⟨u,k b u q⟩
 tups:=λb xs q=>by rw[d4 (e8 q hn)];exact q
 frzs:=λb u xs q=>by rw[d4 (e8 q hn)];exact q
 tbls:=λb ps q=>⟨#[],by rw[d4 (e8 q hn),q];simp⟩
theorem Un.write (mu:Mut (H x)) (he:e=x\/H e=some (.own x)) (k:∀b u,b≠e->h.get? b=some u->h'.get? b=some u) (heo:∃u,h'.get? e=some u):Un fs ex H (upd H x o) h h':=by
 have hx:∀b,H b=none->b≠x:=λb n z=>by subst z;rw[n]at mu;exact mu
 have hb:∀b,H b=none->b≠e:=λb n z=>by
  subst z;rcases he with r|r
  ·exact hx b n r
  ·rw[n]at r;cases r
 have hm:∀b u,H b=some u->¬ Mut (some u)->b≠x:=λb u q nm z=>by subst z;rw[q]at mu;exact nm mu
 refine ⟨λb u q n _ _=>k b u (hb b n) q,λb u q n _ _=>⟨u.slots,k b u (hb b n) q⟩,λb u q n _=>by rw[d4 (hx b n)];exact n,λb u q _=>?_,
  λb xs q=>by rw[d4 (hm b _ q λz=>z)];exact q,λb u xs q=>by rw[d4 (hm b _ q λz=>z)];exact q,λb ps q=>⟨#[],by rw[d4 (hm b _ q λz=>z),q];simp⟩⟩
 by_cases hbe:b=e
 ·subst hbe;exact heo
 ·exact ⟨u,k b u hbe q⟩
end
def trk (h:Heap)(H:Hp):List Addr:=(List.range h.objs.size).filter λa=>(H a).isSome
def bi (h:Heap)(H:Hp):Heap:=PySem.W.hideAll h (trk h H)
theorem rO (h:Heap)(H:Hp):(bi h H).objs.size=h.objs.size:=PySem.W.hideAll_size _ _
theorem vt {h:Heap}{H:Hp}{b:Addr}{o:Obj}(e:h.get? b=some o) (n:H b=none):(bi h H).get? b=some o:=
 PySem.W.hideAll_get _ e λhm=>by
  have q:(H b).isSome=true:=(qH2.mp hm).2;rw[n]at q;simp at q
theorem ym {h:Heap}{H:Hp}{b:Addr}{o:Obj}(e:(bi h H).get? b=some o):h.get? b=some o/\H b=none:=by
 have e':h.get? b=some o:=PySem.W.of_hideAll (trk h H) e;refine ⟨e',?_⟩;cases q:H b with
 |none=>rfl
 | some x=>
  have hm:b∈trk h H:=qH2.mpr ⟨qE7.mpr (qB4 e'),by simp [q]⟩;have z:(bi h H).get? b=none:=PySem.W.hideAll_none (trk h H) hm;rw[z]at e;cases e
def Ab (g h:Heap)(L:Addr):List (Addr×Obj):=(List.range h.objs.size).filterMap λa=>if a=L\/(g.get? a).isSome=true then none else (h.get? a).map λo=>(a,o)
def rest (g h:Heap)(L d:Addr):List (Addr×Obj):=(Ab g h L).filter λp=>decide (p.1≠d)
end L2
namespace L2
open PySem PySem.Spec PyProof.Rows
structure Mod (K:Frag) (mg:Str->Option Value) (base:Heap):Prop where
 kin:K.In base
 glob:base.Ns mainGlobals mg
 blt:∃mb,base.Ns builtinsNs mb/\∀x:Str,x ≠ "__name__" -> mb x=bootBuiltins x
 nolimit:base.NoLimit
structure Cx where
 prog:Program
 w:World
 K:Frag
 mg:Str->Option Value
 base:Heap
 A:Around
 N:List Str
 s₀:Shared
 H₀:Hp
 env:Env
 outer:List Env
 stack:List Env
 ex:List Addr
 fn:Str->Bool
 calm:Bool
 pn:List (Addr×Obj)
 xe:Value->Shared->Prop
def frs (l:List Env):List Addr:=l.filterMap (·.frame)
abbrev Cx.fs (X:Cx):List Addr:=frs X.outer
def Vis (sc:Scope)(x:Str):Prop:=sc.names.lookup x=some .local\/sc.names.lookup x=some .cell\/sc.names.lookup x=some .free
def Loc (sc:Scope)(x:Str):Prop:=sc.names.lookup x=some .local\/sc.names.lookup x=some .cell
def Look (env:Env) (h:Heap) (m:Str->Option Value) (x:Str) (u:Value):Prop:=
 (env.kindOf x=some .local/\m x=some u)\/((env.kindOf x=some .cell\/env.kindOf x=some .free)/\∃c,env.cells.lookup x=some c/\h.IsCell c (some u))
structure Cx.Ok (X:Cx):Prop where
 mod:Mod X.K X.mg X.base
 kind:X.env.scope.kind=.function
 glob:X.env.globals=mainGlobals
 blt:X.env.builtins=builtinsNs
 above:X.s₀.heap.objs.size<=X.env.locals
 inj:∀x y c,X.env.cells.lookup x=some c->X.env.cells.lookup y=some c->x=y
 has:∀x,(X.env.kindOf x=some .cell\/X.env.kindOf x=some .free)->∃c,X.env.cells.lookup x=some c
 cab:∀x c,X.fn x=true->X.env.cells.lookup x=some c->X.s₀.heap.objs.size<=c
 hd:X.calm=true->X.A.handled=none
 frames:X.A.frames=some X.stack
 stk:X.stack=X.outer\/(X.stack=X.env::X.outer/\X.env.frame=some X.env.locals)
 exf:∀b∈X.ex,b≠X.env.locals/\∀x c,X.env.cells.lookup x=some c->c≠b
 bs:∀b o,X.base.get? b=some o->X.s₀.heap.get? b=some o/\X.H₀ b=none
 bsz:X.base.objs.size<=X.s₀.heap.objs.size
 noex:∀b o,X.base.get? b=some o->b∉X.ex
 exfs:∀b∈X.ex,b∉X.fs
 funs:X.s₀.heap.FunFrames X.base X.outer
 frf:∀b∈X.fs,X.H₀ b=none
structure Inv (X:Cx) (pins:List (Addr×Obj)) (σ:List (Option V)) (H:Hp) (s:Shared):Prop where
 ok:X.Ok
 os:s.os=X.s₀.os
 bare:AllBare s.gens
 base:Un X.fs X.ex X.H₀ H X.s₀.heap s.heap
 loc:∃m,s.heap.Ns X.env.locals m/\∀(i:Nat) (x:Str) (v:V),X.N[i]?=some x->σ[i]?=some (some v)->Vis X.env.scope x->∃u,RelV v u/\Look X.env s.heap m x u
 cell:∀x c,X.env.cells.lookup x=some c->∃v,s.heap.IsCell c v
 free:H X.env.locals=none
 freeC:∀x c,X.env.cells.lookup x=some c->H c=none
 pin:∀p∈X.pn++pins,s.heap.get? p.1=some p.2/\H p.1=none/\p.1≠X.env.locals/\p.1∉X.fs/\∀v,p.2.data≠.cell v
 hok:HOk X.prog X.w H s.heap
 len:σ.length=X.N.length
section
variable {X:Cx}{pins:List (Addr×Obj)}{σ:List (Option V)}{H H':Hp}{s:Shared}{h':Heap}
theorem Cx.Ok.nofr (ok:X.Ok){b:Addr}{o:Obj}(e:X.base.get? b=some o):b∉X.fs:=λhb=>by
 have:=(ok.funs.mem hb).1
 rw[e]at this;cases this
theorem Inv.bs (I:Inv X pins σ H s):∀b o,X.base.get? b=some o->s.heap.get? b=some o/\H b=none:=λb o e=>
 ⟨I.base.keep b o (I.ok.bs b o e).1 (I.ok.bs b o e).2 (I.ok.nofr e) (I.ok.noex b o e),I.base.free b o (I.ok.bs b o e).1 (I.ok.bs b o e).2 (I.ok.noex b o e)⟩
theorem Inv.bk (I:Inv X pins σ H s):∀b o,X.base.get? b=some o->s.heap.get? b=some o:=λb o e=>(I.bs b o e).1
theorem Inv.mod (I:Inv X pins σ H s):Mod X.K X.mg X.base:=I.ok.mod
theorem Inv.kIn (I:Inv X pins σ H s):X.K.In s.heap:=I.ok.mod.kin.keeps I.bk
theorem Inv.fr (I:Inv X pins σ H s):∃m,Fr X.base X.env.locals s.heap m:=
 let ⟨m,hn,_⟩:=I.loc
 ⟨m,hn,I.bk,qB8 I.ok.bsz I.ok.above⟩
theorem Inv.lt (I:Inv X pins σ H s):X.env.locals<s.heap.objs.size:=let ⟨_,hn,_⟩:=I.loc;hn.lt
theorem Inv.sz (I:Inv X pins σ H s):X.s₀.heap.objs.size<=s.heap.objs.size:=qB8 I.ok.above (qH9 I.lt)
theorem Inv.nofs (I:Inv X pins σ H s){a:Addr}(h:s.heap.objs.size<=a):a∉X.fs:=λhb=>by
 obtain ⟨_,o,ho,_⟩:=I.ok.funs.mem hb;exact absurd (qB7 (qB4 ho) (qB8 I.sz h)) (qF1 _)
theorem Inv.cne (I:Inv X pins σ H s):∀x c,X.env.cells.lookup x=some c->c≠X.env.locals:=λx c e z=>by
 obtain ⟨v,o,ho,hd⟩:=I.cell x c e;obtain ⟨m,⟨o',es,ep,ho',hd',_⟩,_⟩:=I.loc;rw[z,ho']at ho;cases ho;rw[hd']at hd;cases hd
theorem Inv.funs (I:Inv X pins σ H s):s.heap.FunFrames X.base X.outer:=by
 have all:∀(l:List Env),(∀b∈frs l,b∈X.fs)->X.s₀.heap.FunFrames X.base l->s.heap.FunFrames X.base l:=by
  intro l
  induction l with
  |nil=>intro _ _;trivial
  | cons env r ih=>
   intro hs hl;obtain ⟨hk,⟨L,o,hf,hn,ho,hd⟩,hr⟩:=hl;have hL:L∈X.fs:=hs L (by unfold frs;rw[qH3,hf];exact qB1);obtain ⟨sl,e⟩:=I.base.slot L o ho (I.ok.frf L hL) hL λz=>I.ok.exfs L z hL;exact ⟨hk,⟨L,_,hf,hn,e,hd⟩,ih (λb hb=>hs b (by unfold frs;rw[qH3,hf];exact qA7 _ hb)) hr⟩
 exact all X.outer (λ_ hb=>hb) I.ok.funs
theorem Inv.stack (I:Inv X pins σ H s):s.heap.FunFrames X.base X.stack:=by
 rcases I.ok.stk with e|⟨e,hf⟩
 ·rw[e];exact I.funs
 ·rw [e]
  obtain ⟨m,hn,_⟩:=I.loc;refine .cons (by rw[I.ok.kind];decide) hf hn ?_ I.funs;exact Heap.get?_none_of_le (qB8 I.ok.bsz I.ok.above)
theorem Inv.stkSub (I:Inv X pins σ H s):∀b∈frs X.stack,b∈X.env.locals::X.fs:=λb hb=>by
 rcases I.ok.stk with e|⟨e,hf⟩
 ·rw[e]at hb;exact qA7 _ hb
 ·rw [e]at hb
  unfold frs at hb;rw[qH3,hf]at hb;exact hb
theorem Inv.stkFree (I:Inv X pins σ H s):∀b∈frs X.stack,H b=none:=λb hb=>by
 rcases qB3.mp (I.stkSub b hb) with e|hb
 ·rw[e];exact I.free
 ·obtain ⟨_,o,ho,_⟩:=I.ok.funs.mem hb;exact I.base.free b o ho (I.ok.frf b hb) λz=>I.ok.exfs b z hb
theorem Inv.step {g':Array GenState}{t':Nat}{d':Drawn}{ch:List Addr}(I:Inv X pins σ H s)
  (hch:∀b∈ch,(b∈X.ex\/X.s₀.heap.objs.size<=b)/\b≠X.env.locals/\(∀x c,X.env.cells.lookup x=some c->c≠b)/\∀p∈X.pn++pins,p.1≠b)
  (keep:∀b o,b≠X.env.locals->b∉X.fs->b∉ch->s.heap.get? b=some o->H b=none->h'.get? b=some o)
  (slot:∀b o,b≠X.env.locals->b∈X.fs->b∉ch->s.heap.get? b=some o->H b=none->∃sl,h'.get? b=some { o with slots:=sl }) (free:∀b o,b∉ch->s.heap.get? b=some o->H b=none->H' b=none)
  (there:∀b o,b∉ch->s.heap.get? b=some o->∃o',h'.get? b=some o')
  (tups:∀b xs,H b=some (.tup xs)->H' b=some (.tup xs)) (frzs:∀b o u,H b=some (.frz o u)->H' b=some (.frz o u)) (tbls:∀b ps,H b=some (.tbl ps)->∃more,H' b=some (.tbl (ps++more)))
  (ns:∀m,s.heap.Ns X.env.locals m->h'.Ns X.env.locals m) (hok:HOk X.prog X.w H' h') (hg:AllBare g') :
  Inv X pins σ H' { s with heap:=h',gens:=g',drawn:=d',toks:=t' }:=by
 have neL:∀b o,X.s₀.heap.get? b=some o->b≠X.env.locals:=λb o e=>qD2 (qB7 (qB4 e) I.ok.above);have neC:∀b o,X.s₀.heap.get? b=some o->b∉X.ex->b∉ch:=λb o e hx hb=>by
  rcases (hch b hb).1 with z|z
  ·exact hx z
  ·exact absurd (qB7 (qB4 e) z) (qF1 _)
 have cellK:∀x c,X.env.cells.lookup x=some c->∀v,s.heap.IsCell c v->h'.IsCell c v:=λx c e v zz1=>by
  obtain ⟨o,ho,hd⟩:=zz1;have nch:c∉ch:=λz=>(hch c z).2.2.1 x c e rfl;by_cases hc:c∈X.fs
  ·obtain ⟨sl,q⟩:=slot c o (I.cne x c e) hc nch ho (I.freeC x c e);exact ⟨_,q,hd⟩
  ·exact ⟨o,keep c o (I.cne x c e) hc nch ho (I.freeC x c e),hd⟩
 refine ⟨I.ok,I.os,hg,⟨λb o e n hb hx=>?_,λb o e n hb hx=>?_,λb o e n hx=>?_,λb o e hx=>?_,λb xs e=>tups b xs (I.base.tups b xs e),λb o xs e=>frzs b o xs (I.base.frzs b o xs e),λb ps e=>?_⟩,?_,λx c e=>?_,?_,λx c e=>?_,λp hp=>?_,hok,I.len⟩
 ·exact keep b o (neL b o e) hb (neC b o e hx) (I.base.keep b o e n hb hx) (I.base.free b o e n hx)
 ·obtain ⟨sl,e1⟩:=I.base.slot b o e n hb hx;obtain ⟨sl',e2⟩:=slot b _ (neL b o e) hb (neC b o e hx) e1 (I.base.free b o e n hx);exact ⟨sl',e2⟩
 ·obtain ⟨o',e1⟩:=I.base.there b o e hx;exact free b o' (neC b o e hx) e1 (I.base.free b o e n hx)
 ·obtain ⟨o',e1⟩:=I.base.there b o e hx;exact there b o' (neC b o e hx) e1
 ·obtain ⟨m1,e1⟩:=I.base.tbls b ps e;obtain ⟨m2,e2⟩:=tbls b _ e1;exact ⟨m1++m2,by rw[e2,Array.append_assoc]⟩
 ·obtain ⟨m,hn,hl⟩:=I.loc;refine ⟨m,ns m hn,λi x v e1 e2 e3=>?_⟩;obtain ⟨u,r,l⟩:=hl i x v e1 e2 e3;refine ⟨u,r,?_⟩;rcases l with l|⟨k,c,e,z⟩
  ·exact .inl l
  ·exact .inr ⟨k,c,e,cellK x c e _ z⟩
 ·obtain ⟨v,z⟩:=I.cell x c e;exact ⟨v,cellK x c e v z⟩
 ·obtain ⟨m,⟨o,_,_,ho,_⟩,_⟩:=I.loc;exact free _ o (λz=>(hch _ z).2.1 rfl) ho I.free
 ·obtain ⟨v,o,ho,hd⟩:=I.cell x c e;exact free c o (λz=>(hch c z).2.2.1 x c e rfl) ho (I.freeC x c e)
 ·obtain ⟨e,n,ne,nf,d⟩:=I.pin p hp;have nch:p.1∉ch:=λz=>(hch p.1 z).2.2.2 p hp rfl;exact ⟨keep p.1 p.2 ne nf nch e n,free p.1 p.2 nch e n,ne,nf,d⟩
theorem Inv.un {t':Nat}(I:Inv X pins σ H s) (u:Un X.fs [] H H' s.heap h') (hok:HOk X.prog X.w H' h'):Inv X pins σ H' { s with heap:=h',toks:=t' }:=by
 obtain ⟨m,⟨o,es,ep,ho,r⟩,_⟩:=id I.loc;obtain ⟨sl,hL⟩:=u.any ho I.free (by simp);exact I.step (g':=s.gens) (d':=s.drawn) (ch:=[]) (λ_ z=>nomatch z) (λb o _ hb _ e n=>u.keep b o e n hb (by simp)) (λb o _ hb _ e n=>u.slot b o e n hb (by simp)) (λb o _ e n=>u.free b o e n (by simp)) (λb o _ e=>u.there b o e (by simp)) u.tups u.frzs u.tbls (λm' hm=>by
  obtain ⟨o',es',ep',ho',r'⟩:=hm;rw[ho]at ho';cases ho';exact ⟨_,es',ep',hL,r'⟩) hok I.bare
theorem Inv.call {g':Array GenState}{t':Nat}{d':Drawn}{ch:List Addr}(I:Inv X pins σ H s) (u:Un (frs X.stack) ch H H' s.heap h') (hok:HOk X.prog X.w H' h') (hg:AllBare g')
  (hch:∀b∈ch,(b∈X.ex\/X.s₀.heap.objs.size<=b)/\b≠X.env.locals/\(∀x c,X.env.cells.lookup x=some c->c≠b)/\∀p∈X.pn++pins,p.1≠b) :
  Inv X pins σ H' { s with heap:=h',gens:=g',drawn:=d',toks:=t' }:=by
 obtain ⟨m,⟨o,es,ep,ho,r⟩,_⟩:=id I.loc;obtain ⟨sl,hL⟩:=u.any ho I.free λz=>(hch _ z).2.1 rfl;exact I.step (ch:=ch) hch (λb o hL hb hc e n=>u.keep b o e n (λz=>(qB3.mp (I.stkSub b z)).elim hL hb) hc) (λb o _ _ hc e n=>u.any e n hc) (λb o hc e n=>u.free b o e n hc) (λb o hc e=>u.there b o e hc) u.tups u.frzs u.tbls (λm' hm=>by
  obtain ⟨o',es',ep',ho',r'⟩:=hm;rw[ho]at ho';cases ho';exact ⟨_,es',ep',hL,r'⟩) hok hg
theorem Inv.turned {t':Nat}{it:Addr}(I:Inv X pins σ H s) (k:∀b o,b≠it->s.heap.get? b=some o->h'.get? b=some o) (hn:H it=none) (hL:it≠X.env.locals)
  (h1:it∈X.ex\/X.s₀.heap.objs.size<=it) (h2:∀x c,X.env.cells.lookup x=some c->c≠it) (h3:∀p∈X.pn++pins,p.1≠it):Inv X pins σ H { s with heap:=h',toks:=t' }:=by
 have nit:∀b u,H b=some u->b≠it:=λb u e z=>by rw[z,hn]at e;cases e
 refine I.step (g':=s.gens) (d':=s.drawn) (ch:=[it]) (λb hb=>?_) (λb o _ _ hc e _=>k b o (λz=>hc (by simp [z])) e) (λb o _ _ hc e _=>⟨o.slots,k b o (λz=>hc (by simp [z])) e⟩) (λ_ _ _ _ n=>n)
  (λb o hc e=>⟨o,k b o (λz=>hc (by simp [z])) e⟩) (λ_ _ e=>e) (λ_ _ _ e=>e) (λb ps e=>⟨#[],by rw[e];simp⟩) (λm hm=>?_) (λb u e=>?_) I.bare
 ·have e:b=it:=by simpa using hb
  subst e;exact ⟨h1,hL,h2,h3⟩
 ·obtain ⟨o,es,ep,ho,r⟩:=hm;exact ⟨o,es,ep,k _ o (Ne.symm hL) ho,r⟩
 ·refine (I.hok b u e).stay (λc v hc q=>k c v ?_ q) (λ_ q=>q) λ_ _ q=>q;rcases hc with z|z
  ·rw[z];exact nit b u e
  ·exact nit c _ z
theorem Inv.tok (I:Inv X pins σ H s)(t:Nat):Inv X pins σ H { s with toks:=t }:=I.un (h':=s.heap) (t':=t) Un.refl I.hok
theorem Inv.kept {t':Nat}(I:Inv X pins σ H s)(k:∀b u,s.heap.get? b=some u->h'.get? b=some u):Inv X pins σ H { s with heap:=h',toks:=t' }:=I.un (Un.kept k) (I.hok.kept k)
theorem Inv.laid {a:Addr}{o:HO}{t':Nat}(I:Inv X pins σ H s) (k:∀b u,s.heap.get? b=some u->h'.get? b=some u) (hp:s.heap.objs.size<=a) (new:ObjOk X.prog X.w (upd H a o) h' a o) :
  Inv X pins σ (upd H a o) { s with heap:=h',toks:=t' }:=I.un (Un.laid k hp (I.hok.fresh hp)) (I.hok.laid k hp new)
theorem Inv.write {x e:Addr}{o:HO}{t':Nat}(I:Inv X pins σ H s) (mu:Mut (H x)) (he:e=x\/H e=some (.own x)) (k:∀b u,b≠e->s.heap.get? b=some u->h'.get? b=some u) (heo:∃u,h'.get? e=some u)
  (new:ObjOk X.prog X.w (upd H x o) h' x o):Inv X pins σ (upd H x o) { s with heap:=h',toks:=t' }:=I.un (Un.write mu he k heo) (I.hok.write mu he k heo new)
theorem Inv.weak {σ':List (Option V)}(I:Inv X pins σ H s) (hl:σ'.length=σ.length) (w:∀(i:Nat) v,σ'[i]?=some (some v)->σ[i]?=some (some v)):Inv X pins σ' H s:=
 ⟨I.ok,I.os,I.bare,I.base,let ⟨m,hn,hl'⟩:=I.loc;⟨m,hn,λi x v e1 e2 e3=>hl' i x v e1 (w i v e2) e3⟩,I.cell,I.free,I.freeC,I.pin,I.hok,hl.trans I.len⟩
theorem Inv.pins_of {pins':List (Addr×Obj)}(I:Inv X pins σ H s) (h:∀p∈pins',s.heap.get? p.1=some p.2/\H p.1=none/\p.1≠X.env.locals/\p.1∉X.fs/\∀v,p.2.data≠.cell v):Inv X pins' σ H s:=
 ⟨I.ok,I.os,I.bare,I.base,I.loc,I.cell,I.free,I.freeC,λp hp=>(qE4.mp hp).elim (λz=>I.pin p (qG1 _ z)) (h p),I.hok,I.len⟩
theorem kC {N:List Str}(hN:N.Nodup){i j:Nat}{x:Str}(a:N[i]?=some x) (b:N[j]?=some x):i=j:=by
 obtain ⟨h1,e1⟩:=qB0.mp a;obtain ⟨h2,e2⟩:=qB0.mp b;exact (List.getElem_inj hN).mp (e1.trans e2.symm)
theorem ir {M:Model}{A:Around}{E:Value->Shared->Prop}{i:Nat}{x:Str}{v:V}{u:Value}{Q:Unit->Shared->Prop}(I:Inv X pins σ H s) (hN:X.N.Nodup) (hi:X.N[i]?=some x) (hx:Loc X.env.scope x) (r:RelV v u)
  (h:∀s',Inv X pins (σ.set i (some v)) H s'->(∃a,Heap.SameBut a s.heap s'.heap/\(a=X.env.locals\/X.env.cells.lookup x=some a))->Q () s') (hf:X.fn x=true\/X.env.scope.names.lookup x=some .local:=by first|exact .inl rfl|exact .inr rfl|assumption):wpAny M A (storeName X.env x u) Q E s:=by
 obtain ⟨m,hn,hl⟩:=id I.loc;have hcls:(X.env.scope.kind == .class||(X.env.scope.kind == .module&&X.env.locals != X.env.globals))=false:=by rw[I.ok.kind];rfl
 have hiσ:i<σ.length:=by rw[I.len];exact (qB0.mp hi).1
 have cne:=I.cne;have tracked:∀{a:Addr}{h':Heap},(∃o,s.heap.get? a=some o/\H a=none)->Heap.SameBut a s.heap h'->HOk X.prog X.w H h':=λ{a h'} ha hs b ob e=>by
  obtain ⟨_,_,hfree⟩:=ha;refine (I.hok b ob e).stay (λc w' hc q=>(hs.2 c ?_).trans q) (λ_ q=>q) λ_ _ q=>q;rintro rfl;rcases hc with rfl|hc
  ·rw[hfree]at e;cases e
  ·rw[hfree]at hc;cases hc
 rcases hx with hk|hk
 ·refine wpAny_storeName_local hk hn (λh' hn' hs=>?_) hcls;obtain ⟨oL,_,_,hoL,_⟩:=id hn;refine h _ ⟨I.ok,I.os,I.bare,⟨λb o e n hb hx=>?_,λb o e n hb hx=>?_,I.base.free,λb o e hx=>?_,I.base.tups,I.base.frzs,I.base.tbls⟩,⟨_,hn',λj y v' e1 e2 e3=>?_⟩,λy c e=>?_,I.free,I.freeC,λp hp=>?_,tracked ⟨oL,hoL,I.free⟩ hs,by simpa using I.len⟩ ⟨_,hs,.inl rfl⟩
  ·exact (hs.2 b (qD2 (qB7 (qB4 e) I.ok.above))).trans (I.base.keep b o e n hb hx)
  ·obtain ⟨sl,e1⟩:=I.base.slot b o e n hb hx;exact ⟨sl,(hs.2 b (qD2 (qB7 (qB4 e) I.ok.above))).trans e1⟩
  ·obtain ⟨o',e1⟩:=I.base.there b o e hx;exact ⟨o',(hs.2 b (qD2 (qB7 (qB4 e) I.ok.above))).trans e1⟩
  ·by_cases hj:j=i
   ·subst hj;rw[hi]at e1;cases e1;rw[qF2 hiσ]at e2;cases e2;exact ⟨u,r,.inl ⟨hk,by simp⟩⟩
   ·rw [qC0 (Ne.symm hj)]at e2
    obtain ⟨u',r',q⟩:=hl j y v' e1 e2 e3;refine ⟨u',r',?_⟩;rcases q with ⟨k,e⟩|⟨k,c,e,z⟩
    ·refine .inl ⟨k,?_⟩
     have:y≠x:=λe=>hj (kC hN e1 (e ▸ hi))
     simp [this,e]
    ·exact .inr ⟨k,c,e,z.sameBut hs (cne y c e)⟩
  ·obtain ⟨w',z⟩:=I.cell y c e;exact ⟨w',z.sameBut hs (cne y c e)⟩
  ·obtain ⟨e,n,ne,nf,d⟩:=I.pin p hp;exact ⟨(hs.2 p.1 ne).trans e,n,ne,nf,d⟩
 ·have hfn:X.fn x=true:=by
   rcases hf with z|z
   ·exact z
   ·rw[z]at hk;cases hk
  obtain ⟨c,hc⟩:=I.ok.has x (.inl hk);obtain ⟨w',z⟩:=I.cell x c hc;refine wpAny_storeName_cell I.ok.kind hk hc z (λh' hc' hs=>?_);obtain ⟨oc,hoc,hocd⟩:=id z;refine h { s with heap:=h' } ⟨I.ok,I.os,I.bare,⟨λb o e n hb hx=>?_,λb o e n hb hx=>?_,I.base.free,λb o e hx=>?_,I.base.tups,I.base.frzs,I.base.tbls⟩,⟨m,hn.sameBut hs (Ne.symm (cne x c hc)),λj y v' e1 e2 e3=>?_⟩,λy c' e=>?_,I.free,I.freeC,λp hp=>?_,tracked ⟨oc,hoc,I.freeC x c hc⟩ hs,by simpa using I.len⟩ ⟨c,hs,.inr hc⟩
  ·exact (hs.2 b (qD2 (qB7 (qB4 e) (I.ok.cab x c hfn hc)))).trans (I.base.keep b o e n hb hx)
  ·obtain ⟨sl,e1⟩:=I.base.slot b o e n hb hx;exact ⟨sl,(hs.2 b (qD2 (qB7 (qB4 e) (I.ok.cab x c hfn hc)))).trans e1⟩
  ·obtain ⟨o',e1⟩:=I.base.there b o e hx;exact ⟨o',(hs.2 b (qD2 (qB7 (qB4 e) (I.ok.cab x c hfn hc)))).trans e1⟩
  ·by_cases hj:j=i
   ·subst hj;rw[hi]at e1;cases e1;rw[qF2 hiσ]at e2;cases e2;exact ⟨u,r,.inr ⟨.inl hk,c,hc,hc'⟩⟩
   ·rw [qC0 (Ne.symm hj)]at e2
    obtain ⟨u',r',q⟩:=hl j y v' e1 e2 e3;refine ⟨u',r',?_⟩;rcases q with q|⟨k,c',e,z'⟩
    ·exact .inl q
    ·refine .inr ⟨k,c',e,z'.sameBut hs ?_⟩;rintro rfl;exact hj (kC hN e1 (I.ok.inj _ _ _ e hc ▸ hi))
  ·by_cases hcc:c'=c
   ·subst hcc;exact ⟨_,hc'⟩
   ·obtain ⟨w2,z2⟩:=I.cell y c' e;exact ⟨w2,z2.sameBut hs hcc⟩
  ·obtain ⟨e,n,ne,nf,d⟩:=I.pin p hp;refine ⟨(hs.2 p.1 ?_).trans e,n,ne,nf,d⟩;intro q;rw[q,hoc]at e;have q':oc=p.2:=Option.some.inj e;exact d w' (by rw[<- q'];exact hocd)
theorem dX {M:Model}{A:Around}{E:Value->Shared->Prop}{i:Nat}{x:Str}{v:V}{u:Value}{Q:Unit->Shared->Prop}(I:Inv X pins σ H s) (hN:X.N.Nodup) (hi:X.N[i]?=some x) (hx:Loc X.env.scope x) (r:RelV v u)
  (h:∀s',Inv X pins (σ.set i (some v)) H s'->Q () s') (hf:X.fn x=true\/X.env.scope.names.lookup x=some .local:=by first|exact .inl rfl|exact .inr rfl|assumption):wpAny M A (storeName X.env x u) Q E s:=
 ir I hN hi hx r (λs' I' _=>h s' I') hf
theorem Inv.call' {s':Shared}{ch:List Addr}(I:Inv X pins σ H s) (ho:s'.os=s.os) (u:Un (frs X.stack) ch H H' s.heap s'.heap) (hok:HOk X.prog X.w H' s'.heap) (hg:AllBare s'.gens)
  (hch:∀b∈ch,(b∈X.ex\/X.s₀.heap.objs.size<=b)/\b≠X.env.locals/\(∀x c,X.env.cells.lookup x=some c->c≠b)/\∀p∈X.pn++pins,p.1≠b):Inv X pins σ H' s':=by
 obtain ⟨h',g',d',t',o'⟩:=s';have e:o'=s.os:=ho;subst e;exact I.call (g':=g') (t':=t') (d':=d') u hok hg hch
end
abbrev XK:=Value->Option Addr->Hp->Prop
abbrev St:=List (Option V)
abbrev VK:=V->Hp->Prop
abbrev TE:=St->Hp->VK->Prop
abbrev TT:=St->Hp->(Bool->Hp->Prop)->Prop
abbrev TA:=St->Hp->(List V->Hp->Prop)->Prop
structure Ends where
 nx:St->Hp->Prop
 rt:VK
 bk:St->Hp->Prop:=λ_ _=>False
 ct:St->Hp->Prop:=λ_ _=>False
abbrev TS:=Ends->St->Hp->Prop
def EP (X:Cx)(pins:List (Addr×Obj))(σ:St)(Q:VK)(u:Value)(s':Shared):Prop:=∃v H',Inv X pins σ H' s'/\RelV v u/\Q v H'
def TP (X:Cx)(pins:List (Addr×Obj))(σ:St)(Q:Bool->Hp->Prop)(b:Bool)(s':Shared):Prop:=∃H',Inv X pins σ H' s'/\Q b H'
def AP (X:Cx)(pins:List (Addr×Obj))(σ:St)(Q:List V->Hp->Prop)(us:List Value)(s':Shared):Prop:=∃vs H',Inv X pins σ H' s'/\Vals vs us/\Q vs H'
def SP (X:Cx) (pins:List (Addr×Obj)) (D:Ends) (f:Flow) (s':Shared):Prop:=
 match f with
 | .next=>∃σ' H',Inv X pins σ' H' s'/\D.nx σ' H'
 | .brk=>∃σ' H',Inv X pins σ' H' s'/\D.bk σ' H'
 | .cont=>∃σ' H',Inv X pins σ' H' s'/\D.ct σ' H'
 | .ret u=>∃v σ' H',Inv X pins σ' H' s'/\RelV v u/\D.rt v H'
def PE (X:Cx) (e:Expr) (t:TE):Prop:=
 ∀(pins:List (Addr×Obj)) (s:Shared) (σ:St) (H:Hp) (Q:VK),Inv X pins σ H s->t σ H Q->wpAny (model X.prog X.w) X.A (eval e X.env) (EP X pins σ Q) X.xe s
def PT (X:Cx) (e:Expr) (t:TT):Prop:=
 ∀(pins:List (Addr×Obj)) (s:Shared) (σ:St) (H:Hp) (Q:Bool->Hp->Prop),Inv X pins σ H s->t σ H Q->wpAny (model X.prog X.w) X.A (isTrue e X.env (eval e X.env)) (TP X pins σ Q) X.xe s
def PW (X:Cx) (e:Expr) (t:TT):Prop:=
 ∀(whole:Sem Value) (pins:List (Addr×Obj)) (s:Shared) (σ:St) (H:Hp) (Q:Bool->Hp->Prop),Inv X pins σ H s->t σ H Q->wpAny (model X.prog X.w) X.A (isTrue e X.env whole) (TP X pins σ Q) X.xe s
theorem PW.pt {X:Cx}{e:Expr}{t:TT}(h:PW X e t):PT X e t:=h _
def PA (X:Cx) (es:List Expr) (t:TA):Prop:=
 ∀(pos:Pos) (pins:List (Addr×Obj)) (s:Shared) (σ:St) (H:Hp) (Q:List V->Hp->Prop),Inv X pins σ H s->t σ H Q->wpAny (model X.prog X.w) X.A (spliced (backTo pos (starEach es X.env))) (AP X pins σ Q) X.xe s
def PS (X:Cx) (st:Stmt) (t:TS):Prop:=
 ∀(pins:List (Addr×Obj)) (s:Shared) (σ:St) (H:Hp) (D:Ends),Inv X pins σ H s->t D σ H->wpAny (model X.prog X.w) X.A (exec st X.env) (SP X pins D) X.xe s
def PSs (X:Cx) (st:List Stmt) (t:TS):Prop:=
 ∀(pins:List (Addr×Obj)) (s:Shared) (σ:St) (H:Hp) (D:Ends),Inv X pins σ H s->t D σ H->wpAny (model X.prog X.w) X.A (execs st X.env) (SP X pins D) X.xe s
theorem thn {α:Type}{t:Sem α}{Q Q':α->Shared->Prop}{M:Model}{A:Around}{E:Value->Shared->Prop}{s:Shared}(h:wpAny M A t Q E s)(hQ:∀a s,Q a s->Q' a s):wpAny M A t Q' E s:=wpAny_mono h hQ λ_ _ x=>x
end L2
namespace L2
open PySem PySem.Spec PyProof.Rows
section
variable {X:Cx}
def V6 (i:Nat):TE:=λσ H Q=>∃v,σ[i]?=some (some v)/\Q v H
def tC (v:V):TE:=λ_ H Q=>Q v H
theorem S6 {i:Nat}{x:Str}{pos:Pos}(hN:X.N[i]?=some x) (hv:Vis X.env.scope x) (hd:(x == ("__debug__" : Str))=false:=by decide) (hcd:(x == ("__classdict__" : Str))=false:=by decide):PE X (.Name x pos) (V6 i):=by
 intro pins s σ H Q I h;obtain ⟨v,e,h⟩:=h;obtain ⟨m,hn,hl⟩:=I.loc;obtain ⟨u,r,l⟩:=hl i x v hN e hv;have fin:EP X pins σ Q u s:=⟨v,H,I,r,h⟩;rcases l with ⟨hk,hm⟩|⟨hk,c,hc,hcell⟩
 ·exact wpAny_Name (wpAny_loadName_local I.ok.kind hk hn hm fin) hd
 ·rcases hk with hk|hk
  ·exact wpAny_Name (wpAny_loadName_cell I.ok.kind hk hc hcell fin) hd
  ·exact wpAny_Name (wpAny_loadName_free I.ok.kind hk hc hcell fin hcd) hd
theorem pe_int {i j pos}:PE X (.Constant (.int i) j pos) (tC (.int i)):=λ_ _ _ H _ I h=>wpAny_Constant_int ⟨.int i,H,I.tok _,⟨_,rfl⟩,h⟩
theorem pe_bl {b j pos}:PE X (.Constant (.bool b) j pos) (tC (.bl b)):=λ_ _ _ H _ I h=>Constant_bool ⟨.bl b,H,I,rfl,h⟩
theorem pe_non {j pos}:PE X (.Constant .none j pos) (tC .non):=λ_ _ _ H _ I h=>Constant_none ⟨.non,H,I,rfl,h⟩
theorem pe_str {x j pos}:PE X (.Constant (.str x) j pos) (tC (.str x)):=λ_ _ _ H _ I h=>Calls.Constant_str ⟨.str x,H,I.tok _,⟨_,rfl⟩,h⟩
def Gl (X:Cx)(x:Str):Prop:=X.env.kindOf x=some .globalImplicit
theorem nk {E:Value->Shared->Prop}{pins:List (Addr×Obj)}{s:Shared}{σ:St}{H:Hp}{x:Str}{u:Value}{pos:Pos}{Q:Value->Shared->Prop}(I:Inv X pins σ H s) (hg:Gl X x) (hm:X.mg x=some u) (h:Q u s)
  (hd:(x == ("__debug__" : Str))=false:=by decide):wpAny (model X.prog X.w) X.A (eval (.Name x pos) X.env) Q E s:=
 Calls.Name_function_global I.ok.kind hg (Calls.loadGlobal_global (by rw[I.ok.glob];exact I.mod.glob.keeps I.bk) hm h) hd
theorem O9 {E:Value->Shared->Prop}{pins:List (Addr×Obj)}{s:Shared}{σ:St}{H:Hp}{x:Str}{u:Value}{pos:Pos}{Q:Value->Shared->Prop}(I:Inv X pins σ H s) (hg:Gl X x) (hm:X.mg x=none) (hv:bootBuiltins x=some u) (h:Q u s)
  (hn:x ≠ "__name__" := by decide) (hd:(x == ("__debug__" : Str))=false:=by decide):wpAny (model X.prog X.w) X.A (eval (.Name x pos) X.env) Q E s:=by
 obtain ⟨mb,h1,h2⟩:=I.mod.blt;exact Calls.Name_function_global I.ok.kind hg (Calls.loadGlobal_builtin (by rw[I.ok.glob];exact I.mod.glob.keeps I.bk) hm (by rw[I.ok.blt];exact h1.keeps I.bk) ((h2 x hn).trans hv) h) hd
variable {a b:Expr}{ta tb:TE}{pos:Pos}
def tB (t:TE):TT:=λσ H Q=>t σ H λx H1=>∃c,x=.bl c/\Q c H1
theorem Cd {e:Expr}{t:TE}(h:PE X e t) (he:∀whole,isTrue e X.env whole=(do let v <- whole;standAt e.pos;holding [v] (truthy v)):=by intro _;rfl):PT X e (tB t):=by
 intro pins s σ H Q I hw;refine isTrue_plain (thn (h pins s σ H _ I hw) λv s1 zz2=>?_) (he _);obtain ⟨x,H1,I1,r1,q1⟩:=zz2;obtain ⟨d,rfl,q⟩:=q1;cases r1;exact wpAny_truthy_bool ⟨H1,I1,q⟩
variable {tA tB':TT}{rest:List Expr}
def AI (t u:TT):TT:=λσ H Q=>t σ H λc H1=>if c=true then u σ H1 Q else Q false H1
def tOr (t u:TT):TT:=λσ H Q=>t σ H λc H1=>if c=true then Q true H1 else u σ H1 Q
def AD (t:TT):TT:=λσ H Q=>t σ H λc H1=>Q (!c) H1
theorem xU (ha:PT X a tA):PW X (.BoolOp .And [a] pos) tA:=by
 intro wh pins s σ H Q I h;refine isTrue_and (thn (ha pins s σ H Q I h) λc s1 e=>?_);cases c with
 |true=>exact isTrue_and_nil e
 |false=>exact e
theorem Cb (ha:PT X a tA):PW X (.BoolOp .Or [a] pos) tA:=by
 intro wh pins s σ H Q I h;refine isTrue_or (thn (ha pins s σ H Q I h) λc s1 e=>?_);cases c with
 |false=>exact isTrue_or_nil e
 |true=>exact e
theorem Cc (ha:PT X a tA) (hb:PW X (.BoolOp .And (b::rest) pos) tB'):PW X (.BoolOp .And (a::b::rest) pos) (AI tA tB'):=by
 intro wh pins s σ H Q I h;refine isTrue_and (thn (ha pins s σ H _ I h) λc s1 zz3=>?_);obtain ⟨H1,I1,q1⟩:=zz3;cases c with
 |true=>exact hb wh pins s1 σ H1 Q I1 q1
 |false=>exact ⟨H1,I1,q1⟩
theorem FB (ha:PT X a tA) (hb:PW X (.BoolOp .Or (b::rest) pos) tB'):PW X (.BoolOp .Or (a::b::rest) pos) (tOr tA tB'):=by
 intro wh pins s σ H Q I h;refine isTrue_or (thn (ha pins s σ H _ I h) λc s1 zz4=>?_);obtain ⟨H1,I1,q1⟩:=zz4;cases c with
 |true=>exact ⟨H1,I1,q1⟩
 |false=>exact hb wh pins s1 σ H1 Q I1 q1
theorem Ce (ha:PT X a tA):PT X (.UnaryOp .Not a pos) (AD tA):=by
 intro pins s σ H Q I h;exact isTrue_not (ha pins s σ H (λc H1=>Q (!c) H1) I h)
def wt (ta tb:TE):TE:=λσ H Q=>ta σ H λx H1=>∃c,x=.bl c/\if c=true then tb σ H1 Q else Q (.bl false) H1
def AC (ta tb:TE):TE:=λσ H Q=>ta σ H λx H1=>∃c,x=.bl c/\if c=true then Q (.bl true) H1 else tb σ H1 Q
def wo (ta:TE):TE:=λσ H Q=>ta σ H λx H1=>∃c,x=.bl c/\Q (.bl (!c)) H1
theorem Cp {op}{t:TE}(h:PE X a t):PE X (.BoolOp op [a] pos) t:=λpins s σ H Q I hw=>BoolOp_one (h pins s σ H Q I hw)
theorem Ct (ha:PE X a ta) (hb:PE X (.BoolOp .And (b::rest) pos) tb):PE X (.BoolOp .And (a::b::rest) pos) (wt ta tb):=by
 intro pins s σ H Q I h;refine BoolOp_and (thn (ha pins s σ H _ I h) λv s1 zz5=>?_);obtain ⟨x,H1,I1,r1,q1⟩:=zz5;obtain ⟨c,rfl,q1⟩:=q1;cases r1;refine wpAny_truthy_bool ?_;cases c with
 |true=>exact hb pins s1 σ H1 Q I1 q1
 |false=>exact ⟨.bl false,H1,I1,rfl,q1⟩
theorem FJ (ha:PE X a ta) (hb:PE X (.BoolOp .Or (b::rest) pos) tb):PE X (.BoolOp .Or (a::b::rest) pos) (AC ta tb):=by
 intro pins s σ H Q I h;refine BoolOp_or (thn (ha pins s σ H _ I h) λv s1 zz6=>?_);obtain ⟨x,H1,I1,r1,q1⟩:=zz6;obtain ⟨c,rfl,q1⟩:=q1;cases r1;refine wpAny_truthy_bool ?_;cases c with
 |false=>exact hb pins s1 σ H1 Q I1 q1
 |true=>exact ⟨.bl true,H1,I1,rfl,q1⟩
theorem Cq (ha:PE X a ta):PE X (.UnaryOp .Not a pos) (wo ta):=by
 intro pins s σ H Q I h;refine UnaryOp_ (thn (ha pins s σ H _ I h) λv s1 zz7=>?_);obtain ⟨x,H1,I1,r1,q1⟩:=zz7;obtain ⟨c,rfl,q1⟩:=q1;cases r1;exact not_of (wpAny_truthy_bool ⟨.bl (!c),H1,I1,rfl,q1⟩)
def tIf (t:TT)(ta tb:TE):TE:=λσ H Q=>t σ H λc H1=>if c=true then ta σ H1 Q else tb σ H1 Q
theorem uI {c:Expr}(hc:PT X c tA) (ha:PE X a ta) (hb:PE X b tb):PE X (.IfExp c a b pos) (tIf tA ta tb):=by
 intro pins s σ H Q I h;refine wpAny_IfExp (thn (hc pins s σ H _ I h) λd s1 zz8=>?_);obtain ⟨H1,I1,q1⟩:=zz8;cases d with
 |true=>exact ha pins s1 σ H1 Q I1 q1
 |false=>exact hb pins s1 σ H1 Q I1 q1
end
end L2
namespace L2
open PySem PySem.Spec PyProof.Rows
def SqL (K:Frag) (H:Hp) (a:Addr) (xs:List V):Prop:=
 Rd H a (.lst xs) \/
  ∃(o:Obj) (its:Array Value) (n:Nat),K.lookup a=some o/\o.cls=.type "list" /\ o.dict=none/\o.data=.seq its n/\its.size<=sizeLine/\Vals xs its.toList
def SqT (K:Frag) (H:Hp) (a:Addr) (xs:List V):Prop:=
 Rd H a (.tup xs) \/
  ∃(o:Obj) (its:Array Value) (n:Nat),K.lookup a=some o/\o.cls=.type "tuple" /\ o.data=.seq its n/\its.size<=sizeLine/\Vals xs its.toList
def absV:Value->Option V
 | .none=>some .non
 | .bool b=>some (.bl b)
 | .int i _=>some (.int i)
 | .str x _=>some (.str x)
 | .bytes b _=>some (.byt b)
 | .float b _=>some (.flt b)
 | .ref a=>some (.ref a)
 | .type n=>some (.ty n)
 |_=>none
theorem RelV.abs {x:V}{u:Value}(r:RelV x u):absV u=some x:=by
 cases x with
 |non=>cases r;rfl
 |bl _=>cases r;rfl
 |int _=>obtain ⟨t,rfl⟩:=r;rfl
 |str _=>obtain ⟨t,rfl⟩:=r;rfl
 |byt _=>obtain ⟨t,rfl⟩:=r;rfl
 |flt _=>obtain ⟨t,rfl⟩:=r;rfl
 |ref _=>cases r;rfl
 |ty _=>cases r;rfl
theorem RelV.inj {x y:V}{u:Value}(r:RelV x u)(q:RelV y u):x=y:=Option.some.inj (r.abs.symm.trans q.abs)
theorem Vals.inj:∀{xs ys:List V}{us:List Value},Vals xs us->Vals ys us->xs=ys:=by
 intro xs ys us a
 induction a generalizing ys with
 |nil=>intro b;cases b;rfl
 | cons r t ih=>
  intro b;cases b with
  |cons r' t'=>rw[r.inj r',ih t']
section
variable {X:Cx}{pins:List (Addr×Obj)}{σ:St}{H:Hp}{s:Shared}{a:Addr}{xs ys:List V}
theorem SqL.of {K:Frag}(h:H a=some (.lst xs)):SqL K H a xs:=.inl (.inl h)
theorem SqT.of {K:Frag}(h:H a=some (.tup xs)):SqT K H a xs:=.inl (.inl h)
theorem Inv.list (I:Inv X pins σ H s) (h:SqL X.K H a xs):∃its:List Value,Vals xs its/\PlainL s.heap a its.toArray/\xs.length<=sizeLine:=by
 rcases h with h|⟨o,its,n,hk,hc,hd,hs,hz,r⟩
 ·obtain ⟨z,its,n,r,e⟩:=h.ok I.hok;exact ⟨its,r,⟨_,n,e,rfl,rfl,rfl⟩,z⟩
 ·refine ⟨its.toList,r,⟨o,n,I.kIn a o hk,hc,hd,by simpa using hs⟩,?_⟩;have e:=r.length;simp only [Array.length_toList]at e;omega
theorem Inv.tuple (I:Inv X pins σ H s) (h:SqT X.K H a xs):∃its:List Value,Vals xs its/\IsTup s.heap a its.toArray/\xs.length<=sizeLine:=by
 rcases h with h|⟨o,its,n,hk,hc,hs,hz,r⟩
 ·obtain ⟨z,its,r,p⟩:=h.ok I.hok;exact ⟨its,r,p,z⟩
 ·refine ⟨its.toList,r,⟨o,I.kIn a o hk,hc,n,by simpa using hs⟩,?_⟩;have e:=r.length;simp only [Array.length_toList]at e;omega
theorem Inv.list_inj (I:Inv X pins σ H s) (h:SqL X.K H a xs) (h':SqL X.K H a ys):xs=ys:=by
 obtain ⟨its,r,⟨o,n,e,_,_,d⟩,_⟩:=I.list h;obtain ⟨its',r',⟨o',n',e',_,_,d'⟩,_⟩:=I.list h';rw[e]at e';cases e';rw[d]at d';injection d' with d1 _
 have:its=its':=by simpa using congrArg Array.toList d1
 subst this;exact r.inj r'
theorem Inv.tuple_inj (I:Inv X pins σ H s) (h:SqT X.K H a xs) (h':SqT X.K H a ys):xs=ys:=by
 obtain ⟨its,r,⟨o,e,_,n,d⟩,_⟩:=I.tuple h;obtain ⟨its',r',⟨o',e',_,n',d'⟩,_⟩:=I.tuple h';rw[e]at e';cases e';rw[d]at d';injection d' with d1 _
 have:its=its':=by simpa using congrArg Array.toList d1
 subst this;exact r.inj r'
end
abbrev Cx.wish (X:Cx)(E:Value->Shared->Prop):Cx:={ X with xe:=E }
abbrev Cx.nox (X:Cx):Cx:=X.wish λ_ _=>False
theorem Cx.Ok.wish {X:Cx}(ok:X.Ok) (E:Value->Shared->Prop):(X.wish E).Ok:=
 ⟨ok.mod,ok.kind,ok.glob,ok.blt,ok.above,ok.inj,ok.has,ok.cab,ok.hd,ok.frames,ok.stk,ok.exf,ok.bs,ok.bsz,ok.noex,ok.exfs,ok.funs,ok.frf⟩
theorem Cx.Ok.unwish {X:Cx}{E:Value->Shared->Prop}(ok:(X.wish E).Ok):X.Ok:=
 ⟨ok.mod,ok.kind,ok.glob,ok.blt,ok.above,ok.inj,ok.has,ok.cab,ok.hd,ok.frames,ok.stk,ok.exf,ok.bs,ok.bsz,ok.noex,ok.exfs,ok.funs,ok.frf⟩
section
variable {X:Cx}{pins:List (Addr×Obj)}{σ:St}{H:Hp}{s:Shared}{E:Value->Shared->Prop}
theorem Inv.wish (I:Inv X pins σ H s)(E:Value->Shared->Prop):Inv (X.wish E) pins σ H s:=⟨I.ok.wish E,I.os,I.bare,I.base,I.loc,I.cell,I.free,I.freeC,I.pin,I.hok,I.len⟩
theorem Inv.unwish (I:Inv (X.wish E) pins σ H s):Inv X pins σ H s:=⟨I.ok.unwish,I.os,I.bare,I.base,I.loc,I.cell,I.free,I.freeC,I.pin,I.hok,I.len⟩
theorem SP.unwish {D:Ends}{f:Flow}{s':Shared}(h:SP (X.wish E) pins D f s'):SP X pins D f s':=by
 cases f with
 |next=>obtain ⟨σ',H',I,q⟩:=h;exact ⟨σ',H',I.unwish,q⟩
 |brk=>obtain ⟨σ',H',I,q⟩:=h;exact ⟨σ',H',I.unwish,q⟩
 |cont=>obtain ⟨σ',H',I,q⟩:=h;exact ⟨σ',H',I.unwish,q⟩
 |ret u=>obtain ⟨v,σ',H',I,r,q⟩:=h;exact ⟨v,σ',H',I.unwish,r,q⟩
theorem PSs.nox {st:List Stmt}{t:TS}(h:PSs X.nox st t):PSs X st t:=λpins s σ H D I hw=>
 wpAny_mono (h pins s σ H D (I.wish _) hw) (λ_ _ q=>q.unwish) λ_ _ z=>False.elim z
end
section
variable {X:Cx}{st:Stmt}{rest:List Stmt}{t u:TS}{e:Expr}{te:TE}{pos:Pos}
def tNext:TS:=λD σ H=>D.nx σ H
def tR (t u:TS):TS:=λD σ H=>t { D with nx:=u D } σ H
theorem pss_nil:PSs X [] tNext:=λ_ _ σ H _ I h=>wpAny_execs_nil ⟨σ,H,I,h⟩
theorem jX (h1:PS X st t) (h2:PSs X rest u):PSs X (st::rest) (tR t u):=by
 intro pins s σ H D I h;refine wpAny_execs_cons (thn (h1 pins s σ H { D with nx:=u D } I h) λf s1 q=>?_);cases f with
 | next=>
  obtain ⟨σ',H',I',q⟩:=q;exact h2 pins s1 σ' H' D I' q
 |ret v=>exact q
 |brk=>exact q
 |cont=>exact q
theorem mK (h1:PS X st t):PSs X [st] t:=by
 intro pins s σ H D I h;refine wpAny_execs_cons (thn (h1 pins s σ H D I h) λf s1 q=>?_);cases f with
 |next=>exact wpAny_execs_nil q
 |ret v=>exact q
 |brk=>exact q
 |cont=>exact q
theorem Inv.quiet {pins:List (Addr×Obj)}{σ:St}{H:Hp}{s:Shared}(I:Inv X pins σ H s):interactive X.env=false:=by simp [interactive,I.ok.kind]
def cY (te:TE):TS:=λD σ H=>te σ H λ_ H1=>D.nx σ H1
theorem au (he:PE X e te) (hs:swapsWith e none pos.line X.env=pure false:=by rfl):PS X (.Expr e pos) (cY te):=by
 intro pins s σ H D I h;exact wpAny_Expr_any (thn (he pins s σ H _ I h) λv s1 zz9=>by obtain ⟨x,H1,I1,r1,q1⟩:=zz9;exact ⟨σ,H1,I1,q1⟩) I.quiet hs
def nR (te:TE):TS:=λD σ H=>te σ H D.rt
theorem qG (he:PE X e te):PS X (.Return (some e) pos) (nR te):=by
 intro pins s σ H D I h;exact wpAny_Return_some (thn (he pins s σ H _ I h) λv s1 zz10=>by obtain ⟨x,H1,I1,r1,q1⟩:=zz10;exact ⟨x,σ,H1,I1,r1,q1⟩)
def tRetN:TS:=λD _ H=>D.rt .non H
theorem ps_retN:PS X (.Return none pos) tRetN:=λ_ _ σ H _ I h=>wpAny_Return_none ⟨.non,σ,H,I,rfl,h⟩
def tS (c:TT)(t u:TS):TS:=λD σ H=>c σ H λb H1=>if b=true then t D σ H1 else u D σ H1
theorem wD {c:Expr}{a b:List Stmt}{tc:TT}(hc:PT X c tc) (ha:PSs X a t) (hb:PSs X b u):PS X (.If c a b pos) (tS tc t u):=by
 intro pins s σ H D I h;refine wpAny_If (thn (hc pins s σ H _ I h) λd s1 zz11=>?_);obtain ⟨H1,I1,q1⟩:=zz11;cases d with
 |true=>exact ha pins s1 σ H1 D I1 q1
 |false=>exact hb pins s1 σ H1 D I1 q1
def tNever:TS:=λ_ _ _=>False
theorem ps_never:PS X st tNever:=λ_ _ _ _ _ _ h=>h.elim
end
abbrev TG:=V->St->Hp->(St->Hp->Prop)->Prop
abbrev TGs:=List V->St->Hp->(St->Hp->Prop)->Prop
def PG (X:Cx) (target:Expr) (t:TG):Prop:=
 ∀ (pins:List (Addr×Obj)) (s:Shared) (σ:St) (H:Hp) (v:V) (u:Value) (Q:St->Hp->Prop),Inv X pins σ H s->RelV v u->t v σ H Q ->
  wpAny (model X.prog X.w) X.A (assign target X.env u) (λ_ s'=>∃σ' H',Inv X pins σ' H' s'/\Q σ' H') X.xe s
def PGs (X:Cx) (ts:List Expr) (t:TGs):Prop:=
 ∀ (pins:List (Addr×Obj)) (s:Shared) (σ:St) (H:Hp) (vs:List V) (us:List Value) (Q:St->Hp->Prop),Inv X pins σ H s->Vals vs us->t vs σ H Q ->
  wpAny (model X.prog X.w) X.A (assignInOrder ((assignEach ts X.env).map (·.2)) us) (λ_ s'=>∃σ' H',Inv X pins σ' H' s'/\Q σ' H') X.xe s
abbrev TSet:=V->V->V->Hp->(Hp->Prop)->Prop
def Fk (X:Cx) (t:TSet):Prop:=
 ∀ (pins:List (Addr×Obj)) (s:Shared) (σ:St) (H:Hp) (o i v:V) (ov iv u:Value) (Q:Hp->Prop),Inv X pins σ H s->RelV o ov->RelV i iv->RelV v u->t o i v H Q ->
  wpAny (model X.prog X.w) X.A (setItem ov iv u) (λ_ s'=>∃H',Inv X pins σ H' s'/\Q H') X.xe s
abbrev TIp:=V->V->Hp->VK->Prop
def PIp (X:Cx) (op:Operator) (t:TIp):Prop:=
 ∀ (pins:List (Addr×Obj)) (s:Shared) (σ:St) (H:Hp) (x y:V) (v u:Value) (Q:VK),Inv X pins σ H s->RelV x v->RelV y u->t x y H Q ->
  wpAny (model X.prog X.w) X.A (inplaceOp op v u) (EP X pins σ Q) X.xe s
section
variable {X:Cx}{pos:Pos}
def P1 (i:Nat):TG:=λv σ H Q=>Q (σ.set i (some v)) H
theorem d6 {i:Nat}{x:Str}(hN:X.N.Nodup) (hi:X.N[i]?=some x) (hx:Loc X.env.scope x) (hf:X.fn x=true\/X.env.scope.names.lookup x=some .local:=by first|exact .inl rfl|exact .inr rfl|assumption):PG X (.Name x pos) (P1 i):=by
 intro pins s σ H v u Q I r h;exact wpAny_assign_Name (dX I hN hi hx r (λs' I'=>⟨_,H,I',h⟩) hf)
def gNil:TGs:=λvs σ H Q=>vs = []/\Q σ H
def oQ (t:TG)(u:TGs):TGs:=λvs σ H Q=>∃v r,vs=v::r/\t v σ H λσ' H'=>u r σ' H' Q
theorem B9:PGs X [] gNil:=by
 intro pins s σ H vs us Q I r h;obtain ⟨e,h⟩:=h;subst e;cases r;exact assignInOrder_nil ⟨σ,H,I,h⟩
theorem j8 {e:Expr}{es:List Expr}{t:TG}{u:TGs}(h1:PG X e t) (h2:PGs X es u)
  (hs:(assignEach (e::es) X.env).map (·.2)=assign e X.env::(assignEach es X.env).map (·.2):=by rfl):PGs X (e::es) (oQ t u):=by
 intro pins s σ H vs us Q I r h;obtain ⟨v,vr,e1,h⟩:=h;subst e1;cases r with
 | cons r rr=>
  rw[hs];refine assignInOrder_cons (thn (h1 pins s σ H _ _ _ I r h) λ_ s1 zz12=>?_);obtain ⟨σ1,H1,I1,q1⟩:=zz12;exact h2 pins s1 σ1 H1 _ _ Q I1 rr q1
def oP (K:Frag)(n:Nat)(t:TGs):TG:=λv σ H Q=>∃a xs,v=.ref a/\SqT K H a xs/\xs.length=n/\t xs σ H Q
theorem Cn {es:List Expr}{k:Nat}{t:TGs}{n:Nat}(hc:X.calm=true) (h:PGs X es t)
  (hn:(assignEach es X.env).length=n:=by rfl) (hst:(assignEach es X.env).findIdx? (·.1)=none:=by rfl):PG X (.Tuple es k pos) (oP X.K n t):=by
 intro pins s σ H v u Q I r hw;obtain ⟨a,xs,e1,hq,hl,hw⟩:=hw;subst e1;cases r;obtain ⟨its,rv,ht,hz⟩:=I.tuple hq;refine assign_Tuple_tuple (I.ok.hd hc) ht (by simp [hn,<- hl,rv.length]) hst λh' hx=>?_;have I1:Inv X pins σ H { s with heap:=h' }:=I.kept (t':=s.toks) λb o e=>hx b o (qD2 (qB4 e)) e;exact h pins _ σ H xs _ Q I1 (by simpa using rv) hw
def gSub (to ti:TE)(t:TSet):TG:=λv σ H Q=>to σ H λo H1=>ti σ H1 λi H2=>t o i v H2 λH3=>Q σ H3
theorem jY {o i:Expr}{to ti:TE}{t:TSet}(ho:PE X o to) (hi:PE X i ti) (hs:Fk X t)
  (ha:∀v,assign (.Subscript o i pos) X.env v=(do
   let ov <- holding [v] (eval o X.env)
   let iv <- holding [v,ov] (eval i X.env)
   standAt pos
   holding [v,ov,iv] (setItem ov iv v)
   release [v,ov,iv] []):=by intro _;rfl):PG X (.Subscript o i pos) (gSub to ti t):=by
 intro pins s σ H v u Q I r h;rw[ha];refine qA2 (wpAny_holding (thn (ho pins s σ H _ I h) λov s1 zz13=>?_));obtain ⟨x,H1,I1,r1,q1⟩:=zz13;refine qA2 (wpAny_holding (thn (hi pins s1 σ H1 _ I1 q1) λiv s2 zz14=>?_));obtain ⟨y,H2,I2,r2,q2⟩:=zz14;refine qA2 (wpAny_standAt (qA2 (wpAny_holding (thn (hs pins s2 σ H2 x y v ov iv u _ I2 r1 r2 r q2) λ_ s3 zz15=>?_))));obtain ⟨H3,I3,q3⟩:=zz15;exact wpAny_release ⟨σ,H3,I3,q3⟩
def bQ (te:TE)(g:TG):TS:=λD σ H=>te σ H λx H1=>g x σ H1 D.nx
theorem Ch {tg e:Expr}{te:TE}{g:TG}(he:PE X e te) (hg:PG X tg g) (hs:swapsWithSole [tg] e pos.line X.env=pure false:=by rfl) (hw:swappedStores [tg] e X.env=pure none:=by rfl)
  (h1:(assignEach [tg] X.env).map (·.2) = [assign tg X.env]:=by rfl):PS X (.Assign [tg] e pos) (bQ te g):=by
 intro pins s σ H D I h;refine wpAny_Assign_stores (thn (he pins s σ H _ I h) λv s1 zz16=>?_) hs hw;obtain ⟨x,H1,I1,r1,q1⟩:=zz16;rw[h1];exact thn (hg pins s1 σ H1 x v _ I1 r1 q1) λ_ s2 q=>q
theorem fg {i:Nat}{x:Str}{e:Expr}{te:TE}{pos':Pos}(hN:X.N.Nodup) (hi:X.N[i]?=some x) (hx:Loc X.env.scope x) (he:PE X e te) (hs:swapsWith e (some (.Name x pos')) pos.line X.env=pure false:=by rfl) (hf:X.fn x=true\/X.env.scope.names.lookup x=some .local:=by first|exact .inl rfl|exact .inr rfl|assumption) :
  PS X (.Assign [.Name x pos'] e pos) (bQ te (P1 i)):=by
 intro pins s σ H D I h;refine wpAny_Assign_Name (thn (he pins s σ H _ I h) λv s1 zz17=>?_) hs;obtain ⟨y,H1,I1,r1,q1⟩:=zz17;exact dX I1 hN hi hx r1 (λs2 I2=>⟨_,H1,I2,q1⟩) hf
def AH (i:Nat)(te:TE)(ti:TIp):TS:=λD σ H=>∃x,σ[i]?=some (some x)/\te σ H λy H1=>ti x y H1 λz H2=>D.nx (σ.set i (some z)) H2
theorem Cg {i:Nat}{x:Str}{e:Expr}{te:TE}{op:Operator}{ti:TIp}{pos':Pos}(hN:X.N.Nodup) (hi:X.N[i]?=some x) (hx:Loc X.env.scope x) (he:PE X e te) (ho:PIp X op ti) (hf:X.fn x=true\/X.env.scope.names.lookup x=some .local:=by first|exact .inl rfl|exact .inr rfl|assumption) :
  PS X (.AugAssign (.Name x pos') op e pos) (AH i te ti):=by
 intro pins s σ H D I h;obtain ⟨v,e1,h⟩:=h;obtain ⟨m,hn,hl⟩:=I.loc;have vis:Vis X.env.scope x:=by rcases hx with k|k;exact .inl k;exact .inr (.inl k)
 obtain ⟨u,r,l⟩:=hl i x v hi e1 vis;refine wpAny_AugAssign_Name ?_;have go:wpAny (model X.prog X.w) X.A (eval e X.env) (λw s₂=>wpAny (model X.prog X.w) X.A (inplaceOp op u w) (λr s₃=>wpAny (model X.prog X.w) X.A (storeName X.env x r) (λ_=>SP X pins D .next) X.xe s₃) X.xe s₂) X.xe s:=by
  refine thn (he pins s σ H _ I h) λw s1 zz18=>?_;obtain ⟨y,H1,I1,r1,q1⟩:=zz18;refine thn (ho pins s1 σ H1 v y u w _ I1 r r1 q1) λz s2 zz19=>?_;obtain ⟨zv,H2,I2,r2,q2⟩:=zz19;exact dX I2 hN hi hx r2 (λs3 I3=>⟨_,H2,I3,q2⟩) hf
 rcases l with ⟨hk,hm⟩|⟨hk,c,hc,hcell⟩
 ·exact wpAny_loadName_local I.ok.kind hk hn hm go
 ·rcases hk with hk|hk
  ·exact wpAny_loadName_cell I.ok.kind hk hc hcell go
  ·rcases hx with k|k
   ·have:X.env.scope.names.lookup x=some .free:=hk
    rw[k]at this;cases this
   ·have:X.env.scope.names.lookup x=some .free:=hk
    rw[k]at this;cases this
def ipI (f:Int->Int->Int):TIp:=λx y H Q=>∃i j,x=.int i/\y=.int j/\Q (.int (f i j)) H
theorem Dy:PIp X .Add (ipI λi j=>i+j):=by
 intro pins s σ H x y v u Q I r1 r2 h;obtain ⟨i,j,e1,e2,q⟩:=h;subst e1;subst e2;obtain ⟨t,rfl⟩:=r1;obtain ⟨t',rfl⟩:=r2;exact iadd_int ⟨.int _,H,I.tok _,⟨_,rfl⟩,q⟩
end
section
variable {X:Cx}{pos:Pos}
def pY (c:TT) (tb:TS):TS:=λD σ H=>∃W:Nat->St->Hp->Prop,(∃m,W m σ H)/\∀m σ H,W m σ H ->
 c σ H λb H1=>if b=true then ∃N:St->Hp->Prop,(∀σ' H',N σ' H'->∃m',m'<m/\W m' σ' H')/\tb { D with nx:=N,ct:=N,bk:=D.nx } σ H1 else D.nx σ H1
theorem uF {c:Expr}{body:List Stmt}{tc:TT}{tb:TS}(hp:PassesOwn (model X.prog X.w) X.A X.env X.xe) (hc:PT X c tc) (hb:PSs X body tb):PS X (.While c body [] pos) (pY tc tb):=by
 intro pins s σ H D I h;obtain ⟨W,⟨m0,w0⟩,turn⟩:=h;refine wpAny_While (codeAny_whileLoop (λn s'=>∃σ' H',Inv X pins σ' H' s'/\W n σ' H') ?_ m0 ⟨σ,H,I,w0⟩);rintro n s1 ⟨σ1,H1,I1,w1⟩;refine wpAny_passesOwn hp (thn (hc pins s1 σ1 H1 _ I1 (turn n σ1 H1 w1)) λb s2 zz20=>?_);obtain ⟨H2,I2,q2⟩:=zz20;cases b with
 | true=>
  obtain ⟨N,hN,q2⟩:=q2;rw[qA4 rfl];refine wpAny_passesOwn hp (thn (hb pins s2 σ1 H2 _ I2 q2) λf s3 q3=>?_);cases f with
  | next=>
   obtain ⟨σ3,H3,I3,n3⟩:=q3;obtain ⟨m',hm,w3⟩:=hN σ3 H3 n3;exact ⟨m',hm,σ3,H3,I3,w3⟩
  | cont=>
   obtain ⟨σ3,H3,I3,n3⟩:=q3;obtain ⟨m',hm,w3⟩:=hN σ3 H3 n3;exact ⟨m',hm,σ3,H3,I3,w3⟩
  |brk=>exact q3
  |ret v=>exact q3
 | false=>
  rw[qA6 qA5];exact wpAny_execs_nil ⟨σ1,H2,I2,q2⟩
end
structure It where
 go:Nat->Hp->Prop
 yld:Nat->Hp->V->Hp->Prop
 stop:Nat->Hp->Prop
def G9 (X:Cx) (pins:List (Addr×Obj)) (H:Hp) (b:Addr):Prop:=
 H b=none/\b≠X.env.locals/\b∉X.fs/\(b∈X.ex\/X.s₀.heap.objs.size<=b)/\(∀x c,X.env.cells.lookup x=some c->c≠b)/\∀p∈X.pn++pins,p.1≠b
theorem Inv.fpOk {X:Cx}{pins:List (Addr×Obj)}{σ:St}{H H':Hp}{s:Shared}{b:Addr}(I:Inv X pins σ H s) (hb:s.heap.objs.size<=b) (hn:H' b=none):G9 X pins H' b:=by
 refine ⟨hn,qJ2 (qB7 I.lt hb),I.nofs hb,.inr (qB8 I.sz hb),λx c e z=>?_,λp hp z=>?_⟩
 ·obtain ⟨v,q⟩:=I.cell x c e;exact absurd (qB7 q.lt (by rw[z];exact hb)) (qF1 _)
 ·exact absurd (qB7 (qB4 (I.pin p hp).1) (by rw[z];exact hb)) (qF1 _)
structure Turn (P:Program) (w:World) (K:Frag) (tg:Expr) (J:It) (fp:List Addr) (it:Addr) (tn:Nat->Heap->Prop):Prop where
 mem:it∈fp
 obj:∀i h,tn i h->∀b∈fp,∃o,h.get? b=some o/\∀v,o.data≠.cell v
 keep:∀i h h',tn i h->(∀b∈fp,∀o,h.get? b=some o->h'.get? b=some o)->tn i h'
 item:∀(X:Cx),X.prog=P->X.w=w->X.K=K->X.calm=true->∀(i:Nat) (pins:List (Addr×Obj)) (s:Shared) (σ:St) (H:Hp) (E:Value->Shared->Prop),Inv X pins σ H s->(∀b∈fp,G9 X pins H b)->tn i s.heap->J.go i H ->
  wpAny (model P w) X.A (pyNext (.ref it)) (λr s1=>∃u,r=some u /\
   wpAny (model P w) X.A (letOwnedTupleGo tg (.ref it) u) (λ_ s2=>∃x H',Inv X pins σ H' s2/\RelV x u/\J.yld i H x H'/\tn (i+1) s2.heap/\∀b∈fp,H' b=none) E s1) E s
 done:∀(X:Cx),X.prog=P->X.w=w->X.K=K->X.calm=true->∀(i:Nat) (pins:List (Addr×Obj)) (s:Shared) (σ:St) (H:Hp) (E:Value->Shared->Prop),Inv X pins σ H s->(∀b∈fp,G9 X pins H b)->tn i s.heap->J.stop i H ->
  wpAny (model P w) X.A (pyNext (.ref it)) (λr s1=>r=none/\Inv X pins σ H s1) E s
 self:∀(A:Around) (i:Nat) (s:Shared) (Q:Value->Shared->Prop) (E:Value->Shared->Prop),tn i s.heap->Q (.ref it) s->wpAny (model P w) A (pyIter (.ref it)) Q E s
abbrev TI:=St->Hp->(It->Hp->Prop)->Prop
def PIE (X:Cx) (pins:List (Addr×Obj)) (σ:St) (tg:Expr) (R:It->Hp->Prop) (itv:Value) (s2:Shared):Prop:=
 ∃(it:Addr) (fp:List Addr) (tn:Nat->Heap->Prop) (J:It) (H':Hp),itv=.ref it/\Inv X pins σ H' s2/\Turn X.prog X.w X.K tg J fp it tn/\tn 0 s2.heap/\(∀b∈fp,G9 X pins H' b)/\R J H'
def PI (X:Cx) (tg iter:Expr) (wi:TI):Prop:=
 ∀ (pins:List (Addr×Obj)) (s:Shared) (σ:St) (H:Hp) (R:It->Hp->Prop),Inv X pins σ H s->wi σ H R ->
  wpAny (model X.prog X.w) X.A (eval iter X.env) (λv s1=>wpAny (model X.prog X.w) X.A (pyIter v) (PIE X pins σ tg R) X.xe s1) X.xe s
theorem jq {M:Model}{A:Around}{E:Value->Shared->Prop}{s:Shared}{tg:Expr}{it:Addr}{u:Value}{o:Obj}{n:String}{vs:Array Value}{Q:Unit->Shared->Prop}(ho:s.heap.get? it=some o) (hc:o.cls=.type n) (hd:o.data=.fields vs)
    (hn:["enumerate","zip","dict_itemiterator","dict_reverseitemiterator","odict_iterator","itertools.zip_longest","itertools.pairwise"].contains n=false) (hQ:Q () s):wpAny M A (letOwnedTupleGo tg (.ref it) u) Q E s:=by
  unfold letOwnedTupleGo;cases tg <;> first
    |exact wpAny_pure hQ
    | (cases u <;> first
        |exact wpAny_pure hQ
        | (refine qA2 (wpAny_load ho ?_)
           rw[hc,hd]
           show wpAny M A (if (["enumerate","zip","dict_itemiterator","dict_reverseitemiterator","odict_iterator","itertools.zip_longest","itertools.pairwise"].contains n&&vs[0]? == some (rawInt _))=true then _ else _) Q E s;rw[qA6 (by intro h;rw[hn,Bool.false_and]at h;cases h)];exact wpAny_pure hQ))
def Itl (K:Frag) (a:Addr):It:=
 ⟨λi H=>∃xs x,SqL K H a xs/\xs[i]?=some x,λi H x H'=>H'=H/\∀xs,SqL K H a xs->xs[i]?=some x,λi H=>∃xs,SqL K H a xs/\xs.length<=i⟩
def Itt (K:Frag) (a:Addr):It:=
 ⟨λi H=>∃xs x,SqT K H a xs/\xs[i]?=some x,λi H x H'=>H'=H/\∀xs,SqT K H a xs->xs[i]?=some x,λi H=>∃xs,SqT K H a xs/\xs.length<=i⟩
def Itr (lo:Int)(n:Nat):It:=⟨λi _=>i<n,λi H x H'=>H'=H/\x=.int (lo+i),λi _=>n<=i⟩
theorem pU {P:Program}{w:World}{K:Frag}{tg:Expr}(a it:Addr):Turn P w K tg (Itl K a) [it] it (λi h=>h.IsListIter it a i) where
 mem:=by simp
 obj:=λi h st b hb=>by
  have e:b=it:=by simpa using hb
  subst e;obtain ⟨o,e,c,d⟩:=st;exact ⟨o,e,λv z=>by rw[d]at z;cases z⟩
 keep:=λi h h' st k=>st.at λo e=>k it (by simp) o e
 item:=by
  intro X hP hw hK hc i pins s σ H E I hf st hg;subst hP hw hK;obtain ⟨xs,x,hq,hx⟩:=hg;obtain ⟨its,rv,p,hz⟩:=I.list hq;obtain ⟨u,hu,ru⟩:=rv.get hx;obtain ⟨f0,f1,f2,f3,f4,f5⟩:=hf it (by simp);refine wpAny_pyNext_list_item st p.isList (x:=u) (by simpa using hu) λh' st' sb=>?_;have I1:Inv X pins σ H { s with heap:=h' }:=I.turned (t':=s.toks) (λb o hb e=>(sb.2 b hb).trans e) f0 f1 f3 f4 f5;obtain ⟨o,e,c,d⟩:=id st';exact ⟨u,rfl,jq (s:={ s with heap:=h' }) e c d (by decide) ⟨x,H,I1,ru,⟨rfl,λys hy=>by rw[I.list_inj hy hq];exact hx⟩,st',λb hb=>(hf b hb).1⟩⟩
 done:=by
  intro X hP hw hK hc i pins s σ H E I hf st hg;subst hP hw hK;obtain ⟨xs,hq,hx⟩:=hg;obtain ⟨its,rv,p,hz⟩:=I.list hq;obtain ⟨f0,f1,f2,f3,f4,f5⟩:=hf it (by simp);have hl:=rv.length;exact wpAny_pyNext_list_end (I.ok.hd hc) st p.isList (by simp;omega) λh' eb=>⟨rfl,I.turned (t':=s.toks) (λb o hb e=>eb b o hb e) f0 f1 f3 f4 f5⟩
 self:=λ_ _ _ _ _ st h=>wpAny_pyIter_listiter st h
theorem nO {P:Program}{w:World}{K:Frag}{tg:Expr}(a it:Addr):Turn P w K tg (Itt K a) [it] it (λi h=>h.IsTupleIter it a i) where
 mem:=by simp
 obj:=λi h st b hb=>by
  have e:b=it:=by simpa using hb
  subst e;obtain ⟨o,e,c,d⟩:=st;exact ⟨o,e,λv z=>by rw[d]at z;cases z⟩
 keep:=λi h h' st k=>st.at λo e=>k it (by simp) o e
 item:=by
  intro X hP hw hK hc i pins s σ H E I hf st hg;subst hP hw hK;obtain ⟨xs,x,hq,hx⟩:=hg;obtain ⟨its,rv,p,hz⟩:=I.tuple hq;obtain ⟨u,hu,ru⟩:=rv.get hx;obtain ⟨f0,f1,f2,f3,f4,f5⟩:=hf it (by simp);refine wpAny_pyNext_tuple_item st (show s.heap.IsTuple a its.toArray from p) (x:=u) (by simpa using hu) λh' st' sb=>?_;have I1:Inv X pins σ H { s with heap:=h' }:=I.turned (t':=s.toks) (λb o hb e=>(sb.2 b hb).trans e) f0 f1 f3 f4 f5;obtain ⟨o,e,c,d⟩:=id st';exact ⟨u,rfl,jq (s:={ s with heap:=h' }) e c d (by decide) ⟨x,H,I1,ru,⟨rfl,λys hy=>by rw[I.tuple_inj hy hq];exact hx⟩,st',λb hb=>(hf b hb).1⟩⟩
 done:=by
  intro X hP hw hK hc i pins s σ H E I hf st hg;subst hP hw hK;obtain ⟨xs,hq,hx⟩:=hg;obtain ⟨its,rv,p,hz⟩:=I.tuple hq;obtain ⟨f0,f1,f2,f3,f4,f5⟩:=hf it (by simp);have hl:=rv.length;exact wpAny_pyNext_tuple_end (I.ok.hd hc) st (show s.heap.IsTuple a its.toArray from p) (by simp;omega) λh' eb=>⟨rfl,I.turned (t':=s.toks) (λb o hb e=>eb b o hb e) f0 f1 f3 f4 f5⟩
 self:=λ_ _ _ _ _ st h=>wpAny_pyIter_tupleiter st h
theorem nP {P:Program}{w:World}{K:Frag}{tg:Expr}(it:Addr) (lo:Int) (n:Nat):Turn P w K tg (Itr lo n) [it] it (λi h=>IsRangeIter h it (lo+(i:Nat)*1) ((n:Int)-(i:Nat)) 1) where
 mem:=by simp
 obj:=λi h st b hb=>by
  have e:b=it:=by simpa using hb
  subst e;exact ⟨_,st,λv z=>by
   have z':Data.fields _=Data.cell v:=z;cases z'⟩
 keep:=λi h h' st k=>k it (by simp) _ st
 item:=by
  intro X hP hw hK hc i pins s σ H E I hf st hg;subst hP hw hK;obtain ⟨f0,f1,f2,f3,f4,f5⟩:=hf it (by simp);have W:=Walks.range (prog:=X.prog) (w:=X.w) (I.ok.hd hc) it lo 1 n;refine W.item i s _ _ hg st λv h' tk hv st' kk=>?_;obtain ⟨t,rfl⟩:=hv;have I1:Inv X pins σ H { s with heap:=h',toks:=tk }:=I.turned (λb o hb e=>kk b o (by simpa using hb) e) f0 f1 f3 f4 f5;refine ⟨_,rfl,jq (s:={ s with heap:=h',toks:=tk }) (n := "range_iterator") st' rfl rfl (by decide) ⟨.int (lo+i),H,I1,⟨t,?_⟩,⟨rfl,rfl⟩,st',λb hb=>(hf b hb).1⟩⟩;rw[Int.mul_one]
 done:=by
  intro X hP hw hK hc i pins s σ H E I hf st hg;subst hP hw hK;obtain ⟨f0,f1,f2,f3,f4,f5⟩:=hf it (by simp);exact wpAny_pyNext_range_end (I.ok.hd hc) st (by have:n<=i:=hg;omega) λh' eb=>⟨rfl,I.turned (t':=s.toks) (λb o hb e=>eb b o hb e) f0 f1 f3 f4 f5⟩
 self:=λ_ _ _ _ _ st h=>wpAny_pyIter_rangeiter st h
end L2
namespace L2
open PySem PySem.Spec PyProof.Rows
section
variable {X:Cx}{tg:Expr}
theorem uw {pins:List (Addr×Obj)}{σ:St}{H:Hp}{s:Shared}{R:It->Hp->Prop}{E:Value->Shared->Prop}{lo hi:Int}{t u v:Tok}{tk:Nat}(I:Inv X pins σ H s) (h1:-(2^62)<=lo) (h2:lo<2^62) (h3:-(2^62)<=hi) (h4:hi<2^62)
  (q:R (Itr lo (hi-lo).toNat) H):wpAny (model X.prog X.w) X.A (pyIter (.ref s.heap.objs.size)) (PIE X pins σ tg R) E { s with heap:=s.heap.push { cls:=.type "range",data:=.fields #[.int lo t,.int hi u,.int 1 v] },toks:=tk }:=by
 refine wpAny_pyIter_range (IsRange.new ..) (small_one h1 h2 h3 h4) ?_;have I1:Inv X pins σ H { s with heap:=s.heap.push { cls:=.type "range",data:=.fields #[.int lo t,.int hi u,.int 1 v] },toks:=tk }:=I.kept λb o e=>qA9 _ e;refine ⟨(s.heap.push { cls:=.type "range",data:=.fields #[.int lo t,.int hi u,.int 1 v] }).objs.size,[(s.heap.push { cls:=.type "range",data:=.fields #[.int lo t,.int hi u,.int 1 v] }).objs.size],_,_,H,rfl,
  I1.kept (t':=tk) λb o e=>qA9 _ e,nP _ lo (hi-lo).toNat,?_,λb hb=>?_,q⟩
 ·have e1:lo+((0:Nat):Int)*1=lo:=by simp
  have e2:(((hi-lo).toNat:Nat):Int)-((0:Nat):Int)=Builtin.Range.rangeSize lo hi 1:=by rw[rangeSize_one];split <;> omega
  show IsRangeIter _ _ (lo+((0:Nat):Int)*1) ((((hi-lo).toNat:Nat):Int)-((0:Nat):Int)) 1;rw[e1,e2];exact qC2 _ rfl
 ·have e:b=(s.heap.push { cls:=.type "range",data:=.fields #[.int lo t,.int hi u,.int 1 v] }).objs.size:=by simpa using hb
  subst e;exact I1.fpOk (qB9 _) (I1.hok.fresh (qB9 _))
def wL (ta:TA):TI:=λσ H R=>ta σ H λvs H1=>∃j:Int,vs = [.int j] /\ -(2^62)<=j/\j<2^62/\R (Itr 0 j.toNat) H1
theorem qK {a:Expr}{ta:TA}{p pos:Pos}(hg:Gl X "range") (hm:X.mg "range" = none) (ha:PA X [a] ta) (hs:starEach [a] X.env = [(false,eval a X.env)]:=by rfl):PI X tg (.Call (.Name "range" p) [a] [] pos) (wL ta):=by
 intro pins s σ H R I h;refine Call_ (O9 I hg hm boot_range (qF5 (thn (ha pos pins s σ H _ I h) λus s1 zz21=>?_) hs rfl));obtain ⟨vs,H1,I1,r1,q1⟩:=zz21;obtain ⟨j,e,q1,q2,q⟩:=q1;subst e;cases r1 with
 | cons r rr=>
  cases rr;obtain ⟨t,rfl⟩:=r;exact call_range_1 (uw I1 (by omega) (by omega) q1 q2 (by simpa using q))
def AF (wi:TI) (g:TG) (tb:TS):TS:=λD σ H=>wi σ H λJ H1=>∃W:Nat->Nat->St->Hp->Prop,(∃m,W 0 m σ H1)/\∀i m σ H,W i m σ H ->
 (J.stop i H/\D.nx σ H)\/(J.go i H/\∃N:St->Hp->Prop,(∀σ' H',N σ' H'->∃m',m'<m/\W (i+1) m' σ' H')/\∀x H',J.yld i H x H'->g x σ H' λσ2 H2=>tb { D with nx:=N,ct:=N,bk:=D.nx } σ2 H2)
def cg (fp:List Addr)(h:Heap):List (Addr×Obj):=fp.filterMap λb=>(h.get? b).map λo=>(b,o)
theorem V0 {fp:List Addr}{h:Heap}{b:Addr}{o:Obj}(hb:b∈fp)(e:h.get? b=some o):(b,o)∈cg fp h:=List.mem_filterMap.mpr ⟨b,hb,by rw[e];rfl⟩
theorem qU {fp:List Addr}{h:Heap}{p:Addr×Obj}(hp:p∈cg fp h):p.1∈fp/\h.get? p.1=some p.2:=by
 obtain ⟨b,hb,e⟩:=List.mem_filterMap.mp hp;cases q:h.get? b with
 |none=>rw[q]at e;cases e
 | some o=>
  rw[q]at e;have e':(b,o)=p:=Option.some.inj e;subst e';exact ⟨hb,q⟩
theorem Inv.pinned {pins:List (Addr×Obj)}{σ:St}{H:Hp}{s:Shared}{fp:List Addr}(I:Inv X pins σ H s) (hf:∀b∈fp,G9 X pins H b) (ho:∀b∈fp,∃o,s.heap.get? b=some o/\∀v,o.data≠.cell v):Inv X (pins++cg fp s.heap) σ H s:=
 I.pins_of λp hp=>(qE4.mp hp).elim (λz=>I.pin p (qC9 _ z)) λz=>by
  obtain ⟨hb,e⟩:=qU z;obtain ⟨f0,f1,f2,_⟩:=hf p.1 hb;obtain ⟨o,e',d⟩:=ho p.1 hb;rw[e]at e';cases e';exact ⟨e,f0,f1,f2,d⟩
theorem Inv.unpinned {pins pl:List (Addr×Obj)}{σ:St}{H:Hp}{s:Shared}(I:Inv X (pins++pl) σ H s):Inv X pins σ H s:=I.pins_of λp hp=>I.pin p (qC9 _ (qG1 _ hp))
theorem Cf {iter:Expr}{body:List Stmt}{wi:TI}{g:TG}{tb:TS}{pos:Pos}(hp:PassesOwn (model X.prog X.w) X.A X.env X.xe) (hc:X.calm=true) (hi:PI X tg iter wi) (hg:PG X tg g) (hb:PSs X body tb)
  (hs:∀x,foldedSetIterable iter X.env x=pure x:=by intro _;rfl):PS X (.For tg iter body [] pos) (AF wi g tb):=by
 intro pins s σ H D I h;refine wpAny_For (thn (hi pins s σ H _ I h) λv s1 h1=>thn h1 λitv s2 h2=>?_) hs;obtain ⟨it,fp,tn,J,H2,e,I2,T,st2,f2,W,⟨m0,w0⟩,turn⟩:=h2;subst e
 -- what stays true of the iterator's objects through the loop
 have stat:∀{H':Hp},(∀b∈fp,H' b=none)->∀b∈fp,G9 X pins H' b:=λhn b hb=>⟨hn b hb,(f2 b hb).2⟩;refine codeAny_forLoop_any (λn s'=>∃i σ' H',Inv X pins σ' H' s'/\tn i s'.heap/\(∀b∈fp,H' b=none)/\W i n σ' H') ?_ m0 ⟨0,σ,H2,I2,st2,λb hb=>(f2 b hb).1,w0⟩;rintro n s3 ⟨i,σ3,H3,I3,st3,fr3,w3⟩;rcases turn i n σ3 H3 w3 with ⟨stop,qn⟩|⟨go,N,hN,step⟩
 ·refine wpAny_passesOwn hp (thn (T.done X rfl rfl rfl hc i pins s3 σ3 H3 X.xe I3 (stat fr3) st3 stop) λr s4 ⟨hr,I4⟩=>?_);subst hr;exact wpAny_execs_nil ⟨σ3,H3,I4,qn⟩
 ·refine wpAny_passesOwn hp (thn (T.item X rfl rfl rfl hc i pins s3 σ3 H3 X.xe I3 (stat fr3) st3 go) λr s4 ⟨u,hr,h4⟩=>?_);subst hr;refine wpAny_passesOwn hp (thn h4 λ_ s5 zz24=>?_);obtain ⟨x,H5,I5,r5,y5,st5,fr5⟩:=zz24;have I5':=I5.pinned (stat fr5) (T.obj _ _ st5);refine wpAny_passesOwn hp (thn (hg _ s5 σ3 H5 x u _ I5' r5 (step x H5 y5)) λ_ s6 zz25=>?_);obtain ⟨σ6,H6,I6,q6⟩:=zz25;refine wpAny_passesOwn hp (thn (hb _ s6 σ6 H6 _ I6 q6) λf s7 q7=>?_);have again:∀{σ7:St}{H7:Hp},Inv X (pins++cg fp s5.heap) σ7 H7 s7->N σ7 H7->∃m,m<n/\∃i σ' H',Inv X pins σ' H' s7/\tn i s7.heap/\(∀b∈fp,H' b=none)/\W i m σ' H':=λ{σ7 H7} I7 n7=>by
   obtain ⟨m',hm,w7⟩:=hN σ7 H7 n7;refine ⟨m',hm,i+1,σ7,H7,I7.unpinned,T.keep _ _ _ st5 λb hb o e=>(I7.pin (b,o) (qC9 _ (qC9 _ (V0 hb e)))).1,λb hb=>?_,w7⟩;obtain ⟨o,e,d⟩:=T.obj _ _ st5 b hb;exact (I7.pin (b,o) (qC9 _ (qC9 _ (V0 hb e)))).2.1
  cases f with
  |next=>obtain ⟨σ7,H7,I7,n7⟩:=q7;exact again I7 n7
  |cont=>obtain ⟨σ7,H7,I7,n7⟩:=q7;exact again I7 n7
  |brk=>obtain ⟨σ7,H7,I7,q7⟩:=q7;exact ⟨σ7,H7,I7.unpinned,q7⟩
  |ret v=>obtain ⟨x7,σ7,H7,I7,r7,q7⟩:=q7;exact ⟨x7,σ7,H7,I7.unpinned,r7,q7⟩
end
end L2
namespace L2
open PySem PySem.Spec PyProof.Rows
abbrev R2:=V->V->Hp->VK->Prop
def OpR (X:Cx) (f:Value->Value->Sem Value) (r:R2):Prop:=
 ∀ (pins:List (Addr×Obj)) (s:Shared) (σ:St) (H:Hp) (x y:V) (v u:Value) (Q:VK),Inv X pins σ H s->RelV x v->RelV y u->r x y H Q ->
  wpAny (model X.prog X.w) X.A (f v u) (EP X pins σ Q) X.xe s
def UnR (X:Cx) (f:Value->Sem Value) (r:V->Hp->VK->Prop):Prop:=
 ∀ (pins:List (Addr×Obj)) (s:Shared) (σ:St) (H:Hp) (x:V) (v:Value) (Q:VK),Inv X pins σ H s->RelV x v->r x H Q ->
  wpAny (model X.prog X.w) X.A (f v) (EP X pins σ Q) X.xe s
def F5 (X:Cx) (f:Value) (r:List V->Hp->VK->Prop):Prop:=
 ∀ (pins:List (Addr×Obj)) (s:Shared) (σ:St) (H:Hp) (xs:List V) (us:List Value) (Q:VK),Inv X pins σ H s->Vals xs us->r xs H Q ->
  wpAny (model X.prog X.w) X.A (call f us) (EP X pins σ Q) X.xe s
def tOp (r:R2)(ta tb:TE):TE:=λσ H Q=>ta σ H λx H1=>tb σ H1 λy H2=>r x y H2 Q
def tUn (r:V->Hp->VK->Prop)(ta:TE):TE:=λσ H Q=>ta σ H λx H1=>r x H1 Q
def rI (C:Int->Int->Prop)(g:Int->Int->V):R2:=λx y H Q=>∃i j,x=.int i/\y=.int j/\C i j/\Q (g i j) H
def rI0 (g:Int->Int->V):R2:=λx y H Q=>∃i j,x=.int i/\y=.int j/\Q (g i j) H
def rU (g:Int->V):V->Hp->VK->Prop:=λx H Q=>∃i,x=.int i/\Q (g i) H
section
variable {X:Cx}{a b c:Expr}{ta tb tc:TE}{pos:Pos}
theorem wc (ha:PE X a ta) (hb:PE X b tb){pins:List (Addr×Obj)}{s:Shared}{σ:St}{H:Hp}{R:V->V->Hp->Prop}(I:Inv X pins σ H s)
  (h:ta σ H λx H1=>tb σ H1 λy H2=>R x y H2){Q:Value->Shared->Prop}{f:Value->Value->Sem Value}
  (hf:∀v u s2 x y H2,Inv X pins σ H2 s2->RelV x v->RelV y u->R x y H2->wpAny (model X.prog X.w) X.A (f v u) Q X.xe s2) :
  wpAny (model X.prog X.w) X.A (eval a X.env) (λv s₁=>wpAny (model X.prog X.w) X.A (eval b X.env) (λu s₂=>wpAny (model X.prog X.w) X.A (f v u) Q X.xe s₂) X.xe s₁) X.xe s:=by
 refine thn (ha pins s σ H _ I h) λv s1 zz26=>?_;obtain ⟨x,H1,I1,r1,q1⟩:=zz26;refine thn (hb pins s1 σ H1 _ I1 q1) λu s2 zz27=>?_;obtain ⟨y,H2,I2,r2,q2⟩:=zz27;exact hf v u s2 x y H2 I2 r1 r2 q2
theorem FK {op:Operator}{r:R2}(ho:OpR X (binaryOp op) r) (ha:PE X a ta) (hb:PE X b tb):PE X (.BinOp a op b pos) (tOp r ta tb):=by
 intro pins s σ H Q I h;exact wpAny_BinOp (wc ha hb I h λv u s2 x y H2 I2 rx ry q=>ho pins s2 σ H2 x y v u Q I2 rx ry q)
theorem FI {op:UnaryOp}{r:V->Hp->VK->Prop}(ho:UnR X (unaryOp op) r) (ha:PE X a ta):PE X (.UnaryOp op a pos) (tUn r ta):=by
 intro pins s σ H Q I h;exact UnaryOp_ (thn (ha pins s σ H _ I h) λv s1 zz28=>by obtain ⟨x,H1,I1,r1,q1⟩:=zz28;exact ho pins s1 σ H1 x v Q I1 r1 q1)
theorem opI {f:Value->Value->Sem Value}{C:Int->Int->Prop}{g:Int->Int->Int}
  (rule:∀(i j:Int) (t u:Tok) (s:Shared) (Q:Value->Shared->Prop) (E:Value->Shared->Prop),C i j->Q (.int (g i j) s.toks) { s with toks:=s.toks+1 }->wpAny (model X.prog X.w) X.A (f (.int i t) (.int j u)) Q E s) :
  OpR X f (rI C λi j=>.int (g i j)):=by
 intro pins s σ H x y v u Q I rx ry h;obtain ⟨i,j,rfl,rfl,hc,q⟩:=h;obtain ⟨t,rfl⟩:=rx;obtain ⟨t',rfl⟩:=ry;exact rule i j t t' s _ _ hc ⟨.int (g i j),H,I.tok _,⟨_,rfl⟩,q⟩
theorem Cv {f:Value->Value->Sem Value}{g:Int->Int->Int}
  (rule:∀(i j:Int) (t u:Tok) (s:Shared) (Q:Value->Shared->Prop) (E:Value->Shared->Prop),Q (.int (g i j) s.toks) { s with toks:=s.toks+1 }->wpAny (model X.prog X.w) X.A (f (.int i t) (.int j u)) Q E s) :
  OpR X f (rI0 λi j=>.int (g i j)):=by
 intro pins s σ H x y v u Q I rx ry h;obtain ⟨i,j,rfl,rfl,q⟩:=h;obtain ⟨t,rfl⟩:=rx;obtain ⟨t',rfl⟩:=ry;exact rule i j t t' s _ _ ⟨.int (g i j),H,I.tok _,⟨_,rfl⟩,q⟩
theorem Cw {f:Value->Value->Sem Value}{g:Int->Int->Bool}
  (rule:∀(i j:Int) (t u:Tok) (s:Shared) (Q:Value->Shared->Prop) (E:Value->Shared->Prop),Q (.bool (g i j)) s->wpAny (model X.prog X.w) X.A (f (.int i t) (.int j u)) Q E s) :
  OpR X f (rI0 λi j=>.bl (g i j)):=by
 intro pins s σ H x y v u Q I rx ry h;obtain ⟨i,j,rfl,rfl,q⟩:=h;obtain ⟨t,rfl⟩:=rx;obtain ⟨t',rfl⟩:=ry;exact rule i j t t' s _ _ ⟨.bl (g i j),H,I,rfl,q⟩
def v9 (i j:Int):Prop:=0<j/\j<1073741824
def bz (i j:Int):Prop:=0<=j/\j<=1000000/\i.natAbs<2^64
def CMul (i j:Int):Prop:=(-(2^64)<i/\i<2^64)\/(-(2^64)<j/\j<2^64)
theorem CMul.ok {i j:Int}(h:CMul i j):IntMulOk i j:=by
 rcases h with ⟨h1,h2⟩|⟨h1,h2⟩
 ·exact .of_left (intBits_le_64 h1 h2)
 ·exact .of_right (intBits_le_64 h1 h2)
theorem o0:OpR X (binaryOp .Add) (rI0 λi j=>.int (i+j)):=Cv λ_ _ _ _ _ _ _ q=>add_int q
theorem S7:OpR X (binaryOp .Sub) (rI0 λi j=>.int (i-j)):=Cv λ_ _ _ _ _ _ _ q=>sub_int q
theorem C1:OpR X (binaryOp .FloorDiv) (rI v9 λi j=>.int (i/j)):=opI λi j _ _ _ _ _ hc q=>by
 have h1:(0:Int)<j:=hc.1;have h2:j<1073741824:=hc.2;exact floordiv_int (by omega) (by rw[Int.fdiv_eq_ediv_of_nonneg i (by omega)];exact q) (.inl (PyProof.noPylong_small (by omega)))
theorem n8:OpR X (binaryOp .Mod) (rI (λ_ j=>0<j) λi j=>.int (i%j)):=opI λi j _ _ _ _ _ hc q=>by
 have h1:(0:Int)<j:=hc;exact mod_int' (by omega) (by rw[Int.fmod_eq_emod_of_nonneg i (by omega)];exact q)
theorem qO:OpR X (binaryOp .Pow) (rI bz λi j=>.int (i^j.toNat)):=opI λ_ _ _ _ _ _ _ hc q=>pow_int_small hc.1 hc.2.1 hc.2.2 q
theorem unI {f:Value->Sem Value}{g:Int->Int}
  (rule:∀(i:Int) (t:Tok) (s:Shared) (Q:Value->Shared->Prop) (E:Value->Shared->Prop),Q (.int (g i) s.toks) { s with toks:=s.toks+1 }->wpAny (model X.prog X.w) X.A (f (.int i t)) Q E s) :
  UnR X f (rU λi=>.int (g i)):=by
 intro pins s σ H x v Q I rx h;obtain ⟨i,rfl,q⟩:=h;obtain ⟨t,rfl⟩:=rx;exact rule i t s _ _ ⟨.int (g i),H,I.tok _,⟨_,rfl⟩,q⟩
theorem V5:UnR X (unaryOp .USub) (rU λi=>.int (-i)):=unI λ_ _ _ _ _ q=>neg_int q
end
def jO:V->V->Bool
 | .non,.non=>true | .non,.int _=>true | .int _,.non=>true | .non,.bl _=>true | .bl _,.non=>true | .non,.str _=>true | .str _,.non=>true
 | .int _,.int _=>true | .bl _,.bl _=>true | .str _,.str _=>true | .byt _,.byt _=>true
 | .int _,.str _=>true | .str _,.int _=>true | .bl _,.str _=>true | .str _,.bl _=>true
 |_,_=>false
def rEq:R2:=λx y H Q=>jO x y=true/\Q (.bl (decide (x=y))) H
def rNe:R2:=λx y H Q=>jO x y=true/\Q (.bl (!decide (x=y))) H
theorem nH {i j:Int}:decide (V.int i=V.int j)=(i == j):=by
 rw[qJ8];simp
theorem se {i j:Bool}:decide (V.bl i=V.bl j)=(i == j):=by
 rw[qJ8];simp
theorem nG {i j:Str}:decide (V.str i=V.str j)=(i == j):=by
 rw[qJ8];simp
theorem nI {i j:Array UInt8}:decide (V.byt i=V.byt j)=(i.toList == j.toList):=by
 rw[qJ8];cases i;cases j;simp
section
variable {X:Cx}{a b c:Expr}{ta tb tc:TE}{pos:Pos}
theorem l5 {pins:List (Addr×Obj)}{σ:St}{H:Hp}{s:Shared}{Q:VK}{k k':Bool}(I:Inv X pins σ H s) (q:Q (.bl k) H) (e:k=k'):EP X pins σ Q (.bool k') s:=by
 subst e;exact ⟨.bl k,H,I,rfl,q⟩
theorem L0:OpR X (compareOp .Eq) rEq:=by
 intro pins s σ H x y v u Q I rx ry h;obtain ⟨hs,q⟩:=h;cases x with
 | non=>
  cases rx;cases y with
  |non=>cases ry;exact PySem.EqNone.eq_none_none (l5 I q (by simp))
  |bl j=>cases ry;exact PySem.EqNone.eq_none_bool (l5 I q (by simp))
  |int j=>obtain ⟨t',rfl⟩:=ry;exact PySem.EqNone.eq_none_int (l5 I q (by simp))
  |str j=>obtain ⟨t',rfl⟩:=ry;exact PySem.EqNone.eq_none_str (l5 I q (by simp))
  |_=>exact absurd (show false=true from hs) qA5
 | bl i=>
  cases rx;cases y with
  |non=>cases ry;exact PySem.EqNone.eq_bool_none (l5 I q (by simp))
  |bl j=>cases ry;exact eq_bool (l5 I q se)
  |str j=>obtain ⟨t',rfl⟩:=ry;exact PySem.EqMixed.eq_bool_str (l5 I q (by simp))
  |_=>exact absurd (show false=true from hs) qA5
 | int i=>
  obtain ⟨t,rfl⟩:=rx;cases y with
  |non=>cases ry;exact PySem.EqNone.eq_int_none (l5 I q (by simp))
  |int j=>obtain ⟨t',rfl⟩:=ry;exact eq_int (l5 I q nH)
  |str j=>obtain ⟨t',rfl⟩:=ry;exact PySem.EqMixed.eq_int_str (l5 I q (by simp))
  |_=>exact absurd (show false=true from hs) qA5
 | str i=>
  obtain ⟨t,rfl⟩:=rx;cases y with
  |non=>cases ry;exact PySem.EqNone.eq_str_none (l5 I q (by simp))
  |bl j=>cases ry;exact PySem.EqMixed.eq_str_bool (l5 I q (by simp))
  |int j=>obtain ⟨t',rfl⟩:=ry;exact PySem.EqMixed.eq_str_int (l5 I q (by simp))
  |str j=>obtain ⟨t',rfl⟩:=ry;exact eq_str (l5 I q nG)
  |_=>exact absurd (show false=true from hs) qA5
 | byt i=>
  obtain ⟨t,rfl⟩:=rx;cases y with
  |byt j=>obtain ⟨t',rfl⟩:=ry;exact PySem.W.eq_bytes (l5 I q nI)
  |_=>exact absurd (show false=true from hs) qA5
 |_=>cases y <;> exact absurd (show false=true from hs) qA5
theorem oy:OpR X (compareOp .NotEq) rNe:=by
 intro pins s σ H x y v u Q I rx ry h;obtain ⟨hs,q⟩:=h;cases x with
 | non=>
  cases rx;cases y with
  |non=>cases ry;exact PySem.EqNone.ne_none_none (l5 I q (by simp))
  |bl j=>cases ry;exact PySem.EqNone.ne_none_bool (l5 I q (by simp))
  |int j=>obtain ⟨t',rfl⟩:=ry;exact PySem.EqNone.ne_none_int (l5 I q (by simp))
  |str j=>obtain ⟨t',rfl⟩:=ry;exact PySem.EqNone.ne_none_str (l5 I q (by simp))
  |_=>exact absurd (show false=true from hs) qA5
 | bl i=>
  cases rx;cases y with
  |non=>cases ry;exact PySem.EqNone.ne_bool_none (l5 I q (by simp))
  |bl j=>cases ry;exact ne_bool (l5 I q (congrArg not se))
  |str j=>obtain ⟨t',rfl⟩:=ry;exact PySem.EqMixed.ne_bool_str (l5 I q (by simp))
  |_=>exact absurd (show false=true from hs) qA5
 | int i=>
  obtain ⟨t,rfl⟩:=rx;cases y with
  |non=>cases ry;exact PySem.EqNone.ne_int_none (l5 I q (by simp))
  |int j=>obtain ⟨t',rfl⟩:=ry;exact ne_int (l5 I q (congrArg not nH))
  |str j=>obtain ⟨t',rfl⟩:=ry;exact PySem.EqMixed.ne_int_str (l5 I q (by simp))
  |_=>exact absurd (show false=true from hs) qA5
 | str i=>
  obtain ⟨t,rfl⟩:=rx;cases y with
  |non=>cases ry;exact PySem.EqNone.ne_str_none (l5 I q (by simp))
  |bl j=>cases ry;exact PySem.EqMixed.ne_str_bool (l5 I q (by simp))
  |int j=>obtain ⟨t',rfl⟩:=ry;exact PySem.EqMixed.ne_str_int (l5 I q (by simp))
  |str j=>obtain ⟨t',rfl⟩:=ry;exact ne_str (l5 I q (congrArg not nG))
  |_=>exact absurd (show false=true from hs) qA5
 | byt i=>
  obtain ⟨t,rfl⟩:=rx;cases y with
  |byt j=>obtain ⟨t',rfl⟩:=ry;exact PySem.W.ne_bytes (l5 I q (congrArg not nI))
  |_=>exact absurd (show false=true from hs) qA5
 |_=>cases y <;> exact absurd (show false=true from hs) qA5
theorem jo:OpR X (compareOp .Lt) (rI0 λi j=>.bl (decide (i<j))):=Cw λ_ _ _ _ _ _ _ q=>lt_int q
theorem Y9:OpR X (compareOp .Gt) (rI0 λi j=>.bl (decide (j<i))):=Cw λ_ _ _ _ _ _ _ q=>gt_int q
theorem W7:OpR X (compareOp .Is) (λx y H Q=>y=.non/\Q (.bl (decide (x=.non))) H):=by
 intro pins s σ H x y v u Q I rx ry h;obtain ⟨rfl,q⟩:=h;cases ry;refine is_none_gen (l5 I q ?_);cases x <;> first
  | (cases rx;rfl)
  | (obtain ⟨t,rfl⟩:=rx;rfl)
theorem ax:OpR X (compareOp .IsNot) (λx y H Q=>y=.non/\Q (.bl (!decide (x=.non))) H):=by
 intro pins s σ H x y v u Q I rx ry h;obtain ⟨rfl,q⟩:=h;cases ry;refine isnot_none_gen (l5 I q ?_);cases x <;> first
  | (cases rx;rfl)
  | (obtain ⟨t,rfl⟩:=rx;rfl)
theorem qW (b:Expr){op:CmpOp}(h:op≠.In:=by decide) (h2:op≠.NotIn:=by decide):behindInMarks op b=false:=by
 have e1:(op == CmpOp.In)=false:=by cases op <;> first|rfl|exact absurd rfl h
 have e2:(op == CmpOp.NotIn)=false:=by cases op <;> first|rfl|exact absurd rfl h2
 cases b <;> simp [behindInMarks,e1,e2]
theorem ye {op:CmpOp}{r:R2}(ho:OpR X (compareOp op) r) (ha:PE X a ta) (hb:PE X b tb) (hm:behindInMarks op b=false):PE X (.Compare a [op] [b] pos) (tOp r ta tb):=by
 intro pins s σ H Q I h;exact wpAny_Compare1 (wc ha hb I h λv u s2 x y H2 I2 rx ry q=>ho pins s2 σ H2 x y v u Q I2 rx ry q) hm
def wm (t:TE):TT:=λσ H Q=>t σ H λx H'=>∃k,x=.bl k/\Q k H'
theorem xV {op:CmpOp}{r:R2}(ho:OpR X (compareOp op) r) (ha:PE X a ta) (hb:PE X b tb) (hm:behindInMarks op b=false):PT X (.Compare a [op] [b] pos) (wm (tOp r ta tb)):=by
 intro pins s σ H Q I h;refine wpAny_isTrue_Compare1 (thn (ha pins s σ H _ I h) λv s1 ⟨x,H1,I1,r1,q1⟩=>thn (hb pins s1 σ H1 _ I1 q1) λu s2 ⟨y,H2,I2,r2,q2⟩=>
  thn (ho pins s2 σ H2 x y v u _ I2 r1 r2 q2) λc s3 ⟨z,H3,I3,r3,k,e,q3⟩=>?_) hm
 subst e;cases r3;exact wpAny_truthy_bool ⟨H3,I3,q3⟩
theorem cD:(sizeLine:Nat)<2^63:=by rw[sizeLine_eq];decide
theorem vals1 {x:V}{us:List Value}(r:Vals [x] us):∃u,us = [u]/\RelV x u:=by
 cases r with
 |cons r1 r2=>cases r2;exact ⟨_,rfl,r1⟩
theorem vals2 {x y:V}{us:List Value}(r:Vals [x,y] us):∃u w',us = [u,w']/\RelV x u/\RelV y w':=by
 cases r with
 | cons r1 r2=>
  cases r2 with
  |cons r3 r4=>cases r4;exact ⟨_,_,rfl,r1,r3⟩
theorem cS (hc:X.calm=true):F5 X (.builtin "max") (λxs H Q=>∃i j,xs = [.int i,.int j]/\Q (.int (if j>i then j else i)) H):=by
 intro pins s σ H xs us Q I r h;obtain ⟨i,j,rfl,q⟩:=h;obtain ⟨u,w',rfl,⟨t,rfl⟩,⟨t',rfl⟩⟩:=vals2 r;refine max_two_ints (I.ok.hd hc) λh' tk k=>⟨_,H,I.kept k,?_,q⟩;by_cases hj:j>i
 ·rw[qA4 hj,qA4 hj];exact ⟨_,rfl⟩
 ·rw[qA6 hj,qA6 hj];exact ⟨_,rfl⟩
theorem cT:F5 X (.type "int") (λxs H Q=>(∃i,xs = [.int i]/\Q (.int i) H)\/∃k,xs = [.bl k]/\Q (.int (if k then 1 else 0)) H):=by
 intro pins s σ H xs us Q I r h;rcases h with ⟨i,rfl,q⟩|⟨k,rfl,q⟩
 ·obtain ⟨u,rfl,t,rfl⟩:=vals1 r;exact call_int_int ⟨.int i,H,I,⟨_,rfl⟩,q⟩
 ·obtain ⟨u,rfl,r1⟩:=vals1 r;cases r1;exact call_int_bool ⟨.int (if k then 1 else 0),H,I.tok _,⟨_,rfl⟩,q⟩
end
end L2
namespace L2
open PySem PySem.Spec PyProof.Rows
section
variable {prog:Program}{w:World}{A:Around}{E:Value->Shared->Prop}{s:Shared}{K:Frag}{x dx C f:Addr}{mA:Str->Option Value}{name:Str}{v:Value}
end
section
variable {P:Program}{w:World}{H H':Hp}{h h':Heap}{a C dx:Addr}{fs fs':List (Str×V)}
end
structure Cls (K:Frag) (C:Addr):Prop where
 pg:PySem.W.plainGet K C Str.empty=true
 hd:PySem.W.hasDictIn K C=true
 po:PySem.W.plainOver K C=true
 sa:PySem.W.findIn K (.ref C) "__setattr__" = some (some (.builtin "object.__setattr__"))
section
variable {X:Cx}{pins:List (Addr×Obj)}{σ:St}{H:Hp}{s:Shared}{a C dx:Addr}{fs:List (Str×V)}{f:Str}{v:V}{A:Around}{E:Value->Shared->Prop}
end
section
variable {X:Cx}{o e value:Expr}{f:Str}{pos pos' tpos:Pos}{ta tv:TE}
end
section
variable {X:Cx}{pins:List (Addr×Obj)}{σ:St}{H:Hp}{s:Shared}{A:Around}{E:Value->Shared->Prop}{Q:Value->Shared->Prop}{c:Value}{b:Bool}
end
end L2
namespace L2
open PySem PySem.Spec PyProof.Rows
structure Room (k:Nat) (A:Around):Prop where
 hd:A.handled=none
 dp:A.depth+3*k+5<recursionLimit
 un:A.units+16*k+200<cLine
theorem Room.mono {j k:Nat}{A:Around}(r:Room k A)(h:j<=k):Room j A:=⟨r.hd,by have:=r.dp;omega,by have:=r.un;omega⟩
theorem Room.deeper {k:Nat}{A:Around}(r:Room (k+1) A) (env:Env):Room k (A.deeper env):=
 ⟨r.hd,by have:=r.dp;show A.depth+1+3*k+5<_;omega,by have:=r.un;show A.units+3+16*k+200<_;omega⟩
theorem Room.in1 {k:Nat}{A:Around}(r:Room (k+1) A):Room k A.in1:=
 ⟨r.hd,by have:=r.dp;show A.depth+3*k+5<_;omega,by have:=r.un;show A.units+1+16*k+200<_;omega⟩
theorem Room.depth {k:Nat}{A:Around}(r:Room k A):A.depth<recursionLimit:=by have:=r.dp;omega
theorem Room.units {k:Nat}{A:Around}(r:Room k A):A.units+64<cLine:=by have:=r.un;omega
def tNil:TA:=λ_ H Q=>Q [] H
def Y2 (ta:TE)(tr:TA):TA:=λσ H Q=>ta σ H λx H1=>tr σ H1 λxs H2=>Q (x::xs) H2
section
variable {X:Cx}{e:Expr}{es:List Expr}{te:TE}{t:TA}{pos:Pos}
theorem pa_nil:PA X [] tNil:=λ_ _ _ _ H Q I h=>Calls.spliced_nil ⟨[],H,I,.nil,h⟩
theorem aw (ha:PE X e te) (hr:PA X es t) (hs:starEach (e::es) X.env=(false,eval e X.env)::starEach es X.env:=by rfl):PA X (e::es) (Y2 te t):=by
 intro pos pins s σ H Q I h;rw[hs]
 show wpAny _ _ (spliced ((false,eval e X.env)::backTo pos (starEach es X.env))) _ _ s;refine Calls.spliced_cons (thn (ha pins s σ H _ I h) λu s1 zz32=>?_);obtain ⟨x,H1,I1,r1,q1⟩:=zz32;exact thn (hr pos pins s1 σ H1 _ I1 q1) λus s2 zz33=>by obtain ⟨xs,H2,I2,r2,q2⟩:=zz33;exact ⟨x::xs,H2,I2,.cons r1 r2,q2⟩
def AA (t:TA):TE:=λσ H Q=>t σ H λxs H1=>xs.length<=sizeLine/\∀p,H1 p=none->Q (.ref p) (upd H1 p (.tup xs))
def AE (t:TA):TE:=λσ H Q=>t σ H λxs H1=>xs.length<=sizeLine/\∀p,H1 p=none->Q (.ref p) (upd H1 p (.lst xs))
theorem Co {x1}(h:PA X es t):PE X (.Tuple es x1 pos) (AA t):=by
 intro pins s σ H Q I hq;refine wpAny_Tuple_spliced (thn (h pos pins s σ H _ I hq) λus s1 ⟨xs,H1,I1,r,z,q⟩=>⟨by rw[<- r.length];exact z,?_⟩);have hf:H1 s1.heap.objs.size=none:=I1.hok.fresh (qB9 _);refine ⟨.ref s1.heap.objs.size,upd H1 s1.heap.objs.size (.tup xs),I1.laid (t':=s1.toks) (λb u e=>qA9 _ e) (qB9 _) ?_,rfl,q _ hf⟩;exact ⟨z,us,r,⟨_,qC2 _ rfl,rfl,_,rfl⟩⟩
theorem Cr (h:PA X es t):PE X (.List es pos) (AE t):=by
 intro pins s σ H Q I hq;refine wpAny_List_spliced (thn (h pos pins s σ H _ I hq) λus s1 ⟨xs,H1,I1,r,z,q⟩=>⟨by rw[<- r.length];exact z,?_⟩);have hf:H1 s1.heap.objs.size=none:=I1.hok.fresh (qB9 _);refine ⟨.ref s1.heap.objs.size,upd H1 s1.heap.objs.size (.lst xs),I1.laid (t':=s1.toks) (λb u e=>qA9 _ e) (qB9 _) ?_,rfl,q _ hf⟩;exact ⟨z,us,0,r,qC2 _ rfl⟩
end
abbrev Sp:=List V->Hp->VK->XK->Prop
abbrev CXT:=List Env->Hp->Shared->XK->Value->Shared->Prop
structure pG (P:Program) (w:World) (K:Frag) (mg:Str->Option Value) (base:Heap) (A:Around) (outer:List Env) (s:Shared) (H:Hp):Prop where
 frames:A.frames=some outer
 mod:Mod K mg base
 bs:∀b o,base.get? b=some o->s.heap.get? b=some o/\H b=none
 bsz:base.objs.size<=s.heap.objs.size
 funs:s.heap.FunFrames base outer
 frf:∀b∈frs outer,H b=none
 hok:HOk P w H s.heap
 bare:AllBare s.gens
def CE (outer:List Env) (P:Program) (w:World) (H:Hp) (s:Shared) (Q:VK) (u:Value) (s':Shared):Prop:=
 ∃v H',s'.os=s.os/\AllBare s'.gens/\Un (frs outer) [] H H' s.heap s'.heap/\HOk P w H' s'.heap/\RelV v u/\Q v H'
def CR (CX:CXT) (outer:List Env) (P:Program) (w:World) (H:Hp) (s:Shared) (Q:VK) (E:XK) (r:Result) (s':Shared):Prop:=
 match r with
 | .ok (.ret u)=>CE outer P w H s Q u s'
 | .ok _=>False
 | .error e=>CX outer H s E e s'
structure FnOk (P:Program) (w:World) (K:Frag) (mg:Str->Option Value) (base:Heap) (CX:CXT) (k:Nat) (f:Addr) (fd:FuncData) (ps:List Str) (sp:Sp):Prop where
 len:∀vs H Q E,sp vs H Q E->vs.length=ps.length
 run:∀(A:Around) (outer:List Env) (s:Shared) (H:Hp) (args:Args) (us:List Value) (vs:List V) (Q:VK) (E:XK),Room k A->pG P w K mg base A outer s H->BindsTo s fd args (ps.zip us)->Vals vs us->sp vs H Q E ->
  codeAny (model P w) A (.call (.ref f) args) (CR CX outer P w H s Q E) s
theorem FnOk.imp {P:Program}{w:World}{K:Frag}{mg:Str->Option Value}{base:Heap}{CX:CXT}{k:Nat}{f:Addr}{fd:FuncData}{ps:List Str}{sp sp':Sp}(F:FnOk P w K mg base CX k f fd ps sp)
  (h:∀vs H Q E,sp' vs H Q E->sp vs H Q E):FnOk P w K mg base CX k f fd ps sp':=
 ⟨λvs H Q E q=>F.len vs H Q E (h _ _ _ _ q),λA outer s H args us vs Q E hr he hb hv hs=>F.run A outer s H args us vs Q E hr he hb hv (h _ _ _ _ hs)⟩
section
variable {X:Cx}{pins:List (Addr×Obj)}{σ:St}{H:Hp}{s s':Shared}
theorem Inv.env0 (I:Inv X pins σ H s):pG X.prog X.w X.K X.mg X.base X.A X.stack s H:=
 ⟨I.ok.frames,I.ok.mod,I.bs,qB8 I.ok.bsz I.sz,I.stack,I.stkFree,I.hok,I.bare⟩
theorem Inv.after {Q:VK}{u:Value}(I:Inv X pins σ H s) (h:CE X.stack X.prog X.w H s Q u s'):EP X pins σ Q u s':=by
 obtain ⟨v,H',os,bare,un,hok,r,q⟩:=h;obtain ⟨hh,g,d,t,os'⟩:=s';obtain rfl:os'=s.os:=os;exact ⟨v,H',I.call (h':=hh) (g':=g) (d':=d) (t':=t) (ch:=[]) un hok bare (λb z=>absurd z (by simp)),r,q⟩
end
def eW (sp:Sp)(dvs:List V)(E:XK)(t:TA):TE:=λσ H Q=>t σ H λvs H1=>sp (vs++dvs) H1 Q E
def Binds (K:Frag) (fd:FuncData) (ps:List Str) (ds:List Value):Prop:=
 ∀(s:Shared) (us:List Value),K.In s.heap->(us++ds).length=ps.length->BindsTo s fd ⟨us,[]⟩ (ps.zip (us++ds))
theorem Binds.all {K:Frag}{fd:FuncData}{ps:List Str}(h:∀us:List Value,us.length=ps.length->bindArgs fd ⟨us,[]⟩=pure (ps.zip us)):Binds K fd ps []:=λs us _ hl=>by
 rw[qF3]at hl ⊢;exact .of_eq (h us hl)
def lT (CX:CXT)(X:Cx)(E:XK):Prop:=∀(pins:List (Addr×Obj))(σ:St)(H:Hp)(s:Shared)(e:Value)(s':Shared),Inv X pins σ H s->CX X.stack H s E e s'->X.xe e s'
section
variable {X:Cx}{CX:CXT}{k:Nat}{f C:Addr}{fd:FuncData}{ps:List Str}{sp:Sp}{dvs:List V}{ds:List Value}{E:XK}{x m:Str}{p pos apos:Pos}{e o:Expr}{es:List Expr}{ta:TE}{t:TA}
theorem qy {pins:List (Addr×Obj)}{σ:St}{H:Hp}{s:Shared}{Q:VK}{us:List Value}{vs:List V}(F:FnOk X.prog X.w X.K X.mg X.base CX k f fd ps sp) (hr:Room k X.A) (hb:Binds X.K fd ps ds) (hd:Vals dvs ds) (hx:lT CX X E)
  (I:Inv X pins σ H s) (r:Vals vs us) (h:sp (vs++dvs) H Q E):wpAny (model X.prog X.w) X.A (call (.ref f) us) (EP X pins σ Q) X.xe s:=by
 have r2:Vals (vs++dvs) (us++ds):=r.append hd;have hl:(us++ds).length=ps.length:=by rw[<- r2.length];exact F.len _ _ _ _ h
 refine wpAny_call (codeAny_mono (F.run X.A X.stack s H ⟨us,[]⟩ (us++ds) (vs++dvs) Q E hr I.env0 (hb s us I.kIn hl) r2 h) λr s' hq=>?_);cases r with
 |error e=>exact hx pins σ H s e s' I hq
 | ok fl=>
  cases fl with
  |ret u=>exact I.after hq
  |next=>exact False.elim hq
  |brk=>exact False.elim hq
  |cont=>exact False.elim hq
theorem de (F:FnOk X.prog X.w X.K X.mg X.base CX k f fd ps sp) (hr:Room k X.A) (hg:Gl X x) (hm:X.mg x=some (.ref f)) (hk:PySem.W.keepIn X.K (.ref f)=true) (hb:Binds X.K fd ps ds) (hd:Vals dvs ds) (hx:lT CX X E)
  (ha:PA X (e::es) t) (hdb:(x == ("__debug__" : Str))=false:=by decide) (he:starEach (e::es) X.env=(false,eval e X.env)::starEach es X.env:=by rfl) (hpl:(backTo pos (starEach es X.env)).any (·.1)=false:=by rfl) :
  PE X (.Call (.Name x p) (e::es) [] pos) (eW sp dvs E t):=by
 intro pins s σ H Q I h;refine wpAny_Call_Name_kw (nk I hg hm ?_ hdb);refine PySem.W.callWith_K (h₀:=X.base) I.ok.mod.kin hk (thn (ha pos pins s σ H _ I h) λus s1 ⟨vs,H1,I1,r,q⟩=>⟨I1.kIn,?_⟩) he hpl;exact qy F hr hb hd hx I1 r q
end
def PK (X:Cx) (kws:List Keyword) (t:TA):Prop:=
 ∀(pos:Pos) (pins:List (Addr×Obj)) (s:Shared) (σ:St) (H:Hp) (Q:List V->Hp->Prop),Inv X pins σ H s->t σ H Q->wpAny (model X.prog X.w) X.A (evalAll ((backToKw pos (keywordEach kws X.env)).map (·.2))) (AP X pins σ Q) X.xe s
section
variable {X:Cx}{CX:CXT}{k:Nat}{f C:Addr}{fd:FuncData}{ps ks:List Str}{sp:Sp}{E:XK}{x m:Str}{p pos apos kpos:Pos}{e o:Expr}{es:List Expr}{kws:List Keyword}{te ta:TE}{t tk:TA}{nm:Option Str}
theorem Ck:PK X [] tNil:=λ_ _ _ _ H Q I h=>wpAny_evalAll_nil ⟨[],H,I,.nil,h⟩
theorem mP (ha:PE X e te) (hr:PK X kws t):PK X (⟨nm,e,kpos⟩::kws) (Y2 te t):=by
 intro pos pins s σ H Q I h
 show wpAny _ _ (evalAll ((do let v <- eval e X.env;standAt pos;pure v)::(backToKw pos (keywordEach kws X.env)).map (·.2))) _ _ s;refine wpAny_evalAll_cons (qA2 (thn (ha pins s σ H _ I h) λu s1 ⟨x,H1,I1,r1,q1⟩=>qA2 (wpAny_standAt (wpAny_pure ?_))));exact thn (hr pos pins s1 σ H1 _ I1 q1) λus s2 zz38=>by obtain ⟨xs,H2,I2,r2,q2⟩:=zz38;exact ⟨x::xs,H2,I2,.cons r1 r2,q2⟩
variable {g:List Value->List Value->List Value}{gV:List V->List V->List V}
end
structure d7 (N P:List Str) (sc:Scope):Prop where
 kind:sc.kind=.function
 co:sc.isCoroutine=false
 gen:sc.isGenerator=false
 nd:N.Nodup
 pre:N.take P.length=P
 par:∀x∈P,sc.names.lookup x=some .local\/sc.names.lookup x=some .cell
 nofree:∀y∈sc.names,y.2≠.free
theorem sM {kindOf:Str->Option NameKind}{x:Str}:∀{binds:List (Str×Value)}{m:Str->Option Value},(∀v,(x,v)∉binds)->bindL kindOf binds m x=m x:=by
 intro binds
 induction binds with
 |nil=>intro m _;rfl
 | cons p r ih=>
  intro m h;unfold bindL;rw[ih λw hw=>h w (qA7 _ hw)]
  split
  ·have:x≠p.1:=by rintro rfl;exact h p.2 qB1
   simp [this]
  ·rfl
theorem sP {kindOf:Str->Option NameKind}{x:Str}:∀{binds:List (Str×Value)}{m:Str->Option Value},(∀v,(x,v)∉binds)->bindC kindOf binds m x=m x:=by
 intro binds
 induction binds with
 |nil=>intro m _;rfl
 | cons p r ih=>
  intro m h;unfold bindC;rw[ih λw hw=>h w (qA7 _ hw)]
  split
  ·rfl
  ·have:x≠p.1:=by rintro rfl;exact h p.2 qB1
   simp [this]
theorem sO {kindOf:Str->Option NameKind}{x:Str}{v:Value}:∀{P:List Str}{vs:List Value}{i:Nat}{m:Str->Option Value},P.Nodup->P[i]?=some x->vs[i]?=some v->kindOf x=some .local ->
  bindL kindOf (P.zip vs) m x=some v:=by
 intro P
 induction P with
 |nil=>intro vs i m _ h _ _;cases h
 | cons p P ih=>
  intro vs i m nd h1 h2 hk;cases vs with
  |nil=>cases h2
  | cons w vs=>
   show bindL kindOf ((p,w)::P.zip vs) m x=_;unfold bindL;cases i with
   | zero=>
    cases h1;cases h2;rw[sM λv hv=>(List.nodup_cons.mp nd).1 (List.of_mem_zip hv).1,qA4 hk];simp
   |succ i=>exact ih (List.nodup_cons.mp nd).2 h1 h2 hk
theorem sQ {kindOf:Str->Option NameKind}{x:Str}{v:Value}:∀{P:List Str}{vs:List Value}{i:Nat}{m:Str->Option Value},P.Nodup->P[i]?=some x->vs[i]?=some v->kindOf x≠some .local ->
  bindC kindOf (P.zip vs) m x=some v:=by
 intro P
 induction P with
 |nil=>intro vs i m _ h _ _;cases h
 | cons p P ih=>
  intro vs i m nd h1 h2 hk;cases vs with
  |nil=>cases h2
  | cons w vs=>
   show bindC kindOf ((p,w)::P.zip vs) m x=_;unfold bindC;cases i with
   | zero=>
    cases h1;cases h2;rw[sP λv hv=>(List.nodup_cons.mp nd).1 (List.of_mem_zip hv).1,qA6 hk];simp
   |succ i=>exact ih (List.nodup_cons.mp nd).2 h1 h2 hk
def start (N:List Str)(vs:List V):St:=vs.map some++List.replicate (N.length-vs.length) none
def bt (CX:CXT) (P:Program) (w:World) (K:Frag) (mg:Str->Option Value) (base:Heap) (N:List Str) (qual:Str) (scope:Scope) (f:Addr) (cd:Value) (A:Around) (outer:List Env) (s:Shared) (H:Hp) (E:XK):Cx where
 prog:=P
 w:=w
 K:=K
 mg:=mg
 base:=base
 A:=A.deeper (envOfC qual scope s.heap.objs.size f cd)
 N:=N
 s₀:=s
 H₀:=H
 env:=envOfC qual scope s.heap.objs.size f cd
 outer:=outer
 stack:=envOfC qual scope s.heap.objs.size f cd::outer
 ex:=[]
 calm:=true
 fn:=λ_=>true
 pn:=[]
 xe:=λe s'=>wpAny (model P w) (A.deeper (envOfC qual scope s.heap.objs.size f cd)) (leaving (envOfC qual scope s.heap.objs.size f cd) e) (λ_ s''=>CX outer H s E e s'') (λe' s''=>CX outer H s E e' s'') s'
theorem lG {sc:Scope}{n:Nat}{x:Str}(h:sc.names.lookup x=some .cell):∃c,(cellsFrom n sc.names []).lookup x=some c:=by
 have q:=PySem.W.cellsFrom_some sc.names n [] (.inl h);exact Option.isSome_iff_exists.mp q
theorem rK {CX:CXT}{P:Program}{w:World}{K:Frag}{mg:Str->Option Value}{base:Heap}{N ps:List Str}{qual:Str}{scope:Scope}{f:Addr}{cd:Value}{A:Around}{outer:List Env}{s s1:Shared}{H:Hp}{E:XK}{us:List Value}{vs:List V}
  (S:d7 N ps scope) (hd:A.handled=none) (e0:pG P w K mg base A outer s H) (hl:vs.length=ps.length) (r:Vals vs us)
  (x:InCallC s s.heap.objs.size (bindL (envOfC qual scope s.heap.objs.size f cd).kindOf (ps.zip us) λ_=>none) (cellsFrom (s.heap.objs.size+1) scope.names []) (bindC (envOfC qual scope s.heap.objs.size f cd).kindOf (ps.zip us) λ_=>none) s1) :
  Inv (bt CX P w K mg base N qual scope f cd A outer s H E) [] (start N vs) H s1:=by
 have hpl:ps.length<=N.length:=by have:=congrArg List.length S.pre;rw[qM3]at this;omega
 obtain ⟨h1,tk,rfl,hk⟩:=x.done;have noA:∀b:Addr,b∉(bt CX P w K mg base N qual scope f cd A outer s H E).ex:=λb z=>absurd (show b∈([]:List Addr) from z) (by simp);refine ⟨⟨e0.mod,S.kind,rfl,rfl,qB9 _,λy z c h1 h2=>?_,λy hy=>?_,λy c _ h=>?_,λ_=>hd,Around.frames_deeper e0.frames,.inr ⟨rfl,rfl⟩,λb z=>absurd z (noA b),e0.bs,e0.bsz,λb _ _=>noA b,λb z=>absurd z (noA b),e0.funs,e0.frf⟩,
  rfl,e0.bare,Un.kept hk,⟨_,x.toInCall.ns,λi y v h1 h2 h3=>?_⟩,λy c h=>⟨_,x.cell y c h⟩,e0.hok.fresh (qB9 _),λy c h=>?_,λp hp=>absurd (show p∈([]:List (Addr×Obj)) from hp) (by simp),e0.hok.kept hk,?_⟩
 ·exact name_of_addr x.apart (qH4 h1) (qH4 h2)
 ·have hy:scope.names.lookup y=some .cell\/scope.names.lookup y=some .free:=hy;rcases hy with hy|hy
  ·exact lG hy
  ·exact absurd rfl (S.nofree _ (qH4 hy))
 ·exact qH9 (x.above y c (qH4 h))
 ·have hi:i<vs.length:=by
   unfold start at h2;by_cases hi:i<vs.length
   ·exact hi
   ·rw [qG3 (by simpa using hi)]at h2
    rw[qF6]at h2
    split at h2 <;> cases h2
  have ha:vs[i]?=some v:=by
   unfold start at h2;rw[qE0 (by simpa using hi),qA8]at h2;cases e:vs[i]? with
   |none=>rw[e]at h2;cases h2
   |some a=>rw[e]at h2;cases h2;rfl
  obtain ⟨u,hu,rv⟩:=r.get ha;have hp:ps[i]?=some y:=by
   rw[<- S.pre,List.getElem?_take_of_lt (by omega)];exact h1
  have ndP:ps.Nodup:=by rw[<- S.pre];exact S.nd.sublist (List.take_sublist _ _)
  refine ⟨u,rv,?_⟩;rcases S.par y (qC8 hp) with k|k
  ·exact .inl ⟨k,sO ndP hp hu k⟩
  ·obtain ⟨c,e⟩:=lG (n:=s.heap.objs.size+1) k;refine .inr ⟨.inl k,c,e,?_⟩;have q:=x.cell y c e;rw[sQ ndP hp hu (by show scope.names.lookup y≠_;rw[k];decide)]at q;exact q
 ·exact e0.hok.fresh (qH9 (x.above y c (qH4 h)))
 ·unfold start
  show _=N.length;rw[qC3,qA1,List.length_replicate];omega
theorem Ga {CX:CXT}{P:Program}{w:World}{K:Frag}{mg:Str->Option Value}{base:Heap}{k:Nat}{f:Addr}{name qual:Str}{params:Arguments}{body:List Stmt}{scope:Scope}{dV kV doc pm cdv ct oc:Value}{an od:Option Addr}
  {osl:Array (Option Value)}{N ps:List Str}{sp:Sp}(lk:K.lookup f=some ⟨oc,od,.func (PySem.W.fnOf name qual params body scope dV kV doc pm an cdv ct),osl⟩) (hcd:PySem.W.codeIn K cdv qual=true) (S:d7 N ps scope)
  (len:∀vs H Q E,sp vs H Q E->vs.length=ps.length)
  (hbody:∀(A:Around) (outer:List Env) (s:Shared) (H:Hp) (vs:List V) (Q:VK) (E:XK),Room k (A.deeper (envOfC qual scope s.heap.objs.size f cdv))->sp vs H Q E ->
   ∃t,PSs (bt CX P w K mg base N qual scope f cdv A outer s H E) body t/\t { nx:=λ_ H'=>Q .non H',rt:=Q } (start N vs) H) :
  FnOk P w K mg base CX (k+1) f (PySem.W.fnOf name qual params body scope dV kV doc pm an cdv ct) ps sp:=by
 refine ⟨len,λA outer s H args us vs Q E hr e0 hb r hsp=>?_⟩;have hl:=len _ _ _ _ hsp;have KX:K.In s.heap:=e0.mod.kin.keeps λb o e=>(e0.bs b o e).1;have lim:s.heap.NoLimit:=e0.mod.nolimit.keeps λb o e=>(e0.bs b o e).1;have hkind:∀y∈ps.zip us,scope.names.lookup y.1=some .local\/(scope.names.lookup y.1=some .cell/\((cellsFrom (s.heap.objs.size+1) scope.names []).lookup y.1).isSome=true):=λzz39 hy=>by
  obtain ⟨n,v⟩:=zz39;rcases S.par n (List.of_mem_zip hy).1 with q|q
  ·exact .inl q
  ·exact .inr ⟨q,PySem.W.cellsFrom_some _ _ _ (.inl q)⟩
 refine codeAny_call_function hr.depth (KX _ _ lk) rfl S.co S.gen rfl (PySem.W.codeRec_of KX hcd) (hb _ _ _ _ ?_);refine wpAny_newFunctionEnv_cells S.kind hkind λenv he s1 x=>?_;subst he;refine ⟨lim.keeps x.toInCall.keep,codeAny_func ?_⟩;obtain ⟨t,ht,hq⟩:=hbody A outer s H vs Q E (hr.deeper _) hsp;have I:Inv (bt CX P w K mg base N qual scope f cdv A outer s H E) [] (start N vs) H s1:=rK S hr.hd e0 hl r x;refine wpAny_mono (ht [] s1 (start N vs) H _ I hq) (λfl s' hs=>?_) λe s' hs=>hs;have fin:∀{σ':St}{H':Hp}{v:V}{u:Value},Inv (bt CX P w K mg base N qual scope f cdv A outer s H E) [] σ' H' s'->RelV v u->Q v H'->CE outer P w H s Q u s':=
  λ{σ' H' v u} J rv q=>⟨v,H',J.os,J.bare,J.base,J.hok,rv,q⟩
 cases fl with
 | ret u=>
  obtain ⟨v,σ',H',J,rv,q⟩:=hs;exact fin J rv q
 | next=>
  obtain ⟨σ',H',J,q⟩:=hs;exact fin (v:=V.non) (u:=Value.none) J rfl q
 | brk=>
  obtain ⟨_,_,_,q⟩:=hs;exact False.elim q
 | cont=>
  obtain ⟨_,_,_,q⟩:=hs;exact False.elim q
end L2
namespace L2
open PySem PySem.Spec PyProof.Rows
section
variable {X:Cx}{x:Str}{p pos:Pos}{e:Expr}{es:List Expr}{t:TA}{id T:String}{r:List V->Hp->VK->Prop}
def tCB (r:List V->Hp->VK->Prop)(t:TA):TE:=λσ H Q=>t σ H λvs H1=>r vs H1 Q
theorem uJ (hc:F5 X (.builtin id) r) (hg:Gl X x) (hm:X.mg x=none) (hv:bootBuiltins x=some (.builtin id)) (ha:PA X (e::es) t) (hn:x ≠ "__name__" := by decide) (hdb:(x == ("__debug__" : Str))=false:=by decide)
  (he:starEach (e::es) X.env=(false,eval e X.env)::starEach es X.env:=by rfl) (hpl:(backTo pos (starEach es X.env)).any (·.1)=false:=by rfl):PE X (.Call (.Name x p) (e::es) [] pos) (tCB r t):=by
 intro pins s σ H Q I h;refine wpAny_Call_Name_kw (O9 I hg hm hv ?_ hn hdb);exact PyProof.Rows.callWith_builtin1 (thn (ha pos pins s σ H _ I h) λus s1 zz40=>by obtain ⟨vs,H1,I1,r1,q1⟩:=zz40;exact hc pins s1 σ H1 vs us Q I1 r1 q1) he hpl
theorem qL (hc:F5 X (.type T) r) (hg:Gl X x) (hm:X.mg x=none) (hv:bootBuiltins x=some (.type T)) (ha:PA X (e::es) t) (hn:x ≠ "__name__" := by decide) (hdb:(x == ("__debug__" : Str))=false:=by decide)
  (he:starEach (e::es) X.env=(false,eval e X.env)::starEach es X.env:=by rfl) (hpl:(backTo pos (starEach es X.env)).any (·.1)=false:=by rfl):PE X (.Call (.Name x p) (e::es) [] pos) (tCB r t):=by
 intro pins s σ H Q I h;refine wpAny_Call_Name_kw (O9 I hg hm hv ?_ hn hdb);exact qF5 (thn (ha pos pins s σ H _ I h) λus s1 zz41=>by obtain ⟨vs,H1,I1,r1,q1⟩:=zz41;exact hc pins s1 σ H1 vs us Q I1 r1 q1) he hpl
end
end L2
namespace HT
open PySem PyProof.Rows
def lexLt:List Int->List Int->Bool
 | [],[]=>false
 | [],_::_=>true
 |_::_,[]=>false
 |x::xs,y::ys=>if x=y then lexLt xs ys else decide (x<y)
section
open PySem.SeqAt
open PySem.AutoSeq1 (wpAny_loadPart')
open PySem.MeetsSeq PySem.MeetsSeq2 PySem.MeetsSeq3
end
section
variable {prog:Program}{w:World}{A:Around}{E:Value->Shared->Prop}{s:Shared}
def sIx (n d:Nat):Option Int->Nat
 |none=>d
 |some v=>if v<0 then (v+(n:Int)).toNat else min v.toNat n
theorem sIx_none (n d:Nat):sIx n d none=d:=rfl
theorem sIx_nat (n d k:Nat):sIx n d (some (k:Int))=min k n:=by
 show (if (k:Int)<0 then ((k:Int)+(n:Int)).toNat else min (k:Int).toNat n)=min k n;rw[qA6 (by omega),qF8]
end
end HT
namespace L2
open PySem PySem.Spec PyProof.Rows
abbrev TO:=St->Hp->(Option Int->Hp->Prop)->Prop
def PO (X:Cx) (e:Option Expr) (t:TO):Prop:=
 ∀ (pins:List (Addr×Obj)) (s:Shared) (σ:St) (H:Hp) (Q:Option Int->Hp->Prop),Inv X pins σ H s->t σ H Q ->
  wpAny (model X.prog X.w) X.A (evalPart e X.env) (λu s'=>∃o H',Inv X pins σ H' s'/\IsPart u o/\Q o H') X.xe s
def tNoPart:TO:=λ_ H Q=>Q none H
def wn (t:TE):TO:=λσ H Q=>t σ H λx H1=>∃i,x=.int i/\Q (some i) H1
section
variable {X:Cx}{e:Expr}{te:TE}{lo hi:Option Expr}{tl th:TO}{pos p2:Pos}
theorem po_none:PO X none tNoPart:=by
 intro pins s σ H Q I h;rw[evalPart_none];exact wpAny_pure ⟨none,H,I,.none,h⟩
theorem xX (h:PE X e te):PO X (some e) (wn te):=by
 intro pins s σ H Q I hw;rw[evalPart_some];refine thn (h pins s σ H _ I hw) λu s1 zz42=>?_;obtain ⟨x,H1,I1,r1,q1⟩:=zz42;obtain ⟨i,rfl,q⟩:=q1;obtain ⟨t,rfl⟩:=r1;exact ⟨some i,H1,I1,.int i t,q⟩
def SlR (X:Cx) (r:V->Option Int->Option Int->Hp->VK->Prop):Prop:=
 ∀ (pins:List (Addr×Obj)) (s:Shared) (σ:St) (H:Hp) (x:V) (v vl vu:Value) (lo hi:Option Int) (sl:Addr) (Q:VK),Inv X pins σ H s->RelV x v->s.heap.IsSliceOf sl vl vu .none->IsPart vl lo->IsPart vu hi->r x lo hi H Q ->
  ∃T id,typeLookup (.type T) "__getitem__" = pure (some (.builtin id))/\s.TypeIs v T/\wpAny (model X.prog X.w) X.A (getItem v (.ref sl)) (EP X pins σ Q) X.xe s
def tSl (r:V->Option Int->Option Int->Hp->VK->Prop)(te:TE)(tl th:TO):TE:=λσ H Q=>te σ H λx H1=>tl σ H1 λl H2=>th σ H2 λu H3=>r x l u H3 Q
theorem uH {r:V->Option Int->Option Int->Hp->VK->Prop}(hr:SlR X r) (he:PE X e te) (hl:PO X lo tl) (hu:PO X hi th):PE X (.Subscript e (.Slice lo hi none p2) pos) (tSl r te tl th):=by
 intro pins s σ H Q I h;refine Subscript_ (thn (he pins s σ H _ I h) λv s1 zz43=>?_);obtain ⟨x,H1,I1,r1,q1⟩:=zz43;refine wpAny_Slice (thn (hl pins s1 σ H1 _ I1 q1) λvl s2 ⟨l,H2,I2,pl,q2⟩=>thn (hu pins s2 σ H2 _ I2 q2) λvu s3 zz45=>?_);obtain ⟨u,H3,I3,pu,q3⟩:=zz45;rw[evalPart_none];refine wpAny_pure ?_;have I4:Inv X pins σ H3 { s3 with heap:=s3.heap.push { cls:=.type "slice",data:=.fields #[vl,vu,.none] } }:=I3.kept (t':=s3.toks) λb ob q=>qA9 _ q;obtain ⟨T,id,hT,ht,hg⟩:=hr pins { s3 with heap:=s3.heap.push { cls:=.type "slice",data:=.fields #[vl,vu,.none] } } σ H3 x v vl vu l u s3.heap.objs.size Q I4 r1 (Heap.IsSliceOf.new ..) pl pu q3
 show wpAny (model X.prog X.w) X.A (subscriptTail e (.Slice lo hi none p2) v (.ref s3.heap.objs.size)) (EP X pins σ Q) X.xe { s3 with heap:=s3.heap.push { cls:=.type "slice",data:=.fields #[vl,vu,.none] } };exact tail_any (ops:=[.ref s3.heap.objs.size,v]) ht hT hg (by with_unfolding_all rfl)
def ig (xs:List V)(lo hi:Option Int):List V:=(xs.drop (HT.sIx xs.length 0 lo)).take (HT.sIx xs.length xs.length hi-HT.sIx xs.length 0 lo)
theorem mt (xs:List V) (lo hi:Option Int):(ig xs lo hi).length<=xs.length:=by
 unfold ig;rw[qM3,qM4];omega
theorem Vals.nil_iff {xs:List V}{us:List Value}(r:Vals xs us):us = []↔xs = []:=by
 cases r with
 |nil=>simp
 |cons _ _=>simp
end
end L2
namespace L2
open PySem PySem.Spec PyProof.Rows
def ixN (n:Nat) (i:Int):Option Nat:=if 0<=i then (if i<n then some i.toNat else none) else if -(n:Int)<=i then some (i+n).toNat else none
def atI {α:Type}(xs:List α) (i:Int):Option α:=(ixN xs.length i).bind λj=>xs[j]?
theorem nq {n:Nat}{i:Int}{j:Nat}(h:ixN n i=some j):seqIndex? i n=some j/\j<n /\ -(n:Int)<=i/\i<n:=by
 unfold ixN at h;by_cases h0:0<=i
 ·rw [qA4 h0]at h
  by_cases h1:i<n
  ·rw [qA4 h1]at h
   have e:i.toNat=j:=Option.some.inj h;exact ⟨by rw[seqIndex_of h0 h1,e],by omega,by omega,h1⟩
  ·rw[qA6 h1]at h;cases h
 ·rw [qA6 h0]at h
  by_cases h1:-(n:Int)<=i
  ·rw [qA4 h1]at h
   have e:(i+n).toNat=j:=Option.some.inj h;exact ⟨by rw[seqIndex_neg (by omega) h1,e],by omega,h1,by omega⟩
  ·rw[qA6 h1]at h;cases h
theorem ij {α:Type}{xs:List α}{i:Int}{v:α}(h:atI xs i=some v):∃j,seqIndex? i xs.length=some j/\xs[j]?=some v/\j<xs.length /\ -(xs.length:Int)<=i/\i<xs.length:=by
 unfold atI at h;cases e:ixN xs.length i with
 |none=>rw[e]at h;cases h
 | some j=>
  rw[e]at h;obtain ⟨h1,h2,h3,h4⟩:=nq e;exact ⟨j,h1,h,h2,h3,h4⟩
def im (b:Expr):Prop:=∀o i,subscripted b false o i=operate [o,i] (getItem o i)
def IxR (X:Cx) (r:R2):Prop:=
 ∀ (value slice:Expr) (pins:List (Addr×Obj)) (s:Shared) (σ:St) (H:Hp) (x y:V) (v u:Value) (Q:VK),Inv X pins σ H s->RelV x v->RelV y u->r x y H Q ->
  subscripted slice false v u=operate [v,u] (getItem v u)->wpAny (model X.prog X.w) X.A (subscriptTail value slice v u) (EP X pins σ Q) X.xe s
def MtR (X:Cx) (id:String) (r:V->List V->Hp->VK->Prop):Prop:=
 ∀ (pins:List (Addr×Obj)) (s:Shared) (σ:St) (H:Hp) (x:V) (xs:List V) (v:Value) (us:List Value) (Q:VK),Inv X pins σ H s->RelV x v->Vals xs us->r x xs H Q ->
  wpAny (model X.prog X.w) X.A (call (.builtin id) (v::us)) (EP X pins σ Q) X.xe s
section
variable {X:Cx}{a b:Expr}{ta tb:TE}{pos:Pos}
theorem IxR.or {r r':R2}(h:IxR X r) (h':IxR X r'):IxR X (λx y H Q=>r x y H Q\/r' x y H Q):=by
 intro value slice pins s σ H x y v u Q I rx ry q hs;rcases q with q|q
 ·exact h value slice pins s σ H x y v u Q I rx ry q hs
 ·exact h' value slice pins s σ H x y v u Q I rx ry q hs
theorem wE {r:R2}(hr:IxR X r) (ha:PE X a ta) (hb:PE X b tb) (hs:im b):PE X (.Subscript a b pos) (tOp r ta tb):=by
 intro pins s σ H Q I h;exact Subscript_ (wc ha hb I h λv u s2 x y H2 I2 rx ry q=>hr a b pins s2 σ H2 x y v u Q I2 rx ry q (hs _ _))
def BN (K:Frag):R2:=λx y H Q=>∃p xs i v,x=.ref p/\y=.int i/\SqL K H p xs/\atI xs i=some v/\Q v H
def BM (K:Frag):R2:=λx y H Q=>∃p xs i v,x=.ref p/\y=.int i/\SqT K H p xs/\atI xs i=some v/\Q v H
def rIxS:R2:=λx y H Q=>∃z i c,x=.str z/\y=.int i/\z.length<=sizeLine/\atI z.cps.toList i=some c/\Q (.str ⟨#[c]⟩) H
theorem ix_list:IxR X (BN X.K):=by
 intro value slice pins s σ H x y v u Q I rx ry h hs;obtain ⟨p,xs,i,z,rfl,rfl,hq,he,q⟩:=h;cases rx;obtain ⟨t,rfl⟩:=ry;obtain ⟨its,r,pl,hz⟩:=I.list hq;obtain ⟨j,h1,h2,h3,h4,h5⟩:=ij he;obtain ⟨w,ew,rw'⟩:=r.get h2;have hl:=r.length;have hn:=cD;have fin:EP X pins σ Q w s:=⟨z,H,I,rw',q⟩;by_cases h0:0<=i
 ·have hj:i.toNat=j:=by
   rw[seqIndex_of h0 h5]at h1;exact Option.some.inj h1
  exact item_listR pl.isList h0 (by omega) (by rw[hj];simpa using ew) fin hs
 ·have hj:(i+(its.toArray.size:Int)).toNat=j:=by
   rw[seqIndex_neg (by omega) h4]at h1;rw[qB5,<- hl];exact Option.some.inj h1
  exact subscriptTail_builtinR (x:=w) pl.isList.typeIs slot_list_getitem.lookup
   (wpAny_getItem_list_neg (Q:=λr s'=>r=w/\EP X pins σ Q r s') pl.isList (by omega) (by rw[qB5] <;> omega) (by omega) (by rw[hj];simpa using ew) ⟨rfl,fin⟩) hs
theorem ix_tup:IxR X (BM X.K):=by
 intro value slice pins s σ H x y v u Q I rx ry h hs;obtain ⟨p,xs,i,z,rfl,rfl,hq,he,q⟩:=h;cases rx;obtain ⟨t,rfl⟩:=ry;obtain ⟨its,r,pl,hz⟩:=I.tuple hq;obtain ⟨j,h1,h2,h3,h4,h5⟩:=ij he;obtain ⟨w,ew,rw'⟩:=r.get h2;have hl:=r.length;have hn:=cD;have fin:EP X pins σ Q w s:=⟨z,H,I,rw',q⟩;exact subscriptTail_builtinR (x:=w) pl.typeIs slot_tuple_getitem.lookup
  (getItem_tuple (j:=j) (Q:=λr s'=>r=w/\EP X pins σ Q r s') pl (by omega) (by omega) (by rw[qB5,<- hl];exact h1) (by simpa using ew) ⟨rfl,fin⟩) hs
theorem CU:IxR X rIxS:=by
 intro value slice pins s σ H x y v u Q I rx ry h hs;obtain ⟨z,i,c,rfl,rfl,hz,he,q⟩:=h;obtain ⟨t,rfl⟩:=rx;obtain ⟨t',rfl⟩:=ry;obtain ⟨j,h1,h2,h3,h4,h5⟩:=ij he;have hl:z.cps.toList.length=z.length:=by simp [Str.length]
 rw[hl]at h1 h4 h5;have hn:=cD;exact tail_any (typeIs_str s z t) slot_str_getitem.lookup (getItem_str (c:=c) (by
  have e1:decide (i < -(2^63:Int))=false:=decide_eq_false (by omega);have e2:decide (i≥2^63)=false:=decide_eq_false (by omega);rw[e1,e2,Bool.or_false]) (by rw[h1];simpa using h2) ⟨.str ⟨#[c]⟩,H,I.tok _,⟨_,rfl⟩,q⟩) hs
def rIx (K:Frag):R2:=λx y H Q=>BN K x y H Q\/BM K x y H Q\/rIxS x y H Q
theorem rD:IxR X (rIx X.K):=ix_list.or (ix_tup.or CU)
theorem oI (its:List Value) (n j:Nat) (u:Value):Obj.mapSeq (·.setIfInBounds j u) { cls:=.type "list",data:=.seq its.toArray n }={ cls:=.type "list",data:=.seq (its.set j u).toArray n }:=by
 simp [Obj.mapSeq]
theorem Inv.lst {pins:List (Addr×Obj)}{σ:St}{H:Hp}{s:Shared}{p:Addr}{xs:List V}(I:Inv X pins σ H s) (h:H p=some (.lst xs)) :
  ∃(its:List Value) (n:Nat),Vals xs its/\s.heap.get? p=some { cls:=.type "list",data:=.seq its.toArray n }/\xs.length<=sizeLine:=by
 obtain ⟨z,its,n,r,e⟩:=I.hok p _ h;exact ⟨its,n,r,e,z⟩
theorem Inv.lstUpd {pins:List (Addr×Obj)}{σ:St}{H:Hp}{s:Shared}{p:Addr}{xs ys:List V}{its its':List Value}{n n':Nat}{f:Obj->Obj}(I:Inv X pins σ H s) (h:H p=some (.lst xs))
  (ho:s.heap.get? p=some { cls:=.type "list",data:=.seq its.toArray n }) (hf:f { cls:=.type "list",data:=.seq its.toArray n }={ cls:=.type "list",data:=.seq its'.toArray n' }) (r:Vals ys its') (hz:ys.length<=sizeLine) (t:Nat) :
  Inv X pins σ (upd H p (.lst ys)) { s with heap:=s.heap.update p f,toks:=t }:=by
 have e:(s.heap.update p f).get? p=some { cls:=.type "list",data:=.seq its'.toArray n' }:=by
  rw[qI9 f ho (by rw[hf] <;> rfl),hf]
 refine I.write (x:=p) (e:=p) (by rw[h];trivial) (.inl rfl) (λb u hb q=>(qK0 _ _ (Ne.symm hb)).trans q) ⟨_,e⟩ ?_;exact ⟨hz,its',n',r,e⟩
def rSetL:V->V->V->Hp->(Hp->Prop)->Prop:=λo i v H Q=>∃p xs k j,o=.ref p/\i=.int k/\H p=some (.lst xs)/\ixN xs.length k=some j/\Q (upd H p (.lst (xs.set j v)))
theorem set_list:Fk X rSetL:=by
 intro pins s σ H o i v ov iv u Q I ro ri rv h;obtain ⟨p,xs,k,j,rfl,rfl,hp,hj,q⟩:=h;cases ro;obtain ⟨t,rfl⟩:=ri;obtain ⟨its,n,r,ho,hz⟩:=I.lst hp;obtain ⟨h1,h2,h3,h4⟩:=nq hj;have hl:=r.length;have hn:=cD;have I':Inv X pins σ (upd H p (.lst (xs.set j v))) { s with heap:=s.heap.update p (Obj.mapSeq (·.setIfInBounds j u)) }:=
  I.lstUpd hp ho (oI its n j u) (r.set rv j) (by rw[qD7];exact hz) s.toks
 by_cases h0:0<=k
 ·have hk:k.toNat=j:=by
   rw[seqIndex_of h0 h4]at h1;exact Option.some.inj h1
  exact PySem.W.ki_setAt ho h0 (by omega) (by rw[qB5,<- hl];exact h4) (by rw[hk];exact ⟨_,I',q⟩)
 ·have hk:(k+(its.toArray.size:Int)).toNat=j:=by
   rw[seqIndex_neg (by omega) h3]at h1;rw[qB5,<- hl];exact Option.some.inj h1
  exact PySem.W.ki_setBack ho (by omega) (by rw[qB5,<- hl];exact h3) (by omega) (by rw[hk];exact ⟨_,I',q⟩)
theorem jG (lo hi:Option Int) (n:Nat):(sliceBounds lo hi none n).1=((HT.sIx n 0 lo:Nat):Int)/\(sliceBounds lo hi none n).2.1=((HT.sIx n n hi:Nat):Int)/\(sliceBounds lo hi none n).2.2=1:=by
 refine ⟨?_,?_,rfl⟩
 ·cases lo with
  |none=>simp [sliceBounds,HT.sIx]
  | some i=>
   simp only [sliceBounds,HT.sIx,Option.getD_none,show (1:Int)>0 by decide,if_true];by_cases h:i<0
   ·simp only [h,if_true] <;> omega
   ·simp only [h,if_false] <;> omega
 ·cases hi with
  |none=>simp [sliceBounds,HT.sIx]
  | some i=>
   simp only [sliceBounds,HT.sIx,Option.getD_none,show (1:Int)>0 by decide,if_true];by_cases h:i<0
   ·simp only [h,if_true] <;> omega
   ·simp only [h,if_false] <;> omega
theorem ja (its:List Value) (lo hi:Option Int):slicePick its.toArray lo hi none=((its.drop (HT.sIx its.length 0 lo)).take (HT.sIx its.length its.length hi-HT.sIx its.length 0 lo)).toArray:=by
 obtain ⟨h1,h2,h3⟩:=jG lo hi its.toArray.size;unfold slicePick;rw[h1,h2,h3];simp only [sliceRange_one,pick_run,qB5] <;> rfl
def BI (K:Frag):V->Option Int->Option Int->Hp->VK->Prop:=λx lo hi H Q=>∃a xs,x=.ref a/\SqL K H a xs/\∀p,H p=none->Q (.ref p) (upd H p (.lst (ig xs lo hi)))
theorem xp:SlR X (BI X.K):=by
 intro pins s σ H x v vl vu lo hi sl Q I rx hs pl pu h;obtain ⟨a,xs,rfl,hx,q⟩:=h;cases rx;obtain ⟨its,r,ht,hz⟩:=I.list hx;have hlen:=r.length;refine ⟨"list",_,slot_list_getitem.lookup,ht.isList.typeIs,?_⟩;refine wpAny_getItem_list_slice ht.isList hs pl pu .none (by simp) ?_ (by rw[qB5] <;> omega)
 rw[ja,<- hlen];refine ⟨.ref s.heap.objs.size,_,I.laid (t':=s.toks) (o:=.lst (ig xs lo hi)) (λb ob q=>qA9 _ q) (qB9 _) ?_,rfl,q _ (I.hok.fresh (qB9 _))⟩;exact ⟨qB8 (mt xs lo hi) hz,_,0,(r.drop (HT.sIx xs.length 0 lo)).take (HT.sIx xs.length xs.length hi-HT.sIx xs.length 0 lo),qC2 _ rfl⟩
theorem lJ:F5 X (.builtin "len") (λxs H Q=>∃p ys,xs = [.ref p]/\(SqL X.K H p ys\/SqT X.K H p ys)/\Q (.int ys.length) H):=by
 intro pins s σ H xs us Q I r h;obtain ⟨p,ys,rfl,hq,q⟩:=h;obtain ⟨u,rfl,rx⟩:=vals1 r;cases rx;have hn:=cD;rcases hq with hq|hq
 ·obtain ⟨its,r',pl,hz⟩:=I.list hq;have hlen:=r'.length;exact Calls.call_len_list pl.isList (by simp only [qB5] <;> omega) ⟨.int ys.length,H,I.tok _,⟨s.toks+1,by rw[qB5,hlen]⟩,q⟩
 ·obtain ⟨its,r',pl,hz⟩:=I.tuple hq;have hlen:=r'.length;exact len_tuple pl (by simp only [qB5] <;> omega) ⟨.int ys.length,H,I.tok _,⟨s.toks+1,by rw[qB5,hlen]⟩,q⟩
theorem lH:F5 X (.type "list") (λxs H Q=>∃p ys,xs = [.ref p]/\(SqL X.K H p ys\/SqT X.K H p ys)/\∀l,H l=none->Q (.ref l) (upd H l (.lst ys))):=by
 intro pins s σ H xs us Q I r h;obtain ⟨p,ys,rfl,hq,q⟩:=h;obtain ⟨u,rfl,rx⟩:=vals1 r;cases rx;have fin:∀(its:List Value),Vals ys its->ys.length<=sizeLine->∀(h':Heap) (c':Nat),(∀b o',s.heap.get? b=some o'->h'.get? b=some o') ->
   h'.get? s.heap.objs.size=some { cls:=.type "list",dict:=none,data:=.seq its.toArray c',slots:=#[] }->EP X pins σ Q (.ref s.heap.objs.size) { s with heap:=h' }:=λits r' hz h' c' kp e=>
  ⟨.ref s.heap.objs.size,_,I.laid (t':=s.toks) kp (qB9 _) (show ObjOk X.prog X.w _ h' _ (.lst ys) from ⟨hz,its,c',r',e⟩),rfl,q _ (I.hok.fresh (qB9 _))⟩
 rcases hq with hq|hq
 ·obtain ⟨its,r',pl,hz⟩:=I.list hq;have hlen:=r'.length;obtain ⟨o,ho,hc,n,hd⟩:=pl.isList;exact call_list_seq p (.inl rfl) ho hc hd (λh' c' kp e=>fin its r' hz h' c' kp e) (by simp only [qB5] <;> omega)
 ·obtain ⟨its,r',pl,hz⟩:=I.tuple hq;have hlen:=r'.length;obtain ⟨o,ho,hc,n,hd⟩:=pl;exact call_list_seq p (.inr rfl) ho hc hd (λh' c' kp e=>fin its r' hz h' c' kp e) (by simp only [qB5] <;> omega)
theorem jf:F5 X (.type "tuple") (λxs H Q=>∃p ys,xs = [.ref p]/\((SqL X.K H p ys/\∀l,H l=none->Q (.ref l) (upd H l (.tup ys)))\/(SqT X.K H p ys/\Q (.ref p) H))):=by
 intro pins s σ H xs us Q I r h;obtain ⟨p,ys,rfl,h⟩:=h;obtain ⟨u,rfl,rx⟩:=vals1 r;cases rx;rcases h with ⟨hq,q⟩|⟨hq,q⟩
 ·obtain ⟨its,r',pl,hz⟩:=I.list hq;have hlen:=r'.length;refine call_tuple_list pl.isList (λh' kp=>?_) (by simp only [qB5] <;> omega)
  have I1:Inv X pins σ H { s with heap:=h' }:=I.kept (t':=s.toks) kp;have I2:Inv X pins σ (upd H h'.objs.size (.tup ys)) { s with heap:=h'.push { cls:=.type "tuple",data:=.seq its.toArray } }:=
   I1.laid (t':=s.toks) (λb o e=>qA9 _ e) (qB9 _) (show ObjOk X.prog X.w _ _ _ (.tup ys) from ⟨hz,its,r',IsTup.new _ _⟩)
  exact ⟨.ref h'.objs.size,_,I2,rfl,q _ (I1.hok.fresh (qB9 _))⟩
 ·obtain ⟨its,r',pl,hz⟩:=I.tuple hq;exact call_tuple_same pl ⟨.ref p,H,I,rfl,q⟩
def tyV (K:Frag) (T:String) (x:V) (H:Hp):Prop:=match x with
 | .str _=>T = "str"
 | .int _=>T = "int"
 | .ref p=>(T = "list" /\ ∃xs,SqL K H p xs)\/(T = "tuple" /\ ∃o,K.lookup p=some o/\o.cls=.type "tuple" /\ o.dict=none) \/
   (T = "dict" /\ ((∃kvs,H p=some (.dK kvs))\/∃kvs,H p=some (.dT kvs)))\/(T = "set" /\ ∃S n,H p=some (.set S n))
 |_=>False
theorem jy {pins:List (Addr×Obj)}{σ:St}{H:Hp}{s:Shared}{T:String}{x:V}{v:Value}(I:Inv X pins σ H s) (r:RelV x v) (ty:tyV X.K T x H) :
  s.TypeIs v T/\∀a,v=.ref a->∃ob,s.heap.get? a=some ob/\ob.dict=none:=by
 cases x with
 | str z=>
  obtain ⟨t,rfl⟩:=r;cases (show T = "str" from ty);exact ⟨typeIs_str s z t,λ_ e=>nomatch e⟩
 | int i=>
  obtain ⟨t,rfl⟩:=r;cases (show T = "int" from ty);exact ⟨typeIs_int s i t,λ_ e=>nomatch e⟩
 | ref p=>
  cases r;rcases ty with ⟨rfl,xs,hq⟩|⟨rfl,o,hk,hc,hd⟩|⟨rfl,hk⟩|⟨rfl,S,n,hk⟩
  ·obtain ⟨its,_,pl,_⟩:=I.list hq;refine ⟨pl.isList.typeIs,λa e=>?_⟩;cases e;obtain ⟨o,n,e,c,hd,_⟩:=pl;exact ⟨o,e,hd⟩
  ·refine ⟨⟨o,I.kIn p o hk,hc⟩,λa e=>?_⟩;cases e;exact ⟨o,I.kIn _ o hk,hd⟩
  ·have z:∃o,s.heap.get? p=some o/\o.ExactDict:=by
    rcases hk with ⟨kvs,hk⟩|⟨kvs,hk⟩
    ·obtain ⟨_,_,_,_,o,_,_,e,ex,_⟩:=I.hok p _ hk;exact ⟨o,e,ex⟩
    ·obtain ⟨_,_,_,_,o,_,_,e,ex,_⟩:=I.hok p _ hk;exact ⟨o,e,ex⟩
   obtain ⟨o,e,ex⟩:=z;refine ⟨⟨o,e,ex.1⟩,λa e2=>?_⟩;cases e2;exact ⟨o,e,ex.2.1⟩
  ·obtain ⟨o,_,_,_,e,ex,_⟩:=I.hok p _ hk;refine ⟨⟨o,e,ex.1⟩,λa e2=>?_⟩;cases e2;exact ⟨o,e,ex.2.1⟩
 |_=>exact False.elim ty
def AG (K:Frag)(T:String)(r:V->List V->Hp->VK->Prop)(to:TE):TE:=λσ H Q=>to σ H λx H1=>tyV K T x H1/\r x [] H1 Q
def tBM (K:Frag)(T:String)(r:V->List V->Hp->VK->Prop)(to:TE)(t:TA):TE:=λσ H Q=>to σ H λx H1=>tyV K T x H1/\t σ H1 λxs H2=>r x xs H2 Q
variable {o e:Expr}{es:List Expr}{to:TE}{t:TA}{name:Str}{apos cpos:Pos}{T id:String}{r:V->List V->Hp->VK->Prop}
theorem Cs (pa:PlainAttrs T) (slot:Slot T name id) (hty:typeOf (.builtin id)=pure (.type "method_descriptor")) (hm:MtR X id r) (ho:PE X o to)
  (hbase:attributeBase o name X.env (eval o X.env)=eval o X.env:=by rfl) (hline:(apos.endLine == cpos.line)=true:=by rfl):PE X (.Call (.Attribute o name apos) [] [] cpos) (AG X.K T r to):=by
 intro pins s σ H Q I h;refine wpAny_Call_method0_late hbase hline (thn (ho pins s σ H _ I h) λv s1 zz46=>?_);obtain ⟨x,H1,I1,r1,ty,q1⟩:=zz46;obtain ⟨h1,h2⟩:=jy I1 r1 ty;exact ⟨T,id,pa,slot,hty,h1,h2,Calls.callWith_builtin rfl (PySem.evalArgs_none (hm pins s1 σ H1 x [] v [] Q I1 r1 .nil q1))⟩
theorem wF (pa:PlainAttrs T) (slot:Slot T name id) (hty:typeOf (.builtin id)=pure (.type "method_descriptor")) (hm:MtR X id r) (ho:PE X o to) (ha:PA X (e::es) t)
  (hbase:attributeBase o name X.env (eval o X.env)=eval o X.env:=by rfl)
  (hfew:((backTo cpos (starEach (e::es) X.env)).all (λx=>!x.1)&&(backToKw cpos (keywordEach [] X.env)).all (λx=>x.1.isSome)
   && decide ((e::es).length+([]:List Keyword).length+(if ([]:List Keyword).isEmpty then 0 else 1)<30))=true:=by rfl)
  (hline:(apos.endLine == cpos.line)=true:=by rfl) (hs:starEach (e::es) X.env=(false,eval e X.env)::starEach es X.env:=by rfl) (hplain:(backTo cpos (starEach es X.env)).any (·.1)=false:=by rfl) :
  PE X (.Call (.Attribute o name apos) (e::es) [] cpos) (tBM X.K T r to t):=by
 intro pins s σ H Q I h;refine wpAny_Call_method_late hbase hfew hline rfl (thn (ho pins s σ H _ I h) λv s1 zz47=>?_);obtain ⟨x,H1,I1,r1,ty,q1⟩:=zz47;obtain ⟨h1,h2⟩:=jy I1 r1 ty;refine ⟨T,id,pa,slot,hty,h1,h2,?_⟩;have hA:=ha cpos pins s1 σ H1 _ I1 q1;rw[hs]at hA ⊢;refine Calls.callWith_builtin (by show (false||(backTo cpos (starEach es X.env)).any (·.1))=false;rw[hplain] <;> rfl) (Calls.evalArgs_plain ?_)
 exact thn hA λus s2 zz48=>by obtain ⟨vs,H2,I2,r2,q2⟩:=zz48;exact hm pins s2 σ H2 x vs v us Q I2 r1 r2 q2
end
end L2
namespace L2
open PySem PySem.Spec PyProof.Rows
def MtM (X:Cx) (id:String) (r:V->List V->Hp->VK->Prop):Prop:=
 ∀ (pins:List (Addr×Obj)) (s:Shared) (σ:St) (H:Hp) (x:V) (xs:List V) (v:Value) (us:List Value) (Q:VK),Inv X pins σ H s->RelV x v->Vals xs us->r x xs H Q ->
  wpAny (model X.prog X.w) X.A (call (.builtin id) (v::us)) (EP X pins σ Q) X.xe s
theorem Vals.one:∀{x:V}{us:List Value},Vals [x] us->∃u,us = [u]/\RelV x u:=by
 intro x us r;cases r with
 |cons r t=>cases t;exact ⟨_,rfl,r⟩
theorem Vals.zero:∀{us:List Value},Vals [] us->us = []
 |_,.nil=>rfl
theorem Vals.reverse {xs:List V}{us:List Value}(h:Vals xs us):Vals xs.reverse us.reverse:=by
 induction h with
 |nil=>exact .nil
 |cons r t ih=>rw[qG9,qG9];exact Vals.append ih (.cons r .nil)
theorem Vals.rep {xs:List V}{us:List Value}(h:Vals xs us):∀k:Nat,Vals (List.replicate k xs).flatten (List.replicate k us).flatten
 |0=>.nil
 | k+1=>by
  rw[qF4,qF4,qI2,qI2];exact Vals.append h (Vals.rep h k)
section
variable {X:Cx}{pins:List (Addr×Obj)}{σ:St}{H:Hp}{s:Shared}{l b:Addr}{xs ys zs:List V}
theorem Inv.lset {its its':List Value}{n:Nat}{f:Array Value->Array Value}{t':Nat}(I:Inv X pins σ H s) (hH:H l=some (.lst xs))
  (e:s.heap.get? l=some { cls:=.type "list",data:=.seq its.toArray n }) (hf:f its.toArray=its'.toArray) (hv:Vals ys its') (hz:ys.length<=sizeLine) :
  Inv X pins σ (upd H l (.lst ys)) { s with heap:=s.heap.update l (Obj.mapSeq f),toks:=t' }:=by
 have q:=PySem.IsL.update e f;rw[hf]at q;refine I.write (x:=l) (e:=l) (by rw[hH];exact trivial) (.inl rfl) (λb' u hb hu=>(qK0 s.heap (Obj.mapSeq f) (Ne.symm hb)).trans hu) ⟨_,q⟩ ?_;exact ⟨hz,its',_,hv,q⟩
theorem Inv.lnew {its:List Value}{t':Nat}(I:Inv X pins σ H s) (hv:Vals ys its) (hz:ys.length<=sizeLine) :
  Inv X pins σ (upd H s.heap.objs.size (.lst ys)) { s with heap:=s.heap.push { cls:=.type "list",data:=.seq its.toArray },toks:=t' }:=
 I.laid (λ_ _ q=>qA9 _ q) (qB9 _) ⟨hz,its,0,hv,qC2 _ rfl⟩
theorem Inv.fresh (I:Inv X pins σ H s):H s.heap.objs.size=none:=I.hok.fresh (qB9 _)
theorem Inv.lstM (I:Inv X pins σ H s) (hH:H l=some (.lst xs)):xs.length<=sizeLine/\∃(its:List Value) (n:Nat),Vals xs its/\xs.length=its.length/\s.heap.get? l=some { cls:=.type "list",data:=.seq its.toArray n }:=by
 obtain ⟨z,its,n,r,e⟩:=I.hok l _ hH;exact ⟨z,its,n,r,r.length,e⟩
theorem uP {n:Nat}(h:n<=sizeLine):Builtin.List.listTooLong n=false:=by
 unfold Builtin.List.listTooLong;exact decide_eq_false (by omega)
end
section
variable {X:Cx}
def rAppend:V->List V->Hp->VK->Prop:=λx vs H Q=>∃l xs y,x=.ref l/\vs = [y]/\H l=some (.lst xs)/\xs.length<sizeLine/\Q .non (upd H l (.lst (xs ++ [y])))
theorem iH:MtM X "list.append" rAppend:=by
 intro pins s σ H x vs v us Q I rx rv h;obtain ⟨l,xs,y,rfl,rfl,hH,hz,q⟩:=h;cases rx;obtain ⟨u,rfl,ru⟩:=rv.one;obtain ⟨z,its,n,r,hl,e⟩:=I.lstM hH;refine call_meets F.slot_list_append ⟨_,e,rfl⟩ F.entry_list_append (F.args_list_append_2 _ _) (PySem.list_append l its.toArray n u (by rw[qB5];omega)) ⟨e,?_⟩;refine ⟨.non,_,I.lset (its':=its ++ [u]) hH e (by simp) (r.append (.cons ru .nil)) ?_,rfl,q⟩;rw[qC3,qD9];omega
def rExtend:V->List V->Hp->VK->Prop:=λx vs H Q=>∃l b xs zs,x=.ref l/\vs = [.ref b]/\H l=some (.lst xs)/\H b=some (.lst zs)/\xs.length+zs.length<=sizeLine/\Q .non (upd H l (.lst (xs++zs)))
theorem rh:MtM X "list.extend" rExtend:=by
 intro pins s σ H x vs v us Q I rx rv h;obtain ⟨l,b,xs,zs,rfl,rfl,hH,hB,hz,q⟩:=h;cases rx;obtain ⟨u,rfl,ru⟩:=rv.one;cases ru;obtain ⟨z,its,n,r,hl,e⟩:=I.lstM hH;obtain ⟨z2,its2,n2,r2,hl2,e2⟩:=I.lstM hB;have hsz:its.toArray.size+its2.toArray.size<=sizeLine:=by rw[qB5,qB5];omega
 have hlong:¬ (!its.toArray.isEmpty&&Builtin.List.listTooLong (its.toArray.size+its2.toArray.size))=true:=by
  rw[uP hsz,Bool.and_false];exact qA5
 refine call_meets F.slot_list_extend ⟨_,e,rfl⟩ F.entry_list_extend (F.args_list_extend_2 _ _)
  (AutoSeq1.list_extend_list_list_0 l its.toArray n b its2.toArray n2 hlong (by rw[qB5];omega) (by omega)) ⟨e,e2,?_⟩
 refine ⟨.non,_,I.lset (its':=its++its2) hH e (by simp) (r.append r2) ?_,rfl,q⟩;rw[qC3];omega
def rReverse:V->List V->Hp->VK->Prop:=λx vs H Q=>∃l xs,x=.ref l/\vs = []/\H l=some (.lst xs)/\Q .non (upd H l (.lst xs.reverse))
theorem oF:MtM X "list.reverse" rReverse:=by
 intro pins s σ H x vs v us Q I rx rv h;obtain ⟨l,xs,rfl,rfl,hH,q⟩:=h;cases rx;have hus:=rv.zero;subst hus;obtain ⟨z,its,n,r,hl,e⟩:=I.lstM hH;refine call_meets F.slot_list_reverse ⟨_,e,rfl⟩ F.entry_list_reverse (F.args_list_reverse_1 _) (AutoSeq1.list_reverse_list_0 l its.toArray n (by rw[qB5];omega)) ⟨e,?_⟩;refine ⟨.non,_,I.lset (its':=its.reverse) hH e (by simp) r.reverse ?_,rfl,q⟩;rw[qB2];omega
def rCat:R2:=λx y H Q=>∃l b xs zs,x=.ref l/\y=.ref b/\H l=some (.lst xs)/\H b=some (.lst zs)/\xs.length+zs.length<=sizeLine/\∀p,H p=none->Q (.ref p) (upd H p (.lst (xs++zs)))
theorem qQ:OpR X (binaryOp .Add) rCat:=by
 intro pins s σ H x y v u Q I rx ry h;obtain ⟨l,b,xs,zs,rfl,rfl,hH,hB,hz,q⟩:=h;cases rx;cases ry;obtain ⟨z,its,n,r,hl,e⟩:=I.lstM hH;obtain ⟨z2,its2,n2,r2,hl2,e2⟩:=I.lstM hB;refine PySem.P.add_list e e2 ?_ (by rw[qB5,qB5];omega);have ea:its.toArray++its2.toArray=(its++its2).toArray:=by simp
 rw[ea];exact ⟨.ref _,_,I.lnew (t':=s.toks) (r.append r2) (by rw[qC3];omega),rfl,q _ I.fresh⟩
end
section
variable {prog:Program}{w:World}{A:Around}{E:Value->Shared->Prop}{s:Shared}
end
section
variable {X:Cx}
end
end L2
namespace Att
open PySem PySem.W PySem.Calls PyProof.Rows
theorem fE {P:Params}{h:Heap}:∀(ns:List Int) (vs:List Value),WellAll P h vs (ns.map WData.int)->IntsAre vs ns:=by
 intro ns
 induction ns with
 | nil=>
  intro vs w;rw[qI0]at w;cases w;exact .nil
 | cons n ns ih=>
  intro vs w;rw[qC4]at w;cases w with
  | cons a b=>
   cases a;exact .cons _ _ (ih _ b)
theorem qr {l:OpenLaw}{n:Nat}(hn:l.most=some n){P:Params}{h:Heap}{args:List WData}{vals:List Value}
  (hpre:l.row.toRowW.claim.pre args=true) (hwl:WellAll P h vals args) :
  ∃a vs ns,vals = [Value.ref a]/\args = [WData.list (ns.map WData.int)]/\h.get? a=some { cls:=.type "list",data:=.seq vs.toArray }/\IntsAre vs ns/\ns.length<=n:=by
 have hsh:WShape.hasAll [] args [.list .int]=true:=(pre_splitW hpre).1;have hc:l.pre.holds [] { args:=args }=true:=(pre_splitW hpre).2;obtain ⟨d,r,rfl,h1,h2⟩:=hasAllW_cons hsh;obtain rfl:=hasAllW_nil h2;obtain ⟨xs,rfl,h3⟩:=hasW_list h1;obtain ⟨ns,rfl⟩:=items_int h3;have hlen:ns.length<=n:=by
  unfold OpenLaw.pre at hc;have h4:(WTm.not (.lt (.lit (.int (n:Int))) (.len (.arg 0)))).holds [] { args:=[.list (ns.map .int)] }=true:=by
   have h4:=(holds_andW hc).1;rw[hn]at h4;exact h4
  have h5:=condW_of h4 (w_not (w_lt w_lit (w_len_list (w_arg rfl))));rw[qA1]at h5;refine qM5 λq=>?_;have q':(n:Int)<((ns.length:Nat):Int):=by omega
  first
   | (rw[decide_eq_true q']at h5;exact absurd h5 (by decide))
   | (simp at h5;omega)
 cases hwl with
 | cons w1 w2=>
  cases w2;cases w1 with
  |list ho hall=>exact ⟨_,_,ns,rfl,rfl,ho,fE ns _ hall,hlen⟩
theorem qH (l:OpenLaw) (args:List WData):l.row.toRowW.claim.post args (.bool true) args=true:=
 postW_of (r:=l.row.toRowW) (X:=(true == true))
  (show WShape.has [] (.bool true) .bool=true by first|rfl|decide|simp [WShape.has,WShape.arms,WShape.armsAll])
  (show (WTm.eq .res (.lit (.bool true))).value [] { args:=args,res:=some (.bool true),after:=args }=some (.bool (true == true)) from w_eq_bool (w_res rfl) w_lit) rfl
section
variable {prog:Program}{w:World}{A:Around}{E:Value->Shared->Prop}{s:Shared}{K:Frag}
end
end Att
namespace L2
open PySem PySem.Spec PyProof.Rows
theorem pL:∀{vs:List Value}{ns:List Int},IntsAre vs ns->Vals (ns.map V.int) vs:=by
 intro vs ns h
 induction h with
 |nil=>exact .nil
 |cons n t h ih=>exact .cons ⟨t,rfl⟩ ih
def pE (H:Hp):Prop:=∀b,H b=none\/∃o xs,H b=some (.frz o (.lst xs))
theorem vd {P:Program}{w:World}{K:Frag}{mg mb:Str->Option Value}{CX:CXT}{k:Nat}{fa a:Addr}{fd:FuncData}{x:Str}{sp:Sp}{s₁:Shared}{vs:List Value}{ns:List Int}
  (KX:K.In s₁.heap) (hns:s₁.heap.Ns mainGlobals mg) (hb:s₁.heap.Ns builtinsNs mb) (hbb:∀x:Str,x ≠ "__name__" -> mb x=bootBuiltins x) (hlim:s₁.heap.NoLimit) (hg:s₁.gens=#[])
  (ha:s₁.heap.get? a=some { cls:=.type "list",data:=.seq vs.toArray }) (hi:IntsAre vs ns) (hl:ns.length<=sizeLine) (hr:Room k callerA)
  (F:∀base:Heap,K.In base->base.Ns mainGlobals mg->FnOk P w K mg base CX k fa fd [x] sp) (hbind:∀(s:Shared) (u:Value),BindsTo s fd ⟨[u],[]⟩ [(x,u)])
  (hsp:∀H:Hp,pE H->SqL K H a (ns.map V.int)->sp [.ref a] H (λv _=>v=.bl true) λ_ _ _=>False)
  (hCX:∀H e s',CX [] H s₁ (λ_ _ _=>False) e s'->False) :
  codeAny (model P w) callerA (.call (.ref fa) ⟨[.ref a],[]⟩) (λr s'=>r=.ok (.ret (.bool true))/\OldK s₁.heap s'.heap/\s'.os=s₁.os/\AllBare s'.gens) s₁:=by
 have rv:=pL hi;have lenV:=hi.length
 -- from an abstract heap in which nothing but the script may be tracked
 have core:∀H:Hp,pE H->SqL K H a (ns.map V.int)->HOk P w H s₁.heap->(∀b,H b≠none->b=a)->(H a≠none->K.lookup a=none) ->
   codeAny (model P w) callerA (.call (.ref fa) ⟨[.ref a],[]⟩) (λr s'=>r=.ok (.ret (.bool true))/\OldK s₁.heap s'.heap/\s'.os=s₁.os/\AllBare s'.gens) s₁:=by
  intro H hO hS hok hA hK;have base_of:∀{b:Addr}{o:Obj},s₁.heap.get? b=some o->H b=none->(bi s₁.heap H).get? b=some o:=λe n=>vt e n;have noA:∀{b:Addr}{o:Obj}{es:Array DictEntry}{ep:Nat},s₁.heap.get? b=some o->o.data=.dict es ep->H b=none:=λ{b o es ep} e d=>by
   cases q:H b with
   |none=>rfl
   | some u=>
    have e':b=a:=hA b (by rw[q];simp);subst e';rw[ha]at e;cases e;have d':Data.seq vs.toArray _=Data.dict es ep:=d;cases d'
  have nsK:∀{b:Addr}{m:Str->Option Value},s₁.heap.Ns b m->(bi s₁.heap H).Ns b m:=λ{b m} zz49=>by obtain ⟨o,es,ep,e,d,r⟩:=zz49;exact ⟨o,es,ep,base_of e (noA e d),d,r⟩
  have hKb:K.In (bi s₁.heap H):=λb o e=>base_of (KX b o e) (by
   cases q:H b with
   |none=>rfl
   | some u=>
    have e':b=a:=hA b (by rw[q];simp);subst e';rw[hK (by rw[q];simp)]at e;cases e)
  have hM:Mod K mg (bi s₁.heap H):=⟨hKb,nsK hns,⟨mb,nsK hb,hbb⟩,let ⟨mc,h1,h2⟩:=hlim;⟨mc,nsK h1,h2⟩⟩;have e0:pG P w K mg (bi s₁.heap H) callerA [] s₁ H:=⟨rfl,hM,λb o e=>ym e,Nat.le_of_eq (rO _ _),trivial,λb hb=>absurd (show b∈([]:List Addr) from hb) (by simp),hok,.of_eq hg⟩;refine codeAny_mono ((F _ hKb (nsK hns)).run callerA [] s₁ H ⟨[.ref a],[]⟩ [.ref a] [.ref a] _ _ hr e0 (hbind s₁ (.ref a)) (.cons rfl .nil) (hsp H hO hS)) λr s' h=>?_;cases r with
  |error e=>exact (hCX H e s' h).elim
  | ok fl=>
   cases fl with
   |next=>exact False.elim h
   |brk=>exact False.elim h
   |cont=>exact False.elim h
   | ret u=>
    obtain ⟨v,H',os,bare,un,hok',r',q⟩:=h;have q':v=.bl true:=q;subst q';obtain rfl:u=Value.bool true:=r';refine ⟨rfl,OldK.of_keep λb o e=>?_,os,bare⟩;cases q:H b with
    |none=>exact un.keep b o e q (by intro z;exact absurd (show b∈([]:List Addr) from z) (by simp)) (by simp)
    | some u=>
     rcases hO b with z|⟨ob,xs,z⟩
     ·rw[q]at z;cases z
     ·have z2:=un.frzs b ob _ z;obtain ⟨e1,_⟩:=hok b _ z;obtain ⟨e2,_⟩:=hok' b _ z2;rw[e]at e1;cases e1;exact e2
 cases hk:K.lookup a with
 | some o=>
  -- the script is one of the module's own objects
  have e:=KX a o hk;rw[ha]at e;cases e;refine core (λ_=>none) (λ_=>.inl rfl) (.inr ⟨_,vs.toArray,_,hk,rfl,rfl,rfl,by rw[qB5,lenV];exact hl,by simpa using rv⟩) (λb u z=>by have z':(none:Option HO)=some u:=z;cases z') (λb z=>absurd rfl z) λz=>absurd rfl z
 | none=>
  refine core (λb=>if b=a then some (.frz { cls:=.type "list",data:=.seq vs.toArray } (.lst (ns.map V.int))) else none) (λb=>?_) (.inl (.inr ⟨{ cls:=.type "list",data:=.seq vs.toArray },qA4 rfl⟩)) (λb u z=>?_) (λb z=>?_) λ_=>hk
  ·by_cases hb:b=a
   ·exact .inr ⟨_,_,qA4 hb⟩
   ·exact .inl (qA6 hb)
  ·by_cases hb:b=a
   ·have z':=(qA4 hb).symm.trans z;cases z';subst hb;exact ⟨ha,by rw[qA1];exact hl,vs,_,rv,ha⟩
   ·have z':=(qA6 hb).symm.trans z;cases z'
  ·by_cases hb:b=a
   ·exact hb
   ·exact absurd (qA6 hb) z
end L2
namespace L2
open PySem PySem.Spec PyProof.Rows
end L2
namespace L2
open PySem PySem.Spec PyProof.Rows
abbrev CX0:CXT:=λ_ _ _ _ _ _=>False
abbrev E0:XK:=λ_ _ _=>False
theorem fh {X:Cx}:lT CX0 X E0:=λ_ _ _ _ _ _ _ h=>h.elim
structure Fun (K:Frag) (x qual:Str) (st:Stmt) (f:Addr) (fd:FuncData):Prop where
 ex:∃(oc:Value) (od:Option Addr) (kV doc pm:Value) (an:Option Addr) (cdv ct:Value) (osl:Array (Option Value)),
  fd=PySem.W.fnOf x qual (Q6 st) (E1 st) (b9 st) .none kV doc pm an cdv ct/\K.lookup f=some ⟨oc,od,.func fd,osl⟩/\PySem.W.codeIn K cdv qual=true
 kp:PySem.W.keepIn K (.ref f)=true
section
variable {P:Program}{w:World}{K:Frag}{mg:Str->Option Value}{base:Heap}
theorem Fun.ok {x qual:Str}{st:Stmt}{f:Addr}{fd:FuncData}{N ps:List Str}{k:Nat}{sp:Sp}(F:Fun K x qual st f fd) (S:d7 N ps (b9 st)) (len:∀vs H Q E,sp vs H Q E->vs.length=ps.length)
  (hbody:∀(cdv:Value) (A:Around) (outer:List Env) (s:Shared) (H:Hp) (vs:List V) (Q:VK) (E:XK),Room k (A.deeper (envOfC qual (b9 st) s.heap.objs.size f cdv))->sp vs H Q E ->
   ∃t,PSs (bt CX0 P w K mg base N qual (b9 st) f cdv A outer s H E).nox (E1 st) t/\t { nx:=λ_ H'=>Q .non H',rt:=Q } (start N vs) H):FnOk P w K mg base CX0 (k+1) f fd ps sp:=by
 obtain ⟨oc,od,kV,doc,pm,an,cdv,ct,osl,rfl,lk,hcd⟩:=F.ex;refine Ga lk hcd S len λA outer s H vs Q E hr hsp=>?_;obtain ⟨t,h,q⟩:=hbody cdv A outer s H vs Q E hr hsp;exact ⟨t,h.nox,q⟩
theorem Fun.binds {x qual:Str}{st:Stmt}{f:Addr}{fd:FuncData}{ps:List Str}(F:Fun K x qual st f fd)
  (h:∀(kV doc pm:Value) (an:Option Addr) (cdv ct:Value) (us:List Value),us.length=ps.length->bindArgs (PySem.W.fnOf x qual (Q6 st) (E1 st) (b9 st) .none kV doc pm an cdv ct) ⟨us,[]⟩=pure (ps.zip us)):Binds K fd ps []:=by
 obtain ⟨oc,od,kV,doc,pm,an,cdv,ct,osl,rfl,lk,hcd⟩:=F.ex;exact .all (h kV doc pm an cdv ct)
theorem DM {x qual:Str}{st:Stmt}{f:Addr}{oc:Value}{od an:Option Addr}{osl:Array (Option Value)}{kV doc pm cdv ct:Value}(l:K.lookup f=some ⟨oc,od,.func (PySem.W.fnOf x qual (Q6 st) (E1 st) (b9 st) .none kV doc pm an cdv ct),osl⟩)
  (c:PySem.W.codeIn K cdv qual=true) (k:PySem.W.keepIn K (.ref f)=true):Fun K x qual st f (PySem.W.fnOf x qual (Q6 st) (E1 st) (b9 st) .none kV doc pm an cdv ct):=⟨⟨oc,od,kV,doc,pm,an,cdv,ct,osl,rfl,l,c⟩,k⟩
end
section
variable {X:Cx}
theorem pv (i:Nat){x:Str}{pos:Pos}(hN:X.N[i]?=some x:=by rfl) (hv:Vis X.env.scope x:=by first|exact Or.inl rfl|exact Or.inr (Or.inl rfl)|exact Or.inr (Or.inr rfl)) (hd:(x == ("__debug__" : Str))=false:=by decide)
  (hcd:(x == ("__classdict__" : Str))=false:=by decide):PE X (.Name x pos) (V6 i):=S6 hN hv hd hcd
end
def Same (H H':Hp):Prop:=∀b o,H b=some o->H' b=some o
theorem Same.refl (H:Hp):Same H H:=λ_ _ h=>h
theorem Same.trans {H H1 H2:Hp}(a:Same H H1)(b:Same H1 H2):Same H H2:=λc o h=>b c o (a c o h)
theorem Same.free {H H':Hp}(e:Same H H'){l:Addr}(h:H' l=Option.none):H l=Option.none:=by
 cases q:H l with
 |none=>rfl
 | some o=>
  rw[e l o q]at h;cases h
theorem Same.seq {K:Frag}{H H':Hp}{a:Addr}{xs:List V}(e:Same H H') (h:SqL K H a xs):SqL K H' a xs:=by
 rcases h with (h|⟨o,h⟩)|h
 ·exact .inl (.inl (e _ _ h))
 ·exact .inl (.inr ⟨o,e _ _ h⟩)
 ·exact .inr h
end L2
namespace L2
open PySem PySem.Spec PyProof.Rows
def Dk (h h':Heap):Prop:=∀b o,h.get? b=some o->∃o',h'.get? b=some o'/\o'.cls=o.cls/\o'.dict=o.dict
structure KD {α:Type}(t:Sem α):Prop where
 out:∀(M:Model) (Γ:PySem.Ctx) (P:α->Pos->Shared->Prop) (Ee:Value->Pos->Shared->Prop) (p:Pos) (s:Shared),
  Sem.wp M Γ t P Ee p s->Sem.wp M Γ t (λa p' s'=>P a p' s'/\Dk s.heap s'.heap) Ee p s
def cut (h:Heap)(fs:List Addr):Heap:={ h with objs:=h.objs.mapIdx λi o=>if i∈fs then { o with data:=.freed } else o }
structure GP (P:Program) (w:World) (outer:List Env) (H:Hp) (s:Shared) (a:Addr) (B:Heap) (H':Hp) (cls:Value) (od:Option Addr) (s':Shared):Prop where
 fl:∃a0,B.FlyingW outer a cls a0 s'.heap
 dict:∃o,s'.heap.get? a=some o/\o.dict=od
 os:s'.os=s.os
 bare:AllBare s'.gens
 un:Un (frs outer) [] H H' s.heap s'.heap
 hok:HOk P w H' s'.heap
 inB:∀b o,H' b=some o->∃ob,B.get? b=some ob
 all:∀b o,s.heap.get? b=some o->b∉frs outer->∃o',B.get? b=some o'
def CXW (P:Program)(w:World):CXT:=λouter H s E e s'=>∃a B H' cls od,e=.ref a/\GP P w outer H s a B H' cls od s'/\E cls od H'
section
variable {P:Program}{w:World}{K:Frag}{mg:Str->Option Value}{base:Heap}{N:List Str}{qual:Str}{scope:Scope}{f:Addr}{cd:Value}{A:Around}{outer:List Env}{s:Shared}{H:Hp}{E:XK}
 {pins:List (Addr×Obj)}{σ:St}{H':Hp}{s2:Shared}{a:Addr}
end
end L2
namespace L2
open PySem PySem.Spec PyProof.Rows
section
variable {prog:Program}{w:World}{A:Around}{E:Value->Shared->Prop}{s:Shared}{K:Frag}{x C:Addr}{ox:Obj}{od:Option Obj}{name:Str}{tk:Tok}{fill expr:Bool}{v:Value}{Q:Value->Shared->Prop}
end
end L2
namespace L2
open PySem PySem.Spec PyProof.Rows
section
variable {prog:Program}{w:World}{A:Around}{E:Value->Shared->Prop}{s:Shared}{K:Frag}{x C:Addr}{ox:Obj}{name:Str}{tk:Tok}{v:Value}{Q:Unit->Shared->Prop}
end
end L2
namespace L2
open PySem PySem.Spec PyProof.Rows
section
variable {prog:Program}{w:World}{A:Around}{s:Shared}{K:Frag}{C f:Addr}{R:Result->Shared->Prop}{nm q:Str}{N:Addr}{bs bm bmB:List Value}{hdct:Bool}{sn:List Str}{sub:List Value}{ab:Bool}{col:Option Bool}{dd:Option Addr}{k0 k1 k2 k3 k5:Option Value}
 {B Bn newId nid initId inN:String}{bmN:List Value}{rest:List Value}
end
end L2
namespace L2
open PySem PySem.Spec PyProof.Rows
section
variable {prog:Program}{w:World}{A:Around}{E:Value->Shared->Prop}{s:Shared}{K:Frag}{env:Env}{x:Expr}{pos:Pos}{Q:Flow->Shared->Prop}
end
end L2
namespace L2
open PySem PySem.Spec PyProof.Rows
section
variable {X:Cx}{pins:List (Addr×Obj)}{σ σ':St}{H:Hp}{s:Shared}
end
end L2
namespace L2
open PySem PySem.Spec PyProof.Rows
section
variable {X:Cx}{pins:List (Addr×Obj)}{σ:St}{H H':Hp}{s s1:Shared}
end
end L2
namespace L2
open PySem PySem.Spec PyProof.Rows
section
variable {X:Cx}{pins:List (Addr×Obj)}{σ:St}{H H':Hp}{s s1:Shared}{a:Addr}{B:Heap}{cls:Value}{od:Option Addr}
structure Here (X:Cx) (pins:List (Addr×Obj)) (σ:St) (H':Hp) (a:Addr) (B:Heap) (cls:Value) (od:Option Addr) (s:Shared):Prop where
 inv:Inv X pins σ H' s
 dict:∃o,s.heap.get? a=some o/\o.dict=od
end
end L2
namespace L2
open PySem PySem.Spec PyProof.Rows
section
variable {X:Cx}{k:Nat}{f:Addr}{fd:FuncData}{ps:List Str}{sp:Sp}{fn cn n y:Str}{fp cp ap np hpos yp pos:Pos}{e:Expr}{es:List Expr}{t:TA}{C:Addr}{i jn:Nat}{b0:Stmt}{suite:List Stmt}{tb:TS}
def tCatch (X:Cx) (C:Addr) (jn:Nat) (tb:TS) (D:Ends) (σ:St):XK:=λcls od H'=>∃Dc,cls=.ref Dc/\PySem.W.exmOne X.K (.ref Dc) (.ref C)=some true /\
 ∀ (a:Addr) (o:Obj),H' a=none->o.cls=cls->o.dict=od->(∃vs:Array Value,o.data=.fields vs) ->
  tb { nx:=λσ' H'=>D.nx (σ'.set jn none) H',rt:=D.rt,bk:=λσ' H'=>D.bk (σ'.set jn none) H',ct:=λσ' H'=>D.ct (σ'.set jn none) H' } (σ.set jn (some (.ref a))) (upd H' a (.ext λh=>h.get? a=some o))
end
end L2
namespace L2
open PySem PySem.Spec PyProof.Rows
section
variable {X:Cx}{pins:List (Addr×Obj)}{σ:St}{H:Hp}{s:Shared}
end
end L2
namespace L2
open PySem PySem.Spec PyProof.Rows
section
variable {X:Cx}
end
end L2
namespace L2
open PySem PySem.Spec PyProof.Rows
section
variable {X:Cx}{pins:List (Addr×Obj)}{σ:St}{H:Hp}{s:Shared}
end
end L2
namespace L2
open PySem PySem.Spec PyProof.Rows
section
variable {P:Program}{w:World}{K:Frag}{mg:Str->Option Value}{base:Heap}{N:List Str}{qual:Str}{scope:Scope}{f0:Addr}{cd:Value}{A:Around}{outer:List Env}{s0:Shared}{H0:Hp}{E:XK}
 {k:Nat}{C f:Addr}{fd:FuncData}{ps:List Str}{sp:Sp}{cn:Str}{np cp pos:Pos}{e:Expr}{es:List Expr}{t:TA}
end
end L2
namespace L2
open PySem PySem.Spec PyProof.Rows
section
variable {P:Program}{w:World}{K:Frag}{mg:Str->Option Value}{base:Heap}{k:Nat}{f:Addr}{fd:FuncData}{ps N:List Str}{sp:Sp}{CX:CXT}
end
end L2
namespace L2
open PySem PySem.Spec PyProof.Rows
section
variable {X:Cx}{o:Expr}{ta:TE}{name:Str}{pos:Pos}
end
end L2
namespace L2
open PySem PySem.Spec PyProof.Rows
section
variable {X:Cx}{pins:List (Addr×Obj)}{σ:St}{H:Hp}{s:Shared}{A:Around}{E:Value->Shared->Prop}{Q:Value->Shared->Prop}{c:Value}{b:Bool}{a C:Addr}{ox:Obj}{vs:Array Value}
end
end L2
namespace L2
open PySem PySem.Spec PyProof.Rows
section
variable {P:Program}{w:World}{K:Frag}{mg:Str->Option Value}{base:Heap}{N:List Str}{qual:Str}{scope:Scope}{f0:Addr}{cd:Value}{A:Around}{outer:List Env}{s0:Shared}{H0:Hp}{E:XK}
 {C:Addr}{cn:Str}{np cp pos:Pos}{e:Expr}{es:List Expr}{t:TA}
end
end L2
namespace L2
open PySem
structure Nx {α:Type}(t:Sem α):Prop where
 out:∀(M:Model) (Γ:PySem.Ctx) (P:α->Pos->Shared->Prop) (Ee Ef:Value->Pos->Shared->Prop) (p:Pos) (s:Shared),Sem.wp M Γ t P Ee p s->Sem.wp M Γ t P Ef p s
structure Po {α:Type}(t:Sem α) (pre:Shared->Prop) (post:α->Shared->Prop):Prop where
 out:∀(M:Model) (Γ:PySem.Ctx) (P:α->Pos->Shared->Prop) (Ee Ef:Value->Pos->Shared->Prop) (p:Pos) (s:Shared),
  pre s->Sem.wp M Γ t P Ee p s->Sem.wp M Γ t (λa p' s'=>P a p' s'/\post a s') Ef p s
def wW (v:Value)(i:Nat)(x:Value)(h:Heap):Prop:=∃(a:Addr)(o:Obj)(vs:Array Value),v=.ref a/\h.get? a=some o/\o.data=.fields vs/\vs[i]?=some x
def Marked (e:Value)(f:Addr)(h:Heap):Prop:=∃t,wW e 1 t h/\wW t 3 (rawInt f) h/\t≠.none
structure Free {α:Type}(t:Sem α):Prop where
 out:∀(M:Model) (Γ Γ':PySem.Ctx) (P P':α->Pos->Shared->Prop) (E E':Value->Pos->Shared->Prop) (p p':Pos) (s:Shared),(∀a p p' s,P a p s->P' a p' s)->(∀a p p' s,E a p s->E' a p' s)->Sem.wp M Γ t P E p s->Sem.wp M Γ' t P' E' p' s
end L2
namespace L2
open PySem PySem.Spec PyProof.Rows
section
variable {X:Cx}{k:Nat}{f:Addr}{fd:FuncData}{ps:List Str}{sp:Sp}{fn cn n y:Str}{fp cp ap np hpos yp pos:Pos}{e:Expr}{es:List Expr}{t:TA}{C:Addr}{i jn:Nat}{b0:Stmt}{suite:List Stmt}{tb:TS}
end
end L2
namespace L2
open PySem PySem.Spec PyProof.Rows
section
variable {X:Cx}{k:Nat}{C f:Addr}{fd:FuncData}{ps:List Str}{sp:Sp}{cn:Str}{np cp pos:Pos}{e:Expr}{es:List Expr}{t:TA}
end
end L2
namespace L2
open PySem PySem.Spec PyProof.Rows
section
variable {κ:Type} [DecidableEq κ]
def An (kvs:List (κ×V))(k:κ):Option V:=(kvs.find? λkv=>decide (kv.1=k)).map (·.2)
def putK (kvs:List (κ×V)) (k:κ) (v:V):List (κ×V):=
 if (kvs.any λkv=>decide (kv.1=k))=true then kvs.map (λkv=>if kv.1=k then (kv.1,v) else kv) else kvs ++ [(k,v)]
def dropK (kvs:List (κ×V))(k:κ):List (κ×V):=kvs.filter λkv=>decide (kv.1≠k)
end
abbrev KT (H:Hp):List (List Key×V)->List (List Key×Addr×Value)->Prop:=Paired λp q=>p.1=q.1/\H q.2.1=some (.tup (p.1.map kV))/\RelV p.2 q.2.2
section
variable {P:Program}{w:World}{H:Hp}{h:Heap}{a:Addr}
end
def DGet (H:Hp) (a:Addr) (y:V) (r:Option V):Prop:=
 (∃kvs k,Rd H a (.dK kvs)/\y=kV k/\r=An kvs k)\/∃kvs k b,Rd H a (.dT kvs)/\y=.ref b/\H b=some (.tup (k.map kV))/\r=An kvs k
def DPut (H:Hp) (a:Addr) (y v:V) (H':Hp):Prop:=
 (∃kvs k,H a=some (.dK kvs)/\y=kV k/\kvs.length<sizeLine/\H'=upd H a (.dK (putK kvs k v))) \/
 ∃kvs k b,H a=some (.dT kvs)/\y=.ref b/\H b=some (.tup (k.map kV))/\kvs.length<sizeLine/\H'=upd H a (.dT (putK kvs k v))
section
variable {X:Cx}{pins:List (Addr×Obj)}{σ:St}{H:Hp}{s:Shared}{a:Addr}{y v:V}{u r:Value}{o:Option V}{A:Around}{E:Value->Shared->Prop}
end
section
variable {X:Cx}{pins:List (Addr×Obj)}{σ:St}{H:Hp}{s:Shared}{a:Addr}{kvs:List (Key×V)}{k:Key}{u:Value}{A:Around}{E:Value->Shared->Prop}
end
section
variable {X:Cx}{o i e value:Expr}{pos pos' tpos:Pos}{td ty tv:TE}
end
section
variable {X:Cx}{pos:Pos}
end
end L2
namespace L2
open PySem
structure Sub where
 t:Bool
 i:Addr
 l:Addr
def Sub.At (u:Sub)(h:Heap)(n:Nat):Prop:=if u.t=true then h.IsTupleIter u.i u.l n else h.IsListIter u.i u.l n
def Sub.Src (u:Sub)(h:Heap)(xs:Array Value):Prop:=if u.t=true then h.IsTuple u.l xs else h.IsList u.l xs
theorem Sub.At.obj {u:Sub}{h:Heap}{n:Nat}(x:u.At h n):∃o,h.get? u.i=some o/\o.data=.fields #[.ref u.l,.int n 0]:=by
 unfold Sub.At at x
 split at x <;> (obtain ⟨o,e,_,d⟩:=x;exact ⟨o,e,d⟩)
theorem Sub.At.keep {u:Sub}{h h':Heap}{n:Nat}(x:u.At h n) (k:∀o,h.get? u.i=some o->h'.get? u.i=some o):u.At h' n:=by
 unfold Sub.At at x ⊢
 split at x <;> (rename_i ht;obtain ⟨o,e,r⟩:=x;simp only [ht,if_true,if_false,qD5];exact ⟨o,k o e,r⟩)
theorem Sub.Src.keep {u:Sub}{h h':Heap}{xs:Array Value}(x:u.Src h xs) (k:∀o,h.get? u.l=some o->h'.get? u.l=some o):u.Src h' xs:=by
 unfold Sub.Src at x ⊢
 split at x <;> (rename_i ht;obtain ⟨o,e,r⟩:=x;simp only [ht,if_true,if_false,qD5];exact ⟨o,k o e,r⟩)
section
variable {prog:Program}{w:World}{A:Around}{E:Value->Shared->Prop}{s:Shared}
theorem ft {it t:Addr}{i:Nat}{items:Array Value}{x:Value}{Q:Value->Shared->Prop}(hit:s.heap.IsTupleIter it t i) (ht:s.heap.IsTuple t items) (hx:items[i]?=some x)
  (hQ:∀h',h'.IsTupleIter it t (i+1)->Heap.SameBut it s.heap h'->Q x { s with heap:=h' }):wpAny (model prog w) A (Builtin.SmallTypes.nextOf (.ref it)) Q E s:=by
 obtain ⟨o,ho,hc,hd⟩:=id hit;obtain ⟨ol,hol,_,nl,hdl⟩:=ht;unfold Builtin.SmallTypes.nextOf;refine qA2 (wpAny_callSpecial?_slot (name:=Str.ofString "__next__") hit.typeIs qJ0 (wpAny_call_entry qJ0 hit.typeIs F.entry_tuple_iterator_next ?_ (F.args_tuple_iterator_next_1 _)))
 show wpAny _ _ (field (.ref it) 0>>=_) _ _ s;refine qA2 (wpAny_field ho hd (x:=.ref t) rfl ?_)
 show wpAny _ _ (if (Value.ref t == Value.none)=true then _ else _) _ _ s;rw[qA6 (show ¬ ((Value.ref t == Value.none)=true) from qA5)]
 show wpAny _ _ (field (.ref it) 1>>=_) _ _ s;refine qA2 (wpAny_field ho hd (x:=.int i 0) rfl ?_)
 show wpAny _ _ (seqItems? (.ref t)>>=_) _ _ s;refine qA2 (wpAny_seqItems hol hdl ?_);simp only [qF8,hx];refine qA2 (wpAny_setField ho hd (by simp) (wpAny_pure ⟨x,rfl,wpAny_pure (hQ _ ?_ (qL1 ..))⟩));exact ⟨_,qI9 _ ho (Obj.isFreed_of_fields (Obj.data_mapFields hd _)),(Obj.cls_mapFields ..).trans hc,by rw[Obj.data_mapFields hd];simp [rawInt]⟩
theorem gE {it t:Addr}{i:Nat}{items:Array Value}{Q:Value->Shared->Prop}(hh:A.handled=none) (hit:s.heap.IsTupleIter it t i) (ht:s.heap.IsTuple t items) (hx:items[i]?=none)
  (hE:∀h' e,Heap.ExtBut it s.heap h'->(∃o,h'.get? e=some o/\o.cls=.type "StopIteration")->E (.ref e) { s with heap:=h' }):wpAny (model prog w) A (Builtin.SmallTypes.nextOf (.ref it)) Q E s:=by
 obtain ⟨o,ho,hc,hd⟩:=id hit;obtain ⟨ol,hol,_,nl,hdl⟩:=ht;unfold Builtin.SmallTypes.nextOf;refine qA2 (wpAny_callSpecial?_slot (name:=Str.ofString "__next__") hit.typeIs qJ0 (wpAny_call_entry qJ0 hit.typeIs F.entry_tuple_iterator_next ?_ (F.args_tuple_iterator_next_1 _)))
 show wpAny _ _ (field (.ref it) 0>>=_) _ _ s;refine qA2 (wpAny_field ho hd (x:=.ref t) rfl ?_)
 show wpAny _ _ (if (Value.ref t == Value.none)=true then _ else _) _ _ s;rw[qA6 (show ¬ ((Value.ref t == Value.none)=true) from qA5)]
 show wpAny _ _ (field (.ref it) 1>>=_) _ _ s;refine qA2 (wpAny_field ho hd (x:=.int i 0) rfl ?_)
 show wpAny _ _ (seqItems? (.ref t)>>=_) _ _ s;refine qA2 (wpAny_seqItems hol hdl ?_);simp only [qF8,hx];refine qA2 (wpAny_rule (qA2 (wpAny_setField ho hd (by simp) ?_)));show wpAny _ _ (newExc (.type "StopIteration") []>>=_) _ _ _;refine qA2 ?_;simp only [newExc,newTuple];refine qA2 (wpAny_newObj_type ?_ (by size_fits));refine qA2 (m:=firstArgMember _ _) (wpAny_of_eq (a:=Value.none) (by first|rfl | (simp only [firstArgMember];rfl)) ?_);refine wpAny_newObj_type ?_ (by size_fits);simp only [raiseNew];refine qA2 (wpAny_handled ?_);first|rw[show A.in1.handled=none from hh] |rw[hh]
 refine qA2 (wpAny_pure (wpAny_throw ?_));exact hE _ _ (((qL1 ..).extBut.push _).push _) ⟨_,qC2 _ rfl,rfl⟩
theorem Sub.item {u:Sub}{n:Nat}{xs:Array Value}{x:Value}{Q:Value->Shared->Prop}(ha:u.At s.heap n) (hs:u.Src s.heap xs) (hx:xs[n]?=some x)
  (hQ:∀h',u.At h' (n+1)->Heap.SameBut u.i s.heap h'->Q x { s with heap:=h' }):wpAny (model prog w) A (Builtin.SmallTypes.nextOf (.ref u.i)) Q E s:=by
 unfold Sub.At at ha hQ;unfold Sub.Src at hs;cases ht:u.t with
 |true=>simp only [ht,if_true]at ha hs hQ;exact ft ha hs hx hQ
 |false=>simp only [ht,if_false,qD5]at ha hs hQ;exact wpAny_nextOf_list_item ha hs hx hQ
theorem Sub.ends {u:Sub}{n:Nat}{xs:Array Value}{Q:Value->Shared->Prop}(hh:A.handled=none) (ha:u.At s.heap n) (hs:u.Src s.heap xs) (hx:xs[n]?=none)
  (hE:∀h' e,Heap.ExtBut u.i s.heap h'->(∃o,h'.get? e=some o/\o.cls=.type "StopIteration")->E (.ref e) { s with heap:=h' }):wpAny (model prog w) A (Builtin.SmallTypes.nextOf (.ref u.i)) Q E s:=by
 unfold Sub.At at ha;unfold Sub.Src at hs;cases ht:u.t with
 |true=>simp only [ht,if_true]at ha hs;exact gE hh ha hs hx hE
 |false=>simp only [ht,if_false,qD5]at ha hs;exact wpAny_nextOf_list_end hh ha hs hx hE
abbrev E3 (h:Heap)(T:Addr)(arr:Array Value):Prop:=h.get? T=some { cls:=.type "tuple",data:=.seq arr }
def drawn (n:Nat):List (Sub×Array Value)->Nat->Array Value->Array Value
 | [],_,arr=>arr
 |u::r,c,arr=>drawn n r (c+1) (arr.setIfInBounds c (u.2.getD n .none))
def wX (prog:Program) (w:World) (A:Around) (z TO:Addr) (E:Value->Shared->Prop) (B:Value×Nat->Option Fin×Unit->Sem (ForInStep (Option Fin×Unit))):Prop:=
 ∀ (v:Value) (k:Nat) (s:Shared) (Q:ForInStep (Option Fin×Unit)->Shared->Prop),
  wpAny (model prog w) A (Builtin.SmallTypes.nextOf v) (λx s1=>∃arr,E3 s1.heap TO arr/\arr.size<=sizeLine/\∀h',E3 h' TO (arr.setIfInBounds k x)->Heap.SameBut TO s1.heap h'->Q (.yield (none,())) { s1 with heap:=h' })
   (λe s1=>wpAny (model prog w) A (setField (.ref z) 0 .none) (λ_ s2=>E e s2) E s1) s->wpAny (model prog w) A (B (v,k) (none,())) Q E s
structure Apart (z TO:Addr) (ss:List (Sub×Array Value)):Prop where
 zTO:z≠TO
 zi:∀u∈ss,u.1.i≠z
 ti:∀u∈ss,u.1.i≠TO
 nd:ss.Pairwise λu v=>u.1.i≠v.1.i
 lz:∀u∈ss,u.1.l≠z
 lt:∀u∈ss,u.1.l≠TO
 li:∀u∈ss,∀v∈ss,u.1.l≠v.1.i
theorem Apart.tail {z TO:Addr}{u:Sub×Array Value}{ss:List (Sub×Array Value)}(D:Apart z TO (u::ss)):Apart z TO ss:=
 ⟨D.zTO,λv hv=>D.zi v (qA7 _ hv),λv hv=>D.ti v (qA7 _ hv),(List.pairwise_cons.mp D.nd).2,λv hv=>D.lz v (qA7 _ hv),λv hv=>D.lt v (qA7 _ hv),
  λv hv x hx=>D.li v (qA7 _ hv) x (qA7 _ hx)⟩
theorem draws {z TI TO:Addr}{n:Nat}{B:Value×Nat->Option Fin×Unit->Sem (ForInStep (Option Fin×Unit))}(hB:wX prog w A z TO E B) :
  ∀ (ss:List (Sub×Array Value)) (c:Nat) (arr:Array Value) (s:Shared) (Q:Option Fin×Unit->Shared->Prop),Apart z TO ss->IsZip s.heap z TI TO .ellipsis->E3 s.heap TO arr->arr.size<=sizeLine ->
   (∀u∈ss,u.1.At s.heap n/\u.1.Src s.heap u.2/\∃x,u.2[n]?=some x) ->
   (∀ h',IsZip h' z TI TO .ellipsis->E3 h' TO (drawn n ss c arr)->(∀u∈ss,u.1.At h' (n+1))->h'.objs.size=s.heap.objs.size ->
    (∀b o,b≠TO->(∀u∈ss,b≠u.1.i)->s.heap.get? b=some o->h'.get? b=some o)->Q (none,()) { s with heap:=h' }) ->
   wpAny (model prog w) A (forIn ((ss.map λu=>Value.ref u.1.i).zipIdx c) (none,()) B) Q E s:=by
 intro ss
 induction ss with
 | nil=>
  intro c arr s Q D hz hT hl hu hQ;simp only [qI0,List.zipIdx_nil,List.forIn_nil];exact wpAny_pure (hQ s.heap hz hT (λ_ h=>absurd h qD6) rfl λ_ _ _ _ e=>e)
 | cons u r ih=>
  intro c arr s Q D hz hT hl hu hQ;simp only [qC4,List.zipIdx_cons,qJ9];obtain ⟨ha,hsrc,x,hx⟩:=hu u qB1;refine qA2 (hB _ _ _ _ (Sub.item ha hsrc hx λh1 ha1 sb1=>⟨arr,sb1.extBut _ _ (D.ti u qB1).symm hT,hl,λh2 hT2 sb2=>?_⟩));have uz:=D.zi u qB1;have ut:=D.ti u qB1;have kp:∀b o,b≠TO->b≠u.1.i->s.heap.get? b=some o->h2.get? b=some o:=λb o h1 h2 e=>sb2.extBut _ _ h1 (sb1.extBut _ _ h2 e);have hui:∀v∈r,v.1.i≠u.1.i:=λv hv=>((List.pairwise_cons.mp D.nd).1 v hv).symm;refine ih (c+1) (arr.setIfInBounds c x) { s with heap:=h2 } Q D.tail (kp _ _ D.zTO uz.symm hz) hT2 (by simpa using hl) (λv hv=>?_) λh3 z3 T3 a3 s3 k3=>?_
  ·obtain ⟨a,b,y⟩:=hu v (qA7 _ hv);exact ⟨a.keep λo e=>kp _ o (D.ti v (qA7 _ hv)) (hui v hv) e,b.keep λo e=>kp _ o (D.lt v (qA7 _ hv)) (D.li v (qA7 _ hv) u qB1) e,y⟩
  ·refine hQ h3 z3 ?_ (λv hv=>?_) (by rw[s3];show h2.objs.size=_;rw[sb2.1,sb1.1]) λb o h1 h2 e=>k3 b o h1 (λv hv=>h2 v (qA7 _ hv)) (kp b o h1 (h2 u qB1) e)
   ·have e:u.2.getD n .none=x:=by simp [qE2,hx]
    show E3 h3 TO (drawn n r (c+1) (arr.setIfInBounds c (u.2.getD n .none)));rw[e];exact T3
   ·rcases qB3.mp hv with rfl|hv
    ·exact ha1.keep λo e=>k3 _ o ut (λv' hv'=>(hui v' hv').symm) (sb2.extBut _ _ ut e)
    ·exact a3 v hv
theorem rY {z TI TO:Addr}{n:Nat}{B:Value×Nat->Option Fin×Unit->Sem (ForInStep (Option Fin×Unit))}(hh:A.handled=none) (hB:wX prog w A z TO E B) :
  ∀ (ss:List (Sub×Array Value)) (c:Nat) (arr:Array Value) (s:Shared) (Q:Option Fin×Unit->Shared->Prop),Apart z TO ss->IsZip s.heap z TI TO .ellipsis->E3 s.heap TO arr->arr.size<=sizeLine ->
   (∀u∈ss,u.1.At s.heap n/\u.1.Src s.heap u.2)->(∃u∈ss,u.2[n]?=none) ->
   (∀h' e,(∀b o,b≠z->b≠TO->(∀u∈ss,b≠u.1.i)->s.heap.get? b=some o->h'.get? b=some o)->(∃o,h'.get? e=some o/\o.cls=.type "StopIteration")->E (.ref e) { s with heap:=h' }) ->
   wpAny (model prog w) A (forIn ((ss.map λu=>Value.ref u.1.i).zipIdx c) (none,()) B) Q E s:=by
 intro ss
 induction ss with
 | nil=>
  intro c arr s Q D hz hT hl hu hx hQ;obtain ⟨_,h,_⟩:=hx;exact absurd h qD6
 | cons u r ih=>
  intro c arr s Q D hz hT hl hu hx hQ;simp only [qC4,List.zipIdx_cons,qJ9];obtain ⟨ha,hsrc⟩:=hu u qB1;have uz:=D.zi u qB1;have ut:=D.ti u qB1;cases hu0:u.2[n]? with
  | none=>
   refine qA2 (hB _ _ _ _ (Sub.ends hh ha hsrc hu0 λh1 e eb he=>?_));obtain ⟨oe,hoe,hce⟩:=he;have hz1:IsZip h1 z TI TO .ellipsis:=eb _ _ uz.symm hz;have hez:e≠z:=λx=>by subst x;rw[hz1]at hoe;cases hoe;simp at hce
   exact wpAny_setField_rec hz1 (by simp) λh3 _ sb3=>hQ h3 e (λb o b1 b2 b3 q=>sb3.extBut _ _ b1 (eb _ _ (b3 u qB1) q)) ⟨oe,sb3.extBut _ _ hez hoe,hce⟩
  | some x=>
   refine qA2 (hB _ _ _ _ (Sub.item ha hsrc hu0 λh1 ha1 sb1=>⟨arr,sb1.extBut _ _ ut.symm hT,hl,λh2 hT2 sb2=>?_⟩));have kp:∀b o,b≠TO->b≠u.1.i->s.heap.get? b=some o->h2.get? b=some o:=λb o h1 h2 e=>sb2.extBut _ _ h1 (sb1.extBut _ _ h2 e);have hui:∀v∈r,v.1.i≠u.1.i:=λv hv=>((List.pairwise_cons.mp D.nd).1 v hv).symm;refine ih (c+1) (arr.setIfInBounds c x) { s with heap:=h2 } Q D.tail (kp _ _ D.zTO uz.symm hz) hT2 (by simpa using hl) (λv hv=>?_) ?_ λh3 e k3 he=>?_
   ·obtain ⟨a,b⟩:=hu v (qA7 _ hv);exact ⟨a.keep λo e=>kp _ o (D.ti v (qA7 _ hv)) (hui v hv) e,b.keep λo e=>kp _ o (D.lt v (qA7 _ hv)) (D.li v (qA7 _ hv) u qB1) e⟩
   ·obtain ⟨v,hv,e⟩:=hx;rcases qB3.mp hv with rfl|hv
    ·rw[hu0]at e;cases e
    ·exact ⟨v,hv,e⟩
   ·exact hQ h3 e (λb o b1 b2 b3 q=>k3 b o b1 b2 (λv hv=>b3 v (qA7 _ hv)) (kp b o b2 (b3 u qB1) q)) he
theorem oT (n:Nat):∀(ss:List (Sub×Array Value)) (c:Nat) (arr:Array Value),(drawn n ss c arr).size=arr.size:=by
 intro ss
 induction ss with
 |nil=>intro c arr;rfl
 |cons u r ih=>intro c arr;unfold drawn;rw[ih];simp
theorem rZ (n:Nat):∀(ss:List (Sub×Array Value)) (c:Nat) (arr:Array Value),c+ss.length=arr.size->(drawn n ss c arr).toList=arr.toList.take c++ss.map λu=>u.2.getD n .none:=by
 intro ss
 induction ss with
 | nil=>
  intro c arr h;unfold drawn;simp at h;subst h;rw[qI0,qF3];exact (List.take_of_length_le (by simp)).symm
 | cons u r ih=>
  intro c arr h;unfold drawn;have hc:c<arr.size:=by simp at h;omega
  rw[ih (c+1) _ (by simp at h ⊢;omega)];rw[qC4,Array.toList_setIfInBounds]
  have:(arr.toList.set c (u.2.getD n Value.none)).take (c+1)=arr.toList.take c ++ [u.2.getD n Value.none]:=by
   rw[qM2,List.take_set,qF2 (by simpa using hc)];rw[List.set_eq_of_length_le (by simp;omega)];rfl
  rw[this,qI3];rfl
theorem tq {z TI TO:Addr}{n:Nat}{ss:List (Sub×Array Value)}{arr:Array Value}{Q:Option Value->Shared->Prop}(D:Apart z TO ss) (hne:ss ≠ []) (hsz:arr.size=ss.length) (hline:ss.length<=sizeLine)
  (hz:IsZip s.heap z TI TO .none) (hTI:E3 s.heap TI (ss.map λu=>Value.ref u.1.i).toArray) (hTO:E3 s.heap TO arr) (hu:∀u∈ss,u.1.At s.heap n/\u.1.Src s.heap u.2/\∃x,u.2[n]?=some x)
  (hQ:∀h',IsZip h' z TI TO (rawInt s.heap.objs.size)->(∃arr',E3 h' TO arr'/\arr'.size=ss.length)->(∀u∈ss,u.1.At h' (n+1))->E3 h' s.heap.objs.size (ss.map λu=>u.2.getD n .none).toArray ->
   (∀b o,b≠z->b≠TO->(∀u∈ss,b≠u.1.i)->s.heap.get? b=some o->h'.get? b=some o)->Q (some (.ref s.heap.objs.size)) { s with heap:=h' }) :
  wpAny (model prog w) A (pyNext (.ref z)) Q E s:=by
 have hT:s.TypeIs (.ref z) "zip" := ⟨_,hz,rfl⟩;unfold pyNext;refine qA2 (wpAny_attempt (wpAny_callSpecial?_slot (name:=Str.ofString "__next__") hT F.slot_zip_next (wpAny_call_entry F.slot_zip_next hT F.entry_zip_next ?_ (F.args_zip_next_1 _))))
 show wpAny _ _ (field (.ref z) 2>>=_) _ _ _;refine qA2 (wpAny_field hz rfl (x:=.bool false) rfl ?_)
 show wpAny _ _ (field (.ref z) 3>>=_) _ _ _;refine qA2 (wpAny_field hz rfl (x:=.ref TI) rfl ?_);refine qA2 (wpAny_seqItems hTI rfl ?_);have e1:(ss.map λu=>Value.ref u.1.i).toArray.isEmpty=false:=by cases ss <;> simp_all
 simp only [e1];refine qA2 ?_;unfold Builtin.SmallTypes.ownedTupleIsFree;refine qA2 (wpAny_field hz rfl (x:=.none) rfl (wpAny_pure ?_));simp only [if_true];refine qA2 (wpAny_rule ?_);refine qA2 (wpAny_field hz rfl (x:=.ref TO) rfl ?_);refine qA2 (wpAny_setField_rec hz (by simp) λh1 z1 sb1=>?_);replace z1:IsZip h1 z TI TO .ellipsis:=z1
 refine qA2 (draws (TI:=TI) (n:=n) (z:=z) (TO:=TO) ?_ ss 0 arr _ _ D z1 (sb1.extBut _ _ D.zTO.symm hTO) (by omega) (λu hm=>?_) λh2 z2 T2 a2 s2 k2=>?_)
 ·intro v k s Q h;refine qA2 (wpAny_onRaise ?_)
  show wpAny _ _ (Builtin.SmallTypes.nextOf v>>=_) _ _ _;refine qA2 (wpAny_mono h (λx s1 ⟨arr,hT1,hl,hq⟩=>wpAny_pure ?_) λe s1 he=>he);refine qA2 (wpAny_seqItems hT1 rfl ?_);refine qA2 (wpAny_updateSeq hT1 rfl ?_ hl (by rw[Array.size_setIfInBounds];omega));refine qA2 (wpAny_letGo (wpAny_pure (hq _ ?_ (qL1 ..))))
  show Heap.get? _ _=_;rw[qI9 _ hT1 rfl];simp [Obj.mapSeq]
 ·obtain ⟨a,b,x⟩:=hu u hm;exact ⟨a.keep λo e=>sb1.extBut _ _ (D.zi u hm) e,b.keep λo e=>sb1.extBut _ _ (D.lz u hm) e,x⟩
 ·have ed:(drawn n ss 0 arr).toList=ss.map λu=>u.2.getD n .none:=by rw[rZ n ss 0 arr (by omega)];simp
  refine qA2 (wpAny_seqItems T2 rfl ?_);have hs2:h2.objs.size=s.heap.objs.size:=by rw[s2];exact sb1.1
  have hlz:z<h2.objs.size:=qB4 z2;refine qA2 (wpAny_newTuple (qA2 ?_) (by rw[ed,qA1];exact hline));unfold Builtin.SmallTypes.ownedTupleHandOut;have z3:IsZip (h2.push { cls:=.type "tuple",data:=.seq (drawn n ss 0 arr).toList.toArray }) z TI TO .ellipsis:=qA9 _ z2;refine qA2 (wpAny_setField_rec z3 (by simp) λh4 z4 sb4=>?_);replace z4:IsZip h4 z TI TO (rawInt h2.objs.size):=z4
  refine wpAny_setField_rec z4 (by simp) λh5 z5 sb5=>?_;replace z5:IsZip h5 z TI TO (rawInt h2.objs.size):=z5
  have up:∀b o,b≠z->h2.get? b=some o->h5.get? b=some o:=λb o hb e=>sb5.extBut _ _ hb (sb4.extBut _ _ hb (qA9 _ e));have T5:E3 h5 h2.objs.size (drawn n ss 0 arr).toList.toArray:=sb5.extBut _ _ (qJ2 hlz) (sb4.extBut _ _ (qJ2 hlz) (qC2 _ rfl));rw[ed]at T5;rw[hs2]at z5 T5;refine wpAny_pure ⟨_,rfl,wpAny_pure ?_⟩
  show Q (some (.ref h2.objs.size)) _;rw[hs2];exact hQ h5 z5 ⟨_,up _ _ D.zTO.symm T2,by rw[oT,hsz]⟩ (λu hm=>(a2 u hm).keep λo e=>up _ o (D.zi u hm) e) T5 λb o b1 b2 b3 e=>up b o b1 (k2 b o b2 b3 (sb1.extBut _ _ b1 e))
theorem tm {z TI TO:Addr}{n:Nat}{ss:List (Sub×Array Value)}{arr:Array Value}{Q:Option Value->Shared->Prop}(hh:A.handled=none) (D:Apart z TO ss) (hsz:arr.size=ss.length) (hline:ss.length<=sizeLine)
  (hz:IsZip s.heap z TI TO .none) (hTI:E3 s.heap TI (ss.map λu=>Value.ref u.1.i).toArray) (hTO:E3 s.heap TO arr) (hu:∀u∈ss,u.1.At s.heap n/\u.1.Src s.heap u.2) (hx:∃u∈ss,u.2[n]?=none)
  (hQ:∀h',(∀b o,b≠z->b≠TO->(∀u∈ss,b≠u.1.i)->s.heap.get? b=some o->h'.get? b=some o)->Q none { s with heap:=h' }) :
  wpAny (model prog w) A (pyNext (.ref z)) Q E s:=by
 have hT:s.TypeIs (.ref z) "zip" := ⟨_,hz,rfl⟩;unfold pyNext;refine qA2 (wpAny_attempt (wpAny_callSpecial?_slot (name:=Str.ofString "__next__") hT F.slot_zip_next (wpAny_call_entry F.slot_zip_next hT F.entry_zip_next ?_ (F.args_zip_next_1 _))))
 show wpAny _ _ (field (.ref z) 2>>=_) _ _ _;refine qA2 (wpAny_field hz rfl (x:=.bool false) rfl ?_)
 show wpAny _ _ (field (.ref z) 3>>=_) _ _ _;refine qA2 (wpAny_field hz rfl (x:=.ref TI) rfl ?_);refine qA2 (wpAny_seqItems hTI rfl ?_);have e1:(ss.map λu=>Value.ref u.1.i).toArray.isEmpty=false:=by
  obtain ⟨u,hm,_⟩:=hx;cases ss with
  |nil=>exact nomatch hm
  |cons a b=>simp
 simp only [e1];refine qA2 ?_;unfold Builtin.SmallTypes.ownedTupleIsFree;refine qA2 (wpAny_field hz rfl (x:=.none) rfl (wpAny_pure ?_));simp only [if_true];refine qA2 (wpAny_rule ?_);refine qA2 (wpAny_field hz rfl (x:=.ref TO) rfl ?_);refine qA2 (wpAny_setField_rec hz (by simp) λh1 z1 sb1=>?_);replace z1:IsZip h1 z TI TO .ellipsis:=z1
 refine qA2 (rY (A:=A.in1) (TI:=TI) (n:=n) (z:=z) (TO:=TO) (show A.in1.handled=none from hh) ?_ ss 0 arr _ _ D z1 (sb1.extBut _ _ D.zTO.symm hTO) (by omega) (λu hm=>?_) hx λh2 e k2 he=>?_)
 ·intro v k s Q h;refine qA2 (wpAny_onRaise ?_)
  show wpAny _ _ (Builtin.SmallTypes.nextOf v>>=_) _ _ _;refine qA2 (wpAny_mono h (λx s1 ⟨arr,hT1,hl,hq⟩=>wpAny_pure ?_) λe s1 he=>he);refine qA2 (wpAny_seqItems hT1 rfl ?_);refine qA2 (wpAny_updateSeq hT1 rfl ?_ hl (by rw[Array.size_setIfInBounds];omega));refine qA2 (wpAny_letGo (wpAny_pure (hq _ ?_ (qL1 ..))))
  show Heap.get? _ _=_;rw[qI9 _ hT1 rfl];simp [Obj.mapSeq]
 ·obtain ⟨a,b⟩:=hu u hm;exact ⟨a.keep λo e=>sb1.extBut _ _ (D.zi u hm) e,b.keep λo e=>sb1.extBut _ _ (D.lz u hm) e⟩
 ·obtain ⟨o,ho,hc⟩:=he;refine qA2 (wpAny_isInstance (T := "StopIteration") (b:=true) ⟨o,ho,hc⟩ isSubtype_stop ?_);exact wpAny_pure (hQ _ λb o b1 b2 b3 e=>k2 b o b1 b2 b3 (sb1.extBut _ _ b1 e))
def SrcAt (h:Heap)(u:Bool×Addr×Array Value):Prop:=if u.1=true then h.IsTuple u.2.1 u.2.2 else h.IsList u.2.1 u.2.2
def i9 (n:Nat):List (Bool×Addr×Array Value)->List (Sub×Array Value)
 | []=>[]
 |u::r=>(⟨u.1,n,u.2.1⟩,u.2.2)::i9 (n+1) r
theorem vm {u:Bool×Addr×Array Value}{Q:Value->Shared->Prop}(hs:SrcAt s.heap u)
  (hQ:∀h',(Sub.mk u.1 s.heap.objs.size u.2.1).At h' 0->h'.objs.size=s.heap.objs.size+1->(∀b o,s.heap.get? b=some o->h'.get? b=some o)->Q (.ref s.heap.objs.size) { s with heap:=h' }) :
  wpAny (model prog w) A (pyIter (.ref u.2.1)) Q E s:=by
 unfold SrcAt at hs;cases ht:u.1 with
 | true=>
  simp only [ht,if_true]at hs;refine wpAny_pyIter_tuple hs (hQ _ ?_ (qK3 ..) λb o e=>qA9 _ e);unfold Sub.At;simp only [ht,if_true];exact ⟨_,qC2 _ rfl,rfl,rfl⟩
 | false=>
  simp only [ht,qD5,if_false]at hs;refine wpAny_pyIter_list hs (hQ _ ?_ (qK3 ..) λb o e=>qA9 _ e);unfold Sub.At;simp only [ht,qD5,if_false];exact ⟨_,qC2 _ rfl,rfl,rfl⟩
theorem SrcAt.keep {h h':Heap}{u:Bool×Addr×Array Value}(x:SrcAt h u) (k:∀b o,h.get? b=some o->h'.get? b=some o):SrcAt h' u:=by
 unfold SrcAt at x ⊢
 split at x <;> (rename_i ht;obtain ⟨o,e,r⟩:=x;simp only [ht,if_true,if_false,qD5];exact ⟨o,k _ o e,r⟩)
theorem mq:∀(us:List (Bool×Addr×Array Value)) (acc:Array Value) (s:Shared) (Q:Array Value->Shared->Prop),(∀u∈us,SrcAt s.heap u) ->
  (∀ h',(∀v∈i9 s.heap.objs.size us,v.1.At h' 0)->h'.objs.size=s.heap.objs.size+us.length->(∀b o,s.heap.get? b=some o->h'.get? b=some o) ->
   Q (acc++((i9 s.heap.objs.size us).map λv=>Value.ref v.1.i).toArray) { s with heap:=h' }) ->
  wpAny (model prog w) A (forIn (us.map λu=>Value.ref u.2.1) acc λx r=>do let y <- holding r.toList (pyIter x);pure (ForInStep.yield (r.push y))) Q E s:=by
 intro us
 induction us with
 | nil=>
  intro acc s Q _ hQ;simp only [qI0,List.forIn_nil]
  have:=hQ s.heap (λ_ h=>absurd h qD6) rfl λ_ _ e=>e
  exact wpAny_pure (by simpa [i9]using this)
 | cons u r ih=>
  intro acc s Q hs hQ;simp only [qC4,qJ9];refine qA2 (qA2 (wpAny_holding (vm (hs u qB1) λh1 a1 s1 k1=>wpAny_pure ?_)));refine ih (acc.push (.ref s.heap.objs.size)) { s with heap:=h1 } Q (λv hv=>(hs v (qA7 _ hv)).keep k1) λh2 a2 s2 k2=>?_;have e0:i9 h1.objs.size r=i9 (s.heap.objs.size+1) r:=by rw[s1]
  have q:=hQ h2 (λv hv=>?_) (by rw[s2];show h1.objs.size+_=_;rw[s1,qC1];omega) λb o e=>k2 b o (k1 b o e)
  ·have e:acc.push (Value.ref s.heap.objs.size)++(List.map (λv=>Value.ref v.1.i) (i9 h1.objs.size r)).toArray=acc++(List.map (λv=>Value.ref v.1.i) (i9 s.heap.objs.size (u::r))).toArray:=by
    rw[e0];simp [i9]
   show Q (acc.push (Value.ref s.heap.objs.size)++(List.map (λv=>Value.ref v.1.i) (i9 h1.objs.size r)).toArray) _;rw[e];exact q
  ·rcases qB3.mp hv with rfl|hv
   ·exact a1.keep λo e=>k2 _ o e
   ·exact a2 v (by show v∈i9 h1.objs.size r;rw[e0];exact hv)
theorem vn {us:List (Bool×Addr×Array Value)}{Q:List Value->Shared->Prop}(hs:∀u∈us,SrcAt s.heap u)
  (hQ:∀h',(∀v∈i9 s.heap.objs.size us,v.1.At h' 0)->h'.objs.size=s.heap.objs.size+us.length->(∀b o,s.heap.get? b=some o->h'.get? b=some o) ->
   Q ((i9 s.heap.objs.size us).map λv=>Value.ref v.1.i) { s with heap:=h' }):wpAny (model prog w) A (Builtin.SmallTypes.iterAll (us.map λu=>Value.ref u.2.1)) Q E s:=by
 unfold Builtin.SmallTypes.iterAll;refine qA2 (mq us #[] s _ hs λh' a1 s1 k1=>wpAny_pure ?_)
 have:=hQ h' a1 s1 k1
 simpa using this
theorem R0:∀(us:List (Bool×Addr×Array Value)) (n:Nat),(i9 n us).length=us.length:=by
 intro us
 induction us with
 |nil=>intro n;rfl
 |cons u r ih=>intro n;unfold i9;rw[qC1,ih,qC1]
theorem iI (us:List (Bool×Addr×Array Value)) (hl:us.length<=sizeLine) :
  Meets (Builtin.«zip.__new__» ⟨.type "zip" :: us.map λu=>Value.ref u.2.1,[]⟩) (λ_ R s=>(∀u∈us,SrcAt s.heap u) /\
   ∀ h',(∀v∈i9 s.heap.objs.size us,v.1.At h' 0)->E3 h' (s.heap.objs.size+us.length) ((i9 s.heap.objs.size us).map λv=>Value.ref v.1.i).toArray ->
    (∃arr,E3 h' (s.heap.objs.size+us.length+1) arr/\arr.size=us.length)->IsZip h' (s.heap.objs.size+us.length+2) (s.heap.objs.size+us.length) (s.heap.objs.size+us.length+1) .none ->
    (∀b o,s.heap.get? b=some o->h'.get? b=some o)->R (.ok (.ret (.ref (s.heap.objs.size+us.length+2)))) { s with heap:=h' }):=
 .of_wp λprog w A R s h=>by
  obtain ⟨hs,h⟩:=h
  show wpAny _ _ (Builtin.SmallTypes.newClass "zip" _>>=_) _ _ _;refine qA2 ?_;unfold Builtin.SmallTypes.newClass;refine qA2 (wpAny_of_eq (a:=true) rfl ?_);simp only [Bool.not_true,qD5,if_false];refine qA2 (wpAny_of_eq (a:=true) sub_zip ?_);simp only [Bool.not_true,qD5,if_false];refine wpAny_pure ?_;simp only [qL6,show ¬ (0>1) by decide,if_false];refine qA2 (vn hs λh1 a1 s1 k1=>?_);refine qA2 (wpAny_newTuple ?_ (by simp [R0,hl]));refine qA2 (wpAny_newTuple ?_ (by simp [R0,hl]));generalize hI:((i9 s.heap.objs.size us).map λv=>Value.ref v.1.i)=I at h ⊢
  have hIl:I.length=us.length:=by rw[<- hI,qA1,R0]
  refine qA2 ?_
  show wpAny _ _ (newObj (.type "zip") (.fields #[.none,.bool false,.bool false,.ref h1.objs.size,.ref (h1.push { cls:=.type "tuple",data:=.seq I.toArray }).objs.size]) none) _ _ _;refine wpAny_newObj_type (wpAny_pure ?_) (by size_fits);have z0:h1.objs.size=s.heap.objs.size+us.length:=s1;have z1:(h1.push { cls:=.type "tuple",data:=.seq I.toArray }).objs.size=s.heap.objs.size+us.length+1:=by rw[qK3,s1]
  have z2:((h1.push { cls:=.type "tuple",data:=.seq I.toArray }).push { cls:=.type "tuple",data:=.seq (I.map λ_=>Value.none).toArray }).objs.size=s.heap.objs.size+us.length+2:=by rw[qK3,z1]
  refine ⟨_,rfl,?_⟩;have g:=h (((h1.push { cls:=.type "tuple",data:=.seq I.toArray }).push { cls:=.type "tuple",data:=.seq (I.map λ_=>Value.none).toArray }).push { cls:=.type "zip",data:=.fields #[.none,.bool false,.bool false,.ref h1.objs.size,.ref (h1.push { cls:=.type "tuple",data:=.seq I.toArray }).objs.size] })
   (λv hv=>(a1 v hv).keep λo e=>qA9 _ (qA9 _ (qA9 _ e))) ?_ ⟨(I.map λ_=>Value.none).toArray,?_,by simp [hIl]⟩ ?_ λb o e=>qA9 _ (qA9 _ (qA9 _ (k1 b o e)))
  ·rw [<- z2]at g
   exact g
  ·rw[<- z0];exact qA9 _ (qA9 _ (qC2 _ rfl))
  ·rw[<- z1];exact qA9 _ (qC2 _ rfl)
  ·rw[<- z2,<- z1,<- z0];exact qC2 _ rfl
theorem nQ (a b c:Value):checkTypeCall "zip" ⟨[a,b,c],[]⟩=pure ():=by kernel_rfl
theorem oE (a b c:Value):checkBuiltinCall "zip.__new__" ⟨[.type "zip",a,b,c],[]⟩=pure ():=by kernel_rfl
theorem pk (a b c d:Value):argsOk "object.__init__" ⟨[a,b,c,d],[]⟩:=by
 unfold argsOk;rw[signature?_of (id := "object.__init__") (n:=['_','_','t','i','n','i','_','_']) (o:=['t','c','e','j','b','o']) (by kernel_rfl) F.owner_object];kernel_rfl
theorem vX (us:List (Bool×Addr×Array Value)) (hl:us.length=2\/us.length=3){Q:Value->Shared->Prop}(hs:∀u∈us,SrcAt s.heap u)
  (h:∀h',(∀v∈i9 s.heap.objs.size us,v.1.At h' 0)->E3 h' (s.heap.objs.size+us.length) ((i9 s.heap.objs.size us).map λv=>Value.ref v.1.i).toArray ->
    (∃arr,E3 h' (s.heap.objs.size+us.length+1) arr/\arr.size=us.length)->IsZip h' (s.heap.objs.size+us.length+2) (s.heap.objs.size+us.length) (s.heap.objs.size+us.length+1) .none ->
    (∀b o,s.heap.get? b=some o->h'.get? b=some o)->Q (.ref (s.heap.objs.size+us.length+2)) { s with heap:=h' }) :
  wpAny (model prog w) A (call (.type "zip") (us.map λu=>Value.ref u.2.1)) Q E s:=by
 have hle:us.length<=sizeLine:=qB8 (show us.length<=3 by omega) (by decide);have k:∀h',_->_->_->_->_->({ s with heap:=h' }:Shared).TypeIs (.ref (s.heap.objs.size+us.length+2)) "zip" /\ Q (.ref (s.heap.objs.size+us.length+2)) { s with heap:=h' }:=λh' c1 c2 c3 c4 c5=>⟨⟨_,c4,rfl⟩,h h' c1 c2 c3 c4 c5⟩;cases us with
 |nil=>rcases hl with hl|hl <;> cases hl
 | cons a us=>
  cases us with
  |nil=>rcases hl with hl|hl <;> cases hl
  | cons b us=>
   cases us with
   |nil=>exact callType_new F.called_zip (by decide) (F.typeCall_zip_2 _ _) (F.newCall_zip_2 _ _) (λobj=>F.args_object_init_3 obj _ _) F.entry_zip_new (iI [a,b] hle) ⟨hs,k⟩
   | cons c us=>
    cases us with
    |nil=>exact callType_new F.called_zip (by decide) (nQ _ _ _) (oE _ _ _) (λobj=>pk obj _ _ _) F.entry_zip_new (iI [a,b,c] hle) ⟨hs,k⟩
    |cons d us=>rcases hl with hl|hl <;> (simp only [qC1]at hl;omega)
end
end L2
namespace L2
open PySem PySem.Spec PyProof.Rows
theorem ak {α β:Type}{R:α->β->Prop}:∀{l:List α},(∀a∈l,∃b,R a b)->∃l':List (α×β),l'.map (·.1)=l/\∀p∈l',R p.1 p.2:=by
 intro l
 induction l with
 |nil=>exact λ_=>⟨[],rfl,λ_ h=>absurd h qD6⟩
 | cons a l ih=>
  intro h;obtain ⟨b,hb⟩:=h a qB1;obtain ⟨l',e,q⟩:=ih λx hx=>h x (qA7 _ hx);refine ⟨(a,b)::l',by rw[qC4,e],λp hp=>?_⟩;rcases qB3.mp hp with rfl|hp
  ·exact hb
  ·exact q p hp
def Sq (K:Frag)(H:Hp)(t:Bool)(a:Addr)(xs:List V):Prop:=if t=true then SqT K H a xs else SqL K H a xs
section
variable {X:Cx}{pins:List (Addr×Obj)}{σ:St}{H:Hp}{s:Shared}
theorem kne {b a:Addr}{o:Obj}(I:Inv X pins σ H s) (h:X.K.lookup a=some o) (f:G9 X pins H b):a≠b:=by
 intro e;subst e;have hb:X.base.get? a=some o:=I.mod.kin a o h;obtain ⟨f0,f1,f2,f3,f4,f5⟩:=f;rcases f3 with z|z
 ·exact I.ok.noex a o hb z
 ·exact absurd (qB7 (qB4 (I.ok.bs a o hb).1) z) (qF1 _)
theorem Sq.ne {t:Bool}{a b:Addr}{xs:List V}(I:Inv X pins σ H s) (h:Sq X.K H t a xs) (f:G9 X pins H b):a≠b:=by
 have tr:∀{u:HO},Rd H a u->a≠b:=λ{u} r e=>by
  subst e;have f0:=f.1;rcases r with r|⟨o,r⟩ <;> (rw[f0]at r;cases r)
 unfold Sq at h
 split at h
 ·rcases h with h|⟨o,its,n,hk,_⟩
  ·exact tr h
  ·exact kne I hk f
 ·rcases h with h|⟨o,its,n,hk,_⟩
  ·exact tr h
  ·exact kne I hk f
theorem Sq.src {t:Bool}{a:Addr}{xs:List V}(I:Inv X pins σ H s) (h:Sq X.K H t a xs):∃its:List Value,Vals xs its/\(Sub.mk t 0 a).Src s.heap its.toArray:=by
 unfold Sq at h;unfold Sub.Src
 split at h
 ·rename_i ht
  obtain ⟨its,r,p,_⟩:=I.tuple h;exact ⟨its,r,by simp only [ht,if_true];exact p⟩
 ·rename_i ht
  obtain ⟨its,r,p,_⟩:=I.list h;exact ⟨its,r,by simp only [ht,if_false];exact p.isList⟩
theorem Sq.inj {t:Bool}{a:Addr}{xs ys:List V}(I:Inv X pins σ H s) (h:Sq X.K H t a xs) (h':Sq X.K H t a ys):xs=ys:=by
 unfold Sq at h h'
 split at h
 ·rename_i ht;simp only [ht,if_true]at h';exact I.tuple_inj h h'
 ·rename_i ht;simp only [ht,if_false]at h';exact I.list_inj h h'
end
def ItZ (K:Frag) (us:List (Bool×Addr)):It:=
  ⟨fun i H=>∀u∈us,∃xs x,Sq K H u.1 u.2 xs/\xs[i]?=some x,
   λi H x H'=>∃p ys,x=.ref p/\H p=none/\H'=upd H p (.tup ys)/\Paired (λ(u:Bool×Addr) (y:V)=>∀xs,Sq K H u.1 u.2 xs->xs[i]?=some y) us ys,
   λi H=>(∀u∈us,∃xs,Sq K H u.1 u.2 xs)/\∃u∈us,∃xs,Sq K H u.1 u.2 xs/\xs.length<=i⟩
structure ZSt (z TI TO:Addr) (subs:List Sub):Prop where
 zTO:z≠TO
 TIz:TI≠z
 TITO:TI≠TO
 zi:∀u∈subs,u.i≠z
 ti:∀u∈subs,u.i≠TO
 Ii:∀u∈subs,u.i≠TI
 nd:subs.Pairwise λu v=>u.i≠v.i
abbrev zTn (z TI TO:Addr) (subs:List Sub) (i:Nat) (h:Heap):Prop:=
 IsZip h z TI TO .none/\E3 h TI (subs.map λu=>Value.ref u.i).toArray/\(∃arr,E3 h TO arr/\arr.size=subs.length)/\∀u∈subs,u.At h i
theorem O6 {α β γ:Type}{F:α->γ->Prop}{f:β->α}{g:β->γ}:∀{l:List β},(∀b∈l,F (f b) (g b))->Paired F (l.map f) (l.map g)
 | [],_=>.nil
 |_::_,h=>.cons (h _ qB1) (O6 λb hb=>h b (qA7 _ hb))
theorem tH {P:Program}{w:World}{K:Frag}{elts:List Expr}{k:Nat}{tp:Pos}{z TI TO:Addr}{subs:List Sub}(D:ZSt z TI TO subs) (hne:subs ≠ []) (hln:subs.length<=sizeLine) :
  Turn P w K (.Tuple elts k tp) (ItZ K (subs.map λu=>(u.t,u.l))) (z::TI::TO::subs.map (·.i)) z (zTn z TI TO subs) where
 mem:=by simp
 obj:=λi h st b hb=>by
  obtain ⟨hz,hTI,⟨arr,hTO,_⟩,hs⟩:=st;simp only [qB3,qB6]at hb;rcases hb with rfl|rfl|rfl|⟨u,hu,rfl⟩
  ·exact ⟨_,hz,λv q=>by cases q⟩
  ·exact ⟨_,hTI,λv q=>by cases q⟩
  ·exact ⟨_,hTO,λv q=>by cases q⟩
  ·obtain ⟨o,e,d⟩:=(hs u hu).obj;exact ⟨o,e,λv q=>by rw[d]at q;cases q⟩
 keep:=λi h h' st kp=>by
  obtain ⟨hz,hTI,⟨arr,hTO,ha⟩,hs⟩:=st;exact ⟨kp z (by simp) _ hz,kp TI (by simp) _ hTI,⟨arr,kp TO (by simp) _ hTO,ha⟩,λu hu=>(hs u hu).keep λo e=>kp u.i (by simp only [qB3,qB6];exact .inr (.inr (.inr ⟨u,hu,rfl⟩))) o e⟩
 item:=by
  intro X hP hw hK hc i pins s σ H E I hf st hg;subst hP hw hK;obtain ⟨hz,hTI,⟨arr,hTO,ha⟩,hs⟩:=st;have fz:=hf z (by simp);have fT:=hf TO (by simp);have fi:∀u∈subs,G9 X pins H u.i:=λu hu=>hf u.i (by simp only [qB3,qB6];exact .inr (.inr (.inr ⟨u,hu,rfl⟩)));obtain ⟨ss,ess,hss⟩:=ak (R:=λ(u:Sub) (q:List Value×List V×V)=>Sq X.K H u.t u.l q.2.1/\Vals q.2.1 q.1/\u.Src s.heap q.1.toArray/\q.2.1[i]?=some q.2.2) (l:=subs) (λu hu=>by
   obtain ⟨xs,x,h1,h2⟩:=hg (u.t,u.l) (qB6.mpr ⟨u,hu,rfl⟩);obtain ⟨its,r,hsrc⟩:=Sq.src I h1;exact ⟨(its,xs,x),h1,r,hsrc,h2⟩)
  have mss:∀v∈ss,v.1∈subs:=λv hv=>by rw[<- ess];exact qB6.mpr ⟨v,hv,rfl⟩
  have nd2:ss.Pairwise λu v=>u.1.i≠v.1.i:=by
   have:=D.nd
   rw[<- ess,qI4]at this;exact this
  have DA:Apart z TO (ss.map λv=>(v.1,v.2.1.toArray)):=by
   refine ⟨D.zTO,?_,?_,?_,?_,?_,?_⟩
   ·rintro _ hu;obtain ⟨v,hv,rfl⟩:=qB6.mp hu;exact D.zi _ (mss v hv)
   ·rintro _ hu;obtain ⟨v,hv,rfl⟩:=qB6.mp hu;exact D.ti _ (mss v hv)
   ·rw[qI4];exact nd2
   ·rintro _ hu;obtain ⟨v,hv,rfl⟩:=qB6.mp hu;exact Sq.ne I (hss v hv).1 fz
   ·rintro _ hu;obtain ⟨v,hv,rfl⟩:=qB6.mp hu;exact Sq.ne I (hss v hv).1 fT
   ·rintro _ hu _ hu2;obtain ⟨v,hv,rfl⟩:=qB6.mp hu;obtain ⟨v2,hv2,rfl⟩:=qB6.mp hu2;exact Sq.ne I (hss v hv).1 (fi _ (mss v2 hv2))
  have el:(ss.map λv=>(v.1,v.2.1.toArray)).length=subs.length:=by rw[qA1,<- ess,qA1]
  have eI:((ss.map λv=>(v.1,v.2.1.toArray)).map λu=>Value.ref u.1.i)=subs.map λu=>Value.ref u.i:=by rw[<- ess,qC7,qC7];rfl
  have ys:∀v∈ss,∃u,v.2.1.toArray[i]?=some u/\RelV v.2.2.2 u:=λv hv=>by
   obtain ⟨u,e,r⟩:=(hss v hv).2.1.get (hss v hv).2.2.2;exact ⟨u,by simpa using e,r⟩
  refine tq (n:=i) DA (by intro q;apply hne;have:=congrArg List.length q;rw[el]at this;exact List.length_eq_zero_iff.mp this) (by rw[ha,el]) (by rw[el];exact hln) hz (by rw[eI];exact hTI) hTO (λu hu=>?_) λh1 z1 T1 a1 p1 k1=>?_
  ·obtain ⟨v,hv,rfl⟩:=qB6.mp hu;obtain ⟨u,e,_⟩:=ys v hv;exact ⟨hs _ (mss v hv),(hss v hv).2.2.1,u,e⟩
  refine ⟨_,rfl,wpAny_letOwnedTupleGo_zip z1 λh2 z2 sb2=>?_⟩;have hzl:z<s.heap.objs.size:=qB4 hz;have kp:∀b o,b≠z->b≠TO->(∀u∈subs,b≠u.i)->s.heap.get? b=some o->h2.get? b=some o:=λb o b1 b2 b3 e=>sb2.extBut _ _ b1 (k1 b o b1 b2 (λu hu=>by obtain ⟨v,hv,rfl⟩:=qB6.mp hu;exact b3 _ (mss v hv)) e);have hfr:H s.heap.objs.size=none:=I.hok.fresh (qB9 _);have trk:∀b u,H b=some u->b≠z/\b≠TO/\∀v∈subs,b≠v.i:=λb u e=>⟨λq=>(by subst q;rw[fz.1]at e;cases e),λq=>(by subst q;rw[fT.1]at e;cases e),λv hv q=>(by subst q;rw[(fi v hv).1]at e;cases e)⟩;have hP2:E3 h2 s.heap.objs.size (ss.map λv=>v.2.1.toArray.getD i .none).toArray:=by
   have:=sb2.extBut _ _ (qJ2 hzl) p1
   rw[qC7]at this;exact this
  have rel:Vals (ss.map λv=>v.2.2.2) (ss.map λv=>v.2.1.toArray.getD i .none):=O6 λv hv=>by
   obtain ⟨u,e,r⟩:=ys v hv;rw[show v.2.1.toArray.getD i Value.none=u by simp only [qE2,e,Option.getD_some]];exact r
  have len:(ss.map λv=>v.2.2.2).length<=sizeLine:=by rw[qA1,show ss.length=subs.length by rw[<- ess,qA1]];exact hln
  refine ⟨.ref s.heap.objs.size,upd H s.heap.objs.size (.tup (ss.map λv=>v.2.2.2)),?_,rfl,⟨_,_,rfl,hfr,rfl,?_⟩,⟨z2,?_,?_,λu hu=>?_⟩,λb hb=>?_⟩
  ·show Inv X pins σ _ { s with heap:=h2 };refine I.step (g':=s.gens) (t':=s.toks) (d':=s.drawn) (ch:=z::TO::subs.map (·.i)) (λb hb=>?_) (λb o _ _ hc e _=>kp b o ?_ ?_ ?_ e) (λb o _ _ hc e _=>⟨o.slots,kp b o ?_ ?_ ?_ e⟩) (λb o hc e n=>?_) (λb o hc e=>⟨o,kp b o ?_ ?_ ?_ e⟩) (λb xs e=>?_) (λb o u e=>?_) (λb ps e=>?_) (λm hm=>?_) ?_ I.bare
   ·simp only [qB3,qB6]at hb;rcases hb with rfl|rfl|⟨u,hu,rfl⟩
    ·exact ⟨fz.2.2.2.1,fz.2.1,fz.2.2.2.2.1,fz.2.2.2.2.2⟩
    ·exact ⟨fT.2.2.2.1,fT.2.1,fT.2.2.2.2.1,fT.2.2.2.2.2⟩
    ·have f:=fi u hu;exact ⟨f.2.2.2.1,f.2.1,f.2.2.2.2.1,f.2.2.2.2.2⟩
   all_goals first
    | (intro q;exact hc (by simp [q];done))
    | (intro u hu q;exact hc (by rw[q];exact qA7 _ (qA7 _ (qB6.mpr ⟨u,hu,rfl⟩))))
    |skip
   ·rw[d4 (qD2 (qB4 e))];exact n
   ·rw[d4 (e8 e hfr)];exact e
   ·rw[d4 (e8 e hfr)];exact e
   ·exact ⟨#[],by rw[d4 (e8 e hfr),e];simp⟩
   ·obtain ⟨o,es,ep,ho,r⟩:=hm;exact ⟨o,es,ep,kp _ o (Ne.symm fz.2.1) (Ne.symm fT.2.1) (λu hu=>Ne.symm (fi u hu).2.1) ho,r⟩
   ·intro b u e;by_cases hb:b=s.heap.objs.size
    ·subst hb;rw[n6]at e;cases e;exact ⟨len,_,rel,⟨_,hP2,rfl,_,rfl⟩⟩
    ·rw [d4 hb]at e
     refine (I.hok b u e).stay (λc v hcc q=>?_) (λc q=>by rw[d4 (e8 q hfr)];exact q) λc xs q=>by rw[d4 (e8 q hfr)];exact q
     rcases hcc with rfl|hcc
     ·exact kp _ v (trk _ _ e).1 (trk _ _ e).2.1 (trk _ _ e).2.2 q
     ·exact kp _ v (trk _ _ hcc).1 (trk _ _ hcc).2.1 (trk _ _ hcc).2.2 q
  ·rw [<- ess,qC7]
   exact O6 λv hv xs hx=>by rw[Sq.inj I hx (hss v hv).1];exact (hss v hv).2.2.2
  ·exact kp TI _ D.TIz D.TITO (λu hu=>Ne.symm (D.Ii u hu)) hTI
  ·obtain ⟨arr',hT',ha'⟩:=T1;exact ⟨arr',sb2.extBut _ _ D.zTO.symm hT',by rw[ha',el]⟩
  ·have hv:∃v∈ss,v.1=u:=by rw[<- ess]at hu;exact qB6.mp hu
   obtain ⟨v,hv,rfl⟩:=hv;exact (a1 (v.1,v.2.1.toArray) (qB6.mpr ⟨v,hv,rfl⟩)).keep λo e=>sb2.extBut _ _ (D.zi _ (mss v hv)) e
  ·have:b≠s.heap.objs.size:=by
    simp only [qB3,qB6]at hb;rcases hb with rfl|rfl|rfl|⟨u,hu,rfl⟩
    ·exact qD2 hzl
    ·exact qD2 (qB4 hTI)
    ·exact qD2 (qB4 hTO)
    ·obtain ⟨o,e,_⟩:=(hs u hu).obj;exact qD2 (qB4 e)
   rw[d4 this];exact (hf b hb).1
 done:=by
  intro X hP hw hK hc i pins s σ H E I hf st hg;subst hP hw hK;obtain ⟨hz,hTI,⟨arr,hTO,ha⟩,hs⟩:=st;obtain ⟨hall,u0,hu0,xs0,hq0,hl0⟩:=hg;have fz:=hf z (by simp);have fT:=hf TO (by simp);have fi:∀u∈subs,G9 X pins H u.i:=λu hu=>hf u.i (by simp only [qB3,qB6];exact .inr (.inr (.inr ⟨u,hu,rfl⟩)));obtain ⟨ss,ess,hss⟩:=ak (R:=λ(u:Sub) (q:List Value×List V)=>Sq X.K H u.t u.l q.2/\Vals q.2 q.1/\u.Src s.heap q.1.toArray) (l:=subs) (λu hu=>by
   obtain ⟨xs,h1⟩:=hall (u.t,u.l) (qB6.mpr ⟨u,hu,rfl⟩);obtain ⟨its,r,hsrc⟩:=Sq.src I h1;exact ⟨(its,xs),h1,r,hsrc⟩)
  have mss:∀v∈ss,v.1∈subs:=λv hv=>by rw[<- ess];exact qB6.mpr ⟨v,hv,rfl⟩
  have nd2:ss.Pairwise λu v=>u.1.i≠v.1.i:=by
   have:=D.nd
   rw[<- ess,qI4]at this;exact this
  have DA:Apart z TO (ss.map λv=>(v.1,v.2.1.toArray)):=by
   refine ⟨D.zTO,?_,?_,?_,?_,?_,?_⟩
   ·rintro _ hu;obtain ⟨v,hv,rfl⟩:=qB6.mp hu;exact D.zi _ (mss v hv)
   ·rintro _ hu;obtain ⟨v,hv,rfl⟩:=qB6.mp hu;exact D.ti _ (mss v hv)
   ·rw[qI4];exact nd2
   ·rintro _ hu;obtain ⟨v,hv,rfl⟩:=qB6.mp hu;exact Sq.ne I (hss v hv).1 fz
   ·rintro _ hu;obtain ⟨v,hv,rfl⟩:=qB6.mp hu;exact Sq.ne I (hss v hv).1 fT
   ·rintro _ hu _ hu2;obtain ⟨v,hv,rfl⟩:=qB6.mp hu;obtain ⟨v2,hv2,rfl⟩:=qB6.mp hu2;exact Sq.ne I (hss v hv).1 (fi _ (mss v2 hv2))
  have el:(ss.map λv=>(v.1,v.2.1.toArray)).length=subs.length:=by rw[qA1,<- ess,qA1]
  have eI:((ss.map λv=>(v.1,v.2.1.toArray)).map λu=>Value.ref u.1.i)=subs.map λu=>Value.ref u.i:=by rw[<- ess,qC7,qC7];rfl
  refine tm (n:=i) (I.ok.hd hc) DA (by rw[ha,el]) (by rw[el];exact hln) hz (by rw[eI];exact hTI) hTO (λu hu=>?_) ?_ λh1 k1=>⟨rfl,?_⟩
  ·obtain ⟨v,hv,rfl⟩:=qB6.mp hu;exact ⟨hs _ (mss v hv),(hss v hv).2.2⟩
  ·obtain ⟨u,hu,e0⟩:=qB6.mp hu0;have hv:∃v∈ss,v.1=u:=by rw[<- ess]at hu;exact qB6.mp hu
   obtain ⟨v,hv,rfl⟩:=hv;subst e0;refine ⟨(v.1,v.2.1.toArray),qB6.mpr ⟨v,hv,rfl⟩,?_⟩;have e1:=Sq.inj I (hss v hv).1 hq0;have e2:=(hss v hv).2.1.length;rw[e1]at e2;simp only [List.getElem?_toArray];exact qE9 (by omega)
  ·have kp:∀b o,b≠z->b≠TO->(∀u∈subs,b≠u.i)->s.heap.get? b=some o->h1.get? b=some o:=λb o b1 b2 b3 e=>k1 b o b1 b2 (λu hu=>by obtain ⟨v,hv,rfl⟩:=qB6.mp hu;exact b3 _ (mss v hv)) e;have trk:∀b u,H b=some u->b≠z/\b≠TO/\∀v∈subs,b≠v.i:=λb u e=>⟨λq=>(by subst q;rw[fz.1]at e;cases e),λq=>(by subst q;rw[fT.1]at e;cases e),λv hv q=>(by subst q;rw[(fi v hv).1]at e;cases e)⟩;refine I.step (g':=s.gens) (t':=s.toks) (d':=s.drawn) (ch:=z::TO::subs.map (·.i)) (λb hb=>?_) (λb o _ _ hc e _=>kp b o ?_ ?_ ?_ e) (λb o _ _ hc e _=>⟨o.slots,kp b o ?_ ?_ ?_ e⟩) (λb o hc e n=>n) (λb o hc e=>⟨o,kp b o ?_ ?_ ?_ e⟩) (λb xs e=>e) (λb o u e=>e) (λb ps e=>⟨#[],by rw[e];simp⟩) (λm hm=>?_) (λb u e=>?_) I.bare
   ·simp only [qB3,qB6]at hb;rcases hb with rfl|rfl|⟨u,hu,rfl⟩
    ·exact ⟨fz.2.2.2.1,fz.2.1,fz.2.2.2.2.1,fz.2.2.2.2.2⟩
    ·exact ⟨fT.2.2.2.1,fT.2.1,fT.2.2.2.2.1,fT.2.2.2.2.2⟩
    ·have f:=fi u hu;exact ⟨f.2.2.2.1,f.2.1,f.2.2.2.2.1,f.2.2.2.2.2⟩
   all_goals first
    | (intro q;exact hc (by simp [q];done))
    | (intro u hu q;exact hc (by rw[q];exact qA7 _ (qA7 _ (qB6.mpr ⟨u,hu,rfl⟩))))
    |skip
   ·obtain ⟨o,es,ep,ho,r⟩:=hm;exact ⟨o,es,ep,kp _ o (Ne.symm fz.2.1) (Ne.symm fT.2.1) (λu hu=>Ne.symm (fi u hu).2.1) ho,r⟩
   ·refine (I.hok b u e).stay (λc v hcc q=>?_) (λc q=>q) λc xs q=>q;rcases hcc with rfl|hcc
    ·exact kp _ v (trk _ _ e).1 (trk _ _ e).2.1 (trk _ _ e).2.2 q
    ·exact kp _ v (trk _ _ hcc).1 (trk _ _ hcc).2.1 (trk _ _ hcc).2.2 q
 self:=λ_ _ _ _ _ st h=>wpAny_pyIter_zip st.1 h
def DF (K:Frag)(ta:TA):TI:=λσ H R=>ta σ H λvs H1=>∃us:List (Bool×Addr),vs=us.map (λu=>V.ref u.2)/\(us.length=2\/us.length=3)/\(∀u∈us,∃xs,Sq K H1 u.1 u.2 xs)/\R (ItZ K us) H1
theorem neN {a b:Nat}(h:a≠b):(a:Addr)≠b:=h
theorem pK:∀{us:List (Bool×Addr)}{vs:List Value},Vals (us.map λu=>V.ref u.2) vs->vs=us.map λu=>Value.ref u.2:=by
 intro us
 induction us with
 |nil=>intro vs h;cases h;rfl
 | cons u us ih=>
  intro vs h;cases h with
  | cons r t=>
   have r':_=Value.ref _:=r;rw[r',ih t];rfl
theorem bR:∀(us:List (Bool×Addr×Array Value)) (n:Nat),∀v∈i9 n us,n<=v.1.i/\n+us.length>v.1.i:=by
 intro us
 induction us with
 |nil=>exact λ_ _ h=>absurd h qD6
 | cons u r ih=>
  intro n v h;rcases qB3.mp h with rfl|h
  ·exact ⟨qB9 _,by show n+(r.length+1)>n;omega⟩
  ·have:=ih (n+1) v h
   rw[qC1];omega
theorem mD:∀(us:List (Bool×Addr×Array Value)) (n:Nat),(i9 n us).Pairwise λu v=>u.1.i≠v.1.i
 | [],_=>.nil
 | u::r,n=>by
  refine List.pairwise_cons.mpr ⟨λv hv=>?_,mD r (n+1)⟩
  have:=bR r (n+1) v hv
  show (n:Nat)≠v.1.i;omega
theorem jF:∀(us:List (Bool×Addr×Array Value)) (n:Nat),(i9 n us).map (λu=>(u.1.t,u.1.l))=us.map λu=>(u.1,u.2.1)
 | [],_=>rfl
 |u::r,n=>by unfold i9;rw[qC4,jF r,qC4]
section
variable {X:Cx}
theorem Cl {a:Expr}{es elts:List Expr}{ta:TA}{p pos tp:Pos}{k:Nat}(hg:Gl X "zip") (hm:X.mg "zip" = none) (ha:PA X (a::es) ta) (hs:starEach (a::es) X.env=(false,eval a X.env)::starEach es X.env:=by rfl)
  (hpl:(backTo pos (starEach es X.env)).any (·.1)=false:=by rfl):PI X (.Tuple elts k tp) (.Call (.Name "zip" p) (a::es) [] pos) (DF X.K ta):=by
 intro pins s σ H R I h;refine Call_ (O9 I hg hm boot_zip (qF5 (thn (ha pos pins s σ H _ I h) λvs s1 zz52=>?_) hs hpl));obtain ⟨xs,H1,I1,r1,us,e1,hl,hsq,q⟩:=zz52;subst e1;have e2:=pK r1;subst e2;obtain ⟨ws,ew,hws⟩:=ak (R:=λ(u:Bool×Addr) (its:Array Value)=>SrcAt s1.heap (u.1,u.2,its)) (l:=us) (λu hu=>by
  obtain ⟨ys,hy⟩:=hsq u hu;obtain ⟨its,_,hsrc⟩:=Sq.src I1 hy;exact ⟨its.toArray,by unfold SrcAt;unfold Sub.Src at hsrc;exact hsrc⟩)
 have ev:us.map (λu=>Value.ref u.2)=(ws.map λw=>(w.1.1,w.1.2,w.2)).map λu=>Value.ref u.2.1:=by rw[<- ew,qC7,qC7];rfl
 have el:(ws.map λw=>(w.1.1,w.1.2,w.2)).length=us.length:=by rw[<- ew,qA1,qA1]
 rw[ev];generalize hW:(ws.map λw=>(w.1.1,w.1.2,w.2))=W at el ev
 have hsw:∀u∈W,SrcAt s1.heap u:=λu hu=>by
  rw[<- hW]at hu;obtain ⟨w,hw,rfl⟩:=qB6.mp hu;exact hws w hw
 refine vX W (by rw[el];exact hl) hsw λh' hA hTI hTO hz hk=>wpAny_pyIter_zip hz ?_;have I2:Inv X pins σ H1 { s1 with heap:=h' }:=I1.kept (t':=s1.toks) hk;have eS:((i9 s1.heap.objs.size W).map (·.1)).map (λu=>(u.t,u.l))=us:=by
  rw[qC7]
  show (i9 s1.heap.objs.size W).map (λu=>(u.1.t,u.1.l))=us;rw[jF,<- hW,qC7,<- ew];rfl
 have D:ZSt (s1.heap.objs.size+W.length+2) (s1.heap.objs.size+W.length) (s1.heap.objs.size+W.length+1) ((i9 s1.heap.objs.size W).map (·.1)):=by
  refine ⟨neN (by omega),neN (by omega),neN (by omega),?_,?_,?_,?_⟩
  ·rintro _ hu;obtain ⟨v,hv,rfl⟩:=qB6.mp hu;have:=bR W _ v hv;exact neN (by omega)
  ·rintro _ hu;obtain ⟨v,hv,rfl⟩:=qB6.mp hu;have:=bR W _ v hv;exact neN (by omega)
  ·rintro _ hu;obtain ⟨v,hv,rfl⟩:=qB6.mp hu;have:=bR W _ v hv;exact neN (by omega)
  ·rw[qI4];exact mD W _
 have ls:((i9 s1.heap.objs.size W).map (·.1)).length=W.length:=by rw[qA1,R0]
 have TZ:=tH (P:=X.prog) (w:=X.w) (K:=X.K) (elts:=elts) (k:=k) (tp:=tp) D (by intro q;have:=congrArg List.length q;rw[ls,el]at this;have h0:us.length=0:=this;omega) (by rw[ls,el];exact qB8 (show us.length<=3 by omega) (by decide));rw[eS]at TZ;refine ⟨_,_,_,_,H1,rfl,I2,TZ,⟨hz,?_,?_,λu hu=>?_⟩,λb hb=>?_,q⟩
 ·rw[qC7];exact hTI
 ·obtain ⟨arr,h1,h2⟩:=hTO;exact ⟨arr,h1,by rw[ls];exact h2⟩
 ·obtain ⟨v,hv,rfl⟩:=qB6.mp hu;exact hA v hv
 ·have hb':s1.heap.objs.size<=b:=by
   simp only [qB3,qB6]at hb;rcases hb with rfl|rfl|rfl|⟨_,⟨v,hv,rfl⟩,rfl⟩
   ·omega
   ·omega
   ·omega
   ·exact (bR W _ v hv).1
  have f:=I1.fpOk (H':=H1) hb' (I1.hok.fresh hb');exact f
end
end L2
namespace L2
open PySem PySem.Spec PyProof.Rows
theorem K8 (cs:Scope) (env:Env) (x:Str):(relabel cs env).names.lookup x=(cs.names.lookup x).map λk=>if (k == .free&&env.scope.kind == .function&&env.kindOf x == some .cell)=true then .cell else k:=by
 unfold relabel
 show List.lookup x (cs.names.map _)=_
 induction cs.names with
 |nil=>rfl
 | cons p r ih=>
  obtain ⟨n,k⟩:=p;by_cases hx:x=n
  ·subst hx;rw[qC4];simp only [qJ3]
   split <;> simp_all
  ·have hb:(x == n)=false:=by simpa using hx
   have er:List.lookup x ((n,k)::r)=List.lookup x r:=by rw[qJ3,hb]
   rw[qC4,er];refine Eq.trans ?_ ih;dsimp only;by_cases hc:(k == NameKind.free&&env.scope.kind == ScopeKind.function&&env.kindOf n == some NameKind.cell)=true
   ·rw[qA4 hc,qJ3,hb]
   ·rw[qA6 hc,qJ3,hb]
theorem fO {env : Env} : ∀(names : List (Str × NameKind)) (cs0 : List (Str × Addr)), (∀x ∈ names, x.2 = .free -> ∃c, env.cells.lookup x.1 = some c) -> (∀x c, cs0.lookup x = some c -> env.cells.lookup x = some c) ->
    ∃ cl, (forIn (m := Sem) names cs0 λx __s => if (x.snd == NameKind.free) = true then do
              let __do_lift <- cellOf env x.fst
              pure (ForInStep.yield ((x.fst, __do_lift) :: __s))
            else pure (ForInStep.yield __s)) = pure cl /\ (∀x c, cl.lookup x = some c -> env.cells.lookup x = some c) /\ (∀x, (x, NameKind.free) ∈ names -> ∃c, cl.lookup x = some c) /\ ∀x c, cs0.lookup x = some c -> ∃c', cl.lookup x = some c' := by
  intro names
  induction names with
  | nil =>
    intro cs0 _ h0;exact ⟨cs0, by simp only [List.forIn_nil], h0, λ_ h => absurd h qD6, λ_ c h => ⟨c, h⟩⟩
  | cons p r ih =>
    intro cs0 hf h0;obtain ⟨n, k⟩ := p;by_cases hk : k = .free
    · subst hk
      obtain ⟨c, hc⟩ := hf (n, .free) qB1 rfl;obtain ⟨cl, e, h1, h2, h3⟩ := ih ((n, c) :: cs0) (λx hx => hf x (qA7 _ hx)) (λx c' hx => by
        rw[qJ3]at hx
        split at hx
        · rename_i hb
          have hxn : x = n := by simpa using hb
          cases hx;rw[hxn];exact hc
        · exact h0 x c' hx)
      have hn : ∃c', cl.lookup n = some c' := h3 n c (by simp);refine ⟨cl, ?_, h1, λx hx => ?_, λx c' hx => ?_⟩
      · rw [qJ9]
        simp only [beq_self_eq_true, if_true, cellOf, hc];exact e
      · rcases qB3.mp hx with q|hx
        · cases q;exact hn
        · exact h2 x hx
      · by_cases hxn : x = n
        · subst hxn;exact hn
        · exact h3 x c' (by
            have hb : (x == n) = false := by simpa using hxn
            rw[qJ3, hb];exact hx)
    · have hb : (k == NameKind.free) = false := by simpa using hk
      obtain ⟨cl, e, h1, h2, h3⟩ := ih cs0 (λx hx => hf x (qA7 _ hx)) h0;refine ⟨cl, ?_, h1, λx hx => ?_, h3⟩
      · rw [qJ9]
        simp only [hb, qD5, if_false];exact e
      · rcases qB3.mp hx with q|hx
        · cases q;exact absurd rfl hk
        · exact h2 x hx
structure f7 (sc cs:Scope) (N N':List Str):Prop where
 kind:cs.kind=.function
 ncell:∀x∈cs.names,x.2≠.cell
 loc:∀x∈cs.names,x.2=.local->cs.names.lookup x.1=some .local
 free:∀x∈cs.names,x.2=.free->sc.names.lookup x.1=some .cell\/sc.names.lookup x.1=some .free
 nd:N'.Nodup
 len:N.length<=N'.length
 same:∀i∈List.range N.length,N'[i]?=N[i]?\/∀x∈N'[i]?,cs.names.lookup x=none
 out:∀x∈N'.take N.length,cs.names.lookup x≠some .local
abbrev j6 (X:Cx) (cs:Scope) (cl:List (Str×Addr)) (N':List Str) (ex:List Addr) (s:Shared) (H:Hp):Cx:=
 { X with N:=N',s₀:=s,H₀:=H,env:=compEnvC cs cl s.heap.objs.size X.env,outer:=X.stack,stack:=X.stack,ex:=ex,fn:=λ_=>false,pn:=[],xe:=λ_ _=>False }
def inner (N':List Str)(σ:St):St:=σ++List.replicate (N'.length-σ.length) none
theorem iQ {N':List Str}{σ:St}{i:Nat}{v:V}(h:(inner N' σ)[i]?=some (some v)):σ[i]?=some (some v):=by
 unfold inner at h;by_cases hi:i<σ.length
 ·rwa [qE0 hi]at h
 ·rw [qG3 (by omega),qF6]at h
  split at h <;> cases h
theorem vU {X:Cx}{pins:List (Addr×Obj)}{σ:St}{H:Hp}{s3 s4:Shared}{cs:Scope}{cl:List (Str×Addr)}{N':List Str}{fp:List Addr}{m:Str->Option Value}(S:f7 X.env.scope cs X.N N') (I:Inv X pins σ H s3)
  (hcl1:∀x c,cl.lookup x=some c->X.env.cells.lookup x=some c) (hcl2:∀x,(x,NameKind.free)∈cs.names->∃c,cl.lookup x=some c) (hf:∀b∈fp,G9 X pins H b) (hlt:∀b∈fp,b<s3.heap.objs.size)
  (kp:∀b o,s3.heap.get? b=some o->s4.heap.get? b=some o) (hn:s4.heap.Ns s3.heap.objs.size m) (hos:s4.os=s3.os) (hg:s4.gens=s3.gens):Inv (j6 X cs cl N' fp s3 H) [] (inner N' σ) H s4:=by
 have kcell:∀{c:Addr}{v:Option Value},s3.heap.IsCell c v->s4.heap.IsCell c v:=λ{c v} z=>by obtain ⟨o,e,d⟩:=z;exact ⟨o,kp c o e,d⟩
 refine ⟨⟨I.ok.mod,S.kind,I.ok.glob,I.ok.blt,qB9 _,λx y c h1 h2=>I.ok.inj x y c (hcl1 x c h1) (hcl1 y c h2),λx hx=>?_,λx c h _=>absurd (show false=true from h) (by decide),I.ok.hd,I.ok.frames,.inl rfl,λb hb=>⟨?_,λx c e=>(hf b hb).2.2.2.2.1 x c (hcl1 x c e)⟩,I.bs,qB8 I.ok.bsz I.sz,λb o e hb=>?_,λb hb hfs=>?_,I.stack,I.stkFree⟩,
  hos,by rw[hg];exact I.bare,Un.kept kp,⟨m,hn,λi x v e1 e2 e3=>?_⟩,λx c e=>?_,I.hok.fresh (qB9 _),λx c e=>I.freeC x c (hcl1 x c e),λp hp=>absurd (show p∈([]:List (Addr×Obj)) from hp) (by simp),I.hok.kept kp,?_⟩
 ·have hx':(relabel cs X.env).names.lookup x=some .cell\/(relabel cs X.env).names.lookup x=some .free:=hx;rw[K8]at hx';cases hl:cs.names.lookup x with
  |none=>rw[hl]at hx';rcases hx' with h|h <;> cases h
  | some k=>
   have hm:=qH4 hl;by_cases hk:k=.free
   ·subst hk;exact hcl2 x hm
   ·exfalso;have hb:(k == NameKind.free)=false:=by simpa using hk
    rw[hl]at hx';simp only [Option.map_some,hb,Bool.false_and,qD5,if_false]at hx';rcases hx' with h|h
    ·cases h;exact S.ncell _ hm rfl
    ·cases h;exact hk rfl
 ·intro q;have hb':b=s3.heap.objs.size:=q;exact absurd (hlt b hb) (by rw[hb'];exact qF1 _)
 ·obtain ⟨f0,f1,f2,f3,f4,f5⟩:=hf b hb;rcases f3 with z|z
  ·exact I.ok.noex b o e z
  ·exact absurd (qB7 (qB4 (I.ok.bs b o e).1) z) (qF1 _)
 ·have hfs':b∈frs X.stack:=hfs;rcases qB3.mp (I.stkSub b hfs') with z|z
  ·exact (hf b hb).2.1 z
  ·exact (hf b hb).2.2.1 z
 ·have e2':=iQ e2;have hi:i<X.N.length:=by rw[<- I.len];exact (qB0.mp e2').1
  have e1':N'[i]?=some x:=e1;have e3':Vis (relabel cs X.env) x:=e3;have hv:∃k,cs.names.lookup x=some k:=by
   unfold Vis at e3';rw[K8]at e3';cases hl:cs.names.lookup x with
   |none=>rw[hl]at e3';rcases e3' with h|h|h <;> cases h
   |some k=>exact ⟨k,rfl⟩
  obtain ⟨k,hk⟩:=hv;have hN:X.N[i]?=some x:=by
   rcases S.same i (qE7.mpr hi) with q|q
   ·rw[<- q];exact e1'
   ·have:=q x (by rw[e1'];rfl)
    rw[hk]at this;cases this
  have hnl:k≠.local:=λq=>by
   subst q;exact S.out x (qC8 (i:=i) (by rw[List.getElem?_take_of_lt hi];exact e1')) hk
  have hm:=qH4 hk;have hfree:k=.free:=by
   unfold Vis at e3';rw[K8,hk]at e3';by_cases hkf:k=.free
   ·exact hkf
   ·exfalso;have hb:(k == NameKind.free)=false:=by simpa using hkf
    simp only [Option.map_some,hb,Bool.false_and,qD5,if_false]at e3';rcases e3' with h|h|h
    ·exact hnl (Option.some.inj h)
    ·exact S.ncell _ hm (Option.some.inj h)
    ·exact hkf (Option.some.inj h)
  subst hfree;obtain ⟨m0,hn0,hl0⟩:=I.loc;have hvis:Vis X.env.scope x:=by
   rcases S.free _ hm rfl with h|h
   ·exact .inr (.inl h)
   ·exact .inr (.inr h)
  obtain ⟨u,r,l⟩:=hl0 i x v hN e2' hvis;refine ⟨u,r,.inr ⟨?_,?_⟩⟩
  ·show (relabel cs X.env).names.lookup x=some .cell\/(relabel cs X.env).names.lookup x=some .free;rw[K8,hk]
   show some (if _ then _ else _)=_\/some (if _ then _ else _)=_
   split
   ·exact .inl rfl
   ·exact .inr rfl
  ·obtain ⟨c,hc⟩:=hcl2 x hm;have hc':=hcl1 x c hc;rcases l with ⟨q,_⟩|⟨_,c',e,z⟩
   ·exfalso;have q':X.env.scope.names.lookup x=some .local:=q;rcases S.free _ hm rfl with h|h <;> (rw[q']at h;cases h)
   ·rw [hc']at e;cases e
    exact ⟨c,hc,kcell z⟩
 ·obtain ⟨v,z⟩:=I.cell x c (hcl1 x c e);exact ⟨v,kcell z⟩
 ·unfold inner;rw[qC3,List.length_replicate,I.len]
  have:=S.len
  show _=N'.length;omega
def S1 (n:Nat)(g:TG):Prop:=∀(v:V)(σ:St)(H:Hp)(Q:St->Hp->Prop),g v σ H Q->g v σ H λσ2 H2=>Q σ2 H2/\σ2.length=σ.length/\∀j,j<n->σ2[j]?=σ[j]?
def fX (n:Nat)(g:TGs):Prop:=∀(vs:List V)(σ:St)(H:Hp)(Q:St->Hp->Prop),g vs σ H Q->g vs σ H λσ2 H2=>Q σ2 H2/\σ2.length=σ.length/\∀j,j<n->σ2[j]?=σ[j]?
theorem r9 {n i:Nat}(h:n<=i):S1 n (P1 i):=λv σ H Q q=>⟨q,by simp,λj hj=>qC0 (by omega)⟩
theorem T4 {n:Nat}:fX n gNil:=λvs σ H Q zz53=>by obtain ⟨e,q⟩:=zz53;exact ⟨e,q,rfl,λ_ _=>rfl⟩
theorem v4 {n i:Nat}{u:TGs}(h:n<=i) (hu:fX n u):fX n (oQ (P1 i) u):=λvs σ H Q zz54=>by
 obtain ⟨v,r,e,q⟩:=zz54;refine ⟨v,r,e,?_⟩;have q':=hu r (σ.set i (some v)) H Q q
 show u r (σ.set i (some v)) H _;have e1:∀σ2:St,(σ2.length=(σ.set i (some v)).length/\∀j,j<n->σ2[j]?=(σ.set i (some v))[j]?)=(σ2.length=σ.length/\∀j,j<n->σ2[j]?=σ[j]?):=λσ2=>by
  have:∀j,j<n->(σ.set i (some v))[j]?=σ[j]?:=λj hj=>qC0 (by omega)
  rw[qD7];exact propext ⟨λzz55=>by obtain ⟨a,b⟩:=zz55;exact ⟨a,λj hj=>(b j hj).trans (this j hj)⟩,λzz56=>by obtain ⟨a,b⟩:=zz56;exact ⟨a,λj hj=>(b j hj).trans (this j hj).symm⟩⟩
 have e2:(λ(σ2:St) (H2:Hp)=>Q σ2 H2/\σ2.length=σ.length/\∀j,j<n->σ2[j]?=σ[j]?)=λσ2 H2=>Q σ2 H2/\σ2.length=(σ.set i (some v)).length/\∀j,j<n->σ2[j]?=(σ.set i (some v))[j]?:=by
  funext σ2 H2;rw[e1]
 rw[e2];exact q'
theorem T0 {K:Frag}{n k:Nat}{u:TGs}(hu:fX n u):S1 n (oP K k u):=λv σ H Q zz57=>by obtain ⟨a,xs,e,h1,h2,q⟩:=zz57;exact ⟨a,xs,e,h1,h2,hu xs σ H Q q⟩
def PIf (X:Cx) (ifs:List Expr) (t:TT):Prop:=
 ∀ (pins:List (Addr×Obj)) (s:Shared) (σ:St) (H:Hp) (Q:Bool->Hp->Prop),Inv X pins σ H s->t σ H Q ->
  wpAny (model X.prog X.w) X.A (forIn ifs true λc r=>if r=true then do let ok <- isTrue c X.env (eval c X.env);pure (ForInStep.yield ok) else pure (ForInStep.yield r)) (TP X pins σ Q) X.xe s
def tYes:TT:=λ_ H Q=>Q true H
theorem yb {X:Cx}:PIf X [] tYes:=λ_ _ _ H _ I h=>wpAny_tests_nil ⟨H,I,h⟩
theorem ya {X:Cx}{c:Expr}{t:TT}(h:PT X c t):PIf X [c] t:=λpins s σ H Q I q=>wpAny_tests_one (h pins s σ H Q I q)
def wY (J:It) (D:Addr) (g:TG) (tc:TT) (te:TE) (σ':St) (H1:Hp) (Q:Hp->Prop):Prop:=
 ∃ W:Nat->Nat->Hp->Prop,(∃m,W 0 m (upd H1 D (.lst [])))/\∀i m H2,W i m H2 ->
  (J.stop i H2/\Q H2)\/(J.go i H2/\∀x H3,J.yld i H2 x H3->g x σ' H3 λσ4 H4=>tc σ4 H4 λb H5=>
   if b=true then te σ4 H5 λy H6=>∃ys,H6 D=some (.lst ys)/\ys.length<sizeLine/\∃m',m'<m/\W (i+1) m' (upd H6 D (.lst (ys ++ [y])))
   else ∃m',m'<m/\W (i+1) m' H5)
def nS (N':List Str)(wi:TI)(g:TG)(tc:TT)(te:TE):TE:=λσ H Q=>wi σ H λJ H1=>∀D,H1 D=none->wY J D g tc te (inner N' σ) H1 (Q (.ref D))
section
variable {X:Cx}{cs:Scope}{N':List Str}{tg iter elt:Expr}{ifs:List Expr}{wi:TI}{g:TG}{tc:TT}{te:TE}{pos:Pos}
theorem FZ {cl:List (Str×Addr)}{pins:List (Addr×Obj)}{fp:List Addr}{H3 H':Hp}{s3:Shared}(hcl1:∀x c,cl.lookup x=some c->X.env.cells.lookup x=some c) (stk:∀b∈frs X.stack,b∈X.env.locals::X.fs)
  (hf3:∀b∈fp,G9 X pins H3 b) (hlt:∀b∈fp,b<s3.heap.objs.size) (hn:∀b∈fp,H' b=none):∀b∈fp,G9 (j6 X cs cl N' fp s3 H3) [] H' b:=λb hb=>by
 obtain ⟨f0,f1,f2,f3,f4,f5⟩:=hf3 b hb;refine ⟨hn b hb,qD2 (hlt b hb),λhfs=>?_,.inl hb,λx c e=>f4 x c (hcl1 x c e),λp hp=>absurd (show p∈([]:List (Addr×Obj)) from hp) (by simp)⟩;have hfs':b∈frs X.stack:=hfs;rcases qB3.mp (stk b hfs') with z|z
 ·exact f1 z
 ·exact f2 z
theorem so {cl:List (Str×Addr)}{pins:List (Addr×Obj)}{σ:St}{R:Result->Shared->Prop}{Q:Hp->Prop}{s3 s4:Shared}{H3:Hp}{it D:Addr}{fp:List Addr}{tn:Nat->Heap->Prop}{J:It}{W:Nat->Nat->Hp->Prop}{m0:Nat}
  (hc:X.calm=true) (hg:PG (j6 X cs cl N' fp s3 H3) tg g) (hk:S1 X.N.length g) (ht:PIf (j6 X cs cl N' fp s3 H3) ifs tc) (he:PE (j6 X cs cl N' fp s3 H3) elt te)
  (hcl1:∀x c,cl.lookup x=some c->X.env.cells.lookup x=some c)
  (I3:Inv X pins σ H3 s3) (I4:Inv (j6 X cs cl N' fp s3 H3) [] (inner N' σ) H3 s4) (T:Turn X.prog X.w X.K tg J fp it tn) (st:tn 0 s4.heap) (hf3:∀b∈fp,G9 X pins H3 b) (hlt:∀b∈fp,b<s3.heap.objs.size)
  (w0:W 0 m0 H3)
  (turn:∀i m H2,W i m H2->(J.stop i H2/\Q H2)\/(J.go i H2/\∀x H3,J.yld i H2 x H3->g x (inner N' σ) H3 λσ4 H4=>tc σ4 H4 λb H5=>
   if b=true then te σ4 H5 λy H6=>∃ys,H6 D=some (.lst ys)/\ys.length<sizeLine/\∃m',m'<m/\W (i+1) m' (upd H6 D (.lst (ys ++ [y])))
   else ∃m',m'<m/\W (i+1) m' H5))
  (hR:∀(H':Hp) (s':Shared),Inv X pins σ H' s'->Q H'->(∃m,s'.heap.Ns s3.heap.objs.size m)->G9 X pins H' s3.heap.objs.size->R (.ok .next) s') :
  codeAny (model X.prog X.w) X.A (.compLoop (.ListComp elt [⟨tg,iter,ifs,0⟩] cs pos) 0 (.ref it) (.ref D) (j6 X cs cl N' fp s3 H3).env) R s4:=by
 have fpx:∀{H':Hp},(∀b∈fp,H' b=none)->∀b∈fp,G9 (j6 X cs cl N' fp s3 H3) [] H' b:=λhn=>FZ hcl1 I3.stkSub hf3 hlt hn;have lσ:(inner N' σ).length=N'.length:=I4.len;refine codeAny_loop rfl (λn s'=>∃i H',Inv (j6 X cs cl N' fp s3 H3) [] (inner N' σ) H' s'/\tn i s'.heap/\(∀b∈fp,H' b=none)/\W i n H') (λn s5 hI=>?_) m0 ⟨0,H3,I4,st,λb hb=>(hf3 b hb).1,w0⟩;obtain ⟨i,H5,I5,st5,fr5,w5⟩:=hI
 show wpAny _ _ ((compTurn (.ListComp elt [⟨tg,iter,ifs,0⟩] cs pos) 0 (.ref it) (.ref D) (j6 X cs cl N' fp s3 H3).env).onRaise _) _ _ s5;refine wpAny_noted ?_;rw[compTurn_list];refine qA2 (wpAny_standAt (qA2 ?_));have cvt:∀{α:Type}{t:Sem α}{P:α->Shared->Prop}{E':Value->Shared->Prop}{s:Shared},wpAny (model X.prog X.w) X.A t P (λ_ _=>False) s->wpAny (model X.prog X.w) X.A t P E' s:=λh=>wpAny_mono h (λ_ _ q=>q) λ_ _ q=>q.elim;rcases turn i n H5 w5 with ⟨stop,q⟩|⟨go,step⟩
 ·refine thn (T.done (j6 X cs cl N' fp s3 H3) rfl rfl rfl hc i [] s5 _ H5 _ I5 (fpx fr5) st5 stop) λr s6 ⟨hr,I6⟩=>?_;subst hr;refine wpAny_pure ?_;have J6:Inv X pins σ H5 s6:=I3.call' (H':=H5) (ch:=fp) I6.os I6.base I6.hok I6.bare λb hb=>by
   obtain ⟨f0,f1,f2,f3,f4,f5⟩:=hf3 b hb;exact ⟨f3,f1,f4,f5⟩
  obtain ⟨m,hn,_⟩:=I6.loc;exact hR H5 s6 J6 q ⟨m,hn⟩ (I3.fpOk (qB9 _) I6.free)
 ·refine thn (T.item (j6 X cs cl N' fp s3 H3) rfl rfl rfl hc i [] s5 _ H5 _ I5 (fpx fr5) st5 go) λr s6 ⟨u,hr,h6⟩=>?_;subst hr;refine qA2 (thn h6 λ_ s7 zz60=>?_);obtain ⟨x,H7,I7,r7,y7,st7,fr7⟩:=zz60;have I7':=I7.pinned (fpx fr7) (T.obj _ _ st7);refine qA2 (cvt (thn (hg _ s7 _ H7 x u _ I7' r7 (hk x _ H7 _ (step x H7 y7))) λ_ s8 zz61=>?_));obtain ⟨σ8,H8,I8,q8,l8,k8⟩:=zz61;refine qA2 (cvt (thn (ht _ s8 σ8 H8 _ I8 q8) λb s9 zz62=>?_));obtain ⟨H9,I9,q9⟩:=zz62;have again:∀{s':Shared}{H':Hp},Inv (j6 X cs cl N' fp s3 H3) ([]++cg fp s7.heap) σ8 H' s'->(∃m',m'<n/\W (i+1) m' H') ->
    ∃m',m'<n/\∃i H',Inv (j6 X cs cl N' fp s3 H3) [] (inner N' σ) H' s'/\tn i s'.heap/\(∀b∈fp,H' b=none)/\W i m' H':=λ{s' H'} I' zz63=>by
   obtain ⟨m',hm,w'⟩:=zz63;refine ⟨m',hm,i+1,H',(I'.unpinned).weak (by rw[l8]) (λj v e=>?_),T.keep _ _ _ st7 λb hb o e=>(I'.pin (b,o) (qC9 _ (qC9 _ (V0 hb e)))).1,λb hb=>?_,w'⟩
   ·have hj:j<X.N.length:=by rw[<- I3.len];exact (qB0.mp (iQ e)).1
    rw[k8 j hj];exact e
   ·obtain ⟨o,e,d⟩:=T.obj _ _ st7 b hb;exact (I'.pin (b,o) (qC9 _ (qC9 _ (V0 hb e)))).2.1
  cases b with
  | false=>
   have q9':∃m',m'<n/\W (i+1) m' H9:=q9;exact wpAny_pure ⟨rfl,again I9 q9'⟩
  | true=>
   have q9':te σ8 H9 _:=q9;refine qA2 (qA2 (cvt (thn (he _ s9 σ8 H9 _ I9 q9') λv s10 zz64=>?_)));obtain ⟨y,H10,I10,r10,ys,hD,hy,q10⟩:=zz64;refine qA2 (cvt (thn (iH _ s10 σ8 H10 (.ref D) [y] (.ref D) [v] (λ_ H'=>∃m',m'<n/\W (i+1) m' H') I10 rfl (.cons r10 .nil) ⟨D,ys,y,rfl,rfl,hD,hy,q10⟩) λ_ s11 zz65=>?_));obtain ⟨_,H11,I11,_,q11⟩:=zz65;exact wpAny_pure (wpAny_pure ⟨rfl,again I11 q11⟩)
theorem iV {cl:List (Str×Addr)}{pins:List (Addr×Obj)}{σ:St}{R:Value->Addr->Result->Shared->Prop}{Q:V->Hp->Prop}{s2:Shared}{itv:Value}(S:f7 X.env.scope cs X.N N') (hc:X.calm=true)
  (hg:∀cl ex s H,PG (j6 X cs cl N' ex s H) tg g) (hk:S1 X.N.length g) (ht:∀cl ex s H,PIf (j6 X cs cl N' ex s H) ifs tc) (he:∀cl ex s H,PE (j6 X cs cl N' ex s H) elt te)
  (hcl1:∀x c,cl.lookup x=some c->X.env.cells.lookup x=some c) (hcl2:∀x,(x,NameKind.free)∈cs.names->∃c,cl.lookup x=some c)
  (h:PIE X pins σ tg (λJ H1=>∀D,H1 D=none->wY J D g tc te (inner N' σ) H1 (Q (.ref D))) itv s2)
  (hR:∀(D C:Addr) (H':Hp) (s':Shared),Inv X pins σ H' s'->Q (.ref D) H'->(∃m,s'.heap.Ns C m)->G9 X pins H' C->R (.ref D) C (.ok .next) s') :
  wpAny (model X.prog X.w) X.A (newList []) (λacc s₃=>wpAny (model X.prog X.w) X.A (newFunctionEnv cs X.env.globals cl [] X.env.qual none .none (some X.env)) (λcenv s₄=>
   codeAny (model X.prog X.w) X.A (.compStart (.ListComp elt [⟨tg,iter,ifs,0⟩] cs pos) 0 itv acc { cenv with scope:=relabel cs X.env }) (R acc cenv.locals) s₄) X.xe s₃) X.xe s2:=by
 obtain ⟨it,fp,tn,J,H2,e,I2,T,st2,f2,hw⟩:=h;subst e;refine wpAny_newObj_type (wpAny_newFunctionEnv S.ncell (by intro y hy;simp at hy) (λh1 hns1 hsb1=>?_) S.kind);dsimp only at hns1 hsb1 ⊢;have hD:=I2.hok.fresh (qB9 _);obtain ⟨W,⟨m0,w0⟩,turn⟩:=hw s2.heap.objs.size hD;have I3:Inv X pins σ (upd H2 s2.heap.objs.size (.lst [])) { s2 with heap:=s2.heap.push { cls:=.type "list",dict:=none,data:=.seq ([]:List Value).toArray } }:=I2.lnew (t':=s2.toks) .nil (qD1 _);have hfp3:∀b∈fp,b<s2.heap.objs.size:=λb hb=>by
  obtain ⟨o,e,_⟩:=T.obj 0 _ st2 b hb;exact qB4 e
 have hf3:∀b∈fp,G9 X pins (upd H2 s2.heap.objs.size (.lst [])) b:=λb hb=>by
  obtain ⟨f0,r⟩:=f2 b hb;exact ⟨by rw[d4 (qD2 (hfp3 b hb))];exact f0,r⟩
 have hlt:∀b∈fp,b<(s2.heap.push { cls:=.type "list",dict:=none,data:=.seq ([]:List Value).toArray }).objs.size:=λb hb=>by rw[qK3];exact Nat.lt_succ_of_lt (hfp3 b hb)
 have kp:∀b o,(s2.heap.push { cls:=.type "list",dict:=none,data:=.seq ([]:List Value).toArray }).get? b=some o->h1.get? b=some o:=λb o e=>hsb1.extBut b o (qD2 (qB4 e)) (qA9 _ e);have I4:=vU (cs:=cs) (cl:=cl) (N':=N') (fp:=fp) (s4:={ s2 with heap:=h1,toks:=s2.toks+([]:List (Str×Value)).length }) S I3 hcl1 hcl2 hf3 hlt kp hns1 rfl rfl;have st4:tn 0 h1:=T.keep 0 _ _ st2 λb hb o e=>kp b o (qA9 _ e);have loop:=so (R:=R (.ref s2.heap.objs.size) (s2.heap.push { cls:=.type "list",dict:=none,data:=.seq ([]:List Value).toArray }).objs.size) (D:=s2.heap.objs.size) (iter:=iter) (pos:=pos) (it:=it) (Q:=Q (.ref s2.heap.objs.size)) hc (hg cl fp _ _) hk (ht cl fp _ _) (he cl fp _ _) hcl1 I3 I4 T st4 hf3 hlt w0 turn λH' s' I' q n f=>hR _ _ H' s' I' q n f;exact codeAny_compStart_list loop (T.self _ 0 _ _ _ st4 loop)
theorem yd (S:f7 X.env.scope cs X.N N') (hc:X.calm=true) (hi:PI X tg iter wi)
  (hg:∀cl ex s H,PG (j6 X cs cl N' ex s H) tg g) (hk:S1 X.N.length g) (ht:∀cl ex s H,PIf (j6 X cs cl N' ex s H) ifs tc) (he:∀cl ex s H,PE (j6 X cs cl N' ex s H) elt te)
  (hs:∀x,foldedSetIterable iter X.env x=pure x:=by intro _;rfl):PE X (.ListComp elt [⟨tg,iter,ifs,0⟩] cs pos) (nS N' wi g tc te):=by
 intro pins s σ H Q I h;obtain ⟨cl,e,h1,h2,_⟩:=fO (env:=X.env) cs.names [] (λx hx hk=>I.ok.has x.1 (S.free x hx hk)) (λ_ _ z=>nomatch z);have hclos:closureFor cs X.env=pure cl:=by
  simp only [closureFor];rw[e];rfl
 rw[eval_ListComp];refine wpAny_comprehension_free (use:=none) rfl hs hclos S.kind S.loc (thn (hi pins s σ H _ I h) λv s1 q1=>thn q1 λitv s2 q2=>?_);refine iV (R:=λacc C=>compPost (model X.prog X.w) X.A X.xe none (EP X pins σ Q) acc C) (Q:=Q) S hc hg hk ht he h1 h2 q2 λD C H' s' I' q n f=>?_;obtain ⟨m,hn⟩:=n;obtain ⟨f0,f1,f2,f3,f4,f5⟩:=f;exact ⟨m,hn,λh' sb=>⟨.ref D,H',I'.turned (t':=s'.toks) (λb o hb e=>sb.extBut b o hb e) f0 f1 f3 f4 f5,rfl,q⟩⟩
theorem xW {i:Nat}{y:Str}{py spos:Pos}(S:f7 X.env.scope cs X.N N') (hc:X.calm=true) (hi:PI X tg iter wi)
  (hg:∀cl ex s H,PG (j6 X cs cl N' ex s H) tg g) (hk:S1 X.N.length g) (ht:∀cl ex s H,PIf (j6 X cs cl N' ex s H) ifs tc) (he:∀cl ex s H,PE (j6 X cs cl N' ex s H) elt te)
  (hN:X.N.Nodup) (hy:X.N[i]?=some y) (hl:Loc X.env.scope y)
  (hsw:swapsWith (.ListComp elt [⟨tg,iter,ifs,0⟩] cs pos) (some (.Name y py)) spos.line X.env=pure true:=by rfl) (hf:X.fn y=true\/X.env.scope.names.lookup y=some .local:=by first|exact .inl rfl|exact .inr rfl|assumption)
  (hs:∀x,foldedSetIterable iter X.env x=pure x:=by intro _;rfl):PS X (.Assign [.Name y py] (.ListComp elt [⟨tg,iter,ifs,0⟩] cs pos) spos) (bQ (nS N' wi g tc te) (P1 i)):=by
 intro pins s σ H Q I h;obtain ⟨cl,e,h1,h2,_⟩:=fO (env:=X.env) cs.names [] (λx hx hk=>I.ok.has x.1 (S.free x hx hk)) (λ_ _ z=>nomatch z);have hclos:closureFor cs X.env=pure cl:=by
  simp only [closureFor];rw[e];rfl
 rw[exec_Assign_Name_used _ _ _ _ hsw];refine qA2 (wpAny_standAt (qA2 ?_))
 show wpAny _ _ (comprehension (.ListComp elt [⟨tg,iter,ifs,0⟩] cs pos) cs X.env _ (newList []) false (eval iter X.env) (some (assign (.Name y py) X.env))>>=_) _ _ s;refine qA2 (thn (wpAny_comprehension_free (use:=some (assign (.Name y py) X.env)) (Q:=λ_ s'=>SP X pins Q .next s') rfl hs hclos S.kind S.loc (thn (hi pins s σ H _ I h) λv s1 q1=>thn q1 λitv s2 q2=>?_)) λ_ s' q=>wpAny_pure (wpAny_pure q));refine iV (R:=λacc C=>compPost (model X.prog X.w) X.A X.xe (some (assign (.Name y py) X.env)) (λ_ s'=>SP X pins Q .next s') acc C) (Q:=λx H1=>P1 i x σ H1 Q.nx) S hc hg hk ht he h1 h2 q2 λD C H' s' I' q n f=>?_;obtain ⟨m,hn⟩:=n;obtain ⟨f0,f1,f2,f3,f4,f5⟩:=f
 show wpAny _ _ (assign (.Name y py) X.env (.ref D)) _ _ _;refine wpAny_assign_Name (ir (v:=.ref D) (u:=.ref D) I' hN hy hl rfl (λs'' I'' zz66=>?_) hf);obtain ⟨a,sb,ha⟩:=zz66;have hCa:C≠a:=by
  rcases ha with rfl|ha
  ·exact f1
  ·exact λq=>f4 _ _ ha q.symm
 refine ⟨m,hn.sameBut sb hCa,λh' sb'=>?_⟩;exact ⟨_,H',I''.turned (t':=s''.toks) (λb o hb e=>sb'.extBut b o hb e) f0 f1 f3 f4 f5,q⟩
end
end L2
namespace L2
open PySem PySem.Spec PyProof.Rows
theorem Sq.same {K:Frag}{H H':Hp}{t:Bool}{a:Addr}{xs:List V}(e:Same H H') (h:Sq K H t a xs):Sq K H' t a xs:=by
 unfold Sq at h ⊢
 split
 ·rename_i ht;rw[qA4 ht]at h
  rcases h with (h|⟨o,h⟩)|h
  ·exact .inl (.inl (e _ _ h))
  ·exact .inl (.inr ⟨o,e _ _ h⟩)
  ·exact .inr h
 ·rename_i ht;rw[qA6 ht]at h
  exact e.seq h
def seqAt (K:Frag) (H:Hp) (p:Addr) (R:List V->Prop):Prop:=match H p with
 |some (.tup xs)=>R xs
 |some (.lst xs)=>R xs
 |_=>∃t xs,Sq K H t p xs/\R xs
section
variable {X:Cx}
def ItQ (K:Frag)(t:Bool)(a:Addr):It:=if t=true then Itt K a else Itl K a
def iSq (K:Frag)(tl:TE):TI:=λσ H R=>tl σ H λx H1=>∃a,x=.ref a/\∃t xs,Sq K H1 t a xs/\R (ItQ K t a) H1
theorem FH {tg l:Expr}{tl:TE}(hl:PE X l tl):PI X tg l (iSq X.K tl):=by
 intro pins s σ H R I h;refine thn (hl pins s σ H _ I h) λv s1 zz67=>?_;obtain ⟨x,H1,I1,r1,q1⟩:=zz67;obtain ⟨a,e,t,xs,hq,q⟩:=q1;subst e;cases r1;cases t with
 | true=>
  have hq':SqT X.K H1 a xs:=by unfold Sq at hq;rw[qA4 rfl]at hq;exact hq
  obtain ⟨its,rv,p,hz⟩:=I1.tuple hq';refine wpAny_pyIter_tuple (show s1.heap.IsTuple a its.toArray from p) ?_;refine ⟨s1.heap.objs.size,[s1.heap.objs.size],_,Itt X.K a,H1,rfl,I1.kept (t':=s1.toks) λb o e=>qA9 _ e,nO a _,⟨_,qC2 _ rfl,rfl,rfl⟩,λb hb=>?_,q⟩;have e:b=s1.heap.objs.size:=by simpa using hb
  subst e;exact I1.fpOk (qB9 _) (I1.hok.fresh (qB9 _))
 | false=>
  have hq':SqL X.K H1 a xs:=by unfold Sq at hq;rw[qA6 qA5]at hq;exact hq
  obtain ⟨its,rv,p,hz⟩:=I1.list hq';refine wpAny_pyIter_list p.isList ?_;refine ⟨s1.heap.objs.size,[s1.heap.objs.size],_,Itl X.K a,H1,rfl,I1.kept (t':=s1.toks) λb o e=>qA9 _ e,pU a _,⟨_,qC2 _ rfl,rfl,rfl⟩,λb hb=>?_,q⟩;have e:b=s1.heap.objs.size:=by simpa using hb
  subst e;exact I1.fpOk (qB9 _) (I1.hok.fresh (qB9 _))
theorem lL:bootBuiltins "int" = some (.type "int"):=by decide +kernel
theorem ii:bootBuiltins "list" = some (.type "list"):=by decide +kernel
theorem o5:bootBuiltins "tuple" = some (.type "tuple"):=by decide +kernel
theorem cU:bootBuiltins "max" = some (.builtin "max"):=by decide +kernel
def D9 (A T:String):Option Bool:=
 if A=T then some true else if A = "bool" /\ T = "int" then some true
 else if (A = "NoneType" \/ A = "bool" \/ A = "int" \/ A = "str" \/ A = "list" \/ A = "tuple" \/ A = "dict")/\(T = "bool" \/ T = "int" \/ T = "list" \/ T = "tuple") then some false else none
end
theorem Dq:D9 "bool" "bool" = some true:=by decide
theorem Dp:D9 "bool" "int" = some true:=by decide
theorem Do:D9 "int" "bool" = some false:=by decide
theorem Dn:D9 "int" "int" = some true:=by decide
theorem CV:D9 "tuple" "tuple" = some true:=by decide
theorem Dj:D9 "list" "list" = some true:=by decide
theorem Dg:D9 "NoneType" "int" = some false:=by decide
theorem Dh:D9 "NoneType" "bool" = some false:=by decide
theorem Da:D9 "str" "int" = some false:=by decide
theorem Db:D9 "str" "bool" = some false:=by decide
theorem Dl:D9 "list" "int" = some false:=by decide
theorem Dm:D9 "list" "bool" = some false:=by decide
theorem CY:D9 "tuple" "int" = some false:=by decide
theorem CZ:D9 "tuple" "bool" = some false:=by decide
theorem aE {n:Nat}{i:Int}(h0:0<=i)(h1:i<n):ixN n i=some i.toNat:=by unfold ixN;rw[qA4 h0,qA4 h1]
theorem mem_getD {ms:List Int}{P:Int->Prop}(h:∀x∈ms,P x){i:Nat}(hi:i<ms.length):P (ms.getD i 0):=by
 have:ms.getD i 0=ms[i]:=by simp [hi]
 rw[this];exact h _ (qF0 hi)
structure Runs (J:It) (n:Nat) (H1:Hp) (Y:Nat->V->Hp->Hp->Prop):Prop where
 go:∀i H,i<n->Same H1 H->J.go i H
 stop:∀H,Same H1 H->J.stop n H
 yld:∀i H x H',i<n->Same H1 H->J.yld i H x H'->Y i x H H'
theorem qx {K:Frag}{t u:Bool}{a b:Addr}{xs ys:List V}{H1:Hp}(h:Sq K H1 t a xs) (h':Sq K H1 u b ys) :
  Runs (ItZ K [(t,a),(u,b)]) (min xs.length ys.length) H1 λi x H H'=>∃p y z,x=.ref p/\H p=none/\H'=upd H p (.tup [y,z])/\xs[i]?=some y/\ys[i]?=some z:=by
 refine ⟨λi H hi s v hv=>?_,λH s=>⟨λv hv=>?_,?_⟩,λi H x H' hi s hy=>?_⟩
 ·simp only [qB3,qD6,or_false]at hv;rcases hv with rfl|rfl
  ·exact ⟨xs,xs[i]'(qB7 hi (Nat.min_le_left _ _)),Sq.same s h,by simp⟩
  ·exact ⟨ys,ys[i]'(qB7 hi (qM6 _ _)),Sq.same s h',by simp⟩
 ·simp only [qB3,qD6,or_false]at hv;rcases hv with rfl|rfl
  ·exact ⟨xs,Sq.same s h⟩
  ·exact ⟨ys,Sq.same s h'⟩
 ·rcases Nat.le_total xs.length ys.length with q|q
  ·exact ⟨(t,a),by simp,xs,Sq.same s h,by omega⟩
  ·exact ⟨(u,b),by simp,ys,Sq.same s h',by omega⟩
 ·obtain ⟨p,zs,e1,e2,e3,pr⟩:=hy;cases pr with
  | cons r1 pr=>
   cases pr with
   | cons r2 pr=>
    cases pr;exact ⟨p,_,_,e1,e2,e3,r1 xs (Sq.same s h),r2 ys (Sq.same s h')⟩
theorem qw {K:Frag}{t u w:Bool}{a b c:Addr}{xs ys zs:List V}{H1:Hp}(h:Sq K H1 t a xs) (h':Sq K H1 u b ys) (h'':Sq K H1 w c zs) :
  Runs (ItZ K [(t,a),(u,b),(w,c)]) (min xs.length (min ys.length zs.length)) H1 λi x H H'=>∃p y z v,x=.ref p/\H p=none/\H'=upd H p (.tup [y,z,v])/\xs[i]?=some y/\ys[i]?=some z/\zs[i]?=some v:=by
 refine ⟨λi H hi s v hv=>?_,λH s=>⟨λv hv=>?_,?_⟩,λi H x H' hi s hy=>?_⟩
 ·simp only [qB3,qD6,or_false]at hv;rcases hv with rfl|rfl|rfl
  ·exact ⟨xs,xs[i]'(qB7 hi (Nat.min_le_left _ _)),Sq.same s h,by simp⟩
  ·exact ⟨ys,ys[i]'(qB7 hi (qB8 (qM6 _ _) (Nat.min_le_left _ _))),Sq.same s h',by simp⟩
  ·exact ⟨zs,zs[i]'(qB7 hi (qB8 (qM6 _ _) (qM6 _ _))),Sq.same s h'',by simp⟩
 ·simp only [qB3,qD6,or_false]at hv;rcases hv with rfl|rfl|rfl
  ·exact ⟨xs,Sq.same s h⟩
  ·exact ⟨ys,Sq.same s h'⟩
  ·exact ⟨zs,Sq.same s h''⟩
 ·have:min xs.length (min ys.length zs.length)=xs.length\/min xs.length (min ys.length zs.length)=ys.length\/min xs.length (min ys.length zs.length)=zs.length:=by omega
  rcases this with q|q|q
  ·exact ⟨(t,a),by simp,xs,Sq.same s h,by omega⟩
  ·exact ⟨(u,b),by simp,ys,Sq.same s h',by omega⟩
  ·exact ⟨(w,c),by simp,zs,Sq.same s h'',by omega⟩
 ·obtain ⟨p,vs,e1,e2,e3,pr⟩:=hy;cases pr with
  | cons r1 pr=>
   cases pr with
   | cons r2 pr=>
    cases pr with
    | cons r3 pr=>
     cases pr;exact ⟨p,_,_,_,e1,e2,e3,r1 xs (Sq.same s h),r2 ys (Sq.same s h'),r3 zs (Sq.same s h'')⟩
structure Def (K:Frag) (mg:Str->Option Value) (x:Str) (st:Stmt) (ps:List Str) (f:Addr) (fd:FuncData):Prop where
 F:Fun K x x st f fd
 m:mg x=some (.ref f)
 b:Binds K fd ps []
section
variable {X:Cx}
theorem C0 (K:Frag){es:List Expr}{pos:Pos}{k:Nat}{t:TGs}(n:Nat) (hc:X.calm=true) (h:PGs X es t) (hK:X.K=K:=by rfl)
  (hn:(assignEach es X.env).length=n:=by rfl) (hst:(assignEach es X.env).findIdx? (·.1)=none:=by rfl):PG X (.Tuple es k pos) (oP K n t):=by subst hK;exact Cn hc h hn hst
def tU (to:TE) (te:TE):TE:=λσ H Q=>to σ H λx H1=>∃p,x=.ref p/\(∃xs,H1 p=some (.lst xs))/\te σ H1 λy H2=>match H2 p with
 |some (.lst xs)=>xs.length<sizeLine/\Q .non (upd H2 p (.lst (xs ++ [y])))
 |_=>False
theorem iC {o e:Expr}{to te:TE}{apos cpos:Pos}(ho:PE X o to) (ha:PE X e te)
  (hbase:attributeBase o "append" X.env (eval o X.env)=eval o X.env:=by rfl)
  (hfew:((backTo cpos (starEach [e] X.env)).all (λx=>!x.1)&&(backToKw cpos (keywordEach [] X.env)).all (λx=>x.1.isSome)
   && decide (([e]:List Expr).length+([]:List Keyword).length+(if ([]:List Keyword).isEmpty then 0 else 1)<30))=true:=by rfl)
  (hline:(apos.endLine == cpos.line)=true:=by rfl) (hs:starEach [e] X.env=(false,eval e X.env)::starEach [] X.env:=by rfl):PE X (.Call (.Attribute o "append" apos) [e] [] cpos) (tU to te):=by
 intro pins s σ H Q I h;refine wpAny_Call_method_late hbase hfew hline rfl (thn (ho pins s σ H _ I h) λv s1 zz68=>?_);obtain ⟨x,H1,I1,r1,p,ex,⟨xs,e1⟩,q1⟩:=zz68;subst ex;obtain ⟨h1,h2⟩:=jy (T := "list") I1 r1 (.inl ⟨rfl,xs,SqL.of e1⟩);refine ⟨"list","list.append",qJ7,PySem.F.slot_list_append,PySem.F.type_list_append,h1,h2,?_⟩;have hA:=aw ha pa_nil hs cpos pins s1 σ H1 (λvs H2=>∃y,vs = [y]/\match H2 p with
  |some (.lst xs)=>xs.length<sizeLine/\Q .non (upd H2 p (.lst (xs ++ [y])))
  | _=>False) I1 (by
   have e:(λ(y:V) (H2:Hp)=>match H2 p with
     |some (.lst xs)=>xs.length<sizeLine/\Q .non (upd H2 p (.lst (xs ++ [y])))
     |_=>False)=λ(y:V) (H2:Hp)=>∃y',[y] = [y']/\match H2 p with
     |some (.lst xs)=>xs.length<sizeLine/\Q .non (upd H2 p (.lst (xs ++ [y'])))
     |_=>False:=by
    funext y H2
    exact propext ⟨λq=>⟨y,rfl,q⟩,λzz69=>by obtain ⟨y',e,q⟩:=zz69;cases e;exact q⟩
   rw[e]at q1;exact q1)
 rw[hs]at hA ⊢;refine Calls.callWith_builtin rfl (Calls.evalArgs_plain ?_);refine thn hA λus s2 zz70=>?_;obtain ⟨vs,H2,I2,r2,y,ev,q2⟩:=zz70;subst ev;refine iH pins s2 σ H2 (.ref p) [y] v us Q I2 r1 r2 ?_
 split at q2
 ·rename_i ys e2;exact ⟨p,ys,y,rfl,rfl,e2,q2.1,q2.2⟩
 ·exact q2.elim
end
section
variable {X:Cx}
end
def wZ (i j:Int):Prop:=0<=j/\(Builtin.Int.intBits i:Int)*j<=2^27
theorem zd {ns:List Int}{i:Nat}{z:Int}(h:ns[i]?=some z):ns.getD i 0=z:=by rw[qA0,h];rfl
theorem N5 {ns:List Int}{i:Nat}(h:i<ns.length):ns[i]?=some (ns.getD i 0):=by rw[qA0];simp [h]
end L2
namespace TP
open PySem L2
inductive W where
 |non|bl (b:Bool)|int (i:Int)|str (x:Str)|ty (n:String)|tup (ws:List W)|lst (ws:List W)|scr (ws:List W)
 |exc (c:Str) (i:Option Int)|cls (c:Str)
def XD (F:Hp) (od:Option Addr):Option Int->Prop
 |none=>od=none
 |some i=>∃d,od=some d/\F d=some (.xd [("at",.int i)])
mutual
inductive Rep (K:Frag) (F:Hp):V->W->Prop where
 |non:Rep K F .non .non
 |bl {b:Bool}:Rep K F (.bl b) (.bl b)
 |int {i:Int}:Rep K F (.int i) (.int i)
 |str {x:Str}:Rep K F (.str x) (.str x)
 |ty {n:String}:Rep K F (.ty n) (.ty n)
 |tup {a:Addr}{vs:List V}{ws:List W}:F a=some (.tup vs)->Reps K F vs ws->Rep K F (.ref a) (.tup ws)
 |lst {a:Addr}{vs:List V}{ws:List W}:F a=some (.lst vs)->Reps K F vs ws->Rep K F (.ref a) (.lst ws)
 |scr {a:Addr}{vs:List V}{ws:List W}:SqL K F a vs->Reps K F vs ws->Rep K F (.ref a) (.scr ws)
 |exc {a C:Addr}{o:Obj}{vs:Array Value}{c:Str}{i:Option Int}:F a=some (.ext λh=>h.get? a=some o)->o.cls=.ref C->o.data=.fields vs->PySem.W.nsIn K mainGlobals c=some (some (.ref C))->XD F o.dict i->Rep K F (.ref a) (.exc c i)
 |cls {C:Addr}{c:Str}:PySem.W.nsIn K mainGlobals c=some (some (.ref C))->Rep K F (.ref C) (.cls c)
inductive Reps (K:Frag) (F:Hp):List V->List W->Prop where
 |nil:Reps K F [] []
 |cons {v:V}{w:W}{vs:List V}{ws:List W}:Rep K F v w->Reps K F vs ws->Reps K F (v::vs) (w::ws)
end
section
variable {K:Frag}{F F':Hp}
theorem tY {a:Addr}{xs:List V}(e:Same F F') (h:SqT K F a xs):SqT K F' a xs:=by
 rcases h with (h|⟨o,h⟩)|h
 ·exact .inl (.inl (e _ _ h))
 ·exact .inl (.inr ⟨o,e _ _ h⟩)
 ·exact .inr h
theorem XD.same (e:Same F F'){od:Option Addr}:∀{i:Option Int},XD F od i->XD F' od i:=by
 intro i h;cases i with
 |none=>exact h
 |some _=>obtain ⟨d,h1,h2⟩:=h;exact ⟨d,h1,e _ _ h2⟩
theorem Rep.same (e:Same F F'){v:V}{w:W}(r:Rep K F v w):Rep K F' v w:=
 @Rep.rec K F (λv w _=>Rep K F' v w) (λvs ws _=>Reps K F' vs ws) .non .bl .int .str .ty (λh _ r=>.tup (e _ _ h) r) (λh _ r=>.lst (e _ _ h) r) (λh _ r=>.scr (Same.seq e h) r) (λh1 h2 h3 h4 h5=>.exc (e _ _ h1) h2 h3 h4 (XD.same e h5)) (λh=>.cls h) .nil (λ_ _ a b=>.cons a b) v w r
theorem Reps.same (e:Same F F'){vs:List V}{ws:List W}(r:Reps K F vs ws):Reps K F' vs ws:=
 @Reps.rec K F (λ_ _ _=>True) (λvs ws _=>Reps K F' vs ws) trivial trivial trivial trivial trivial (λ_ _ _=>trivial) (λ_ _ _=>trivial) (λ_ _ _=>trivial) (λ_ _ _ _ _=>trivial) (λ_=>trivial) .nil (λh _ _ b=>.cons (Rep.same e h) b) vs ws r
theorem Reps.ind {P:List V->List W->Prop}(h0:P [] []) (h1:∀{v:V}{w:W}{vs:List V}{ws:List W},Rep K F v w->Reps K F vs ws->P vs ws->P (v::vs) (w::ws)){vs:List V}{ws:List W}(r:Reps K F vs ws):P vs ws:=
 @Reps.rec K F (λ_ _ _=>True) (λvs ws _=>P vs ws) trivial trivial trivial trivial trivial (λ_ _ _=>trivial) (λ_ _ _=>trivial) (λ_ _ _=>trivial) (λ_ _ _ _ _=>trivial) (λ_=>trivial) h0 (λh r _ b=>h1 h r b) vs ws r
def Fe (K:Frag) (F:Hp) (v:V):W->Prop
 | .non=>v=.non
 | .bl b=>v=.bl b
 | .int i=>v=.int i
 | .str x=>v=.str x
 | .ty n=>v=.ty n
 | .tup ws=>∃a vs,v=.ref a/\F a=some (.tup vs)/\Reps K F vs ws
 | .lst ws=>∃a vs,v=.ref a/\F a=some (.lst vs)/\Reps K F vs ws
 | .scr ws=>∃a vs,v=.ref a/\SqL K F a vs/\Reps K F vs ws
 | .exc _ _=>True
 | .cls _=>True
theorem Rep.inv {v:V}{w:W}(r:Rep K F v w):Fe K F v w:=
 @Rep.rec K F (λv w _=>Fe K F v w) (λ_ _ _=>True) rfl rfl rfl rfl rfl (λh r _=>⟨_,_,rfl,h,r⟩) (λh r _=>⟨_,_,rfl,h,r⟩) (λh r _=>⟨_,_,rfl,h,r⟩) (λ_ _ _ _ _=>trivial) (λ_=>trivial) trivial (λ_ _ _ _=>trivial) v w r
def wT (K:Frag) (F:Hp) (vs:List V):List W->Prop
 | []=>vs = []
 |w::ws=>∃v us,vs=v::us/\Rep K F v w/\Reps K F us ws
theorem Reps.inv {vs:List V}{ws:List W}(r:Reps K F vs ws):wT K F vs ws:=
 Reps.ind (P:=λvs ws=>wT K F vs ws) rfl (λh t _=>⟨_,_,rfl,h,t⟩) r
theorem Reps.length {vs:List V}{ws:List W}(r:Reps K F vs ws):vs.length=ws.length:=
 Reps.ind (P:=λvs ws=>vs.length=ws.length) rfl (λ_ _ h=>congrArg (·+1) h) r
theorem Reps.get {vs:List V}{ws:List W}{i:Nat}{w:W}(r:Reps K F vs ws):ws[i]?=some w->∃v,vs[i]?=some v/\Rep K F v w:=
 Reps.ind (P:=λvs ws=>∀(i:Nat) (w:W),ws[i]?=some w->∃v,vs[i]?=some v/\Rep K F v w) (λi w e=>by cases e) (λh _ b i w e=>by
  cases i with
  |zero=>cases e;exact ⟨_,rfl,h⟩
  |succ i=>exact b i w e) r i w
theorem Reps.get' {vs:List V}{ws:List W}{i:Nat}{v:V}(r:Reps K F vs ws):vs[i]?=some v->∃w,ws[i]?=some w/\Rep K F v w:=
 Reps.ind (P:=λvs ws=>∀(i:Nat) (v:V),vs[i]?=some v->∃w,ws[i]?=some w/\Rep K F v w) (λi w e=>by cases e) (λh _ b i w e=>by
  cases i with
  |zero=>cases e;exact ⟨_,rfl,h⟩
  |succ i=>exact b i w e) r i v
theorem Reps.append {vs us:List V}{ws xs:List W}(r:Reps K F vs ws) (s:Reps K F us xs):Reps K F (vs++us) (ws++xs):=
 Reps.ind (P:=λvs ws=>Reps K F (vs++us) (ws++xs)) s (λh _ b=>.cons h b) r
theorem Reps.take {vs:List V}{ws:List W}(n:Nat) (r:Reps K F vs ws):Reps K F (vs.take n) (ws.take n):=
 Reps.ind (P:=λvs ws=>∀n,Reps K F (vs.take n) (ws.take n)) (λn=>by simpa using .nil) (λh _ b n=>by
  cases n with
  |zero=>exact .nil
  |succ n=>exact .cons h (b n)) r n
theorem Reps.drop {vs:List V}{ws:List W}(n:Nat) (r:Reps K F vs ws):Reps K F (vs.drop n) (ws.drop n):=
 Reps.ind (P:=λvs ws=>∀n,Reps K F (vs.drop n) (ws.drop n)) (λn=>by simpa using .nil) (λh r b n=>by
  cases n with
  |zero=>exact .cons h r
  |succ n=>exact b n) r n
theorem Reps.reverse {vs:List V}{ws:List W}(r:Reps K F vs ws):Reps K F vs.reverse ws.reverse:=by
 induction r using Reps.rec (motive_1:=λ_ _ _=>True) with
 |nil=>exact .nil
 |cons h _ _ ih=>rw[qG9,qG9];exact Reps.append ih (.cons h .nil)
 |_=>trivial
theorem Reps.set {v:V}{w:W}(h:Rep K F v w){vs:List V}{ws:List W}(i:Nat) (r:Reps K F vs ws):Reps K F (vs.set i v) (ws.set i w):=
 Reps.ind (P:=λvs ws=>∀i,Reps K F (vs.set i v) (ws.set i w)) (λ_=>.nil) (λq t b i=>by
  cases i with
  |zero=>exact .cons h t
  |succ i=>exact .cons q (b i)) r i
theorem Reps.snoc {vs:List V}{ws:List W}{v:V}{w:W}(r:Reps K F vs ws)(h:Rep K F v w):Reps K F (vs ++ [v]) (ws ++ [w]):=r.append (.cons h .nil)
end
mutual
def noL:W->Bool
 | .lst _=>false
 | .scr _=>false
 | .tup ws=>m5 ws
 |_=>true
def m5:List W->Bool
 | []=>true
 |w::ws=>noL w&&m5 ws
end
def isL:HO->Bool
 | .lst _=>true
 | .dT _=>true
 | .dK _=>true
 | .frz _ (.lst _)=>true
 |_=>false
def join (H0 G:Hp):Hp:=λa=>match H0 a with
 |some o=>if isL o then some o else G a
 |none=>G a
inductive Sl where
 |un|val (w:W)|par (w:W)|own (ws:List W)|dic (ks:List (List Int))|dik (ks:List Int)|iop (p:Addr) (ws:List W)|hz (w:W)
abbrev Rho:=List Sl
def gD (G:Hp):Hp:=λa=>match G a with
 |some o=>if isL o then none else some o
 |none=>none
theorem Z0 {G G':Hp}(h:Same G G'):Same (gD G) (gD G'):=λa o e=>by
 unfold gD at e ⊢;cases q:G a with
 |none=>rw[q]at e;cases e
 |some u=>rw[q]at e;rw[h a u q];exact e
theorem uR {G:Hp}:Same (gD G) G:=λa o e=>by
 unfold gD at e;cases q:G a with
 |none=>rw[q]at e;cases e
 | some u=>
  rw[q]at e;dsimp only at e;cases hl:isL u
  ·rw[hl]at e;exact e
  ·rw[hl]at e;cases e
def SlR (K:Frag) (H0 G H:Hp):Sl->Option V->Prop
 | .un,_=>True
 | .val w,o=>∃v,o=some v/\Rep K G v w
 | .par w,o=>∃v,o=some v/\Rep K (join H0 G) v w
 | .own ws,o=>∃a vs,o=some (.ref a)/\H a=some (.lst vs)/\G a=none/\H0 a=none/\Reps K G vs ws
 | .dic ks,o=>∃(a:Addr) (kvs:List (List Key×V)),o=some (.ref a)/\H a=some (.dT kvs)/\G a=none/\H0 a=none/\kvs.map (·.1)=ks.map λk=>k.map Sum.inl
 | .dik ks,o=>∃(a:Addr) (kvs:List (Key×V)),o=some (.ref a)/\H a=some (.dK kvs)/\G a=none/\H0 a=none/\kvs.map (·.1)=ks.map Sum.inl
 | .iop p ws,o=>o=some (.ref p)/\∃vs,H0 p=some (.lst vs)/\Reps K G vs ws
 | .hz w,o=>∃v,o=some v/\Rep K (join H0 (gD G)) v w
structure PIv (K:Frag) (H0 G:Hp) (ρ:Rho) (σ:St) (H:Hp):Prop where
 g0:∀a o,H0 a=some o->isL o=false->G a=some o
 gl:∀a o,H0 a=some o->isL o=true->G a=none
 gh:Same G H
 hh:Same H0 H
 len:ρ.length=σ.length
 sl:∀(i:Nat) (x:Sl) (o:Option V),ρ[i]?=some x->σ[i]?=some o->SlR K H0 G H x o
 ne:∀(i j:Nat) (ws us:List W) (a:Addr),i≠j->ρ[i]?=some (.own ws)->ρ[j]?=some (.own us)->σ[i]?=some (some (.ref a))->σ[j]?≠some (some (.ref a))
structure Ext (G H G' H':Hp):Prop where
 gg:Same G G'
 hh:Same H H'
 gh:Same G' H'
 keep:∀a o,H a=some o->isL o=true->G a=none->G' a=none
theorem Ext.refl {G H:Hp}(h:Same G H):Ext G H G H:=⟨Same.refl G,Same.refl H,h,λ_ _ _ _ e=>e⟩
theorem Ext.trans {G H G1 H1 G2 H2:Hp}(a:Ext G H G1 H1) (b:Ext G1 H1 G2 H2):Ext G H G2 H2:=
 ⟨a.gg.trans b.gg,a.hh.trans b.hh,b.gh,λx o h l e=>b.keep x o (a.hh x o h) l (a.keep x o h l e)⟩
section
variable {K:Frag}{H0 G H G' H':Hp}{ρ:Rho}{σ:St}
theorem u9 (h:Same G G'):Same (join H0 G) (join H0 G'):=λa o e=>by
 unfold join at e ⊢;cases q:H0 a with
 |none=>rw[q]at e;exact h a o e
 | some u=>
  rw[q]at e;dsimp only at e ⊢;by_cases hl:isL u=true
  ·rw[qA4 hl]at e ⊢;exact e
  ·rw[qA6 hl]at e ⊢;exact h a o e
theorem PIv.G_join (I:PIv K H0 G ρ σ H):Same G (join H0 G):=λa o e=>by
 unfold join;cases q:H0 a with
 |none=>exact e
 | some u=>
  dsimp only;by_cases hl:isL u=true
  ·rw[I.gl a u q hl]at e;cases e
  ·rw[qA6 hl];exact e
theorem PIv.join_H (I:PIv K H0 G ρ σ H):Same (join H0 G) H:=λa o e=>by
 unfold join at e;cases q:H0 a with
 |none=>rw[q]at e;exact I.gh a o e
 | some u=>
  rw[q]at e;dsimp only at e;by_cases hl:isL u=true
  ·rw[qA4 hl]at e;cases e;exact I.hh a _ q
  ·rw[qA6 hl]at e;exact I.gh a o e
theorem PIv.ext (I:PIv K H0 G ρ σ H) (x:Ext G H G' H'):PIv K H0 G' ρ σ H' where
 g0 a o e l:=x.gg a o (I.g0 a o e l)
 gl a o e l:=x.keep a o (I.hh a o e) l (I.gl a o e l)
 gh:=x.gh
 hh:=I.hh.trans x.hh
 len:=I.len
 sl i s o h1 h2:=by
  have:=I.sl i s o h1 h2
  cases s with
  |un=>trivial
  |val w=>obtain ⟨v,e,r⟩:=this;exact ⟨v,e,r.same x.gg⟩
  |par w=>obtain ⟨v,e,r⟩:=this;exact ⟨v,e,r.same (u9 x.gg)⟩
  | own ws=>
   obtain ⟨a,vs,e,h,g,h0,r⟩:=this;exact ⟨a,vs,e,x.hh a _ h,x.keep a _ h rfl g,h0,r.same x.gg⟩
  | dic ks=>
   obtain ⟨a,kvs,e,h,g,h0,r⟩:=this;exact ⟨a,kvs,e,x.hh a _ h,x.keep a _ h rfl g,h0,r⟩
  | dik ks=>
   obtain ⟨a,kvs,e,h,g,h0,r⟩:=this;exact ⟨a,kvs,e,x.hh a _ h,x.keep a _ h rfl g,h0,r⟩
  | iop p ws=>
   obtain ⟨e,vs,h,r⟩:=this;exact ⟨e,vs,h,r.same x.gg⟩
  |hz w=>obtain ⟨v,e,r⟩:=this;exact ⟨v,e,r.same (u9 (Z0 x.gg))⟩
 ne:=I.ne
theorem eR {a:Addr}{o:HO}(h:join H0 G a=some o) (l:isL o=false):G a=some o:=by
 unfold join at h;cases q:H0 a with
 |none=>rw[q]at h;exact h
 | some u=>
  rw[q]at h;dsimp only at h;by_cases hl:isL u=true
  ·rw[qA4 hl]at h;cases h;rw[hl]at l;cases l
  ·rw[qA6 hl]at h;exact h
theorem XD.clean {od:Option Addr}:∀{i:Option Int},XD (join H0 G) od i->XD G od i
 |none,h=>h
 |some _,⟨d,h1,h2⟩=>⟨d,h1,eR h2 rfl⟩
theorem Rep.clean (I:PIv K H0 G ρ σ H){v:V}{w:W}(r:Rep K (join H0 G) v w):noL w=true->Rep K G v w:=
 @Rep.rec K (join H0 G) (λv w _=>noL w=true->Rep K G v w) (λvs ws _=>m5 ws=true->Reps K G vs ws) (λ_=>.non) (λ_=>.bl) (λ_=>.int) (λ_=>.str) (λ_=>.ty)
  (λh _ r n=>.tup (eR h rfl) (r n)) (λ_ _ _ n=>by cases n) (λ_ _ _ n=>by cases n) (λh1 h2 h3 h4 h5 _=>.exc (eR h1 rfl) h2 h3 h4 (XD.clean h5)) (λh _=>.cls h) (λ_=>.nil)
  (λ_ _ a b n=>by rw[m5,qG7]at n;exact .cons (a n.1) (b n.2)) v w r
theorem Reps.clean (I:PIv K H0 G ρ σ H){vs:List V}{ws:List W}(r:Reps K (join H0 G) vs ws):m5 ws=true->Reps K G vs ws:=
 @Reps.rec K (join H0 G) (λ_ _ _=>True) (λvs ws _=>m5 ws=true->Reps K G vs ws) trivial trivial trivial trivial trivial (λ_ _ _=>trivial) (λ_ _ _=>trivial) (λ_ _ _=>trivial) (λ_ _ _ _ _=>trivial) (λ_=>trivial) (λ_=>.nil)
  (λh _ _ b n=>by rw[m5,qG7]at n;exact .cons (Rep.clean I h n.1) (b n.2)) vs ws r
end
structure XW where
 cls:Str
 at_:Option Int
inductive R (α:Type) where
 |ok (a:α)|ex (e:XW)|stuck
def R.bind {α β:Type}(x:R α) (f:α->R β):R β:=match x with
 | .ok a=>f a
 | .ex e=>.ex e
 | .stuck=>.stuck
instance:Monad R where
 pure:=R.ok
 bind:=R.bind
@[simp] theorem R.ok_bind {α β:Type}(a:α) (f:α->R β):((R.ok a:R α)>>=f)=f a:=rfl
@[simp] theorem R.stuck_bind {α β:Type}(f:α->R β):((R.stuck:R α)>>=f)=.stuck:=rfl
@[simp] theorem R.ex_bind {α β:Type}(e:XW) (f:α->R β):((R.ex e:R α)>>=f)=.ex e:=rfl
@[simp] theorem R.pure_eq {α:Type}(a:α):(pure a:R α)=.ok a:=rfl
inductive Mode where
 |F|V|U|C|B
def Md (K:Frag) (H0 H G' H':Hp) (v:V) (w:W):Mode->Prop
 | .V=>Rep K G' v w
 | .U=>Rep K (join H0 G') v w
 | .F=>match w with
  | .lst ws=>∃a vs,v=.ref a/\H' a=some (.lst vs)/\G' a=none/\H a=none/\Reps K G' vs ws
  |w=>Rep K G' v w
 | .C=>Rep K G' v w\/∃a vs ws,v=.ref a/\w=.lst ws/\H' a=some (.lst vs)/\Reps K G' vs ws
 | .B=>Rep K (join H0 G') v w\/∃a vs ws,v=.ref a/\w=.lst ws/\H' a=some (.lst vs)/\Reps K G' vs ws
abbrev EXT:=XW->Hp->Prop
def Out {α β:Type}(EX:EXT) (G H:Hp) (md:α->β->Hp->Hp->Prop) (r:R α) (Q:β->Hp->Prop):Prop:=match r with
 | .ok w=>∀v G' H',Ext G H G' H'->md w v G' H'->Q v H'
 | .ex e=>∀H',Same H H'->EX e H'
 | .stuck=>False
abbrev mdW (K:Frag)(d:Mode)(H0 H:Hp):W->V->Hp->Hp->Prop:=λw v G' H'=>Md K H0 H G' H' v w d
abbrev mdB:Bool->Bool->Hp->Hp->Prop:=λb c _ _=>c=b
inductive MdA (K:Frag) (d:Mode) (H0 H G' H':Hp):List W->List V->Prop where
 |nil:MdA K d H0 H G' H' [] []
 |cons {w:W}{v:V}{ws:List W}{vs:List V}:Md K H0 H G' H' v w d->MdA K d H0 H G' H' ws vs->MdA K d H0 H G' H' (w::ws) (v::vs)
def MdAI (K:Frag) (d:Mode) (H0 H G' H':Hp) (vs:List V):List W->Prop
 | []=>vs = []
 |w::ws=>∃v us,vs=v::us/\Md K H0 H G' H' v w d/\MdA K d H0 H G' H' ws us
abbrev mdA (K:Frag)(d:Mode)(H0 H:Hp):List W->List V->Hp->Hp->Prop:=λws vs G' H'=>MdA K d H0 H G' H' ws vs
def tM (K:Frag)(EX:EXT)(d:Mode)(m:Rho->R W):TE:=λσ H Q=>∃H0 G ρ,PIv K H0 G ρ σ H/\Out EX G H (mdW K d H0 H) (m ρ) Q
def tT (K:Frag)(EX:EXT)(m:Rho->R Bool):TT:=λσ H Q=>∃H0 G ρ,PIv K H0 G ρ σ H/\Out EX G H mdB (m ρ) Q
def tA (K:Frag)(EX:EXT)(d:Mode)(m:Rho->R (List W)):TA:=λσ H Q=>∃H0 G ρ,PIv K H0 G ρ σ H/\Out EX G H (mdA K d H0 H) (m ρ) Q
section
variable {K:Frag}{EX:EXT}{H0 G H G1 H1 G2 H2:Hp}{ρ:Rho}{σ:St}
theorem Out.bind {α β γ δ:Type}{md:α->β->Hp->Hp->Prop}{md':γ->δ->Hp->Hp->Prop}{m:R α}{k:α->R γ}{Q:δ->Hp->Prop}{Q1:β->Hp->Prop}(o:Out EX G H md' (m>>=k) Q)
  (h:∀x G1 H1 w,Ext G H G1 H1->md w x G1 H1->Out EX G1 H1 md' (k w) Q->Q1 x H1):Out EX G H md m Q1:=by
 cases m with
 | ok w=>
  intro v G' H' e d;refine h v G' H' w e d ?_;rw[R.ok_bind]at o
  revert o
  cases k w with
  |ok u=>exact λo v2 G2 H2 e2 d2=>o v2 G2 H2 (e.trans e2) d2
  |ex x=>exact λo H2 s2=>o H2 (e.hh.trans s2)
  |stuck=>exact λo=>o
 |ex x=>exact o
 |stuck=>exact o
theorem Md.start {v:V}{w:W}{d:Mode}(s:Same H H1) (h:Md K H0 H1 G2 H2 v w d):Md K H0 H G2 H2 v w d:=by
 cases d with
 | F=>
  cases w with
  |lst ws=>obtain ⟨a,vs,e,h1,h2,h3,r⟩:=h;exact ⟨a,vs,e,h1,h2,s.free h3,r⟩
  |_=>exact h
 |_=>exact h
theorem Md.move {v:V}{w:W}{d:Mode}(x:Ext G1 H1 G2 H2) (h:Md K H0 H G1 H1 v w d):Md K H0 H G2 H2 v w d:=by
 cases d with
 |V=>exact Rep.same x.gg h
 |U=>exact Rep.same (u9 x.gg) h
 | F=>
  cases w with
  |lst ws=>obtain ⟨a,vs,e,h1,h2,h3,r⟩:=h;exact ⟨a,vs,e,x.hh _ _ h1,x.keep _ _ h1 rfl h2,h3,r.same x.gg⟩
  |non=>exact Rep.same x.gg h
  |bl _=>exact Rep.same x.gg h
  |int _=>exact Rep.same x.gg h
  |str _=>exact Rep.same x.gg h
  |ty _=>exact Rep.same x.gg h
  |tup _=>exact Rep.same x.gg h
  |scr _=>exact Rep.same x.gg h
  |exc _ _=>exact Rep.same x.gg h
  |cls _=>exact Rep.same x.gg h
 | C=>
  rcases h with h|⟨a,vs,ws,e,e2,h1,r⟩
  ·exact .inl (h.same x.gg)
  ·exact .inr ⟨a,vs,ws,e,e2,x.hh _ _ h1,r.same x.gg⟩
 | B=>
  rcases h with h|⟨a,vs,ws,e,e2,h1,r⟩
  ·exact .inl (h.same (u9 x.gg))
  ·exact .inr ⟨a,vs,ws,e,e2,x.hh _ _ h1,r.same x.gg⟩
theorem Md.CB {v:V}{w:W}(I:PIv K H0 G1 ρ σ H1) (h:Md K H0 H G1 H1 v w .C):Md K H0 H G1 H1 v w .B:=by
 rcases h with h|h
 ·exact .inl (h.same I.G_join)
 ·exact .inr h
def sca:W->Bool
 | .tup _=>false
 | .scr _=>false
 | .lst _=>false
 |_=>true
theorem Md.sca {v:V}{w:W}(hs:sca w=true) (r:∀F,Rep K F v w) (d:Mode):Md K H0 H G1 H1 v w d:=by
 cases d with
 |V=>exact r _
 |U=>exact r _
 |C=>exact .inl (r _)
 |B=>exact .inl (r _)
 |F=>cases w <;> first|exact r _|cases hs
theorem Md.repB {v:V}{w:W}(h:Md K H0 H G1 H1 v w .B)(n:∀us,w≠.lst us):Rep K (join H0 G1) v w:=Or.elim h id λzz71=>by obtain ⟨_,_,us,_,e,_⟩:=zz71;exact absurd e (n us)
theorem Md.repC {v:V}{w:W}(h:Md K H0 H G1 H1 v w .C)(n:∀us,w≠.lst us):Rep K G1 v w:=Or.elim h id λzz72=>by obtain ⟨_,_,us,_,e,_⟩:=zz72;exact absurd e (n us)
theorem Md.lstB {v:V}{ws:List W}(I:PIv K H0 G1 ρ σ H1) (h:Md K H0 H G1 H1 v (.lst ws) .B):∃a vs,v=.ref a/\H1 a=some (.lst vs)/\Reps K (join H0 G1) vs ws:=by
 rcases h with h|⟨a,vs,us,e,e2,h1,r⟩
 ·obtain ⟨a,vs,e,s,r⟩:=h.inv;exact ⟨a,vs,e,I.join_H _ _ s,r⟩
 ·rw[W.lst.inj e2];exact ⟨a,vs,e,h1,r.same I.G_join⟩
theorem Md.scrB {v:V}{ws:List W}(I:PIv K H0 G1 ρ σ H1) (h:Md K H0 H G1 H1 v (.scr ws) .B):∃a vs,v=.ref a/\SqL K H1 a vs/\Reps K (join H0 G1) vs ws:=by
 obtain ⟨a,vs,e,s,r⟩:=(h.repB λ_=>W.noConfusion).inv;exact ⟨a,vs,e,Same.seq I.join_H s,r⟩
theorem Md.lstC {v:V}{ws:List W}(I:PIv K H0 G1 ρ σ H1) (h:Md K H0 H G1 H1 v (.lst ws) .C):∃a vs,v=.ref a/\H1 a=some (.lst vs)/\Reps K G1 vs ws:=by
 rcases h with h|⟨a,vs,us,e,e2,h1,r⟩
 ·obtain ⟨a,vs,e,s,r⟩:=h.inv;exact ⟨a,vs,e,I.gh _ _ s,r⟩
 ·rw[W.lst.inj e2];exact ⟨a,vs,e,h1,r⟩
theorem Md.tupB {v:V}{ws:List W}(I:PIv K H0 G1 ρ σ H1) (h:Md K H0 H G1 H1 v (.tup ws) .B):∃a vs,v=.ref a/\H1 a=some (.tup vs)/\Reps K (join H0 G1) vs ws:=by
 obtain ⟨a,vs,e,s,r⟩:=(h.repB λ_=>W.noConfusion).inv;exact ⟨a,vs,e,I.join_H _ _ s,r⟩
theorem Md.tupC {v:V}{ws:List W}(I:PIv K H0 G1 ρ σ H1) (h:Md K H0 H G1 H1 v (.tup ws) .C):∃a vs,v=.ref a/\H1 a=some (.tup vs)/\Reps K G1 vs ws:=by
 obtain ⟨a,vs,e,s,r⟩:=(h.repC λ_=>W.noConfusion).inv;exact ⟨a,vs,e,I.gh _ _ s,r⟩
theorem Md.intB {v:V}{i:Int}(h:Md K H0 H G1 H1 v (.int i) .B):v=.int i:=(h.repB λ_=>W.noConfusion).inv
theorem Md.blB {v:V}{i:Bool}(h:Md K H0 H G1 H1 v (.bl i) .B):v=.bl i:=(h.repB λ_=>W.noConfusion).inv
theorem Md.strB {v:V}{i:Str}(h:Md K H0 H G1 H1 v (.str i) .B):v=.str i:=(h.repB λ_=>W.noConfusion).inv
theorem Md.nonB {v:V}(h:Md K H0 H G1 H1 v .non .B):v=.non:=(h.repB λ_=>W.noConfusion).inv
theorem yC {m:Rho->R W}{Q:VK}(h:tM K EX .V m σ H Q):tM K EX .F m σ H Q:=by
 obtain ⟨H0,G,ρ,I,o⟩:=h;refine ⟨H0,G,ρ,I,?_⟩
 revert o
 cases m ρ with
 |ex e=>exact id
 |stuck=>exact id
 | ok w=>
  intro o v G' H' e d;cases w with
  | lst ws=>
   obtain ⟨a,vs,rfl,h1,h2,h3,r⟩:=d;have s1:Same G' (upd G' a (.lst vs)):=λb o q=>by rw[d4 (e8 q h2)];exact q
   refine o _ (upd G' a (.lst vs)) H' ⟨e.gg.trans s1,e.hh,λb o q=>?_,λb o q l g=>?_⟩ (.lst n6 (r.same s1))
   ·by_cases hb:b=a
    ·subst hb;rw[n6]at q;cases q;exact h1
    ·rw[d4 hb]at q;exact e.gh b o q
   ·rw[d4 (e8 q h3)];exact e.keep b o q l g
  |_=>exact o v G' H' e d
theorem yA {m:Rho->R W}{Q:VK}(h:tM K EX .U m σ H Q):tM K EX .V m σ H Q:=by
 obtain ⟨H0,G,ρ,I,o⟩:=h;refine ⟨H0,G,ρ,I,?_⟩
 revert o
 cases m ρ with
 |ex e=>exact id
 |stuck=>exact id
 |ok w=>exact λo v G' H' e d=>o v G' H' e (Rep.same (I.ext e).G_join d)
theorem yB {m:Rho->R W}{Q:VK}(h:tM K EX .B m σ H Q):tM K EX .U m σ H Q:=by
 obtain ⟨H0,G,ρ,I,o⟩:=h;refine ⟨H0,G,ρ,I,?_⟩
 revert o
 cases m ρ with
 |ex e=>exact id
 |stuck=>exact id
 |ok w=>exact λo v G' H' e d=>o v G' H' e (.inl d)
theorem yE {m:Rho->R W}{Q:VK}(h:tM K EX .B m σ H Q):tM K EX .C m σ H Q:=by
 obtain ⟨H0,G,ρ,I,o⟩:=h;refine ⟨H0,G,ρ,I,?_⟩
 revert o
 cases m ρ with
 |ex e=>exact id
 |stuck=>exact id
 |ok w=>exact λo v G' H' e d=>o v G' H' e (Md.CB (H:=H) (I.ext e) d)
theorem yD {m:Rho->R W}{Q:VK}(h:tM K EX .C m σ H Q):tM K EX .F m σ H Q:=by
 obtain ⟨H0,G,ρ,I,o⟩:=h;refine ⟨H0,G,ρ,I,?_⟩
 revert o
 cases m ρ with
 |ex e=>exact id
 |stuck=>exact id
 | ok w=>
  intro o v G' H' e d;cases w with
  |lst ws=>obtain ⟨a,vs,rfl,h1,h2,h3,r⟩:=d;exact o _ G' H' e (.inr ⟨a,vs,ws,rfl,rfl,h1,r⟩)
  |_=>exact o v G' H' e (.inl d)
def chk (w:W):R W:=if noL w then .ok w else .stuck
theorem oD {v:V}{w:W}(n:noL w=true) (r:Rep K G1 v w):Md K H0 H G1 H1 v w .F:=by
 cases w with
 |lst ws=>cases n
 |_=>exact r
theorem kH {m:Rho->R W}{Q:VK}{d:Mode}(hd:d=.F\/d=.V) (h:tM K EX d (λρ=>m ρ>>=chk) σ H Q):tM K EX .U m σ H Q:=by
 obtain ⟨H0,G,ρ,I,o⟩:=h;refine ⟨H0,G,ρ,I,Out.bind o λx G1 H1 w e m1 o1=>?_⟩;unfold chk at o1;by_cases n:noL w=true
 ·rw [qA4 n]at o1
  have r:=Rep.clean (I.ext e) m1 n;refine o1 x G1 H1 (Ext.refl e.gh) ?_;rcases hd with rfl|rfl
  ·exact oD n r
  ·exact r
 ·rw[qA6 n]at o1;exact o1.elim
end
end TP
namespace TP
open PySem L2
section
variable {K:Frag}{EX:EXT}{H0 G H G1 H1 G2 H2:Hp}{ρ:Rho}{σ:St}{d:Mode}{Q:VK}
theorem dv {v:V}{w:W}(hs:sca w=true) (r:∀F,Rep K F v w) (h:tM K EX d (λ_=>.ok w) σ H Q):tC v σ H Q:=by
 obtain ⟨H0,G,ρ,I,o⟩:=h;exact o v G H (Ext.refl I.gh) (Md.sca hs r d)
def b7 (d:Mode) (i:Nat):Rho->R W:=λρ=>match ρ[i]? with
 |some (.val w)=>(match d with | .F=>chk w|_=>.ok w)
 |some (.par w)=>(match d with | .F=>chk w | .V=>chk w | .C=>chk w|_=>.ok w)
 |some (.own ws)=>(match d with | .C=>.ok (.lst ws) | .B=>.ok (.lst ws)|_=>.stuck)
 |some (.iop _ ws)=>(match d with | .B=>.ok (.lst ws) | .U=>.ok (.lst ws)|_=>.stuck)
 |some (.hz w)=>(match d with | .B=>.ok w | .U=>.ok w|_=>.stuck)
 |_=>.stuck
theorem Out.chk {α:Type}{v:V}{w:W}{md:W->α->Hp->Hp->Prop}{Q:α->Hp->Prop}(o:Out EX G H md (chk w) Q):noL w=true/\Out EX G H md (.ok w) Q:=by
 unfold TP.chk at o;by_cases n:noL w=true
 ·rw[qA4 n]at o;exact ⟨n,o⟩
 ·rw[qA6 n]at o;exact o.elim
theorem pi {i:Nat}(h:tM K EX d (b7 d i) σ H Q):V6 i σ H Q:=by
 obtain ⟨H0,G,ρ,I,o⟩:=h;unfold b7 at o;cases e:ρ[i]? with
 |none=>rw[e]at o;exact o.elim
 | some s=>
  rw[e]at o;have hi:i<σ.length:=by rw[<- I.len];exact (qB0.mp e).1
  have es:σ[i]?=some σ[i]:=by simp
  have r:=I.sl i s _ e es;cases s with
  |un=>exact o.elim
  | val w=>
   obtain ⟨v,ev,r⟩:=r;refine ⟨v,by rw[es,ev],?_⟩;cases d with
   |F=>obtain ⟨n,o⟩:=Out.chk (v:=v) o;exact o v G H (Ext.refl I.gh) (oD n r)
   |V=>exact o v G H (Ext.refl I.gh) r
   |U=>exact o v G H (Ext.refl I.gh) (r.same I.G_join)
   |C=>exact o v G H (Ext.refl I.gh) (.inl r)
   |B=>exact o v G H (Ext.refl I.gh) (.inl (r.same I.G_join))
  | par w=>
   obtain ⟨v,ev,r⟩:=r;refine ⟨v,by rw[es,ev],?_⟩;cases d with
   |F=>obtain ⟨n,o⟩:=Out.chk (v:=v) o;exact o v G H (Ext.refl I.gh) (oD n (Rep.clean I r n))
   |V=>obtain ⟨n,o⟩:=Out.chk (v:=v) o;exact o v G H (Ext.refl I.gh) (Rep.clean I r n)
   |U=>exact o v G H (Ext.refl I.gh) r
   |C=>obtain ⟨n,o⟩:=Out.chk (v:=v) o;exact o v G H (Ext.refl I.gh) (.inl (Rep.clean I r n))
   |B=>exact o v G H (Ext.refl I.gh) (.inl r)
  | own ws=>
   obtain ⟨a,vs,ev,ha,hg,h0,r⟩:=r;refine ⟨.ref a,by rw[es,ev],?_⟩;cases d with
   |F=>exact o.elim
   |V=>exact o.elim
   |U=>exact o.elim
   |C=>exact o _ G H (Ext.refl I.gh) (.inr ⟨a,vs,ws,rfl,rfl,ha,r⟩)
   |B=>exact o _ G H (Ext.refl I.gh) (.inr ⟨a,vs,ws,rfl,rfl,ha,r⟩)
  |dic ks=>exact o.elim
  |dik ks=>exact o.elim
  | hz w=>
   obtain ⟨v,ev,r⟩:=r;refine ⟨v,by rw[es,ev],?_⟩;have rj:=r.same (u9 (H0:=H0) (uR (G:=G)));cases d with
   |F=>exact o.elim
   |V=>exact o.elim
   |C=>exact o.elim
   |U=>exact o v G H (Ext.refl I.gh) rj
   |B=>exact o v G H (Ext.refl I.gh) (.inl rj)
  | iop p ws=>
   obtain ⟨ev,vs,h0,r⟩:=r;refine ⟨.ref p,by rw[es,ev],?_⟩;have rj:Rep K (join H0 G) (.ref p) (.lst ws):=by
    refine .lst (vs:=vs) ?_ (r.same I.G_join);unfold join;rw[h0];rfl
   cases d with
   |F=>exact o.elim
   |V=>exact o.elim
   |U=>exact o _ G H (Ext.refl I.gh) rj
   |C=>exact o.elim
   |B=>exact o _ G H (Ext.refl I.gh) (.inl rj)
def Op2 (K:Frag) (b d:Mode) (r:R2) (f:W->W->R W):Prop:=∀(EX:EXT) (H0 Hs G H:Hp) (ρ:Rho) (σ:St) (Ha Hb:Hp) (x y:V) (u v:W) (Q:VK),PIv K H0 G ρ σ H->Same Hs H->Md K H0 Ha G H x u b->Md K H0 Hb G H y v b ->
 Out EX G H (mdW K d H0 Hs) (f u v) Q->r x y H Q
theorem lK {b:Mode}{r:R2}{f:W->W->R W}{ma mb:Rho->R W}(hr:Op2 K b d r f) (h:tM K EX d (λρ=>ma ρ>>=λx=>mb ρ>>=λy=>f x y) σ H Q):tOp r (tM K EX b ma) (tM K EX b mb) σ H Q:=by
 obtain ⟨H0,G,ρ,I,o⟩:=h;refine ⟨H0,G,ρ,I,Out.bind o λx G1 H1 u e1 m1 o1=>⟨H0,G1,ρ,I.ext e1,Out.bind o1 λy G2 H2 v e2 m2 o2=>?_⟩⟩;exact hr EX H0 H G2 H2 ρ σ H H1 x y u v Q ((I.ext e1).ext e2) (e1.hh.trans e2.hh) (m1.move e2) m2 o2
def Op1 (K:Frag) (b d:Mode) (r:V->Hp->VK->Prop) (f:W->R W):Prop:=∀(EX:EXT) (H0 Hs G H:Hp) (ρ:Rho) (σ:St) (Ha:Hp) (x:V) (u:W) (Q:VK),PIv K H0 G ρ σ H->Same Hs H->Md K H0 Ha G H x u b ->
 Out EX G H (mdW K d H0 Hs) (f u) Q->r x H Q
theorem c_un {b:Mode}{r:V->Hp->VK->Prop}{f:W->R W}{ma:Rho->R W}(hr:Op1 K b d r f) (h:tM K EX d (λρ=>ma ρ>>=λx=>f x) σ H Q):tUn r (tM K EX b ma) σ H Q:=by
 obtain ⟨H0,G,ρ,I,o⟩:=h;exact ⟨H0,G,ρ,I,Out.bind o λx G1 H1 u e1 m1 o1=>hr EX H0 H G1 H1 ρ σ H x u Q (I.ext e1) e1.hh m1 o1⟩
def fI (C:Int->Int->Prop) [∀i j,Decidable (C i j)] (g:Int->Int->W):W->W->R W
 | .int i,.int j=>if C i j then .ok (g i j) else .stuck
 |_,_=>.stuck
def fI0 (g:Int->Int->W):W->W->R W
 | .int i,.int j=>.ok (g i j)
 |_,_=>.stuck
theorem i8 {C:Int->Int->Prop} [∀i j,Decidable (C i j)] {g:Int->Int->W}{gv:Int->Int->V}(hs:∀i j,sca (g i j)=true) (hg:∀i j F,Rep K F (gv i j) (g i j)):Op2 K .B d (rI C gv) (fI C g):=by
 intro EX H0 Hs G H ρ σ Ha Hb x y u v Q I s mx my o;cases u <;> first|exact o.elim|skip
 all_goals (cases v <;> first|exact o.elim|skip)
 rename_i i j
 have o':Out EX G H (mdW K d H0 Hs) (if C i j then R.ok (g i j) else .stuck) Q:=o;by_cases c:C i j
 ·rw [qA4 c]at o'
  exact ⟨i,j,mx.intB,my.intB,c,o' _ G H (Ext.refl I.gh) (Md.sca (hs i j) (hg i j) d)⟩
 ·rw[qA6 c]at o';exact o'.elim
theorem jp {g:Int->Int->W}{gv:Int->Int->V}(hs:∀i j,sca (g i j)=true) (hg:∀i j F,Rep K F (gv i j) (g i j)):Op2 K .B d (rI0 gv) (fI0 g):=by
 intro EX H0 Hs G H ρ σ Ha Hb x y u v Q I s mx my o;cases u <;> first|exact o.elim|skip
 all_goals (cases v <;> first|exact o.elim|skip)
 rename_i i j
 exact ⟨i,j,mx.intB,my.intB,o _ G H (Ext.refl I.gh) (Md.sca (hs i j) (hg i j) d)⟩
def fU (g:Int->W):W->R W
 | .int i=>.ok (g i)
 |_=>.stuck
theorem eK {g:Int->W}{gv:Int->V}(hs:∀i,sca (g i)=true) (hg:∀i F,Rep K F (gv i) (g i)):Op1 K .B d (rU gv) (fU g):=by
 intro EX H0 Hs G H ρ σ Ha x u Q I s mx o;cases u <;> first|exact o.elim|skip
 rename_i i
 exact ⟨i,mx.intB,o _ G H (Ext.refl I.gh) (Md.sca (hs i) (hg i) d)⟩
def isN:W->Bool
 | .non=>true
 |_=>false
def F1 (neg:Bool):W->W->R W
 |u,.non=>.ok (.bl (if neg then !isN u else isN u))
 |_,_=>.stuck
theorem rJ {b:Mode}(hb:b=.B\/b=.U\/b=.V\/b=.C){v:V}{w:W}{Hs:Hp}(h:Md K H0 Hs G1 H1 v w b):decide (v=.non)=isN w:=by
 have key:∀F,Rep K F v w->decide (v=.non)=isN w:=λF r=>by
  cases r <;> first|rfl | (apply decide_eq_false;intro z;cases z)
 rcases hb with rfl|rfl|rfl|rfl
 ·rcases h with h|⟨a,vs,ws,rfl,rfl,_⟩
  ·exact key _ h
  ·apply decide_eq_false;intro z;cases z
 ·exact key _ h
 ·exact key _ h
 ·rcases h with h|⟨a,vs,ws,rfl,rfl,_⟩
  ·exact key _ h
  ·apply decide_eq_false;intro z;cases z
theorem W8:Op2 K .B d (λx y H Q=>y=.non/\Q (.bl (decide (x=.non))) H) (F1 false):=by
 intro EX H0 Hs G H ρ σ Ha Hb x y u v Q I s mx my o;cases v <;> first|exact o.elim|skip
 refine ⟨my.nonB,?_⟩;rw[rJ (.inl rfl) mx];exact o _ G H (Ext.refl I.gh) (Md.sca rfl (λ_=>.bl) d)
theorem az:Op2 K .B d (λx y H Q=>y=.non/\Q (.bl (!decide (x=.non))) H) (F1 true):=by
 intro EX H0 Hs G H ρ σ Ha Hb x y u v Q I s mx my o;cases v <;> first|exact o.elim|skip
 refine ⟨my.nonB,?_⟩;rw[rJ (.inl rfl) mx];exact o _ G H (Ext.refl I.gh) (Md.sca rfl (λ_=>.bl) d)
def toB:W->R Bool
 | .bl b=>.ok b
 |_=>.stuck
theorem sI {ma:Rho->R W}{Q:Bool->Hp->Prop}(h:tT K EX (λρ=>ma ρ>>=toB) σ H Q):wm (tM K EX .B ma) σ H Q:=by
 obtain ⟨H0,G,ρ,I,o⟩:=h;refine ⟨H0,G,ρ,I,Out.bind o λx G1 H1 u e1 m1 o1=>?_⟩;cases u <;> first|exact o1.elim|skip
 rename_i b
 exact ⟨b,m1.blB,o1 b G1 H1 (Ext.refl e1.gh) rfl⟩
theorem c_tB {ma:Rho->R W}{Q:Bool->Hp->Prop}(h:tT K EX (λρ=>ma ρ>>=toB) σ H Q):tB (tM K EX .B ma) σ H Q:=sI h
def rAnd (a b:R Bool):R Bool:=a>>=λc=>if c then b else .ok false
def rOr (a b:R Bool):R Bool:=a>>=λc=>if c then .ok true else b
def oa (a:R Bool):R Bool:=a>>=λc=>.ok (!c)
theorem GB {ma mb:Rho->R Bool}{Q:Bool->Hp->Prop}(h:tT K EX (λρ=>rAnd (ma ρ) (mb ρ)) σ H Q):AI (tT K EX ma) (tT K EX mb) σ H Q:=by
 obtain ⟨H0,G,ρ,I,o⟩:=h;refine ⟨H0,G,ρ,I,Out.bind o λx G1 H1 u e1 m1 o1=>?_⟩;cases m1;cases x with
 |true=>exact ⟨H0,G1,ρ,I.ext e1,o1⟩
 |false=>exact o1 false G1 H1 (Ext.refl e1.gh) rfl
theorem c_or {ma mb:Rho->R Bool}{Q:Bool->Hp->Prop}(h:tT K EX (λρ=>rOr (ma ρ) (mb ρ)) σ H Q):tOr (tT K EX ma) (tT K EX mb) σ H Q:=by
 obtain ⟨H0,G,ρ,I,o⟩:=h;refine ⟨H0,G,ρ,I,Out.bind o λx G1 H1 u e1 m1 o1=>?_⟩;cases m1;cases x with
 |true=>exact o1 true G1 H1 (Ext.refl e1.gh) rfl
 |false=>exact ⟨H0,G1,ρ,I.ext e1,o1⟩
theorem Gp {ma:Rho->R Bool}{Q:Bool->Hp->Prop}(h:tT K EX (λρ=>oa (ma ρ)) σ H Q):AD (tT K EX ma) σ H Q:=by
 obtain ⟨H0,G,ρ,I,o⟩:=h;refine ⟨H0,G,ρ,I,Out.bind o λx G1 H1 u e1 m1 o1=>?_⟩;cases m1;exact o1 _ G1 H1 (Ext.refl e1.gh) rfl
def aV (a b:R W):R W:=a>>=λx=>toB x>>=λc=>if c then b else .ok (.bl false)
def eE (a b:R W):R W:=a>>=λx=>toB x>>=λc=>if c then .ok (.bl true) else b
def jh (a:R W):R W:=a>>=λx=>toB x>>=λc=>.ok (.bl (!c))
theorem ES {ma mb:Rho->R W}(h:tM K EX d (λρ=>aV (ma ρ) (mb ρ)) σ H Q):wt (tM K EX .B ma) (tM K EX d mb) σ H Q:=by
 obtain ⟨H0,G,ρ,I,o⟩:=h;refine ⟨H0,G,ρ,I,Out.bind o λx G1 H1 u e1 m1 o1=>?_⟩;cases u <;> first|exact o1.elim|skip
 rename_i b
 refine ⟨b,m1.blB,?_⟩;cases b with
 | true=>
  rw[qA4 rfl];refine ⟨H0,G1,ρ,I.ext e1,?_⟩;have o2:Out EX G1 H1 (mdW K d H0 H) (mb ρ) Q:=o1
  revert o2
  cases mb ρ with
  |ok w=>exact λo2 v G2 H2 e2 m2=>o2 v G2 H2 e2 (m2.start e1.hh)
  |ex _=>exact id
  |stuck=>exact id
 | false=>
  rw[qA6 qA5];exact o1 _ G1 H1 (Ext.refl e1.gh) (Md.sca rfl (λ_=>.bl) d)
theorem Go {ma mb:Rho->R W}(h:tM K EX d (λρ=>eE (ma ρ) (mb ρ)) σ H Q):AC (tM K EX .B ma) (tM K EX d mb) σ H Q:=by
 obtain ⟨H0,G,ρ,I,o⟩:=h;refine ⟨H0,G,ρ,I,Out.bind o λx G1 H1 u e1 m1 o1=>?_⟩;cases u <;> first|exact o1.elim|skip
 rename_i b
 refine ⟨b,m1.blB,?_⟩;cases b with
 | false=>
  rw[qA6 qA5];refine ⟨H0,G1,ρ,I.ext e1,?_⟩;have o2:Out EX G1 H1 (mdW K d H0 H) (mb ρ) Q:=o1
  revert o2
  cases mb ρ with
  |ok w=>exact λo2 v G2 H2 e2 m2=>o2 v G2 H2 e2 (m2.start e1.hh)
  |ex _=>exact id
  |stuck=>exact id
 | true=>
  rw[qA4 rfl];exact o1 _ G1 H1 (Ext.refl e1.gh) (Md.sca rfl (λ_=>.bl) d)
theorem EK {ma:Rho->R W}(h:tM K EX d (λρ=>jh (ma ρ)) σ H Q):wo (tM K EX .B ma) σ H Q:=by
 obtain ⟨H0,G,ρ,I,o⟩:=h;refine ⟨H0,G,ρ,I,Out.bind o λx G1 H1 u e1 m1 o1=>?_⟩;cases u <;> first|exact o1.elim|skip
 rename_i b
 exact ⟨b,m1.blB,o1 _ G1 H1 (Ext.refl e1.gh) (Md.sca rfl (λ_=>.bl) d)⟩
theorem Out.restart {r:R W}(s:Same H H1) (o:Out EX G1 H1 (mdW K d H0 H) r Q):Out EX G1 H1 (mdW K d H0 H1) r Q:=by
 revert o
 cases r with
 |ok w=>exact λo v G2 H2 e2 m2=>o v G2 H2 e2 (m2.start s)
 |ex _=>exact id
 |stuck=>exact id
theorem c_if {mc:Rho->R Bool}{ma mb:Rho->R W}(h:tM K EX d (λρ=>mc ρ>>=λc=>if c then ma ρ else mb ρ) σ H Q):tIf (tT K EX mc) (tM K EX d ma) (tM K EX d mb) σ H Q:=by
 obtain ⟨H0,G,ρ,I,o⟩:=h;refine ⟨H0,G,ρ,I,Out.bind o λx G1 H1 u e1 m1 o1=>?_⟩;cases m1;cases x with
 |true=>exact ⟨H0,G1,ρ,I.ext e1,Out.restart e1.hh o1⟩
 |false=>exact ⟨H0,G1,ρ,I.ext e1,Out.restart e1.hh o1⟩
theorem Gq {QA:List V->Hp->Prop}(h:tA K EX d (λ_=>.ok []) σ H QA):tNil σ H QA:=by
 obtain ⟨H0,G,ρ,I,o⟩:=h;exact o [] G H (Ext.refl I.gh) .nil
theorem EN {ma:Rho->R W}{mr:Rho->R (List W)}{QA:List V->Hp->Prop}(h:tA K EX d (λρ=>ma ρ>>=λx=>mr ρ>>=λxs=>.ok (x::xs)) σ H QA):Y2 (tM K EX d ma) (tA K EX d mr) σ H QA:=by
 obtain ⟨H0,G,ρ,I,o⟩:=h;refine ⟨H0,G,ρ,I,Out.bind o λx G1 H1 u e1 m1 o1=>⟨H0,G1,ρ,I.ext e1,Out.bind o1 λxs G2 H2 us e2 m2 o2=>?_⟩⟩;refine o2 (x::xs) G2 H2 (Ext.refl e2.gh) (.cons (m1.move e2) ?_);have go:∀{ws:List W}{vs:List V},MdA K d H0 H1 G2 H2 ws vs->MdA K d H0 H G2 H2 ws vs:=λ{ws vs} q=>by
  induction q with
  |nil=>exact .nil
  |cons a _ ih=>exact .cons (a.start e1.hh) ih
 exact go m2
theorem MdA.reps {ws:List W}{vs:List V}(h:MdA K .V H0 H G1 H1 ws vs):Reps K G1 vs ws:=
 @MdA.rec K .V H0 H G1 H1 (λws vs _=>Reps K G1 vs ws) .nil (λh _ b=>.cons h b) ws vs h
theorem yx {p:Addr}{o:HO}(hG:Same G H) (hp:H p=none):Ext G H G (upd H p o):=
 ⟨Same.refl G,λb u q=>by rw[d4 (e8 q hp)];exact q,λb u q=>by rw[d4 (e8 (hG b u q) hp)];exact hG b u q,λ_ _ _ _ e=>e⟩
theorem kF {p:Addr}{o:HO}(hG:Same G H) (hp:H p=none):Ext G H (upd G p o) (upd H p o):=by
 have gp:G p=none:=hG.free hp;refine ⟨λb u q=>by rw[d4 (e8 q gp)];exact q,λb u q=>by rw[d4 (e8 q hp)];exact q,λb u q=>?_,λb u q l g=>?_⟩
 ·by_cases hb:b=p
  ·subst hb;rw[n6]at q ⊢;exact q
  ·rw[d4 hb]at q ⊢;exact hG b u q
 ·rw[d4 (e8 q hp)];exact g
theorem Out.newL {p:Addr}{vs:List V}{ws:List W}{Hs:Hp}(I:PIv K H0 G ρ σ H) (s:Same Hs H) (r:Reps K G vs ws) (hp:H p=none) (o:Out EX G H (mdW K .F H0 Hs) (.ok (.lst ws)) Q):Q (.ref p) (upd H p (.lst vs)):=
 o _ G _ (yx I.gh hp) ⟨p,vs,rfl,n6,I.gh.free hp,s.free hp,r⟩
theorem Out.newTF {p:Addr}{vs:List V}{ws:List W}{Hs:Hp}(I:PIv K H0 G ρ σ H) (r:Reps K G vs ws) (hp:H p=none) (o:Out EX G H (mdW K .F H0 Hs) (.ok (.tup ws)) Q):Q (.ref p) (upd H p (.tup vs)):=
 o _ (upd G p (.tup vs)) _ (kF I.gh hp) (.tup n6 (r.same λb u q=>by rw[d4 (e8 q (I.gh.free hp))];exact q))
def lim (n:Nat)(w:W):R W:=if n<=1000 then .ok w else .stuck
theorem Out.lim {α:Type}{n:Nat}{w:W}{md:W->α->Hp->Hp->Prop}{Q:α->Hp->Prop}(o:Out EX G H md (lim n w) Q):n<=1000/\Out EX G H md (.ok w) Q:=by
 unfold TP.lim at o;by_cases n:n<=1000
 ·rw[qA4 n]at o;exact ⟨n,o⟩
 ·rw[qA6 n]at o;exact o.elim
theorem aB {n:Nat}(h:n<=1000):n<=sizeLine:=qB8 h (by decide)
theorem Gi {ma:Rho->R (List W)}(h:tM K EX .F (λρ=>ma ρ>>=λws=>lim ws.length (.tup ws)) σ H Q):AA (tA K EX .V ma) σ H Q:=by
 obtain ⟨H0,G,ρ,I,o⟩:=h;refine ⟨H0,G,ρ,I,Out.bind o λxs G1 H1 ws e1 m1 o1=>?_⟩;obtain ⟨hl,o2⟩:=Out.lim o1;have r:=MdA.reps m1;exact ⟨by rw[r.length];exact aB hl,λp hp=>Out.newTF (I.ext e1) r hp o2⟩
theorem Gr {ma:Rho->R (List W)}(h:tM K EX .F (λρ=>ma ρ>>=λws=>lim ws.length (.lst ws)) σ H Q):AE (tA K EX .V ma) σ H Q:=by
 obtain ⟨H0,G,ρ,I,o⟩:=h;refine ⟨H0,G,ρ,I,Out.bind o λxs G1 H1 ws e1 m1 o1=>?_⟩;obtain ⟨hl,o2⟩:=Out.lim o1;have r:=MdA.reps m1;exact ⟨by rw[r.length];exact aB hl,λp hp=>Out.newL (I.ext e1) e1.hh r hp o2⟩
theorem vg {p:Addr}{o:HO}(h:H0 p=none):join H0 (upd G p o)=upd (join H0 G) p o:=by
 funext b
 by_cases hb:b=p
 ·subst hb;unfold join;rw[h];dsimp only;rw[n6,n6]
 ·rw [d4 hb];unfold join;cases H0 b with
  |none=>dsimp only;rw[d4 hb]
  |some u=>dsimp only;rw[d4 hb]
end
end TP
namespace TP
open PySem L2
inductive Fl where
 |nx (ρ:Rho)|rt (w:W)|bk (ρ:Rho)|ct (ρ:Rho)
def OutS (K:Frag) (EX:EXT) (d:Mode) (H0 G:Hp) (r:R Fl) (D:Ends):Prop:=match r with
 | .ok (.nx ρ)=>∀G' σ' H',Same G G'->PIv K H0 G' ρ σ' H'->D.nx σ' H'
 | .ok (.bk ρ)=>∀G' σ' H',Same G G'->PIv K H0 G' ρ σ' H'->D.bk σ' H'
 | .ok (.ct ρ)=>∀G' σ' H',Same G G'->PIv K H0 G' ρ σ' H'->D.ct σ' H'
 | .ok (.rt w)=>∀v G' H',Same G G'->Same G' H'->Same H0 H'->(∀a o,H0 a=some o->isL o=true->G' a=none)->Md K H0 H0 G' H' v w d->D.rt v H'
 | .ex e=>∀H',Same H0 H'->EX e H'
 | .stuck=>False
def tSt (K:Frag)(EX:EXT)(d:Mode)(m:Rho->R Fl):TS:=λD σ H=>∃H0 G ρ,PIv K H0 G ρ σ H/\OutS K EX d H0 G (m ρ) D
section
variable {K:Frag}{EX:EXT}{H0 G H G1 H1 G2 H2:Hp}{ρ:Rho}{σ:St}{d:Mode}{D:Ends}
theorem OutS.move {r:R Fl}(s:Same G G1) (o:OutS K EX d H0 G r D):OutS K EX d H0 G1 r D:=by
 cases r with
 |stuck=>exact o
 |ex e=>exact o
 | ok f=>
  cases f with
  |nx ρ'=>exact λG' σ' H' s' I'=>o G' σ' H' (s.trans s') I'
  |bk ρ'=>exact λG' σ' H' s' I'=>o G' σ' H' (s.trans s') I'
  |ct ρ'=>exact λG' σ' H' s' I'=>o G' σ' H' (s.trans s') I'
  |rt w=>exact λv G' H' s0 s1 s2 c md=>o v G' H' (s.trans s0) s1 s2 c md
theorem OutS.bind {α β:Type}{md:α->β->Hp->Hp->Prop}{m:R α}{k:α->R Fl}{Q1:β->Hp->Prop}(I:PIv K H0 G ρ σ H) (o:OutS K EX d H0 G (m>>=k) D)
  (h:∀x G1 H1 w,Ext G H G1 H1->md w x G1 H1->OutS K EX d H0 G1 (k w) D->Q1 x H1):Out EX G H md m Q1:=by
 cases m with
 |ok w=>exact λv G' H' e q=>h v G' H' w e q (OutS.move e.gg o)
 |ex e=>exact λH' s=>o H' (I.hh.trans s)
 |stuck=>exact o
def d3 (m n:Rho->R Fl):Rho->R Fl:=λρ=>m ρ>>=λf=>match f with
 | .nx ρ'=>n ρ'
 | .rt w=>.ok (.rt w)
 | .bk ρ'=>.ok (.bk ρ')
 | .ct ρ'=>.ok (.ct ρ')
theorem EL (h:tSt K EX d (λρ=>.ok (.nx ρ)) D σ H):tNext D σ H:=by
 obtain ⟨H0,G,ρ,I,o⟩:=h;exact o G σ H (Same.refl G) I
theorem Gk {m n:Rho->R Fl}(h:tSt K EX d (d3 m n) D σ H):tR (tSt K EX d m) (tSt K EX d n) D σ H:=by
 obtain ⟨H0,G,ρ,I,o⟩:=h;refine ⟨H0,G,ρ,I,?_⟩;unfold d3 at o
 revert o
 cases m ρ with
 |stuck=>exact id
 |ex e=>exact id
 | ok f=>
  cases f with
  |nx ρ'=>exact λo G' σ' H' s' I'=>⟨H0,G',ρ',I',OutS.move s' o⟩
  |_=>exact id
theorem zO (h:tSt K EX d (λ_=>.stuck) D σ H):tNever D σ H:=by
 obtain ⟨H0,G,ρ,I,o⟩:=h;exact o
theorem wR {m:Rho->R W}(h:tSt K EX d (λρ=>m ρ>>=λw=>.ok (.rt w)) D σ H):nR (tM K EX d m) D σ H:=by
 obtain ⟨H0,G,ρ,I,o⟩:=h;refine ⟨H0,G,ρ,I,OutS.bind I o λx G1 H1 w e1 m1 o1=>?_⟩;have I1:=I.ext e1;exact o1 x G1 H1 (Same.refl _) e1.gh I1.hh I1.gl (m1.start I.hh)
def r6 (d:Mode) (i:Nat):Rho->R Fl:=λρ=>match ρ[i]? with
 |some (.own ws)=>.ok (.rt (.lst ws))
 |_=>b7 d i ρ>>=λw=>.ok (.rt w)
theorem vY {i:Nat}(hd:d=.F\/d=.V) (h:tSt K EX d (r6 d i) D σ H):nR (V6 i) D σ H:=by
 obtain ⟨H0,G,ρ,I,o⟩:=h;unfold r6 at o;by_cases ho:∃ws,ρ[i]?=some (.own ws)
 ·obtain ⟨ws,e⟩:=ho;rw[e]at o;have hi:i<σ.length:=by rw[<- I.len];exact (qB0.mp e).1
  have es:σ[i]?=some σ[i]:=by simp
  obtain ⟨a,vs,ev,ha,hg,h0,r⟩:=I.sl i _ _ e es;refine ⟨.ref a,by rw[es,ev],?_⟩;rcases hd with rfl|rfl
  ·exact o _ G H (Same.refl _) I.gh I.hh I.gl ⟨a,vs,rfl,ha,hg,h0,r⟩
  ·have s1:Same G (upd G a (.lst vs)):=λb o q=>by rw[d4 (e8 q hg)];exact q
   refine o _ (upd G a (.lst vs)) H s1 (λb o q=>?_) I.hh (λb u q l=>?_) (.lst n6 (r.same s1))
   ·by_cases hb:b=a
    ·subst hb;rw[n6]at q;cases q;exact ha
    ·rw[d4 hb]at q;exact I.gh b o q
   ·rw[d4 (e8 q h0)];exact I.gl b u q l
 ·have o':OutS K EX d H0 G (b7 d i ρ>>=λw=>.ok (.rt w)) D:=by
   revert o
   split
   ·rename_i ws e;exact absurd ⟨ws,e⟩ ho
   ·exact id
  have c:nR (tM K EX d (b7 d i)) D σ H:=wR (m:=b7 d i) ⟨H0,G,ρ,I,o'⟩;exact pi c
theorem PIv.setV {i:Nat}{v:V}{w:W}(I:PIv K H0 G ρ σ H) (r:Rep K G v w):PIv K H0 G (ρ.set i (.val w)) (σ.set i (some v)) H where
 g0:=I.g0
 gl:=I.gl
 gh:=I.gh
 hh:=I.hh
 len:=by rw[qD7,qD7];exact I.len
 sl j x o h1 h2:=by
  by_cases hj:i=j
  ·subst hj;rw[qD8]at h1 h2;simp only [if_true]at h1 h2
   split at h1 <;> split at h2 <;> simp only [qG6,reduceCtorEq]at h1 h2
   subst h1;subst h2;exact ⟨v,rfl,r⟩
  ·rw[qC0 hj]at h1 h2;exact I.sl j x o h1 h2
 ne a b ws us c hab h1 h2 h3 h4:=by
  have na:i≠a:=by
   rintro rfl;rw[qD8]at h1;simp only [if_true]at h1
   split at h1 <;> simp at h1
  have nb:i≠b:=by
   rintro rfl;rw[qD8]at h2;simp only [if_true]at h2
   split at h2 <;> simp at h2
  rw[qC0 na]at h1 h3;rw[qC0 nb]at h2 h4;exact I.ne a b ws us c hab h1 h2 h3 h4
theorem PIv.setU {i:Nat}{v:V}{w:W}(I:PIv K H0 G ρ σ H) (r:Rep K (join H0 G) v w):PIv K H0 G (ρ.set i (.par w)) (σ.set i (some v)) H where
 g0:=I.g0
 gl:=I.gl
 gh:=I.gh
 hh:=I.hh
 len:=by rw[qD7,qD7];exact I.len
 sl j x o h1 h2:=by
  by_cases hj:i=j
  ·subst hj;rw[qD8]at h1 h2;simp only [if_true]at h1 h2
   split at h1 <;> split at h2 <;> simp only [qG6,reduceCtorEq]at h1 h2
   subst h1;subst h2;exact ⟨v,rfl,r⟩
  ·rw[qC0 hj]at h1 h2;exact I.sl j x o h1 h2
 ne a b ws us c hab h1 h2 h3 h4:=by
  have na:i≠a:=by
   rintro rfl;rw[qD8]at h1;simp only [if_true]at h1
   split at h1 <;> simp at h1
  have nb:i≠b:=by
   rintro rfl;rw[qD8]at h2;simp only [if_true]at h2
   split at h2 <;> simp at h2
  rw[qC0 na]at h1 h3;rw[qC0 nb]at h2 h4;exact I.ne a b ws us c hab h1 h2 h3 h4
theorem PIv.setO {i:Nat}{a:Addr}{vs:List V}{ws:List W}(I:PIv K H0 G ρ σ H) (ha:H a=some (.lst vs)) (hg:G a=none) (h0:H0 a=none) (r:Reps K G vs ws)
  (nw:∀(j:Nat) (us:List W),ρ[j]?=some (Sl.own us)->σ[j]?≠some (some (V.ref a))):PIv K H0 G (ρ.set i (.own ws)) (σ.set i (some (.ref a))) H where
 g0:=I.g0
 gl:=I.gl
 gh:=I.gh
 hh:=I.hh
 len:=by rw[qD7,qD7];exact I.len
 sl j x o h1 h2:=by
  by_cases hj:i=j
  ·subst hj;rw[qD8]at h1 h2;simp only [if_true]at h1 h2
   split at h1 <;> split at h2 <;> simp only [qG6,reduceCtorEq]at h1 h2
   subst h1;subst h2;exact ⟨a,vs,rfl,ha,hg,h0,r⟩
  ·rw[qC0 hj]at h1 h2;exact I.sl j x o h1 h2
 ne p q ws' us c hab h1 h2 h3 h4:=by
  by_cases hp:i=p
  ·subst hp;rw[qC0 hab]at h2 h4;rw[qD8]at h3;simp only [if_true]at h3
   split at h3 <;> simp only [qG6,reduceCtorEq,V.ref.injEq]at h3
   subst h3;exact nw q us h2 h4
  ·rw [qC0 hp]at h1 h3
   by_cases hq:i=q
   ·subst hq;rw[qD8]at h4;simp only [if_true]at h4
    split at h4 <;> simp only [qG6,reduceCtorEq,V.ref.injEq]at h4
    subst h4;exact nw p ws' h1 h3
   ·rw [qC0 hq]at h2 h4
    exact I.ne p q ws' us c hab h1 h2 h3 h4
def R1:W->Sl
 | .lst ws=>.own ws
 |w=>.val w
theorem EE {i:Nat}{m:Rho->R W}(h:tSt K EX d (λρ=>m ρ>>=λw=>.ok (.nx (ρ.set i (.val w)))) D σ H):bQ (tM K EX .V m) (P1 i) D σ H:=by
 obtain ⟨H0,G,ρ,I,o⟩:=h;exact ⟨H0,G,ρ,I,OutS.bind I o λx G1 H1 w e1 m1 o1=>o1 G1 _ H1 (Same.refl _) ((I.ext e1).setV m1)⟩
theorem EF {i:Nat}{m:Rho->R W}(h:tSt K EX d (λρ=>m ρ>>=λw=>.ok (.nx (ρ.set i (.par w)))) D σ H):bQ (tM K EX .U m) (P1 i) D σ H:=by
 obtain ⟨H0,G,ρ,I,o⟩:=h;exact ⟨H0,G,ρ,I,OutS.bind I o λx G1 H1 w e1 m1 o1=>o1 G1 _ H1 (Same.refl _) ((I.ext e1).setU m1)⟩
theorem sJ {i:Nat}{m:Rho->R W}(h:tSt K EX d (λρ=>m ρ>>=λw=>.ok (.nx (ρ.set i (R1 w)))) D σ H):bQ (tM K EX .F m) (P1 i) D σ H:=by
 obtain ⟨H0,G,ρ,I,o⟩:=h;refine ⟨H0,G,ρ,I,OutS.bind I o λx G1 H1 w e1 m1 o1=>?_⟩;have I1:=I.ext e1;cases w with
 | lst ws=>
  obtain ⟨a,vs,rfl,h1,h2,h3,r⟩:=m1;refine o1 G1 _ H1 (Same.refl _) (I1.setO h1 h2 (I.hh.free h3) r λj us q z=>?_);obtain ⟨b,us',eb,hb,_⟩:=I.sl j _ _ q z;cases eb;rw[h3]at hb;cases hb
 |non=>exact o1 G1 _ H1 (Same.refl _) (I1.setV m1)
 |bl _=>exact o1 G1 _ H1 (Same.refl _) (I1.setV m1)
 |int _=>exact o1 G1 _ H1 (Same.refl _) (I1.setV m1)
 |str _=>exact o1 G1 _ H1 (Same.refl _) (I1.setV m1)
 |ty _=>exact o1 G1 _ H1 (Same.refl _) (I1.setV m1)
 |tup _=>exact o1 G1 _ H1 (Same.refl _) (I1.setV m1)
 |scr _=>exact o1 G1 _ H1 (Same.refl _) (I1.setV m1)
 |exc _ _=>exact o1 G1 _ H1 (Same.refl _) (I1.setV m1)
 |cls _=>exact o1 G1 _ H1 (Same.refl _) (I1.setV m1)
instance:DecidableEq Mode:=λa b=>by cases a <;> cases b <;> first|exact isTrue rfl|exact isFalse (by intro h;cases h)
def Gt (K:Frag) (e:Mode) (g:TG) (mg:W->Rho->Option Rho):Prop:=∀(H0 Hs G:Hp) (ρ:Rho) (σ:St) (H:Hp) (v:V) (w:W) (ρ':Rho) (Q:St->Hp->Prop),PIv K H0 G ρ σ H->Md K H0 Hs G H v w e->mg w ρ=some ρ' ->
 (∀σ',PIv K H0 G ρ' σ' H->Q σ' H)->g v σ H Q
def Gts (K:Frag) (e:Mode) (g:TGs) (mg:List W->Rho->Option Rho):Prop:=∀(H0 G:Hp) (ρ:Rho) (σ:St) (H:Hp) (vs:List V) (ws:List W) (ρ':Rho) (Q:St->Hp->Prop),PIv K H0 G ρ σ H->Reps K (if e=.V then G else join H0 G) vs ws->mg ws ρ=some ρ' ->
 (∀σ',PIv K H0 G ρ' σ' H->Q σ' H)->g vs σ H Q
def gN (e:Mode)(i:Nat):W->Rho->Option Rho:=λw ρ=>some (ρ.set i (if e=.V then .val w else .par w))
theorem i2 {i:Nat}:Gt K .U (P1 i) (gN .U i):=λH0 Hs G ρ σ H v w ρ' Q I m e h=>by
 cases e;exact h _ (I.setU m)
def gsNil:List W->Rho->Option Rho
 | [],ρ=>some ρ
 |_,_=>none
def n4 (f:W->Rho->Option Rho) (g:List W->Rho->Option Rho):List W->Rho->Option Rho
 |w::ws,ρ=>(f w ρ).bind (g ws)
 | [],_=>none
theorem C2 {e:Mode}:Gts K e gNil gsNil:=λH0 G ρ σ H vs ws ρ' Q I r e h=>by
 cases r with
 |nil=>cases e;exact ⟨rfl,h _ I⟩
 |cons _ _=>cases e
theorem j9 {e:Mode}{t:TG}{u:TGs}{f:W->Rho->Option Rho}{g:List W->Rho->Option Rho}(he:e=.V\/e=.U) (h1:Gt K e t f) (h2:Gts K e u g):Gts K e (oQ t u) (n4 f g):=λH0 G ρ σ H vs ws ρ' Q I r q h=>by
 cases r with
 |nil=>cases q
 | cons a b=>
  unfold n4 at q;obtain ⟨ρ1,q1,q2⟩:=Option.bind_eq_some_iff.mp q;refine ⟨_,_,rfl,h1 H0 H G ρ σ H _ _ ρ1 _ I ?_ q1 λσ1 I1=>h2 H0 G ρ1 σ1 H _ _ ρ' Q I1 b q2 h⟩;rcases he with rfl|rfl
  ·exact a
  ·exact a
def gT (n:Nat) (g:List W->Rho->Option Rho):W->Rho->Option Rho
 | .tup ws,ρ=>if ws.length=n then g ws ρ else none
 |_,_=>none
theorem F8 {e:Mode}{n:Nat}{u:TGs}{g:List W->Rho->Option Rho}(he:e=.V\/e=.U) (h:Gts K e u g):Gt K e (oP K n u) (gT n g):=λH0 Hs G ρ σ H v w ρ' Q I m q k=>by
 cases w <;> first|cases q|skip
 rename_i ws
 have q':(if ws.length=n then g ws ρ else none)=some ρ':=q;by_cases hn:ws.length=n
 ·rw [qA4 hn]at q'
  rcases he with rfl|rfl
  ·obtain ⟨a,vs,e,s,r⟩:=Rep.inv m;exact ⟨a,vs,e,SqT.of (I.gh _ _ s),by rw[r.length];exact hn,h H0 G ρ σ H _ ws ρ' Q I (by rw[qA4 rfl];exact r) q' k⟩
  ·obtain ⟨a,vs,e,s,r⟩:=Rep.inv m;exact ⟨a,vs,e,SqT.of (I.join_H _ _ s),by rw[r.length];exact hn,h H0 G ρ σ H _ ws ρ' Q I (by rw[qA6 (by intro z;cases z)];exact r) q' k⟩
 ·rw[qA6 hn]at q';cases q'
def toR {α:Type}:Option α->R α
 |some a=>.ok a
 |none=>.stuck
theorem PIv.own_upd {i:Nat}{a:Addr}{vs':List V}{ws ws':List W}(I:PIv K H0 G ρ σ H) (e:ρ[i]?=some (.own ws)) (es:σ[i]?=some (some (.ref a))) (r:Reps K G vs' ws'):PIv K H0 G (ρ.set i (.own ws')) σ (upd H a (.lst vs')):=by
 obtain ⟨a',vs,ev,ha,hg,h0,_⟩:=I.sl i _ _ e es;cases ev;refine ⟨I.g0,I.gl,λb o q=>by rw[d4 (e8 q hg)];exact I.gh b o q,λb o q=>by rw[d4 (e8 q h0)];exact I.hh b o q,by rw[qD7];exact I.len,λj x o h1 h2=>?_,λp q ws1 us c hab h1 h2 h3 h4=>?_⟩
 ·by_cases hj:i=j
  ·subst hj;rw[qD8]at h1;simp only [if_true]at h1
   split at h1 <;> simp only [qG6,reduceCtorEq]at h1
   subst h1;rw[es]at h2;cases h2;exact ⟨a,vs',rfl,n6,hg,h0,r⟩
  ·rw [qC0 hj]at h1
   have:=I.sl j x o h1 h2
   cases x with
   | own us=>
    obtain ⟨b,us',eb,hb,hgb,h0b,rb⟩:=this;subst eb;have hne:b≠a:=by
     rintro rfl;exact I.ne i j ws us b hj e h1 es h2
    exact ⟨b,us',rfl,by rw[d4 hne];exact hb,hgb,h0b,rb⟩
   | dic ks=>
    obtain ⟨b,us',eb,hb,hgb,h0b,rb⟩:=this;have hne:b≠a:=by
     rintro rfl;rw[ha]at hb;cases hb
    exact ⟨b,us',eb,by rw[d4 hne];exact hb,hgb,h0b,rb⟩
   | dik ks=>
    obtain ⟨b,us',eb,hb,hgb,h0b,rb⟩:=this;have hne:b≠a:=by
     rintro rfl;rw[ha]at hb;cases hb
    exact ⟨b,us',eb,by rw[d4 hne];exact hb,hgb,h0b,rb⟩
   |un=>exact this
   |val _=>exact this
   |par _=>exact this
   |iop _ _=>exact this
   |hz _=>exact this
 ·have key:∀{k:Nat}{us:List W},(ρ.set i (.own ws'))[k]?=some (.own us)->∃us',ρ[k]?=some (.own us'):=λ{k us} hk=>by
   by_cases hik:i=k
   ·subst hik;exact ⟨ws,e⟩
   ·rw[qC0 hik]at hk;exact ⟨us,hk⟩
  obtain ⟨w1,k1⟩:=key h1;obtain ⟨w2,k2⟩:=key h2;exact I.ne p q w1 w2 c hab k1 k2 h3 h4
theorem PIv.own_at {i:Nat}{ws:List W}(I:PIv K H0 G ρ σ H) (e:ρ[i]?=some (.own ws)):∃a vs,σ[i]?=some (some (.ref a))/\H a=some (.lst vs)/\G a=none/\H0 a=none/\Reps K G vs ws:=by
 have hi:i<σ.length:=by rw[<- I.len];exact (qB0.mp e).1
 have es:σ[i]?=some σ[i]:=by simp
 obtain ⟨a,vs,ev,r⟩:=I.sl i _ _ e es;exact ⟨a,vs,by rw[es,ev],r⟩
def M7 (i:Nat) (m:Rho->R W):Rho->R Fl:=λρ=>match ρ[i]? with
 |some (.own ws)=>m ρ>>=λw=>if ws.length<1000 then .ok (.nx (ρ.set i (.own (ws ++ [w])))) else .stuck
 |_=>.stuck
theorem GA {i:Nat}{m:Rho->R W}(h:tSt K EX d (M7 i m) D σ H):cY (tU (V6 i) (tM K EX .V m)) D σ H:=by
 obtain ⟨H0,G,ρ,I,o⟩:=h;unfold M7 at o
 split at o
 ·rename_i ws e
  obtain ⟨a,vs,es,ha,hg,h0,r⟩:=I.own_at e;refine ⟨.ref a,es,a,rfl,⟨vs,ha⟩,H0,G,ρ,I,OutS.bind I o λx G1 H1 w e1 m1 o1=>?_⟩;by_cases hl:ws.length<1000
  ·rw [qA4 hl]at o1
   have h1:=e1.hh a _ ha;dsimp only;rw[h1];dsimp only;have hlen:vs.length=ws.length:=r.length;exact ⟨qB7 (by omega:vs.length<1000) (by decide),o1 G1 σ _ (Same.refl _) ((I.ext e1).own_upd e es ((r.same e1.gg).snoc m1))⟩
  ·rw[qA6 hl]at o1;exact o1.elim
 ·exact o.elim
def eO (i:Nat) (mk me:Rho->R W):Rho->R Fl:=λρ=>match ρ[i]? with
 | some (.own ws)=>me ρ>>=λw=>mk ρ>>=λk=>(match k with
  | .int k=>(match ixN ws.length k with
   |some j=>.ok (.nx (ρ.set i (.own (ws.set j w))))
   |none=>.stuck)
  |_=>.stuck)
 |_=>.stuck
theorem Gj {i:Nat}{mk me:Rho->R W}(h:tSt K EX d (eO i mk me) D σ H):bQ (tM K EX .V me) (gSub (V6 i) (tM K EX .B mk) rSetL) D σ H:=by
 obtain ⟨H0,G,ρ,I,o⟩:=h;unfold eO at o
 split at o
 ·rename_i ws e
  obtain ⟨a,vs,es,ha,hg,h0,r⟩:=I.own_at e;refine ⟨H0,G,ρ,I,OutS.bind I o λx G1 H1 w e1 m1 o1=>⟨.ref a,es,H0,G1,ρ,I.ext e1,OutS.bind (I.ext e1) o1 λy G2 H2 k e2 m2 o2=>?_⟩⟩;cases k <;> first|exact o2.elim|skip
  rename_i k
  dsimp only at o2;cases q:ixN ws.length k with
  |none=>rw[q]at o2;exact o2.elim
  | some j=>
   rw[q]at o2;refine ⟨a,vs,k,j,rfl,m2.intB,e2.hh _ _ (e1.hh _ _ ha),by rw[r.length];exact q,?_⟩;exact o2 G2 σ _ (Same.refl _) (((I.ext e1).ext e2).own_upd e es (Reps.set (Rep.same e2.gg m1) j ((r.same e1.gg).same e2.gg)))
 ·exact o.elim
def kZ (i:Nat) (f:Int->Int->Int) (m:Rho->R W):Rho->R Fl:=λρ=>b7 .B i ρ>>=λx=>m ρ>>=λy=>match x,y with
 | .int a,.int b=>.ok (.nx (ρ.set i (.val (.int (f a b)))))
 |_,_=>.stuck
theorem Gz {i:Nat}{f:Int->Int->Int}{m:Rho->R W}(h:tSt K EX d (kZ i f m) D σ H):AH i (tM K EX .B m) (ipI f) D σ H:=by
 obtain ⟨H0,G,ρ,I,o⟩:=h;unfold kZ at o;have c:tM K EX .B (b7 .B i) σ H (λx H1=>∃G1 w,Ext G H G1 H1/\Md K H0 H G1 H1 x w .B/\OutS K EX d H0 G1 (m ρ>>=λy=>match w,y with
   | .int a,.int b=>.ok (.nx (ρ.set i (.val (.int (f a b)))))
   |_,_=>.stuck) D):=⟨H0,G,ρ,I,OutS.bind I o λx G1 H1 w e1 m1 o1=>⟨G1,w,e1,m1,o1⟩⟩
 obtain ⟨v,es,G1,w,e1,m1,o1⟩:=pi c;have I1:=I.ext e1;refine ⟨v,es,H0,G1,ρ,I1,OutS.bind I1 o1 λy G2 H2 u e2 m2 o2=>?_⟩;cases w <;> first|exact o2.elim|skip
 cases u <;> first|exact o2.elim|skip
 rename_i a b
 exact ⟨a,b,m1.intB,m2.intB,o2 G2 _ H2 (Same.refl _) ((I1.ext e2).setV .int)⟩
def mIf (c:Rho->R Bool)(m n:Rho->R Fl):Rho->R Fl:=λρ=>c ρ>>=λb=>if b then m ρ else n ρ
theorem Gs {c:Rho->R Bool}{m n:Rho->R Fl}(h:tSt K EX d (mIf c m n) D σ H):tS (tT K EX c) (tSt K EX d m) (tSt K EX d n) D σ H:=by
 obtain ⟨H0,G,ρ,I,o⟩:=h;refine ⟨H0,G,ρ,I,OutS.bind I o λx G1 H1 w e1 m1 o1=>?_⟩;cases m1;cases x with
 |true=>exact ⟨H0,G1,ρ,I.ext e1,o1⟩
 |false=>exact ⟨H0,G1,ρ,I.ext e1,o1⟩
def frz (i:Nat) (ρ:Rho):Rho:=match ρ[i]? with
 |some (.own ws)=>ρ.set i (.val (.lst ws))
 |_=>ρ
theorem PIv.frz {i:Nat}(I:PIv K H0 G ρ σ H):∃G',Same G G'/\PIv K H0 G' (frz i ρ) σ H:=by
 unfold TP.frz
 split
 ·rename_i ws e
  obtain ⟨a,vs,es,ha,hg,h0,r⟩:=I.own_at e;have s1:Same G (upd G a (.lst vs)):=λb o q=>by rw[d4 (e8 q hg)];exact q
  refine ⟨upd G a (.lst vs),s1,?_⟩;have I1:PIv K H0 G (ρ.set i .un) σ H:=by
   refine ⟨I.g0,I.gl,I.gh,I.hh,by rw[qD7];exact I.len,λj x o h1 h2=>?_,λp q ws1 us c hab h1 h2 h3 h4=>?_⟩
   ·by_cases hj:i=j
    ·subst hj;rw[qD8]at h1;simp only [if_true]at h1
     split at h1 <;> simp only [qG6,reduceCtorEq]at h1
     subst h1;trivial
    ·rw[qC0 hj]at h1;exact I.sl j x o h1 h2
   ·have na:i≠p:=by
     rintro rfl;rw[qD8]at h1;simp only [if_true]at h1
     split at h1 <;> simp at h1
    have nb:i≠q:=by
     rintro rfl;rw[qD8]at h2;simp only [if_true]at h2
     split at h2 <;> simp at h2
    rw[qC0 na]at h1;rw[qC0 nb]at h2;exact I.ne p q ws1 us c hab h1 h2 h3 h4
  have I2:PIv K H0 (upd G a (.lst vs)) (ρ.set i .un) σ H:=by
   refine ⟨λb o q l=>s1 b o (I.g0 b o q l),λb o q l=>by rw[d4 (e8 q h0)];exact I.gl b o q l,λb o q=>?_,I.hh,I1.len,λj x o h1 h2=>?_,I1.ne⟩
   ·by_cases hb:b=a
    ·subst hb;rw[n6]at q;cases q;exact ha
    ·rw[d4 hb]at q;exact I.gh b o q
   ·have:=I1.sl j x o h1 h2
    cases x with
    |un=>trivial
    |val w=>obtain ⟨v,e1,r1⟩:=this;exact ⟨v,e1,r1.same s1⟩
    |par w=>obtain ⟨v,e1,r1⟩:=this;exact ⟨v,e1,r1.same (u9 s1)⟩
    | own us=>
     obtain ⟨b,us',eb,hb,hgb,h0b,rb⟩:=this;subst eb;have hij:i≠j:=by
      rintro rfl;rw[qD8]at h1;simp only [if_true]at h1
      split at h1 <;> simp at h1
     rw[qC0 hij]at h1;have hne:b≠a:=by
      rintro rfl;exact I.ne i j ws us b hij e h1 es h2
     exact ⟨b,us',rfl,hb,by rw[d4 hne];exact hgb,h0b,rb.same s1⟩
    | dic ks=>
     obtain ⟨b,us',eb,hb,hgb,h0b,rb⟩:=this;have hne:b≠a:=by
      rintro rfl;rw[ha]at hb;cases hb
     exact ⟨b,us',eb,hb,by rw[d4 hne];exact hgb,h0b,rb⟩
    | dik ks=>
     obtain ⟨b,us',eb,hb,hgb,h0b,rb⟩:=this;have hne:b≠a:=by
      rintro rfl;rw[ha]at hb;cases hb
     exact ⟨b,us',eb,hb,by rw[d4 hne];exact hgb,h0b,rb⟩
    |iop p us=>obtain ⟨e1,vs1,h1',r1⟩:=this;exact ⟨e1,vs1,h1',r1.same s1⟩
    |hz w=>obtain ⟨v,e,r⟩:=this;exact ⟨v,e,r.same (u9 (Z0 s1))⟩
  have I3:=I2.setV (i:=i) (v:=.ref a) (w:=.lst ws) (.lst n6 (r.same s1));have e3:σ.set i (some (V.ref a))=σ:=by
   apply qI5;intro j;by_cases hj:i=j
   ·subst hj;rw[es,qD8];simp only [if_true];rw[qA4 (qB0.mp es).1]
   ·rw[qC0 hj]
  rw[e3,List.set_set]at I3;exact I3
 ·exact ⟨G,Same.refl G,I⟩
theorem Gw {i:Nat}{m:Rho->R Fl}(h:tSt K EX d (λρ=>m (frz i ρ)) D σ H):tSt K EX d m D σ H:=by
 obtain ⟨H0,G,ρ,I,o⟩:=h;obtain ⟨G',s,I'⟩:=I.frz (i:=i);exact ⟨H0,G',_,I',OutS.move s o⟩
end
end TP
namespace TP
open PySem L2
section
variable {K:Frag}{EX:EXT}{H0 G H G1 H1 G2 H2:Hp}{ρ:Rho}{σ:St}{d:Mode}{D:Ends}
structure bx (K:Frag) (e:Mode) (H0 Z G:Hp) (J:It) (ws:List W):Prop where
 go:∀i H,i<ws.length->Same Z H->J.go i H
 stop:∀H,Same Z H->J.stop ws.length H
 yld:∀i H x H' w,ws[i]?=some w->Same Z H->J.yld i H x H'->∀G2 ρ σ,PIv K H0 G2 ρ σ H->Same G G2->∃G3,Ext G2 H G3 H'/\Md K H0 H G3 H' x w e
def lU (K:Frag) (EX:EXT) (lp:Bool) (e:Mode) (H0 G H:Hp) (r:R (List W)) (Rr:It->Hp->Prop):Prop:=match r with
 | .ok ws=>∀J G' H',Ext G H G' H'->bx K e H0 (if lp then join H0 G' else H') G' J ws->Rr J H'
 | .ex x=>∀H',Same H H'->EX x H'
 | .stuck=>False
def tIt (K:Frag)(EX:EXT)(lp:Bool)(e:Mode)(m:Rho->R (List W)):TI:=λσ H Rr=>∃H0 G ρ,PIv K H0 G ρ σ H/\lU K EX lp e H0 G H (m ρ) Rr
def K1 (mg:W->Rho->Option Rho) (mb:Rho->R Fl):List W->Rho->R Fl
 | [],ρ=>.ok (.nx ρ)
 | w::ws,ρ=>toR (mg w ρ)>>=λρ1=>mb ρ1>>=λf=>match f with
  | .nx ρ2=>K1 mg mb ws ρ2
  | .ct ρ2=>K1 mg mb ws ρ2
  | .bk ρ2=>.ok (.nx ρ2)
  | .rt w=>.ok (.rt w)
theorem Gx {e:Mode}{g:TG}{mg:W->Rho->Option Rho}{mi:Rho->R (List W)}{mb:Rho->R Fl}(hg:Gt K e g mg) (h:tSt K EX d (λρ=>mi ρ>>=λws=>K1 mg mb ws ρ) D σ H) :
  AF (tIt K EX true e mi) g (tSt K EX d mb) D σ H:=by
 obtain ⟨H0,G,ρ,I,o⟩:=h;refine ⟨H0,G,ρ,I,?_⟩;replace o:OutS K EX d H0 G (mi ρ>>=λws=>K1 mg mb ws ρ) D:=o
 revert o
 cases mi ρ with
 |stuck=>exact id
 |ex x=>exact λo H' s=>o H' (I.hh.trans s)
 | ok ws=>
  intro o J G1 H1 e1 T;have o1:OutS K EX d H0 G1 (K1 mg mb ws ρ) D:=OutS.move e1.gg o;refine ⟨λi m σ H=>m=ws.length-i/\i<=ws.length/\∃G2 ρ2,Same G1 G2/\PIv K H0 G2 ρ2 σ H/\OutS K EX d H0 G2 (K1 mg mb (ws.drop i) ρ2) D,⟨_,rfl,qD1 _,G1,ρ,Same.refl _,I.ext e1,o1⟩,?_⟩;rintro i m σ2 Hh ⟨rfl,hi,G2,ρ2,s2,I2,o2⟩;have hz:Same (join H0 G1) Hh:=(u9 s2).trans I2.join_H;by_cases hlt:i<ws.length
  ·refine .inr ⟨T.go i Hh hlt hz,λσ' H'=>∃G4 ρ4,Same G1 G4/\PIv K H0 G4 ρ4 σ' H'/\OutS K EX d H0 G4 (K1 mg mb (ws.drop (i+1)) ρ4) D,λσ' H' zz73=>by obtain ⟨G4,ρ4,s4,I4,o4⟩:=zz73;exact ⟨ws.length-(i+1),by omega,rfl,hlt,G4,ρ4,s4,I4,o4⟩,λx H' y=>?_⟩;obtain ⟨G3,e3,m3⟩:=T.yld i Hh x H' ws[i] (by simp) hz y G2 ρ2 σ2 I2 s2;rw[List.drop_eq_getElem_cons hlt]at o2;unfold K1 at o2;cases q:mg ws[i] ρ2 with
   |none=>rw[q]at o2;exact o2.elim
   | some ρ'=>
    rw[q]at o2;refine hg H0 Hh G3 ρ2 σ2 H' x _ ρ' _ (I2.ext e3) m3 q λσ' I'=>⟨H0,G3,ρ',I',?_⟩;have o3:OutS K EX d H0 G3 (mb ρ'>>=λf=>match f with
     | .nx ρ2=>K1 mg mb (ws.drop (i+1)) ρ2
     | .ct ρ2=>K1 mg mb (ws.drop (i+1)) ρ2
     | .bk ρ2=>.ok (.nx ρ2)
     | .rt w=>.ok (.rt w)) D:=OutS.move e3.gg o2
    revert o3
    have s3:Same G1 G3:=s2.trans e3.gg;cases mb ρ' with
    |stuck=>exact id
    |ex x=>exact id
    | ok f=>
     cases f with
     |nx ρ4=>exact λo4 G4 σ4 H4 s4 I4=>⟨G4,ρ4,s3.trans s4,I4,OutS.move s4 o4⟩
     |ct ρ4=>exact λo4 G4 σ4 H4 s4 I4=>⟨G4,ρ4,s3.trans s4,I4,OutS.move s4 o4⟩
     |bk ρ4=>exact id
     |rt w=>exact id
  ·have e:i=ws.length:=by omega
   subst e;refine .inl ⟨T.stop Hh hz,?_⟩;rw[List.drop_length]at o2;exact o2 G2 σ2 Hh (Same.refl _) I2
def J3 (c:Rho->R Bool) (b:Rho->R Fl):Nat->Rho->Option (R Fl)
 |0,_=>none
 | n+1,ρ=>match c ρ with
  | .ok false=>some (.ok (.nx ρ))
  | .ok true=>(match b ρ with
   | .ok (.nx ρ')=>J3 c b n ρ'
   | .ok (.ct ρ')=>J3 c b n ρ'
   | .ok (.bk ρ')=>some (.ok (.nx ρ'))
   | .ok (.rt w)=>some (.ok (.rt w))
   | .ex e=>some (.ex e)
   | .stuck=>some .stuck)
  | .ex e=>some (.ex e)
  | .stuck=>some .stuck
theorem bg {c:Rho->R Bool}{b:Rho->R Fl}:∀(n:Nat) (ρ:Rho) (r:R Fl),J3 c b n ρ=some r->∀m,n<=m->J3 c b m ρ=some r:=by
 intro n
 induction n with
 |zero=>intro ρ r h;cases h
 | succ n ih=>
  intro ρ r h m hm;obtain ⟨k,rfl⟩:∃k,m=k+1:=⟨m-1,by omega⟩;have hk:=qG4 hm;unfold J3 at h ⊢
  revert h
  cases c ρ with
  |ex e=>exact id
  |stuck=>exact id
  | ok t=>
   cases t with
   |false=>exact id
   | true=>
    cases b ρ with
    |ex e=>exact id
    |stuck=>exact id
    | ok f=>
     cases f with
     |nx ρ'=>exact λh=>ih ρ' r h k hk
     |ct ρ'=>exact λh=>ih ρ' r h k hk
     |bk ρ'=>exact id
     |rt w=>exact id
open Classical in
def O8 (c:Rho->R Bool)(b:Rho->R Fl):Rho->R Fl:=λρ=>if h:∃r n,J3 c b n ρ=some r then h.choose else .stuck
theorem iM {c:Rho->R Bool}{b:Rho->R Fl}{n:Nat}{r:R Fl}(h:J3 c b n ρ=some r):O8 c b ρ=r:=by
 unfold O8;have hx:∃r n,J3 c b n ρ=some r:=⟨r,n,h⟩;rw[dif_pos hx];obtain ⟨m,hm⟩:=hx.choose_spec;have a:=bg n ρ r h (max n m) (Nat.le_max_left _ _);have b:=bg m ρ _ hm (max n m) (Nat.le_max_right _ _);rw[a]at b;exact (Option.some.inj b).symm
theorem zN {c:Rho->R Bool}{b:Rho->R Fl}(h:tSt K EX d (O8 c b) D σ H):pY (tT K EX c) (tSt K EX d b) D σ H:=by
 obtain ⟨H0,G,ρ,I,o⟩:=h;by_cases hx:∃r n,J3 c b n ρ=some r
 ·obtain ⟨r,n,hn⟩:=hx;rw[iM hn]at o;refine ⟨λm σ2 Hh=>∃G2 ρ2,Same G G2/\PIv K H0 G2 ρ2 σ2 Hh/\J3 c b m ρ2=some r,⟨n,G,ρ,Same.refl _,I,hn⟩,?_⟩;rintro m σ2 Hh ⟨G2,ρ2,s2,I2,h2⟩;have o2:OutS K EX d H0 G2 r D:=OutS.move s2 o;refine ⟨H0,G2,ρ2,I2,?_⟩;cases m with
  |zero=>cases h2
  | succ m=>
   unfold J3 at h2
   revert h2
   cases c ρ2 with
   |stuck=>intro h2;cases h2;exact o2
   |ex x=>intro h2;cases h2;exact λH' s=>o2 H' (I2.hh.trans s)
   | ok t=>
    cases t with
    | false=>
     intro h2;cases h2;intro v G3 H3 e3 q;cases q;rw[qA6 qA5];exact o2 G3 σ2 H3 e3.gg (I2.ext e3)
    | true=>
     intro h2 v G3 H3 e3 q;cases q;rw[qA4 rfl];refine ⟨λσ' H'=>∃G4 ρ4,Same G G4/\PIv K H0 G4 ρ4 σ' H'/\J3 c b m ρ4=some r,λσ' H' zz74=>by obtain ⟨G4,ρ4,s4,I4,h4⟩:=zz74;exact ⟨m,qJ4 m,G4,ρ4,s4,I4,h4⟩,H0,G3,ρ2,I2.ext e3,?_⟩;have o3:OutS K EX d H0 G3 r D:=OutS.move e3.gg o2;have s3:Same G G3:=s2.trans e3.gg
     revert h2
     cases b ρ2 with
     |stuck=>intro h2;cases h2;exact o3
     |ex x=>intro h2;cases h2;exact o3
     | ok f=>
      cases f with
      |nx ρ4=>exact λh2 G4 σ4 H4 s4 I4=>⟨G4,ρ4,s3.trans s4,I4,h2⟩
      |ct ρ4=>exact λh2 G4 σ4 H4 s4 I4=>⟨G4,ρ4,s3.trans s4,I4,h2⟩
      |bk ρ4=>intro h2;cases h2;exact o3
      |rt w=>intro h2;cases h2;exact o3
 ·unfold O8 at o;rw[dif_neg hx]at o;exact o.elim
theorem Md.whole {v:V}{w:W}{Hs:Hp}(I:PIv K H0 G ρ σ H) (h:Md K H0 Hs G H v w .B):Rep K H v w:=by
 rcases h with h|⟨a,vs,ws,rfl,rfl,h1,r⟩
 ·exact h.same I.join_H
 ·exact .lst h1 (r.same I.gh)
theorem MdA.whole {Hs:Hp}(I:PIv K H0 G ρ σ H){ws:List W}{vs:List V}(h:MdA K .B H0 Hs G H ws vs):Reps K H vs ws:=
 @MdA.rec K .B H0 Hs G H (λws vs _=>Reps K H vs ws) .nil (λh _ b=>.cons (h.whole I) b) ws vs h
def XE (_:XK):EXT:=λ_ _=>False
def spM (K:Frag) (n:Nat) (d:Mode) (f:List W->R W):Sp:=λvs H Q E=>vs.length=n/\∃ws,Reps K H vs ws/\match f ws with
 | .ok w=>∀v G' H',Same H H'->Same G' H'->(∀a o,H a=some o->isL o=true->G' a=none)->Md K H H G' H' v w d->Q v H'
 | .ex e=>∀H',Same H H'->XE E e H'
 | .stuck=>False
def f9 (n N:Nat) (m:Rho->R Fl) (ws:List W):R W:=if ws.length=n then (m (ws.map Sl.par++List.replicate (N-n) Sl.un)>>=λf=>match f with
 | .rt w=>.ok w
 | .nx _=>.ok .non
 |_=>.stuck) else .stuck
theorem ui {n N:Nat}{m:Rho->R Fl}(ws:List W) (h:f9 n N m ws≠.stuck):ws.length=n:=by
 unfold f9 at h;by_cases e:ws.length=n
 ·exact e
 ·rw[qA6 e]at h;exact absurd rfl h
def both (G G':Hp):Hp:=λb=>match G b with
 |some o=>some o
 |none=>G' b
theorem EO {n:Nat}{f:List W->R W}{E:XK}{ma:Rho->R (List W)}{Q:VK}(hd:d=.F\/d=.V) (hf:∀ws,f ws≠.stuck->ws.length=n) (hE:∀e H,EX e H->XE E e H) (h:tM K EX d (λρ=>ma ρ>>=λws=>f ws) σ H Q) :
  eW (spM K n d f) [] E (tA K EX .B ma) σ H Q:=by
 obtain ⟨H0,G,ρ,I,o⟩:=h;refine ⟨H0,G,ρ,I,Out.bind o λxs G1 H1 ws e1 m1 o1=>?_⟩;have I1:=I.ext e1;have r:=MdA.whole I1 m1;rw[qF3];refine ⟨?_,ws,r,?_⟩
 ·rw [r.length]
  refine hf ws λz=>?_;rw[z]at o1;exact o1
 ·revert o1
  cases f ws with
  |stuck=>exact id
  |ex e=>exact λo1 H' s=>hE e H' (o1 H' s)
  | ok w=>
   intro o1 v G' H' sH gH cl md;have sB:Same G1 (both G1 G'):=λb o q=>by unfold both;rw[q]
   have sB':Same G' (both G1 G'):=λb o q=>by
    unfold both;cases q1:G1 b with
    |none=>exact q
    | some u=>
     have a1:=sH b u (I1.gh b u q1);rw[gH b o q]at a1;exact a1.symm
   have sHB:Same (both G1 G') H':=λb o q=>by
    unfold both at q;cases q1:G1 b with
    |none=>rw[q1]at q;exact gH b o q
    |some u=>rw[q1]at q;cases q;exact sH b _ (I1.gh b _ q1)
   have ex:Ext G1 H1 (both G1 G') H':=⟨sB,sH,sHB,λb o q l g=>by unfold both;rw[g];exact cl b o q l⟩;refine o1 v (both G1 G') H' ex ?_;rcases hd with rfl|rfl
   ·cases w with
    | lst us=>
     obtain ⟨a,vs,rfl,h1,h2,h3,r3⟩:=md;exact ⟨a,vs,rfl,h1,by unfold both;rw[I1.gh.free h3];exact h2,e1.hh.free h3,r3.same sB'⟩
    |non=>exact Rep.same sB' md
    |bl _=>exact Rep.same sB' md
    |int _=>exact Rep.same sB' md
    |str _=>exact Rep.same sB' md
    |ty _=>exact Rep.same sB' md
    |tup _=>exact Rep.same sB' md
    |scr _=>exact Rep.same sB' md
    |exc _ _=>exact Rep.same sB' md
    |cls _=>exact Rep.same sB' md
   ·exact Rep.same sB' md
def z9 (H:Hp):Hp:=λa=>match H a with
 |some o=>if isL o then none else some o
 |none=>none
theorem cG:join H (z9 H)=H:=by
 funext a
 unfold join z9;cases q:H a with
 |none=>rfl
 | some o=>
  dsimp only;cases isL o <;> rfl
theorem Reps.slots {vs:List V}{ws:List W}{i:Nat}{x:Sl}{o:Option V}{k k':Nat}(r:Reps K H vs ws):(ws.map Sl.par++List.replicate k Sl.un)[i]?=some x->(vs.map some++List.replicate k' none)[i]?=some o->x=.un\/∃v w,x=.par w/\o=some v/\Rep K H v w:=
 Reps.ind (P:=λvs ws=>∀i,(ws.map Sl.par++List.replicate k Sl.un)[i]?=some x->(vs.map some++List.replicate k' none)[i]?=some o->x=.un\/∃v w,x=.par w/\o=some v/\Rep K H v w) (λi h1 h2=>by
  have h1:(List.replicate k Sl.un)[i]?=some x:=h1;rw[qF6]at h1;by_cases hk:i<k
  ·rw[qA4 hk]at h1;exact .inl (Option.some.inj h1).symm
  ·rw[qA6 hk]at h1;cases h1) (λr _ b i h1 h2=>by
  cases i with
  |zero=>exact .inr ⟨_,_,(Option.some.inj h1).symm,(Option.some.inj h2).symm,r⟩
  |succ i=>exact b i h1 h2) r i
theorem PIv.begin {vs:List V}{ws:List W}{k k':Nat}(r:Reps K H vs ws) (hk:k=k'):PIv K H (z9 H) (ws.map Sl.par++List.replicate k Sl.un) (vs.map some++List.replicate k' none) H where
 g0 a o e l:=by unfold z9;rw[e];dsimp only;rw[l];rfl
 gl a o e l:=by unfold z9;rw[e];dsimp only;rw[l];rfl
 gh a o e:=by
  unfold z9 at e;cases q:H a with
  |none=>rw[q]at e;cases e
  | some u=>
   rw[q]at e;dsimp only at e;cases hl:isL u
   ·rw[hl]at e;exact e
   ·rw[hl]at e;cases e
 hh:=Same.refl H
 len:=by subst hk;simp [r.length]
 sl i x o h1 h2:=by
  rcases Reps.slots r h1 h2 with rfl|⟨v,w,rfl,rfl,q⟩
  ·trivial
  ·exact ⟨v,rfl,by rw[cG];exact q⟩
 ne i j us xs a hij h1 _ _ _:=by
  have:∀(i:Nat) (us:List W),(ws.map Sl.par++List.replicate k Sl.un)[i]?≠some (Sl.own us):=λi us q=>by
   rw[List.getElem?_append]at q
   split at q
   ·rw [qA8]at q
    cases hh:ws[i]? <;> rw[hh]at q <;> cases q
   ·rw [qF6]at q
    split at q <;> cases q
  exact absurd h1 (this i us)
theorem EQ {n:Nat}{Nl:List Str}{m:Rho->R Fl}{vs:List V}{Q:VK}{E:XK}(hd:d=.F\/d=.V) (h:spM K n d (f9 n Nl.length m) vs H Q E):tSt K (λ_ _=>False) d m { nx:=λ_ H'=>Q .non H',rt:=Q } (L2.start Nl vs) H:=by
 obtain ⟨hl,ws,r,o⟩:=h;have hw:ws.length=n:=by rw[<- r.length];exact hl
 unfold f9 at o;rw[qA4 hw]at o;refine ⟨H,z9 H,_,PIv.begin (k:=Nl.length-n) r (by rw[hl]),?_⟩
 revert o
 cases m (ws.map Sl.par++List.replicate (Nl.length-n) Sl.un) with
 |stuck=>exact id
 |ex e=>exact λo=>(o H (Same.refl H)).elim
 | ok f=>
  cases f with
  |nx ρ'=>exact λo G' σ' H' s' I'=>o .non G' H' I'.hh I'.gh I'.gl (Md.sca rfl (λ_=>.non) d)
  |rt w=>exact λo v G' H' _ s1 s2 c md=>o v G' H' s2 s1 c md
  |bk _=>exact λo=>o.elim
  |ct _=>exact λo=>o.elim
end
end TP
namespace TP
open PySem L2
section
variable {K:Frag}{EX:EXT}{H0 G H G1 H1 G2 H2:Hp}{ρ:Rho}{σ:St}{d:Mode}{D:Ends}
def elR (mg:W->Rho->Option Rho) (mc:Rho->R Bool) (me:Rho->R W) (ρ:Rho) (w:W):R (Option W):=match mg w ρ with
 |none=>.stuck
 | some ρ1=>(match mc ρ1 with
  | .ok true=>(match me ρ1 with
   | .ok y=>.ok (some y)
   |_=>.stuck)
  | .ok false=>.ok none
  |_=>.stuck)
def mapR (f:W->R (Option W)):List W->R (List W)
 | []=>.ok []
 | w::ws=>match f w,mapR f ws with
  | .ok (some y),.ok ys=>.ok (y::ys)
  | .ok none,.ok ys=>.ok ys
  |_,_=>.stuck
def l6 (N':Nat) (mg:W->Rho->Option Rho) (mc:Rho->R Bool) (me:Rho->R W) (ws:List W) (ρ:Rho):R W:=
 if ws.length<=1000 then (match mapR (elR mg mc me (ρ++List.replicate (N'-ρ.length) Sl.un)) ws with
  | .ok ys=>.ok (.lst ys)
  |_=>.stuck) else .stuck
theorem yI {f:W->R (Option W)}:∀{ws ys:List W},mapR f ws=.ok ys->(∀w∈ws,∃o,f w=.ok o)/\ys=ws.filterMap λw=>match f w with
  | .ok o=>o
  |_=>none:=by
 intro ws
 induction ws with
 |nil=>intro ys h;cases h;exact ⟨by simp,rfl⟩
 | cons w ws ih=>
  intro ys h;unfold mapR at h;cases hf:f w with
  |stuck=>rw[hf]at h;cases h
  |ex e=>rw[hf]at h;cases h
  | ok o=>
   rw[hf]at h;cases hm:mapR f ws with
   |stuck=>rw[hm]at h;cases o <;> cases h
   |ex e=>rw[hm]at h;cases o <;> cases h
   | ok zs=>
    rw[hm]at h;obtain ⟨h1,h2⟩:=ih hm;refine ⟨λu hu=>?_,?_⟩
    ·rcases qB3.mp hu with rfl|hu
     ·exact ⟨o,hf⟩
     ·exact h1 u hu
    ·cases o with
     |none=>cases h;rw[qH3,hf];exact h2
     |some y=>cases h;rw[qH3,hf,h2]
theorem PIv.inner {N':List Str}(I:PIv K H0 G ρ σ H):PIv K H0 G (ρ++List.replicate (N'.length-ρ.length) Sl.un) (inner N' σ) H:=by
 have hl:=I.len;unfold L2.inner;rw[hl];refine ⟨I.g0,I.gl,I.gh,I.hh,by simp [hl],λi x o h1 h2=>?_,λp q ws us c hab h1 h2 h3 h4=>?_⟩
 ·by_cases hi:i<ρ.length
  ·rw [qE0 hi]at h1
   rw[qE0 (by omega)]at h2;exact I.sl i x o h1 h2
  ·rw [qG3 (by omega),qF6]at h1
   split at h1 <;> simp only [qG6,reduceCtorEq]at h1
   subst h1;trivial
 ·have key:∀{k:Nat}{us:List W},(ρ++List.replicate (N'.length-σ.length) Sl.un)[k]?=some (Sl.own us)->k<ρ.length/\ρ[k]?=some (Sl.own us):=λ{k us} hk=>by
   by_cases hi:k<ρ.length
   ·rw[qE0 hi]at hk;exact ⟨hi,hk⟩
   ·rw [qG3 (by omega),qF6]at hk
    split at hk <;> simp at hk
  obtain ⟨l1,k1⟩:=key h1;obtain ⟨l2,k2⟩:=key h2;rw[qE0 (by omega)]at h3 h4;exact I.ne p q ws us c hab k1 k2 h3 h4
open Classical in
def rest (G H:Hp)(Dd:Addr)(H':Hp):Hp:=λb=>if b=Dd\/∃o,H b=some o/\isL o=true/\G b=none then none else H' b
theorem C8 {Dd b:Addr}{H':Hp}(h:b=Dd\/∃o,H b=some o/\isL o=true/\G b=none):rest G H Dd H' b=none:=by unfold rest;rw[qA4 h]
theorem Y7 {Dd b:Addr}{H':Hp}(h:¬ (b=Dd\/∃o,H b=some o/\isL o=true/\G b=none)):rest G H Dd H' b=H' b:=by unfold rest;rw[qA6 h]
theorem mI {Dd b:Addr}{H':Hp}{o:HO}(h:rest G H Dd H' b=some o):H' b=some o/\¬ (b=Dd\/∃o,H b=some o/\isL o=true/\G b=none):=by
 by_cases c:b=Dd\/∃o,H b=some o/\isL o=true/\G b=none
 ·rw[C8 c]at h;cases h
 ·rw[Y7 c]at h;exact ⟨h,c⟩
theorem PIv.rest {Dd:Addr}{H':Hp}(I:PIv K H0 G ρ σ H) (hD:H Dd=none) (s:Same H H'):Same G (rest G H Dd H')/\PIv K H0 (rest G H Dd H') ρ σ H':=by
 have sG:Same G (TP.rest G H Dd H'):=λb o q=>by
  rw[Y7]
  ·exact s b o (I.gh b o q)
  ·rintro (rfl|⟨u,h1,h2,h3⟩)
   ·rw[I.gh _ _ q]at hD;cases hD
   ·rw[q]at h3;cases h3
 refine ⟨sG,λa o e l=>sG a o (I.g0 a o e l),λa o e l=>C8 (.inr ⟨o,I.hh a o e,l,I.gl a o e l⟩),λb o q=>(mI q).1,I.hh.trans s,I.len,λi x o h1 h2=>?_,I.ne⟩
 have:=I.sl i x o h1 h2
 cases x with
 |un=>trivial
 |val w=>obtain ⟨v,e,r⟩:=this;exact ⟨v,e,r.same sG⟩
 |par w=>obtain ⟨v,e,r⟩:=this;exact ⟨v,e,r.same (u9 sG)⟩
 | own ws=>
  obtain ⟨a,vs,e,h,g,h0,r⟩:=this;exact ⟨a,vs,e,s a _ h,C8 (.inr ⟨_,h,rfl,g⟩),h0,r.same sG⟩
 | dic ks=>
  obtain ⟨a,vs,e,h,g,h0,r⟩:=this;exact ⟨a,vs,e,s a _ h,C8 (.inr ⟨_,h,rfl,g⟩),h0,r⟩
 | dik ks=>
  obtain ⟨a,vs,e,h,g,h0,r⟩:=this;exact ⟨a,vs,e,s a _ h,C8 (.inr ⟨_,h,rfl,g⟩),h0,r⟩
 |iop p ws=>obtain ⟨e1,vs1,h1',r1⟩:=this;exact ⟨e1,vs1,h1',r1.same sG⟩
 |hz w=>obtain ⟨v,e,r⟩:=this;exact ⟨v,e,r.same (u9 (Z0 sG))⟩
theorem ca {Dd:Addr}{Ha Hb:Hp}(s:∀b o,b≠Dd->Ha b=some o->Hb b=some o):Same (rest G H Dd Ha) (rest G H Dd Hb):=λb o q=>by
 obtain ⟨h,c⟩:=mI q;rw[Y7 c];exact s b o (λz=>c (.inl z)) h
theorem uu {Dd:Addr}{Ha Hb G':Hp}(hl:∃ys,Ha Dd=some (.lst ys)) (s:Same H Ha) (e:Ext (rest G H Dd Ha) Ha G' Hb):Same G' (rest G H Dd Hb):=λb o q=>by
 rw[Y7]
 ·exact e.gh b o q
 ·rintro (rfl|⟨u,h1,h2,h3⟩)
  ·obtain ⟨ys,hl⟩:=hl;rw[e.keep _ _ hl rfl (C8 (.inl rfl))]at q;cases q
  ·rw[e.keep _ _ (s _ _ h1) h2 (C8 (.inr ⟨u,h1,h2,h3⟩))]at q;cases q
theorem sL {Q:VK}{e:Mode}{N':List Str}{g:TG}{mg:W->Rho->Option Rho}{mi:Rho->R (List W)}{mc:Rho->R Bool}{me:Rho->R W}(hg:Gt K e g mg) (h:tM K EX .F (λρ=>mi ρ>>=λws=>l6 N'.length mg mc me ws ρ) σ H Q) :
  nS N' (tIt K EX false e mi) g (tT K EX mc) (tM K EX .V me) σ H Q:=by
 obtain ⟨H0,G,ρ,I,o⟩:=h;refine ⟨H0,G,ρ,I,?_⟩;replace o:Out EX G H (mdW K .F H0 H) (mi ρ>>=λws=>l6 N'.length mg mc me ws ρ) Q:=o
 revert o
 cases mi ρ with
 |stuck=>exact id
 |ex x=>exact id
 | ok ws=>
  intro o J G1 H1 e1 T Dd hD;have I1:=I.ext e1;replace o:Out EX G H (mdW K .F H0 H) (l6 N'.length mg mc me ws ρ) Q:=o
  unfold l6 at o;by_cases hlen:ws.length<=1000
  ·rw [qA4 hlen]at o
   cases hm:mapR (elR mg mc me (ρ++List.replicate (N'.length-ρ.length) Sl.un)) ws with
   |stuck=>rw[hm]at o;exact o.elim
   |ex x=>rw[hm]at o;exact o.elim
   | ok ys=>
    rw[hm]at o;obtain ⟨hall,hys⟩:=yI hm;have T':bx K e H0 H1 G1 J ws:=by
     have:=T
     rw[qA6 qA5]at this;exact this
    generalize hρ:ρ++List.replicate (N'.length-ρ.length) Sl.un=ρi at hm hall hys
    refine ⟨λi m H2=>m=ws.length-i/\i<=ws.length/\Same H1 H2/\∃vs,H2 Dd=some (.lst vs)/\vs.length<=i/\Reps K (rest G1 H1 Dd H2) vs ((ws.take i).filterMap λw=>match elR mg mc me ρi w with
     | .ok o=>o
     |_=>none),⟨_,rfl,qD1 _,λb u q=>by rw[d4 (e8 q hD)];exact q,[],n6,qB9 _,.nil⟩,?_⟩
    rintro i m H2 ⟨rfl,hi,s2,vs,hDv,hvl,r2⟩;by_cases hlt:i<ws.length
    ·refine .inr ⟨T'.go i H2 hlt s2,λx H3 y=>?_⟩;obtain ⟨sG,I2⟩:=I1.rest (Dd:=Dd) hD s2;have I2i:=I2.inner (N':=N');obtain ⟨G3,e3,m3⟩:=T'.yld i H2 x H3 ws[i] (by simp) s2 y _ _ _ I2i sG;obtain ⟨op,hop⟩:=hall ws[i] (qF0 hlt);have hop':=hop;unfold elR at hop;rw[<- hρ]at hop;have htake:ws.take (i+1)=ws.take i ++ [ws[i]]:=by rw[List.take_succ_eq_append_getElem hlt]
     cases q:mg ws[i] (ρ++List.replicate (N'.length-ρ.length) Sl.un) with
     |none=>rw[q]at hop;cases hop
     | some ρ1=>
      rw[q]at hop;dsimp only at hop;refine hg H0 H2 G3 _ _ H3 x _ ρ1 _ (I2i.ext e3) m3 q λσ4 I4=>⟨H0,G3,ρ1,I4,?_⟩;cases hc:mc ρ1 with
      |stuck=>rw[hc]at hop;cases hop
      |ex x=>rw[hc]at hop;cases hop
      | ok b=>
       intro b' G5 H5 e5 eb;cases eb;rw[hc]at hop;cases b with
       | false=>
        rw[qA6 qA5];have hop2:op=none:=by cases hop;rfl
        have s5:Same H2 H5:=e3.hh.trans e5.hh;refine ⟨ws.length-(i+1),by omega,rfl,hlt,s2.trans s5,vs,s5 _ _ hDv,by omega,?_⟩;rw[htake,List.filterMap_append]
        have:([ws[i]].filterMap λw=>match elR mg mc me ρi w with
         | .ok o=>o
         |_=>none) = []:=by
         rw[qH3,hop',hop2];rfl
        rw[this,qF3];exact r2.same (ca λb o _ q=>s5 b o q)
       | true=>
        dsimp only at hop;rw[qA4 rfl];refine ⟨H0,G5,ρ1,I4.ext e5,?_⟩;cases hme:me ρ1 with
        |stuck=>rw[hme]at hop;cases hop
        |ex x=>rw[hme]at hop;cases hop
        | ok z=>
         rw[hme]at hop;have hop2:op=some z:=by cases hop;rfl
         intro yv G6 H6 e6 m6;have e36:Ext (TP.rest G1 H1 Dd H2) H2 G6 H6:=(e3.trans e5).trans e6;have s6:Same H2 H6:=e36.hh;refine ⟨vs,s6 _ _ hDv,qG0 hvl (qB7 (by omega:i<1000) (by decide)),ws.length-(i+1),by omega,rfl,hlt,λb u q=>by rw[d4 (e8 q hD)];exact s6 b u (s2 b u q),vs ++ [yv],n6,by rw[qC3];simp;omega,?_⟩;rw[htake,List.filterMap_append]
         have:([ws[i]].filterMap λw=>match elR mg mc me ρi w with
          | .ok o=>o
          |_=>none) = [z]:=by
          rw[qH3,hop',hop2];rfl
         rw[this];have k1:Same (TP.rest G1 H1 Dd H2) (TP.rest G1 H1 Dd (upd H6 Dd (.lst (vs ++ [yv])))):=ca λb o hb q=>by rw[d4 hb];exact s6 b o q
         have k2:Same G6 (TP.rest G1 H1 Dd (upd H6 Dd (.lst (vs ++ [yv])))):=(uu ⟨vs,hDv⟩ s2 e36).trans (ca λb o hb q=>by rw[d4 hb];exact q);exact (r2.same k1).snoc (Rep.same k2 m6)
    ·have ei:i=ws.length:=by omega
     subst ei;refine .inl ⟨T'.stop H2 s2,?_⟩;rw[qG2,<- hys]at r2;obtain ⟨sG,I2⟩:=I1.rest (Dd:=Dd) hD s2;refine o _ (TP.rest G1 H1 Dd H2) H2 ⟨e1.gg.trans sG,e1.hh.trans s2,I2.gh,λb u q l g=>C8 (.inr ⟨u,e1.hh b u q,l,e1.keep b u q l g⟩)⟩ ⟨Dd,vs,rfl,hDv,C8 (.inl rfl),e1.hh.free hD,r2⟩
  ·rw[qA6 hlen]at o;exact o.elim
def A3:W->R (List W)
 | .lst ws=>.ok ws
 | .tup ws=>.ok ws
 | .scr ws=>.ok ws
 |_=>.stuck
theorem G0 {t:Bool}{a:Addr}{xs:List V}(e:Same H H1) (h:Sq K H t a xs):Sq K H1 t a xs:=by
 unfold Sq at h ⊢
 split at h
 ·rename_i ht;rw[qA4 ht];exact tY e h
 ·rename_i ht;rw[qA6 ht];exact Same.seq e h
theorem sqT {a:Addr}{xs:List V}(h:SqT K H a xs):Sq K H true a xs:=by unfold Sq;rw[qA4 rfl];exact h
theorem sqL {a:Addr}{xs:List V}(h:SqL K H a xs):Sq K H false a xs:=by unfold Sq;rw[qA6 qA5];exact h
theorem Rep.sq {F:Hp}{x:V}{w:W}{ws:List W}(h:Rep K F x w) (hw:A3 w=.ok ws):∃t a vs,x=.ref a/\Sq K F t a vs/\Reps K F vs ws:=by
 cases w <;> first | (cases hw;done)|skip
 ·obtain ⟨a,vs,e,s,r⟩:=h.inv;exact ⟨true,a,vs,e,sqT (SqT.of s),R.ok.inj hw ▸ r⟩
 ·obtain ⟨a,vs,e,s,r⟩:=h.inv;exact ⟨false,a,vs,e,sqL (SqL.of s),R.ok.inj hw ▸ r⟩
 ·obtain ⟨a,vs,e,s,r⟩:=h.inv;exact ⟨false,a,vs,e,sqL s,R.ok.inj hw ▸ r⟩
def bT:Bool->Mode->Mode
 |true,e=>e
 |false,.V=>.C
 |false,_=>.B
def fz (e:Mode)(H0 G:Hp):Hp:=if e=.V then G else join H0 G
theorem Md.src {lp:Bool}{e:Mode}{Hs:Hp}{x:V}{w:W}{ws:List W}(he:e=.V\/e=.U) (I:PIv K H0 G ρ σ H) (m:Md K H0 Hs G H x w (bT lp e)) (hw:A3 w=.ok ws) :
  ∃t a vs,x=.ref a/\Sq K (if lp then join H0 G else H) t a vs/\Reps K (fz e H0 G) vs ws:=by
 unfold fz;rcases he with rfl|rfl
 ·rw [qA4 rfl]
  cases lp with
  | true=>
   obtain ⟨t,a,vs,e1,e2,e3⟩:=Rep.sq m hw;exact ⟨t,a,vs,e1,by rw[qA4 rfl];exact G0 I.G_join e2,e3⟩
  | false=>
   rw[qA6 qA5];rcases m with m|⟨a,vs,us,rfl,rfl,h1,r⟩
   ·obtain ⟨t,a,vs,e1,e2,e3⟩:=Rep.sq m hw;exact ⟨t,a,vs,e1,G0 I.gh e2,e3⟩
   ·cases hw;exact ⟨false,a,vs,rfl,sqL (SqL.of h1),r⟩
 ·rw [qA6 (show ¬ (Mode.U=Mode.V) by intro z;cases z)]
  cases lp with
  | true=>
   obtain ⟨t,a,vs,e1,e2,e3⟩:=Rep.sq m hw;exact ⟨t,a,vs,e1,by rw[qA4 rfl];exact e2,e3⟩
  | false=>
   rw[qA6 qA5];rcases m with m|⟨a,vs,us,rfl,rfl,h1,r⟩
   ·obtain ⟨t,a,vs,e1,e2,e3⟩:=Rep.sq m hw;exact ⟨t,a,vs,e1,G0 I.join_H e2,e3⟩
   ·cases hw;exact ⟨false,a,vs,rfl,sqL (SqL.of h1),r.same I.G_join⟩
theorem Md.of_fz {e:Mode}{Hs:Hp}{v:V}{w:W}(he:e=.V\/e=.U) (h:Rep K (fz e H0 G) v w):Md K H0 Hs G H v w e:=by
 unfold fz at h;rcases he with rfl|rfl
 ·rw[qA4 rfl]at h;exact h
 ·rw[qA6 (show ¬ (Mode.U=Mode.V) by intro z;cases z)]at h;exact h
theorem L3 {e:Mode}(s:Same G G1):Same (fz e H0 G) (fz e H0 G1):=by
 unfold fz
 split
 ·exact s
 ·exact u9 s
theorem yX {e:Mode}{Z:Hp}{t:Bool}{a:Addr}{vs:List V}{ws:List W}(he:e=.V\/e=.U) (s:Sq K Z t a vs) (r:Reps K (fz e H0 G) vs ws):bx K e H0 Z G (ItQ K t a) ws:=by
 have hl:=r.length;cases t with
 | true=>
  have hq:∀H,Same Z H->SqT K H a vs:=λH z=>by have:=G0 z s;unfold Sq at this;rw[qA4 rfl]at this;exact this
  refine ⟨λi H hi z=>⟨vs,vs[i]'(by omega),hq H z,by simp⟩,λH z=>⟨vs,hq H z,by omega⟩,λi H x H' w hw z zz75 G2 ρ σ I sg=>?_⟩;obtain ⟨e1,y⟩:=zz75;subst e1;have hx:=y vs (hq _ z);obtain ⟨v,hv,rv⟩:=Reps.get r hw;rw[hx]at hv;cases hv;exact ⟨G2,Ext.refl I.gh,Md.of_fz he (rv.same (L3 sg))⟩
 | false=>
  have hq:∀H,Same Z H->SqL K H a vs:=λH z=>by have:=G0 z s;unfold Sq at this;rw[qA6 qA5]at this;exact this
  refine ⟨λi H hi z=>⟨vs,vs[i]'(by omega),hq H z,by simp⟩,λH z=>⟨vs,hq H z,by omega⟩,λi H x H' w hw z zz76 G2 ρ σ I sg=>?_⟩;obtain ⟨e1,y⟩:=zz76;subst e1;have hx:=y vs (hq _ z);obtain ⟨v,hv,rv⟩:=Reps.get r hw;rw[hx]at hv;cases hv;exact ⟨G2,Ext.refl I.gh,Md.of_fz he (rv.same (L3 sg))⟩
theorem gK {lp:Bool}(I:PIv K H0 G ρ σ H):Same (if lp then join H0 G else H) H:=by
 cases lp
 ·exact Same.refl H
 ·exact I.join_H
theorem Gv {lp:Bool}{e:Mode}{ml:Rho->R W}{Rr:It->Hp->Prop}(he:e=.V\/e=.U) (h:tIt K EX lp e (λρ=>ml ρ>>=A3) σ H Rr):iSq K (tM K EX (bT lp e) ml) σ H Rr:=by
 obtain ⟨H0,G,ρ,I,o⟩:=h;refine ⟨H0,G,ρ,I,?_⟩;replace o:lU K EX lp e H0 G H (ml ρ>>=A3) Rr:=o
 revert o
 cases ml ρ with
 |stuck=>exact id
 |ex x=>exact id
 | ok w=>
  intro o x G1 H1 e1 m1;have I1:=I.ext e1;have o':lU K EX lp e H0 G H (A3 w) Rr:=o;cases q:A3 w with
  |stuck=>rw[q]at o';exact o'.elim
  |ex z=>cases w <;> cases q
  | ok ws=>
   rw[q]at o';obtain ⟨t,a,vs,ex,s,r⟩:=Md.src he I1 m1 q;exact ⟨a,ex,t,vs,G0 (gK I1) s,o' _ G1 H1 e1 (yX he s r)⟩
def O3 (lo hi:Int):R (List W):=if -1000000<=lo/\lo<=1000000 /\ -1000000<=hi/\hi<=1000000 then .ok ((List.range (hi-lo).toNat).map λk=>W.int (lo+(k:Nat))) else .stuck
def E8:List W->R (List W)
 | [.int j]=>O3 0 j
 |_=>.stuck
def rng2:List W->R (List W)
 | [.int i,.int j]=>O3 i j
 |_=>.stuck
theorem vh {e:Mode}{Z:Hp}{lo:Int}{n:Nat}(he:e=.V\/e=.U):bx K e H0 Z G (Itr lo n) ((List.range n).map λk=>W.int (lo+(k:Nat))):=by
 refine ⟨λi H hi _=>by show i<n;simpa using hi,λH _=>by simp [Itr],λi H x H' w hw _ zz77 G2 ρ σ I _=>?_⟩;obtain ⟨e1,e2⟩:=zz77;subst e1;subst e2;rw[qA8]at hw;cases q:(List.range n)[i]? with
 |none=>rw[q]at hw;cases hw
 | some k=>
  rw[q]at hw;have hk:k=i:=by
   have:=qB0.mp q
   obtain ⟨h1,h2⟩:=this;simpa using h2.symm
  subst hk;cases hw;refine ⟨G2,Ext.refl I.gh,Md.sca rfl (λ_=>.int) e⟩
theorem aO {lp:Bool}{e b:Mode}{ma:Rho->R (List W)}{k:List W->R (List W)}{Rr:It->Hp->Prop}{Q:List V->Hp->Prop}(h:tIt K EX lp e (λρ=>ma ρ>>=k) σ H Rr)
  (hq:∀H0 G ρ G1 H1 xs ws us,PIv K H0 G ρ σ H->Ext G H G1 H1->MdA K b H0 H G1 H1 ws xs->k ws=.ok us->(∀J G' H',Ext G H G' H'->bx K e H0 (if lp then join H0 G' else H') G' J us->Rr J H')->Q xs H1)
  (hx:∀ws e,k ws≠.ex e):tA K EX b ma σ H Q:=by
 obtain ⟨H0,G,ρ,I,o⟩:=h;refine ⟨H0,G,ρ,I,?_⟩;replace o:lU K EX lp e H0 G H (ma ρ>>=k) Rr:=o
 revert o
 cases ma ρ with
 |stuck=>exact id
 |ex x=>exact id
 | ok ws=>
  intro o xs G1 H1 e1 m1;have o':lU K EX lp e H0 G H (k ws) Rr:=o;cases q:k ws with
  |stuck=>rw[q]at o';exact o'.elim
  |ex z=>exact absurd q (hx ws z)
  |ok us=>rw[q]at o';exact hq H0 G ρ G1 H1 xs ws us I e1 m1 q o'
theorem xB {lo hi:Int}{us:List W}(h:O3 lo hi=.ok us):(-1000000<=lo/\lo<=1000000 /\ -1000000<=hi/\hi<=1000000)/\us=(List.range (hi-lo).toNat).map λk=>W.int (lo+(k:Nat)):=by
 unfold O3 at h
 split at h
 ·cases h;rename_i c;exact ⟨c,rfl⟩
 ·cases h
theorem uk {lo hi:Int}{e:XW}(h:O3 lo hi=.ex e):False:=by
 unfold O3 at h;by_cases c:-1000000<=lo/\lo<=1000000 /\ -1000000<=hi/\hi<=1000000
 ·rw[qA4 c]at h;cases h
 ·rw[qA6 c]at h;cases h
theorem EH {lp:Bool}{e:Mode}{ma:Rho->R (List W)}{Rr:It->Hp->Prop}(he:e=.V\/e=.U) (h:tIt K EX lp e (λρ=>ma ρ>>=E8) σ H Rr):wL (tA K EX .B ma) σ H Rr:=by
 refine aO h (λH0 G ρ G1 H1 xs ws us I e1 m1 q o=>?_) (λws e z=>?_)
 ·cases m1 with
  |nil=>cases q
  | @cons w _ _ _ a t=>
   cases t with
   |cons _ _=>first | (cases q;done) | (cases w <;> cases q)
   | nil=>
    cases w <;> first | (cases q;done)|skip
    rename_i j
    obtain ⟨c,rfl⟩:=xB (show O3 0 j=_ from q);refine ⟨j,by rw[Md.intB a],by omega,by omega,?_⟩
    have:=o (Itr 0 j.toNat) G1 H1 e1
    rw[Int.sub_zero]at this;exact this (vh he)
 ·cases ws with
  |nil=>cases z
  | cons w t=>
   cases t with
   |cons _ _=>first | (cases z;done) | (cases w <;> cases z)
   | nil=>
    cases w <;> first | (cases z;done)|skip
    exact uk (lo:=0) z
def aL:List (List W)->List (List W)
 | [xs,ys]=>xs.zipWith (λx y=>[x,y]) ys
 | [xs,ys,zs]=>(xs.zip ys).zipWith (λp z=>[p.1,p.2,z]) zs
 |_=>[]
def U6:List W->R (List (List W))
 | []=>.ok []
 | w::ws=>match A3 w,U6 ws with
  | .ok x,.ok xs=>.ok (x::xs)
  |_,_=>.stuck
def E6 (ws:List W):R (List W):=if ws.length=2\/ws.length=3 then (match U6 ws with
 | .ok xs=>.ok ((aL xs).map W.tup)
 |_=>.stuck) else .stuck
theorem gq {e:Mode}{p:Addr}{vs:List V}{ws:List W}{Hs:Hp}(he:e=.V\/e=.U) (I:PIv K H0 G ρ σ H) (hp:H p=none) (r:Reps K (fz e H0 G) vs ws):Ext G H (upd G p (.tup vs)) (upd H p (.tup vs))/\Md K H0 Hs (upd G p (.tup vs)) (upd H p (.tup vs)) (.ref p) (.tup ws) e:=by
 refine ⟨kF I.gh hp,?_⟩;have gp:G p=none:=I.gh.free hp;rcases he with rfl|rfl
 ·unfold fz at r;rw[qA4 rfl]at r;exact .tup n6 (r.same λb u q=>by rw[d4 (e8 q gp)];exact q)
 ·unfold fz at r;rw[qA6 (show ¬ (Mode.U=Mode.V) by intro z;cases z)]at r
  show Rep K (join H0 (upd G p (.tup vs))) _ _;rw[vg (I.hh.free hp)];exact .tup n6 (r.same λb u q=>by rw[d4 (e8 (I.join_H b u q) hp)];exact q)
theorem rF {e:Mode}{Z:Hp}{t u:Bool}{a b:Addr}{xs ys:List V}{us vs:List W}(he:e=.V\/e=.U) (s1:Sq K Z t a xs) (s2:Sq K Z u b ys) (r1:Reps K (fz e H0 G) xs us) (r2:Reps K (fz e H0 G) ys vs) :
  bx K e H0 Z G (ItZ K [(t,a),(u,b)]) ((us.zipWith (λx y=>[x,y]) vs).map W.tup):=by
 have Rn:=qx s1 s2;have l1:=r1.length;have l2:=r2.length;have hl:((us.zipWith (λx y=>[x,y]) vs).map W.tup).length=min xs.length ys.length:=by simp [l1,l2]
 refine ⟨λi H hi z=>Rn.go i H (by omega) z,λH z=>by rw[hl];exact Rn.stop H z,λi H x H' w hw z y G2 ρ σ I sg=>?_⟩;have hi:i<min xs.length ys.length:=by
  rw[<- hl];exact (qB0.mp hw).1
 obtain ⟨p,y1,z1,rfl,hp,rfl,hy,hz⟩:=Rn.yld i H x H' hi z y;obtain ⟨w1,e1,q1⟩:=Reps.get' r1 hy;obtain ⟨w2,e2,q2⟩:=Reps.get' r2 hz;have hw':w=.tup [w1,w2]:=by
  rw[qA8,qH7,e1,e2]at hw;cases hw;rfl
 subst hw';obtain ⟨x1,x2⟩:=gq (Hs:=H) he I hp (.cons (q1.same (L3 sg)) (.cons (q2.same (L3 sg)) .nil));exact ⟨_,x1,x2⟩
theorem rE {e:Mode}{Z:Hp}{t u v:Bool}{a b c:Addr}{xs ys zs:List V}{us vs ts:List W}(he:e=.V\/e=.U) (s1:Sq K Z t a xs) (s2:Sq K Z u b ys) (s3:Sq K Z v c zs) (r1:Reps K (fz e H0 G) xs us) (r2:Reps K (fz e H0 G) ys vs) (r3:Reps K (fz e H0 G) zs ts) :
  bx K e H0 Z G (ItZ K [(t,a),(u,b),(v,c)]) (((us.zip vs).zipWith (λp z=>[p.1,p.2,z]) ts).map W.tup):=by
 have Rn:=qw s1 s2 s3;have l1:=r1.length;have l2:=r2.length;have l3:=r3.length;have hl:(((us.zip vs).zipWith (λp z=>[p.1,p.2,z]) ts).map W.tup).length=min xs.length (min ys.length zs.length):=by simp [l1,l2,l3,Nat.min_assoc]
 refine ⟨λi H hi z=>Rn.go i H (by omega) z,λH z=>by rw[hl];exact Rn.stop H z,λi H x H' w hw z y G2 ρ σ I sg=>?_⟩;have hi:i<min xs.length (min ys.length zs.length):=by
  rw[<- hl];exact (qB0.mp hw).1
 obtain ⟨p,y1,z1,t1,rfl,hp,rfl,hy,hz,ht⟩:=Rn.yld i H x H' hi z y;obtain ⟨w1,e1,q1⟩:=Reps.get' r1 hy;obtain ⟨w2,e2,q2⟩:=Reps.get' r2 hz;obtain ⟨w3,e3,q3⟩:=Reps.get' r3 ht;have hw':w=.tup [w1,w2,w3]:=by
  rw[qA8,qH7,List.zip,qH7,e1,e2,e3]at hw;cases hw;rfl
 subst hw';obtain ⟨x1,x2⟩:=gq (Hs:=H) he I hp (.cons (q1.same (L3 sg)) (.cons (q2.same (L3 sg)) (.cons (q3.same (L3 sg)) .nil)));exact ⟨_,x1,x2⟩
theorem aS {w:W}{ws:List W}{xs:List (List W)}(h:U6 (w::ws)=.ok xs):∃y ys,A3 w=.ok y/\U6 ws=.ok ys/\xs=y::ys:=by
 unfold U6 at h;cases h1:A3 w with
 |stuck=>rw[h1]at h;cases h
 |ex _=>rw[h1]at h;cases h
 | ok y=>
  rw[h1]at h;cases h2:U6 ws with
  |stuck=>rw[h2]at h;cases h
  |ex _=>rw[h2]at h;cases h
  |ok ys=>rw[h2]at h;cases h;exact ⟨y,ys,rfl,rfl,rfl⟩
theorem Gh {lp:Bool}{e:Mode}{ma:Rho->R (List W)}{Rr:It->Hp->Prop}(he:e=.V\/e=.U) (h:tIt K EX lp e (λρ=>ma ρ>>=E6) σ H Rr):DF K (tA K EX (bT lp e) ma) σ H Rr:=by
 refine aO h (λH0 G ρ G1 H1 xs ws us I e1 m1 q o=>?_) (λws e z=>?_)
 ·have I1:=I.ext e1;unfold E6 at q
  split at q
  ·rename_i hn
   cases hs:U6 ws with
   |stuck=>rw[hs]at q;cases q
   |ex _=>rw[hs]at q;cases q
   | ok ls=>
    rw[hs]at q;cases q;cases m1 with
    |nil=>simp at hn
    | cons a1 m1=>
     cases m1 with
     |nil=>simp at hn
     | cons a2 m1=>
      obtain ⟨y1,ys,h1,hs1,rfl⟩:=aS hs;obtain ⟨y2,ys,h2,hs2,rfl⟩:=aS hs1;obtain ⟨t1,p1,v1,rfl,q1,r1⟩:=Md.src he I1 a1 h1;obtain ⟨t2,p2,v2,rfl,q2,r2⟩:=Md.src he I1 a2 h2;have k1:=G0 (gK I1) q1;have k2:=G0 (gK I1) q2;cases m1 with
      | nil=>
       cases hs2;refine ⟨[(t1,p1),(t2,p2)],rfl,.inl rfl,λu hu=>?_,o _ G1 H1 e1 (rF he q1 q2 r1 r2)⟩;simp only [qB3,qD6,or_false]at hu;rcases hu with rfl|rfl
       ·exact ⟨_,k1⟩
       ·exact ⟨_,k2⟩
      | cons a3 m1=>
       cases m1 with
       |cons _ _=>simp at hn
       | nil=>
        obtain ⟨y3,ys,h3,hs3,rfl⟩:=aS hs2;cases hs3;obtain ⟨t3,p3,v3,rfl,q3,r3⟩:=Md.src he I1 a3 h3;refine ⟨[(t1,p1),(t2,p2),(t3,p3)],rfl,.inr rfl,λu hu=>?_,o _ G1 H1 e1 (rE he q1 q2 q3 r1 r2 r3)⟩;simp only [qB3,qD6,or_false]at hu;rcases hu with rfl|rfl|rfl
        ·exact ⟨_,k1⟩
        ·exact ⟨_,k2⟩
        ·exact ⟨_,G0 (gK I1) q3⟩
  ·cases q
 ·unfold E6 at z
  split at z
  ·split at z <;> cases z
  ·cases z
end
end TP
namespace TP
open PySem L2
section
variable {K:Frag}{EX:EXT}{H0 G H G1 H1 G2 H2:Hp}{ρ:Rho}{σ:St}{d:Mode}{D:Ends}{Q:VK}
theorem Reps.atI {F:Hp}{vs:List V}{ws:List W}{i:Int}{w:W}(r:Reps K F vs ws) (h:L2.atI ws i=some w):∃v,L2.atI vs i=some v/\Rep K F v w:=by
 unfold L2.atI at h ⊢;rw[r.length];cases q:ixN ws.length i with
 |none=>rw[q]at h;cases h
 |some j=>rw[q]at h;exact Reps.get r h
def fIx:W->W->R W
 | .lst ws,.int i=>toR (L2.atI ws i)
 | .tup ws,.int i=>toR (L2.atI ws i)
 | .scr ws,.int i=>toR (L2.atI ws i)
 |_,_=>.stuck
theorem CD:Op2 K .B .U (rIx K) fIx:=by
 intro EX H0 Hs G H ρ σ Ha Hb x y u v Q I s mx my o;cases u <;> first|exact o.elim|skip
 all_goals (cases v <;> first|exact o.elim|skip)
 ·rename_i ws i
  obtain ⟨a,vs,rfl,hs,r⟩:=mx.tupB I;replace o:Out EX G H (mdW K .U H0 Hs) (toR (L2.atI ws i)) Q:=o
  cases q:L2.atI ws i with
  |none=>rw[q]at o;exact o.elim
  | some w=>
   rw[q]at o;obtain ⟨v,hv,rv⟩:=r.atI q;exact .inr (.inl ⟨a,vs,i,v,rfl,my.intB,SqT.of hs,hv,o v G H (Ext.refl I.gh) rv⟩)
 ·rename_i ws i
  obtain ⟨a,vs,rfl,hs,r⟩:=mx.lstB I;replace o:Out EX G H (mdW K .U H0 Hs) (toR (L2.atI ws i)) Q:=o
  cases q:L2.atI ws i with
  |none=>rw[q]at o;exact o.elim
  | some w=>
   rw[q]at o;obtain ⟨v,hv,rv⟩:=r.atI q;exact .inl ⟨a,vs,i,v,rfl,my.intB,SqL.of hs,hv,o v G H (Ext.refl I.gh) rv⟩
 ·rename_i ws i
  obtain ⟨a,vs,rfl,hs,r⟩:=mx.scrB I;replace o:Out EX G H (mdW K .U H0 Hs) (toR (L2.atI ws i)) Q:=o
  cases q:L2.atI ws i with
  |none=>rw[q]at o;exact o.elim
  | some w=>
   rw[q]at o;obtain ⟨v,hv,rv⟩:=r.atI q;exact .inl ⟨a,vs,i,v,rfl,my.intB,hs,hv,o v G H (Ext.refl I.gh) rv⟩
theorem CC:Op2 K .C .V (rIx K) fIx:=by
 intro EX H0 Hs G H ρ σ Ha Hb x y u v Q I s mx my o;cases u <;> first|exact o.elim|skip
 all_goals (cases v <;> first|exact o.elim|skip)
 ·rename_i ws i
  obtain ⟨a,vs,rfl,hs,r⟩:=mx.tupC I;replace o:Out EX G H (mdW K .V H0 Hs) (toR (L2.atI ws i)) Q:=o
  cases q:L2.atI ws i with
  |none=>rw[q]at o;exact o.elim
  | some w=>
   rw[q]at o;obtain ⟨v,hv,rv⟩:=r.atI q;exact .inr (.inl ⟨a,vs,i,v,rfl,Md.intB (Md.CB I my),SqT.of hs,hv,o v G H (Ext.refl I.gh) rv⟩)
 ·rename_i ws i
  obtain ⟨a,vs,rfl,hs,r⟩:=mx.lstC I;replace o:Out EX G H (mdW K .V H0 Hs) (toR (L2.atI ws i)) Q:=o
  cases q:L2.atI ws i with
  |none=>rw[q]at o;exact o.elim
  | some w=>
   rw[q]at o;obtain ⟨v,hv,rv⟩:=r.atI q;exact .inl ⟨a,vs,i,v,rfl,Md.intB (Md.CB I my),SqL.of hs,hv,o v G H (Ext.refl I.gh) rv⟩
 ·rename_i ws i
  obtain ⟨a,vs,rfl,hs,r⟩:=(Md.repC mx λ_=>W.noConfusion).inv;replace o:Out EX G H (mdW K .V H0 Hs) (toR (L2.atI ws i)) Q:=o
  cases q:L2.atI ws i with
  |none=>rw[q]at o;exact o.elim
  | some w=>
    rw[q]at o;obtain ⟨v,hv,rv⟩:=r.atI q;exact .inl ⟨_,_,i,v,rfl,Md.intB (Md.CB I my),Same.seq I.gh hs,hv,o v G H (Ext.refl I.gh) rv⟩
def bP (K:Frag)(EX:EXT)(m:Rho->R (Option Int)):TO:=λσ H Q=>∃H0 G ρ,PIv K H0 G ρ σ H/\Out EX G H (λ(b c:Option Int) _ _=>c=b) (m ρ) Q
def jm:W->R (Option Int)
 | .int i=>.ok (some i)
 |_=>.stuck
theorem vZ {Q:Option Int->Hp->Prop}(h:bP K EX (λ_=>.ok none) σ H Q):tNoPart σ H Q:=by
 obtain ⟨H0,G,ρ,I,o⟩:=h;exact o none G H (Ext.refl I.gh) rfl
theorem EJ {m:Rho->R W}{Q:Option Int->Hp->Prop}(h:bP K EX (λρ=>m ρ>>=jm) σ H Q):wn (tM K EX .B m) σ H Q:=by
 obtain ⟨H0,G,ρ,I,o⟩:=h;refine ⟨H0,G,ρ,I,Out.bind o λx G1 H1 u e1 m1 o1=>?_⟩;cases u <;> first|exact o1.elim|skip
 rename_i i
 exact ⟨i,m1.intB,o1 _ G1 H1 (Ext.refl e1.gh) rfl⟩
def N4 (xs:List W)(lo hi:Option Int):List W:=(xs.drop (HT.sIx xs.length 0 lo)).take (HT.sIx xs.length xs.length hi-HT.sIx xs.length 0 lo)
theorem Reps.cut {F:Hp}{vs:List V}{ws:List W}(r:Reps K F vs ws) (lo hi:Option Int):Reps K F (ig vs lo hi) (N4 ws lo hi):=by
 unfold ig N4;rw[r.length];exact (r.drop _).take _
def lstOf:W->Option (List W)
 | .lst ws=>some ws
 | .scr ws=>some ws
 |_=>none
def chks (c:Bool)(ws:List W):R W:=if c||m5 ws then .ok (.lst ws) else .stuck
def cb (c:Bool):Mode:=if c then .C else .B
theorem Md.lstOf {c:Bool}{Ha:Hp}{x:V}{w:W}{ws:List W}(I:PIv K H0 G ρ σ H) (m:Md K H0 Ha G H x w (cb c)) (h:lstOf w=some ws):∃a vs,x=.ref a/\SqL K H a vs/\Reps K (if c then G else join H0 G) vs ws:=by
 cases c with
 | true=>
  rw[qA4 rfl];cases w <;> first|cases h|skip
  ·obtain ⟨a,vs,e,hs,r⟩:=Md.lstC (H:=Ha) I m;exact ⟨a,vs,e,SqL.of hs,r⟩
  ·obtain ⟨a,vs,e,hs,r⟩:=(Md.repC m λ_=>W.noConfusion).inv;exact ⟨a,vs,e,Same.seq I.gh hs,r⟩
 | false=>
  rw[qA6 qA5];cases w <;> first|cases h|skip
  ·obtain ⟨a,vs,e,hs,r⟩:=Md.lstB (H:=Ha) I m;exact ⟨a,vs,e,SqL.of hs,r⟩
  ·exact Md.scrB (H:=Ha) I m
theorem Out.chks {c:Bool}{Hs:Hp}{vs:List V}{ws:List W}(I:PIv K H0 G ρ σ H) (s:Same Hs H) (r:Reps K (if c then G else join H0 G) vs ws) (o:Out EX G H (mdW K .F H0 Hs) (chks c ws) Q):∀p,H p=none->Q (.ref p) (upd H p (.lst vs)):=by
 unfold TP.chks at o;by_cases n:(c||m5 ws)=true
 ·rw [qA4 n]at o
  have r':Reps K G vs ws:=by
   cases c with
   |true=>rw[qA4 rfl]at r;exact r
   |false=>rw[qA6 qA5]at r;exact Reps.clean I r (by simpa using n)
  exact λp hp=>Out.newL I s r' hp o
 ·rw[qA6 n]at o;exact o.elim
theorem c_sl {c:Bool}{m:Rho->R W}{ml mh:Rho->R (Option Int)}(h:tM K EX .F (λρ=>m ρ>>=λx=>ml ρ>>=λl=>mh ρ>>=λu=>toR (lstOf x)>>=λws=>chks c (N4 ws l u)) σ H Q) :
  tSl (BI K) (tM K EX (cb c) m) (bP K EX ml) (bP K EX mh) σ H Q:=by
 obtain ⟨H0,G,ρ,I,o⟩:=h;refine ⟨H0,G,ρ,I,Out.bind o λx G1 H1 w e1 m1 o1=>⟨H0,G1,ρ,I.ext e1,Out.bind o1 λl' G2 H2 l e2 m2 o2=>⟨H0,G2,ρ,(I.ext e1).ext e2,Out.bind o2 λu' G3 H3 u e3 m3 o3=>?_⟩⟩⟩;subst m2;subst m3;have I3:=((I.ext e1).ext e2).ext e3;cases q:lstOf w with
 |none=>rw[q]at o3;exact o3.elim
 | some ws=>
  rw[q]at o3;obtain ⟨a,vs,ex,hs,r⟩:=Md.lstOf I3 ((m1.move e2).move e3) q;refine ⟨a,vs,ex,hs,Out.chks I3 ((e1.hh.trans e2.hh).trans e3.hh) (c:=c) ?_ o3⟩;cases c with
  |true=>rw[qA4 rfl]at r ⊢;exact r.cut _ _
  |false=>rw[qA6 qA5]at r ⊢;exact r.cut _ _
def Cal (K:Frag) (b d:Mode) (r:List V->Hp->VK->Prop) (f:List W->R W):Prop:=∀(EX:EXT) (H0 Hs G H:Hp) (ρ:Rho) (σ:St) (Ha:Hp) (vs:List V) (ws:List W) (Q:VK),PIv K H0 G ρ σ H->Same Hs H->MdA K b H0 Ha G H ws vs ->
 Out EX G H (mdW K d H0 Hs) (f ws) Q->r vs H Q
theorem wa {b:Mode}{r:List V->Hp->VK->Prop}{f:List W->R W}{ma:Rho->R (List W)}(hr:Cal K b d r f) (h:tM K EX d (λρ=>ma ρ>>=λws=>f ws) σ H Q):tCB r (tA K EX b ma) σ H Q:=by
 obtain ⟨H0,G,ρ,I,o⟩:=h;exact ⟨H0,G,ρ,I,Out.bind o λxs G1 H1 ws e1 m1 o1=>hr EX H0 H G1 H1 ρ σ H xs ws Q (I.ext e1) e1.hh m1 o1⟩
def fLen:List W->R W
 | [w]=>A3 w>>=λws=>.ok (.int ws.length)
 |_=>.stuck
theorem v6:Cal K .B d (λxs H Q=>∃p ys,xs = [.ref p]/\(SqL K H p ys\/SqT K H p ys)/\Q (.int ys.length) H) fLen:=by
 intro EX H0 Hs G H ρ σ Ha vs ws Q I s m o;cases m with
 |nil=>exact o.elim
 | cons a t=>
  cases t with
  |cons _ _=>exact o.elim
  | nil=>
   rename_i w v
   cases w <;> first|exact o.elim|skip
   ·obtain ⟨p,ys,rfl,hs,r⟩:=a.tupB I;exact ⟨p,ys,rfl,.inr (SqT.of hs),by rw[r.length];exact o _ G H (Ext.refl I.gh) (Md.sca rfl (λ_=>.int) d)⟩
   ·obtain ⟨p,ys,rfl,hs,r⟩:=a.lstB I;exact ⟨p,ys,rfl,.inl (SqL.of hs),by rw[r.length];exact o _ G H (Ext.refl I.gh) (Md.sca rfl (λ_=>.int) d)⟩
   ·obtain ⟨p,ys,rfl,hs,r⟩:=a.scrB I;exact ⟨p,ys,rfl,.inl hs,by rw[r.length];exact o _ G H (Ext.refl I.gh) (Md.sca rfl (λ_=>.int) d)⟩
def fK (c:Bool):List W->R W
 | [w]=>A3 w>>=chks c
 |_=>.stuck
theorem sR {c:Bool}:Cal K (cb c) .F (λxs H Q=>∃p ys,xs = [.ref p]/\(SqL K H p ys\/SqT K H p ys)/\∀l,H l=none->Q (.ref l) (upd H l (.lst ys))) (fK c):=by
 intro EX H0 Hs G H ρ σ Ha vs ws Q I s m o;cases m with
 |nil=>exact o.elim
 | cons a t=>
  cases t with
  |cons _ _=>exact o.elim
  | nil=>
   rename_i w v
   cases w <;> first|exact o.elim|skip
   ·rename_i us
    cases c with
    | true=>
     obtain ⟨p,ys,rfl,hs,r⟩:=Md.tupC (H:=Ha) I a;exact ⟨p,ys,rfl,.inr (SqT.of hs),Out.chks (c:=true) I s r o⟩
    | false=>
     obtain ⟨p,ys,rfl,hs,r⟩:=Md.tupB (H:=Ha) I a;exact ⟨p,ys,rfl,.inr (SqT.of hs),Out.chks (c:=false) I s r o⟩
   ·obtain ⟨p,ys,rfl,hs,r⟩:=Md.lstOf I a rfl;exact ⟨p,ys,rfl,.inl hs,Out.chks I s r o⟩
   ·obtain ⟨p,ys,rfl,hs,r⟩:=Md.lstOf I a rfl;exact ⟨p,ys,rfl,.inl hs,Out.chks I s r o⟩
def X8 (c:Bool)(ws:List W):R W:=if c||m5 ws then .ok (.tup ws) else .stuck
def A7 (c:Bool):List W->R W
 | [w]=>A3 w>>=X8 c
 |_=>.stuck
theorem A9 {c:Bool}:Cal K (cb c) .F (λxs H Q=>∃p ys,xs = [.ref p]/\((SqL K H p ys/\∀l,H l=none->Q (.ref l) (upd H l (.tup ys)))\/(SqT K H p ys/\Q (.ref p) H))) (A7 c):=by
 intro EX H0 Hs G H ρ σ Ha vs ws Q I s m o;have key:∀{vs:List V}{us:List W},Reps K (if c then G else join H0 G) vs us->Out EX G H (mdW K .F H0 Hs) (X8 c us) Q->Reps K G vs us/\Out EX G H (mdW K .F H0 Hs) (.ok (.tup us)) Q:=λ{vs us} r o=>by
  unfold X8 at o;by_cases n:(c||m5 us)=true
  ·rw [qA4 n]at o
   refine ⟨?_,o⟩;cases c with
   |true=>rw[qA4 rfl]at r;exact r
   |false=>rw[qA6 qA5]at r;exact Reps.clean I r (by simpa using n)
  ·rw[qA6 n]at o;exact o.elim
 cases m with
 |nil=>exact o.elim
 | cons a t=>
  cases t with
  |cons _ _=>exact o.elim
  | nil=>
   rename_i w v
   cases w <;> first|exact o.elim|skip
   ·rename_i us
    have hx:∃p ys,v=.ref p/\(if c then G else join H0 G) p=some (.tup ys)/\Reps K (if c then G else join H0 G) ys us:=by
     cases c with
     |true=>rw[qA4 rfl];exact (Md.repC a λ_=>W.noConfusion).inv
     |false=>rw[qA6 qA5];exact (Md.repB a λ_=>W.noConfusion).inv
    obtain ⟨p,ys,rfl,hp,r⟩:=hx;obtain ⟨r',o'⟩:=key r o;have hH:H p=some (.tup ys):=by
     cases c with
     |true=>rw[qA4 rfl]at hp;exact I.gh _ _ hp
     |false=>rw[qA6 qA5]at hp;exact I.join_H _ _ hp
    have hG:G p=some (.tup ys):=by
     cases c with
     |true=>rw[qA4 rfl]at hp;exact hp
     | false=>
      rw[qA6 qA5]at hp;unfold join at hp;cases q:H0 p with
      |none=>rw[q]at hp;exact hp
      | some u=>
       rw[q]at hp;dsimp only at hp;by_cases hl:isL u=true
       ·rw[qA4 hl]at hp;cases hp;cases hl
       ·rw[qA6 hl]at hp;exact hp
    exact ⟨p,ys,rfl,.inr ⟨SqT.of hH,o' _ G H (Ext.refl I.gh) (.tup hG r')⟩⟩
   ·obtain ⟨p,ys,rfl,hs,r⟩:=Md.lstOf I a rfl;obtain ⟨r',o'⟩:=key r o;exact ⟨p,ys,rfl,.inl ⟨hs,λl hl=>Out.newTF I r' hl o'⟩⟩
   ·obtain ⟨p,ys,rfl,hs,r⟩:=Md.lstOf I a rfl;obtain ⟨r',o'⟩:=key r o;exact ⟨p,ys,rfl,.inl ⟨hs,λl hl=>Out.newTF I r' hl o'⟩⟩
def f2 (g:Int->Int->Int):List W->R W
 | [.int i,.int j]=>.ok (.int (g i j))
 |_=>.stuck
theorem b_2 {g:Int->Int->Int}:Cal K .B d (λxs H Q=>∃i j,xs = [.int i,.int j]/\Q (.int (g i j)) H) (f2 g):=by
 intro EX H0 Hs G H ρ σ Ha vs ws Q I s m o;unfold f2 at o
 split at o
 ·cases m with
  | cons a t=>
   cases t with
   | cons b t=>
    cases t;exact ⟨_,_,by rw[a.intB,b.intB],o _ G H (Ext.refl I.gh) (Md.sca rfl (λ_=>.int) d)⟩
 ·exact o.elim
def tyW:W->Option String
 | .non=>some "NoneType"
 | .bl _=>some "bool"
 | .int _=>some "int"
 | .str _=>some "str"
 | .tup _=>some "tuple"
 | .lst _=>some "list"
 |_=>none
def fIsi:List W->R W
 | [x,.ty T]=>toR ((tyW x).bind λA=>D9 A T)>>=λb=>.ok (.bl b)
 |_=>.stuck
def hZ (c:Bool):W->W->R W
 | .lst us,.lst vs=>if us.length+vs.length<=1000 then chks c (us++vs) else .stuck
 |_,_=>.stuck
theorem qV {c:Bool}:Op2 K (cb c) .F rCat (hZ c):=by
 intro EX H0 Hs G H ρ σ Ha Hb x y u v Q I s mx my o;cases u <;> first|exact o.elim|skip
 all_goals (cases v <;> first|exact o.elim|skip)
 rename_i us vs
 replace o:Out EX G H (mdW K .F H0 Hs) (if us.length+vs.length<=1000 then chks c (us++vs) else .stuck) Q:=o
 by_cases hn:us.length+vs.length<=1000
 ·rw [qA4 hn]at o
  have h1:∃a ws,x=.ref a/\H a=some (.lst ws)/\Reps K (if c then G else join H0 G) ws us:=by
   cases c with
   |true=>exact Md.lstC (H:=Ha) I mx
   |false=>exact Md.lstB (H:=Ha) I mx
  have h2:∃a ws,y=.ref a/\H a=some (.lst ws)/\Reps K (if c then G else join H0 G) ws vs:=by
   cases c with
   |true=>exact Md.lstC (H:=Hb) I my
   |false=>exact Md.lstB (H:=Hb) I my
  obtain ⟨a,xs,rfl,ha,ra⟩:=h1;obtain ⟨b,ys,rfl,hb,rb⟩:=h2;exact ⟨a,b,xs,ys,rfl,rfl,ha,hb,by rw[ra.length,rb.length];exact aB hn,Out.chks I s (ra.append rb) o⟩
 ·rw[qA6 hn]at o;exact o.elim
theorem Reps.rep {F:Hp}{vs:List V}{ws:List W}(r:Reps K F vs ws):∀k:Nat,Reps K F (List.replicate k vs).flatten (List.replicate k ws).flatten
 |0=>.nil
 |k+1=>by rw[qF4,qF4,qI2,qI2];exact r.append (Reps.rep r k)
def fRep (c:Bool):W->W->R W
 | .lst us,.int k=>if us.length*k.toNat<=1000 /\ -1000<=k/\k<=1000 then chks c (List.replicate k.toNat us).flatten else .stuck
 |_,_=>.stuck
end
end TP
namespace TP
open PySem L2
def mC (w:W):Rho->R W:=λ_=>.ok w
def b1 (f:W->R W)(ma:Rho->R W):Rho->R W:=λρ=>ma ρ>>=λx=>f x
def b2 (f:W->W->R W)(ma mb:Rho->R W):Rho->R W:=λρ=>ma ρ>>=λx=>mb ρ>>=λy=>f x y
def bA (f:List W->R W)(ma:Rho->R (List W)):Rho->R W:=λρ=>ma ρ>>=λws=>f ws
def bI (f:List W->R (List W))(ma:Rho->R (List W)):Rho->R (List W):=λρ=>ma ρ>>=f
def bS (ma:Rho->R W):Rho->R (List W):=λρ=>ma ρ>>=A3
def aN:Rho->R (List W):=λ_=>.ok []
def aC (ma:Rho->R W)(mr:Rho->R (List W)):Rho->R (List W):=λρ=>ma ρ>>=λx=>mr ρ>>=λxs=>.ok (x::xs)
def U5 (ma:Rho->R W):Rho->R W:=λρ=>ma ρ>>=chk
def e9 (ma:Rho->R W):Rho->R Bool:=λρ=>ma ρ>>=toB
def Q9 (a b:Rho->R Bool):Rho->R Bool:=λρ=>rAnd (a ρ) (b ρ)
def fZ (a b:Rho->R Bool):Rho->R Bool:=λρ=>rOr (a ρ) (b ρ)
def C6 (a:Rho->R Bool):Rho->R Bool:=λρ=>oa (a ρ)
def nM (a b:Rho->R W):Rho->R W:=λρ=>aV (a ρ) (b ρ)
def vOr (a b:Rho->R W):Rho->R W:=λρ=>eE (a ρ) (b ρ)
def tE (a:Rho->R W):Rho->R W:=λρ=>jh (a ρ)
def vIf (c:Rho->R Bool)(a b:Rho->R W):Rho->R W:=λρ=>c ρ>>=λt=>if t then a ρ else b ρ
def Ar (f f':W->W->R W)(ma mb mc:Rho->R W):Rho->R W:=λρ=>ma ρ>>=λx=>mb ρ>>=λy=>f x y>>=λz=>toB z>>=λc=>if c then mc ρ>>=λu=>f' y u else .ok (.bl false)
def L5 (ma:Rho->R (List W)):Rho->R W:=λρ=>ma ρ>>=λws=>lim ws.length (.tup ws)
def A1 (ma:Rho->R (List W)):Rho->R W:=λρ=>ma ρ>>=λws=>lim ws.length (.lst ws)
def pN:Rho->R (Option Int):=λ_=>.ok none
def pS (m:Rho->R W):Rho->R (Option Int):=λρ=>m ρ>>=jm
def vSl (c:Bool)(m:Rho->R W)(ml mh:Rho->R (Option Int)):Rho->R W:=λρ=>m ρ>>=λx=>ml ρ>>=λl=>mh ρ>>=λu=>toR (lstOf x)>>=λws=>chks c (N4 ws l u)
def n5 (n:Nat)(mi:Rho->R (List W))(mg:W->Rho->Option Rho)(mc:Rho->R Bool)(me:Rho->R W):Rho->R W:=λρ=>mi ρ>>=λws=>l6 n mg mc me ws ρ
def yes:Rho->R Bool:=λ_=>.ok true
def sNx:Rho->R Fl:=λρ=>.ok (.nx ρ)
def Fw (m:Rho->R W):Rho->R Fl:=λρ=>m ρ>>=λ_=>.ok (.nx ρ)
def i6 (m:Rho->R W):Rho->R Fl:=λρ=>m ρ>>=λw=>.ok (.rt w)
def Ft:Rho->R Fl:=λ_=>.ok (.rt .non)
def sV (i:Nat)(m:Rho->R W):Rho->R Fl:=λρ=>m ρ>>=λw=>.ok (.nx (ρ.set i (.val w)))
def sU (i:Nat)(m:Rho->R W):Rho->R Fl:=λρ=>m ρ>>=λw=>.ok (.nx (ρ.set i (.par w)))
def sF (i:Nat)(m:Rho->R W):Rho->R Fl:=λρ=>m ρ>>=λw=>.ok (.nx (ρ.set i (R1 w)))
def sG (mg:W->Rho->Option Rho)(m:Rho->R W):Rho->R Fl:=λρ=>m ρ>>=λw=>toR (mg w ρ)>>=λρ'=>.ok (.nx ρ')
def x3 (mi:Rho->R (List W))(mg:W->Rho->Option Rho)(mb:Rho->R Fl):Rho->R Fl:=λρ=>mi ρ>>=λws=>K1 mg mb ws ρ
def gi (i:Nat)(m:Rho->R Fl):Rho->R Fl:=λρ=>m (frz i ρ)
def fb:Rho->R Fl:=λ_=>.stuck
def sBk:Rho->R Fl:=λρ=>.ok (.bk ρ)
def sCt:Rho->R Fl:=λρ=>.ok (.ct ρ)
section
variable {X:Cx}{e:Expr}{es:List Expr}{st:Stmt}{sts:List Stmt}
theorem _root_.L2.PE.mono {t t':TE}(h:PE X e t)(hm:∀σ H Q,t' σ H Q->t σ H Q):PE X e t':=λpins s σ H Q I q=>h pins s σ H Q I (hm σ H Q q)
theorem _root_.L2.PT.mono {t t':TT}(h:PT X e t)(hm:∀σ H Q,t' σ H Q->t σ H Q):PT X e t':=λpins s σ H Q I q=>h pins s σ H Q I (hm σ H Q q)
theorem _root_.L2.PW.mono {t t':TT}(h:PW X e t)(hm:∀σ H Q,t' σ H Q->t σ H Q):PW X e t':=λwh pins s σ H Q I q=>h wh pins s σ H Q I (hm σ H Q q)
theorem _root_.L2.PA.mono {t t':TA}(h:PA X es t)(hm:∀σ H Q,t' σ H Q->t σ H Q):PA X es t':=λpos pins s σ H Q I q=>h pos pins s σ H Q I (hm σ H Q q)
theorem _root_.L2.PS.mono {t t':TS}(h:PS X st t)(hm:∀D σ H,t' D σ H->t D σ H):PS X st t':=λpins s σ H D I q=>h pins s σ H D I (hm D σ H q)
theorem _root_.L2.PSs.mono {t t':TS}(h:PSs X sts t)(hm:∀D σ H,t' D σ H->t D σ H):PSs X sts t':=λpins s σ H D I q=>h pins s σ H D I (hm D σ H q)
theorem _root_.L2.PI.mono {tg:Expr}{t t':TI}(h:PI X tg e t)(hm:∀σ H Q,t' σ H Q->t σ H Q):PI X tg e t':=λpins s σ H Q I q=>h pins s σ H Q I (hm σ H Q q)
theorem _root_.L2.PO.mono {oe:Option Expr}{t t':TO}(h:PO X oe t) (hm:∀σ H Q,t' σ H Q->t σ H Q):PO X oe t':=by
 intro pins s σ H Q I q;exact h pins s σ H Q I (hm σ H Q q)
end
section
variable {X:Cx}{K:Frag}{EX:EXT}{d b:Mode}{a c e:Expr}{es rest:List Expr}{pos:Pos}{ma mb mc:Rho->R W}{ta tb:Rho->R Bool}{mr:Rho->R (List W)}
theorem x8 (h:PE X e (tM K EX .F ma)):PE X e (tM K EX .V ma):=h.mono λ_ _ _ q=>yC q
theorem eG (h:PE X e (tM K EX .V ma)):PE X e (tM K EX .U ma):=h.mono λ_ _ _ q=>yA q
theorem d9 (h:PE X e (tM K EX .F ma)):PE X e (tM K EX .C ma):=h.mono λ_ _ _ q=>yD q
theorem f6 (h:PE X e (tM K EX .U ma)):PE X e (tM K EX .B ma):=h.mono λ_ _ _ q=>yB q
theorem i1 (h:PE X e (tM K EX .C ma)):PE X e (tM K EX .B ma):=h.mono λ_ _ _ q=>yE q
theorem S5 (h:PE X e (tM K EX .U ma)):PE X e (tM K EX .V (U5 ma)):=h.mono λ_ _ _ q=>kH (.inr rfl) q
theorem BY (h:PE X e (tM K EX .U ma)):PE X e (tM K EX .F (U5 ma)):=h.mono λ_ _ _ q=>kH (.inl rfl) q
theorem qv (d:Mode) (i:Nat){x:Str}(hN:X.N[i]?=some x:=by rfl) (hv:Vis X.env.scope x:=by first|exact Or.inl rfl|exact Or.inr (Or.inl rfl)|exact Or.inr (Or.inr rfl)) (hd:(x == ("__debug__" : Str))=false:=by decide)
  (hcd:(x == ("__classdict__" : Str))=false:=by decide):PE X (.Name x pos) (tM K EX d (b7 d i)):=(S6 hN hv hd hcd).mono λ_ _ _ q=>pi q
theorem c9 {i j}:PE X (.Constant (.int i) j pos) (tM K EX d (mC (.int i))):=pe_int.mono λ_ _ _ q=>dv rfl (λ_=>.int) q
theorem B6 {t j}:PE X (.Constant (.bool t) j pos) (tM K EX d (mC (.bl t))):=pe_bl.mono λ_ _ _ q=>dv rfl (λ_=>.bl) q
theorem A4 {j}:PE X (.Constant .none j pos) (tM K EX d (mC .non)):=pe_non.mono λ_ _ _ q=>dv rfl (λ_=>.non) q
theorem R3 {x j}:PE X (.Constant (.str x) j pos) (tM K EX d (mC (.str x))):=pe_str.mono λ_ _ _ q=>dv rfl (λ_=>.str) q
theorem d8 {op:Operator}{r:R2}{f:W->W->R W}(ho:OpR X (binaryOp op) r) (hr:Op2 K b d r f) (ha:PE X a (tM K EX b ma)) (hb:PE X c (tM K EX b mb)):PE X (.BinOp a op c pos) (tM K EX d (b2 f ma mb)):=
 (FK ho ha hb).mono λ_ _ _ q=>lK hr q
theorem Y8 {op:CmpOp}{r:R2}{f:W->W->R W}(ho:OpR X (compareOp op) r) (hr:Op2 K b d r f) (ha:PE X a (tM K EX b ma)) (hb:PE X c (tM K EX b mb)) (hm:behindInMarks op c=false:=by first|exact qW _|rfl):PE X (.Compare a [op] [c] pos) (tM K EX d (b2 f ma mb)):=
 (ye ho ha hb hm).mono λ_ _ _ q=>lK hr q
theorem i7 {op:CmpOp}{r:R2}{f:W->W->R W}(ho:OpR X (compareOp op) r) (hr:Op2 K b .B r f) (ha:PE X a (tM K EX b ma)) (hb:PE X c (tM K EX b mb)) (hm:behindInMarks op c=false:=by first|exact qW _|rfl):PT X (.Compare a [op] [c] pos) (tT K EX (e9 (b2 f ma mb))):=
 (xV ho ha hb hm).mono λσ H Q q=>by
  obtain ⟨H0,G,ρ,I,o⟩:=q
  have:=sI (ma:=b2 f ma mb) ⟨H0,G,ρ,I,o⟩
  exact lK hr this
theorem eF {op:UnaryOp}{r:V->Hp->VK->Prop}{f:W->R W}(ho:UnR X (unaryOp op) r) (hr:Op1 K b d r f) (ha:PE X a (tM K EX b ma)):PE X (.UnaryOp op a pos) (tM K EX d (b1 f ma)):=
 (FI ho ha).mono λ_ _ _ q=>c_un hr q
theorem q5 (ha:PE X a (tM K EX .B ma)) (he:∀whole,isTrue a X.env whole=(do let v <- whole;standAt a.pos;holding [v] (truthy v)):=by intro _;rfl):PT X a (tT K EX (e9 ma)):=
 (Cd ha he).mono λ_ _ _ q=>c_tB q
theorem N6 (ha:PT X a (tT K EX ta)):PW X (.BoolOp .And [a] pos) (tT K EX ta):=xU ha
theorem ff (ha:PT X a (tT K EX ta)):PW X (.BoolOp .Or [a] pos) (tT K EX ta):=Cb ha
theorem S4 {b:Expr}(ha:PT X a (tT K EX ta))(hb:PW X (.BoolOp .And (b::rest) pos) (tT K EX tb)):PW X (.BoolOp .And (a::b::rest) pos) (tT K EX (Q9 ta tb)):=(Cc ha hb).mono λ_ _ _ q=>GB q
theorem ji {b:Expr}(ha:PT X a (tT K EX ta))(hb:PW X (.BoolOp .Or (b::rest) pos) (tT K EX tb)):PW X (.BoolOp .Or (a::b::rest) pos) (tT K EX (fZ ta tb)):=(FB ha hb).mono λ_ _ _ q=>c_or q
theorem B5 (ha:PT X a (tT K EX ta)):PT X (.UnaryOp .Not a pos) (tT K EX (C6 ta)):=(Ce ha).mono λ_ _ _ q=>Gp q
theorem jj {op}(h:PE X a (tM K EX d ma)):PE X (.BoolOp op [a] pos) (tM K EX d ma):=Cp h
theorem wC {b:Expr}(ha:PE X a (tM K EX .B ma))(hb:PE X (.BoolOp .And (b::rest) pos) (tM K EX d mb)):PE X (.BoolOp .And (a::b::rest) pos) (tM K EX d (nM ma mb)):=(Ct ha hb).mono λ_ _ _ q=>ES q
theorem BQ {b:Expr}(ha:PE X a (tM K EX .B ma))(hb:PE X (.BoolOp .Or (b::rest) pos) (tM K EX d mb)):PE X (.BoolOp .Or (a::b::rest) pos) (tM K EX d (vOr ma mb)):=(FJ ha hb).mono λ_ _ _ q=>Go q
theorem Fy (ha:PE X a (tM K EX .B ma)):PE X (.UnaryOp .Not a pos) (tM K EX d (tE ma)):=(Cq ha).mono λ_ _ _ q=>EK q
theorem ot {t:Expr}(ht:PT X t (tT K EX ta))(ha:PE X a (tM K EX d ma))(hb:PE X c (tM K EX d mb)):PE X (.IfExp t a c pos) (tM K EX d (vIf ta ma mb)):=(uI ht ha hb).mono λ_ _ _ q=>c_if q
theorem b8:PA X [] (tA K EX d aN):=pa_nil.mono λ_ _ _ q=>Gq q
theorem b6 (ha:PE X e (tM K EX d ma))(hr:PA X es (tA K EX d mr))(hs:starEach (e::es) X.env=(false,eval e X.env)::starEach es X.env:=by rfl):PA X (e::es) (tA K EX d (aC ma mr)):=(aw ha hr hs).mono λ_ _ _ q=>EN q
theorem J2 {x1}(h:PA X es (tA K EX .V mr)):PE X (.Tuple es x1 pos) (tM K EX .F (L5 mr)):=(Co h).mono λ_ _ _ q=>Gi q
theorem y9 (h:PA X es (tA K EX .V mr)):PE X (.List es pos) (tM K EX .F (A1 mr)):=(Cr h).mono λ_ _ _ q=>Gr q
theorem d5 (ha:PE X a (tM K EX .B ma)) (hb:PE X c (tM K EX .B mb)) (hs:im c:=by exact λ_ _=>rfl) (hK:X.K=K:=by rfl):PE X (.Subscript a c pos) (tM K EX .U (b2 fIx ma mb)):=by
 subst hK;exact (wE rD ha hb hs).mono λ_ _ _ q=>lK CD q
theorem oq (ha:PE X a (tM K EX .C ma)) (hb:PE X c (tM K EX .C mb)) (hs:im c:=by exact λ_ _=>rfl) (hK:X.K=K:=by rfl):PE X (.Subscript a c pos) (tM K EX .V (b2 fIx ma mb)):=by
 subst hK;exact (wE rD ha hb hs).mono λ_ _ _ q=>lK CC q
theorem oo:PO X none (bP K EX pN):=po_none.mono λ_ _ _ q=>vZ q
theorem on (h:PE X e (tM K EX .B ma)):PO X (some e) (bP K EX (pS ma)):=(xX h).mono λ_ _ _ q=>EJ q
theorem oh (k:Bool){lo hi:Option Expr}{p2:Pos}{ml mh:Rho->R (Option Int)}(he:PE X e (tM K EX (cb k) ma)) (hl:PO X lo (bP K EX ml)) (hu:PO X hi (bP K EX mh)) (hK:X.K=K:=by rfl):PE X (.Subscript e (.Slice lo hi none p2) pos) (tM K EX .F (vSl k ma ml mh)):=by
 subst hK;exact (uH xp he hl hu).mono λ_ _ _ q=>c_sl q
theorem u8 {x:Str}{id:String}{r:List V->Hp->VK->Prop}{f:List W->R W}{p:Pos}(hc:F5 X (.builtin id) r) (hr:Cal K b d r f) (hg:Gl X x) (hm:X.mg x=none) (hv:bootBuiltins x=some (.builtin id)) (ha:PA X (e::es) (tA K EX b mr))
  (hn:x ≠ "__name__" := by decide) (hdb:(x == ("__debug__" : Str))=false:=by decide) (he:starEach (e::es) X.env=(false,eval e X.env)::starEach es X.env:=by rfl) (hpl:(backTo pos (starEach es X.env)).any (·.1)=false:=by rfl) :
  PE X (.Call (.Name x p) (e::es) [] pos) (tM K EX d (bA f mr)):=(uJ hc hg hm hv ha hn hdb he hpl).mono λ_ _ _ q=>wa hr q
theorem A5 {x:Str}{T:String}{r:List V->Hp->VK->Prop}{f:List W->R W}{p:Pos}(hc:F5 X (.type T) r) (hr:Cal K b d r f) (hg:Gl X x) (hm:X.mg x=none) (hv:bootBuiltins x=some (.type T)) (ha:PA X (e::es) (tA K EX b mr))
  (hn:x ≠ "__name__" := by decide) (hdb:(x == ("__debug__" : Str))=false:=by decide) (he:starEach (e::es) X.env=(false,eval e X.env)::starEach es X.env:=by rfl) (hpl:(backTo pos (starEach es X.env)).any (·.1)=false:=by rfl) :
  PE X (.Call (.Name x p) (e::es) [] pos) (tM K EX d (bA f mr)):=(qL hc hg hm hv ha hn hdb he hpl).mono λ_ _ _ q=>wa hr q
theorem v7 (hK:X.K=K:=by rfl):F5 X (.builtin "len") (λxs H Q=>∃p ys,xs = [.ref p]/\(SqL K H p ys\/SqT K H p ys)/\Q (.int ys.length) H):=by subst hK;exact lJ
theorem tj (hK:X.K=K:=by rfl):F5 X (.type "list") (λxs H Q=>∃p ys,xs = [.ref p]/\(SqL K H p ys\/SqT K H p ys)/\∀l,H l=none->Q (.ref l) (upd H l (.lst ys))):=by subst hK;exact lH
theorem B0 (hK:X.K=K:=by rfl):F5 X (.type "tuple") (λxs H Q=>∃p ys,xs = [.ref p]/\((SqL K H p ys/\∀l,H l=none->Q (.ref l) (upd H l (.tup ys)))\/(SqT K H p ys/\Q (.ref p) H))):=by subst hK;exact jf
theorem BZ {k:Nat}{f:Addr}{fd:FuncData}{ps:List Str}{x:Str}{p:Pos}{n N:Nat}{m:Rho->R Fl}(F:FnOk X.prog X.w X.K X.mg X.base CX0 k f fd ps (spM K n d (f9 n N m))) (hd:d=.F\/d=.V) (hr:Room k X.A) (hg:Gl X x) (hm:X.mg x=some (.ref f)) (hk:PySem.W.keepIn X.K (.ref f)=true) (hb:Binds X.K fd ps [])
  (ha:PA X (e::es) (tA K (λ_ _=>False) .B mr)) (hdb:(x == ("__debug__" : Str))=false:=by decide) (he:starEach (e::es) X.env=(false,eval e X.env)::starEach es X.env:=by rfl) (hpl:(backTo pos (starEach es X.env)).any (·.1)=false:=by rfl) :
  PE X (.Call (.Name x p) (e::es) [] pos) (tM K (λ_ _=>False) d (bA (f9 n N m) mr)):=
 (de F hr hg hm hk hb .nil fh ha hdb he hpl).mono λ_ _ _ q=>EO hd (λws h=>ui ws h) (λ_ _ z=>z) q
variable {tg:Expr}{lp:Bool}
theorem wB (h:PE X e (tM K EX (bT lp .U) ma))(hK:X.K=K:=by rfl):PI X tg e (tIt K EX lp .U (bS ma)):=by subst hK;exact (FH h).mono λ_ _ _ q=>Gv (.inr rfl) q
theorem A0 {p:Pos}(hg:Gl X "range") (hm:X.mg "range" = none) (ha:PA X [a] (tA K EX .B mr)) (hs:starEach [a] X.env = [(false,eval a X.env)]:=by rfl):PI X tg (.Call (.Name "range" p) [a] [] pos) (tIt K EX lp .U (bI E8 mr)):=
 (qK hg hm ha hs).mono λ_ _ _ q=>EH (.inr rfl) q
theorem wx {elts:List Expr}{p tp:Pos}{k:Nat}(hg:Gl X "zip") (hm:X.mg "zip" = none) (ha:PA X (a::es) (tA K EX (bT lp .U) mr)) (hK:X.K=K:=by rfl) (hs:starEach (a::es) X.env=(false,eval a X.env)::starEach es X.env:=by rfl) (hpl:(backTo pos (starEach es X.env)).any (·.1)=false:=by rfl) :
  PI X (.Tuple elts k tp) (.Call (.Name "zip" p) (a::es) [] pos) (tIt K EX lp .U (bI E6 mr)):=by subst hK;exact (Cl hg hm ha hs hpl).mono λ_ _ _ q=>Gh (.inr rfl) q
end
section
variable {X:Cx}{K:Frag}{EX:EXT}{d b:Mode}{e:Expr}{st:Stmt}{sts:List Stmt}{pos:Pos}{ma mb:Rho->R W}{ta:Rho->R Bool}{m n:Rho->R Fl}
theorem BX {cs:Scope}{N':List Str}{tg iter elt:Expr}{ifs:List Expr}{dd:Mode}{g:TG}{mg:W->Rho->Option Rho}{mi:Rho->R (List W)}(S:f7 X.env.scope cs X.N N') (hc:X.calm=true) (hi:PI X tg iter (tIt K EX false dd mi))
  (hg:∀cl ex s H,PG (j6 X cs cl N' ex s H) tg g) (hgt:Gt K dd g mg) (hk:S1 X.N.length g) (ht:∀cl ex s H,PIf (j6 X cs cl N' ex s H) ifs (tT K EX ta)) (he:∀cl ex s H,PE (j6 X cs cl N' ex s H) elt (tM K EX .V ma))
  (hs:∀x,foldedSetIterable iter X.env x=pure x:=by intro _;rfl):PE X (.ListComp elt [⟨tg,iter,ifs,0⟩] cs pos) (tM K EX .F (n5 N'.length mi mg ta ma)):=
 (yd S hc hi hg hk ht he hs).mono λ_ _ _ q=>sL hgt q
theorem BO {i:Nat}{y:Str}{py:Pos}{cs:Scope}{N':List Str}{tg iter elt:Expr}{ifs:List Expr}{dd:Mode}{g:TG}{mg:W->Rho->Option Rho}{mi:Rho->R (List W)}{cpos:Pos}(S:f7 X.env.scope cs X.N N') (hc:X.calm=true) (hi:PI X tg iter (tIt K EX false dd mi))
  (hg:∀cl ex s H,PG (j6 X cs cl N' ex s H) tg g) (hgt:Gt K dd g mg) (hk:S1 X.N.length g) (ht:∀cl ex s H,PIf (j6 X cs cl N' ex s H) ifs (tT K EX ta)) (he:∀cl ex s H,PE (j6 X cs cl N' ex s H) elt (tM K EX .V ma))
  (hN:X.N.Nodup) (hy:X.N[i]?=some y) (hl:Loc X.env.scope y)
  (hsw:swapsWith (.ListComp elt [⟨tg,iter,ifs,0⟩] cs cpos) (some (.Name y py)) pos.line X.env=pure true:=by rfl) (hf:X.fn y=true\/X.env.scope.names.lookup y=some .local:=by first|exact .inl rfl|exact .inr rfl|assumption)
  (hs:∀x,foldedSetIterable iter X.env x=pure x:=by intro _;rfl):PS X (.Assign [.Name y py] (.ListComp elt [⟨tg,iter,ifs,0⟩] cs cpos) pos) (tSt K EX d (sF i (n5 N'.length mi mg ta ma))):=
 (xW S hc hi hg hk ht he hN hy hl hsw hf hs).mono λD σ H q=>by
  have:=sJ (m:=n5 N'.length mi mg ta ma) q
  exact sL hgt this
theorem t5:PIf X [] (tT K EX yes):=λpins s σ H Q I q=>yb pins s σ H Q I (by obtain ⟨H0,G,ρ,I0,o⟩:=q;exact o true G H (Ext.refl I0.gh) rfl)
theorem cf {c:Expr}(h:PT X c (tT K EX ta)):PIf X [c] (tT K EX ta):=ya h
theorem j7:PSs X [] (tSt K EX d sNx):=pss_nil.mono λ_ _ _ q=>EL q
theorem c7 (h1:PS X st (tSt K EX d m))(h2:PSs X sts (tSt K EX d n)):PSs X (st::sts) (tSt K EX d (d3 m n)):=(jX h1 h2).mono λ_ _ _ q=>Gk q
theorem c8 (h1:PS X st (tSt K EX d m)):PSs X [st] (tSt K EX d m):=mK h1
theorem jl {i:Nat}(h:PS X st (tSt K EX d m)):PS X st (tSt K EX d (gi i m)):=h.mono λ_ _ _ q=>Gw q
theorem gx:PS X st (tSt K EX d fb):=ps_never.mono λ_ _ _ q=>zO q
theorem f8 (he:PE X e (tM K EX d ma)):PS X (.Return (some e) pos) (tSt K EX d (i6 ma)):=(qG he).mono λ_ _ _ q=>wR q
theorem C9 (i:Nat){x:Str}{p:Pos}(hd:d=.F\/d=.V) (hN:X.N[i]?=some x:=by rfl) (hv:Vis X.env.scope x:=by first|exact Or.inl rfl|exact Or.inr (Or.inl rfl)|exact Or.inr (Or.inr rfl)) (hdd:(x == ("__debug__" : Str))=false:=by decide)
  (hcd:(x == ("__classdict__" : Str))=false:=by decide):PS X (.Return (some (.Name x p)) pos) (tSt K EX d (r6 d i)):=(qG (S6 hN hv hdd hcd)).mono λ_ _ _ q=>vY hd q
theorem t4 {i:Nat}{x:Str}{pos':Pos}(hN:X.N.Nodup) (hi:X.N[i]?=some x) (hx:Loc X.env.scope x) (he:PE X e (tM K EX .V ma)) (hs:swapsWith e (some (.Name x pos')) pos.line X.env=pure false:=by rfl) (hf:X.fn x=true\/X.env.scope.names.lookup x=some .local:=by first|exact .inl rfl|exact .inr rfl|assumption) :
  PS X (.Assign [.Name x pos'] e pos) (tSt K EX d (sV i ma)):=(fg hN hi hx he hs hf).mono λ_ _ _ q=>EE q
theorem ar {i:Nat}{x:Str}{pos':Pos}(hN:X.N.Nodup) (hi:X.N[i]?=some x) (hx:Loc X.env.scope x) (he:PE X e (tM K EX .U ma)) (hs:swapsWith e (some (.Name x pos')) pos.line X.env=pure false:=by rfl) (hf:X.fn x=true\/X.env.scope.names.lookup x=some .local:=by first|exact .inl rfl|exact .inr rfl|assumption) :
  PS X (.Assign [.Name x pos'] e pos) (tSt K EX d (sU i ma)):=(fg hN hi hx he hs hf).mono λ_ _ _ q=>EF q
theorem h7 {i:Nat}{x:Str}{pos':Pos}(hN:X.N.Nodup) (hi:X.N[i]?=some x) (hx:Loc X.env.scope x) (he:PE X e (tM K EX .F ma)) (hs:swapsWith e (some (.Name x pos')) pos.line X.env=pure false:=by rfl) (hf:X.fn x=true\/X.env.scope.names.lookup x=some .local:=by first|exact .inl rfl|exact .inr rfl|assumption) :
  PS X (.Assign [.Name x pos'] e pos) (tSt K EX d (sF i ma)):=(fg hN hi hx he hs hf).mono λ_ _ _ q=>sJ q
theorem O5 {i:Nat}{x:Str}{p apos cpos:Pos}(hN:X.N[i]?=some x) (hv:Vis X.env.scope x) (ha:PE X e (tM K EX .V ma)) (hd:(x == ("__debug__" : Str))=false:=by decide) (hcd:(x == ("__classdict__" : Str))=false:=by decide)
  (hbase:attributeBase (.Name x p) "append" X.env (eval (.Name x p) X.env)=eval (.Name x p) X.env:=by rfl)
  (hfew:((backTo cpos (starEach [e] X.env)).all (λx=>!x.1)&&(backToKw cpos (keywordEach [] X.env)).all (λx=>x.1.isSome)
   && decide (([e]:List Expr).length+([]:List Keyword).length+(if ([]:List Keyword).isEmpty then 0 else 1)<30))=true:=by rfl)
  (hline:(apos.endLine == cpos.line)=true:=by rfl) (hs:starEach [e] X.env=(false,eval e X.env)::starEach [] X.env:=by rfl) (hsw:swapsWith (.Call (.Attribute (.Name x p) "append" apos) [e] [] cpos) none pos.line X.env=pure false:=by rfl) :
  PS X (.Expr (.Call (.Attribute (.Name x p) "append" apos) [e] [] cpos) pos) (tSt K EX d (M7 i ma)):=(au (iC (S6 hN hv hd hcd) ha hbase hfew hline hs) hsw).mono λ_ _ _ q=>GA q
theorem k7 {c:Expr}{x y:List Stmt}(hc:PT X c (tT K EX ta))(ha:PSs X x (tSt K EX d m))(hb:PSs X y (tSt K EX d n)):PS X (.If c x y pos) (tSt K EX d (mIf ta m n)):=(wD hc ha hb).mono λ_ _ _ q=>Gs q
theorem gt {c:Expr}{body:List Stmt}(hp:PassesOwn (model X.prog X.w) X.A X.env X.xe)(hc:PT X c (tT K EX ta))(hb:PSs X body (tSt K EX d m)):PS X (.While c body [] pos) (tSt K EX d (O8 ta m)):=(uF hp hc hb).mono λ_ _ _ q=>zN q
theorem t7 {tg iter:Expr}{body:List Stmt}{dd:Mode}{g:TG}{mg:W->Rho->Option Rho}{mi:Rho->R (List W)}(hp:PassesOwn (model X.prog X.w) X.A X.env X.xe) (hc:X.calm=true) (hi:PI X tg iter (tIt K EX true dd mi)) (hg:PG X tg g) (hgt:Gt K dd g mg) (hb:PSs X body (tSt K EX d m))
  (hs:∀x,foldedSetIterable iter X.env x=pure x:=by intro _;rfl):PS X (.For tg iter body [] pos) (tSt K EX d (x3 mi mg m)):=(Cf hp hc hi hg hb hs).mono λ_ _ _ q=>Gx hgt q
theorem FA {i:Nat}{x:Str}{op:Operator}{f:Int->Int->Int}{pos':Pos}(hN:X.N.Nodup) (hi:X.N[i]?=some x) (hx:Loc X.env.scope x) (he:PE X e (tM K EX .B ma)) (ho:PIp X op (ipI f)) (hf:X.fn x=true\/X.env.scope.names.lookup x=some .local:=by first|exact .inl rfl|exact .inr rfl|assumption) :
  PS X (.AugAssign (.Name x pos') op e pos) (tSt K EX d (kZ i f ma)):=(Cg hN hi hx he ho hf).mono λ_ _ _ q=>Gz q
theorem oj {i:Nat}{x:Str}{k:Expr}{p p2:Pos}(hN:X.N[i]?=some x) (hv:Vis X.env.scope x) (hk:PE X k (tM K EX .B mb)) (he:PE X e (tM K EX .V ma)) (hd:(x == ("__debug__" : Str))=false:=by decide) (hcd:(x == ("__classdict__" : Str))=false:=by decide)
  (hg:PG X (.Subscript (.Name x p) k p2) (gSub (V6 i) (tM K EX .B mb) rSetL))
  (hs:swapsWithSole [.Subscript (.Name x p) k p2] e pos.line X.env=pure false:=by rfl) (hw:swappedStores [.Subscript (.Name x p) k p2] e X.env=pure none:=by rfl):PS X (.Assign [.Subscript (.Name x p) k p2] e pos) (tSt K EX d (eO i mb ma)):=
 (Ch he hg hs hw).mono λ_ _ _ q=>Gj q
end
end TP
namespace TP
open PySem L2
abbrev gLt (i j:Int):W:=.bl (decide (i<j))
abbrev gLe (i j:Int):W:=.bl (decide (i<=j))
abbrev gGt (i j:Int):W:=.bl (decide (j<i))
abbrev gGe (i j:Int):W:=.bl (decide (j<=i))
abbrev x6 (i j:Int):W:=.int (i+j)
abbrev gSub (i j:Int):W:=.int (i-j)
abbrev p7 (i j:Int):W:=.int (i*j)
abbrev j4 (i j:Int):W:=.int (i%j)
abbrev x5 (i j:Int):W:=.int (i/j)
abbrev lr (i j:Int):W:=.int (i^j.toNat)
abbrev M8 (i:Int):W:=.int (-i)
abbrev cI (i j:Int):Int:=if j>i then j else i
abbrev DH (i j:Int):Int:=if j<i then j else i
abbrev wN (i j:Int):Int:=i+j
abbrev FY (i j:Int):Int:=i-j
abbrev j3 (_ j:Int):Prop:=0<j
instance (i j:Int):Decidable (CMul i j):=by unfold CMul;infer_instance
instance (i j:Int):Decidable (v9 i j):=by unfold v9;infer_instance
instance (i j:Int):Decidable (bz i j):=by unfold bz;infer_instance
instance (i j:Int):Decidable (wZ i j):=by unfold wZ;infer_instance
def vOf:W->Option V
 | .non=>some .non
 | .bl b=>some (.bl b)
 | .int i=>some (.int i)
 | .str x=>some (.str x)
 |_=>none
def vM (u v:W):Option Bool:=match vOf u,vOf v with
 |some x,some y=>if jO x y then some (decide (x=y)) else none
 |_,_=>none
def o8 (neg:Bool) (u v:W):R W:=match vM u v with
 |some b=>.ok (.bl (if neg then !b else b))
 |none=>.stuck
section
variable {K:Frag}{H0 G H:Hp}{ρ:Rho}{σ:St}{d:Mode}
theorem jg {Ha:Hp}{v:V}{w:W}{x:V}(h:Md K H0 Ha G H v w .B) (e:vOf w=some x):v=x:=by
 cases w <;> first|cases e|skip
 ·exact h.nonB
 ·exact h.blB
 ·exact h.intB
 ·exact h.strB
theorem D8:Op2 K .B d rEq (o8 false):=by
 intro EX H0 Hs G H ρ σ Ha Hb x y u v Q I s mx my o;unfold o8 vM at o;cases hu:vOf u with
 |none=>rw[hu]at o;exact o.elim
 | some p=>
  cases hv:vOf v with
  |none=>rw[hu,hv]at o;exact o.elim
  | some q=>
   rw[hu,hv]at o;cases jg mx hu;cases jg my hv;dsimp only at o;by_cases c:jO x y=true
   ·rw [qA4 c]at o
    exact ⟨c,o _ G H (Ext.refl I.gh) (Md.sca rfl (λ_=>.bl) d)⟩
   ·rw[qA6 c]at o;exact o.elim
theorem kB:Op2 K .B d rNe (o8 true):=by
 intro EX H0 Hs G H ρ σ Ha Hb x y u v Q I s mx my o;unfold o8 vM at o;cases hu:vOf u with
 |none=>rw[hu]at o;exact o.elim
 | some p=>
  cases hv:vOf v with
  |none=>rw[hu,hv]at o;exact o.elim
  | some q=>
   rw[hu,hv]at o;cases jg mx hu;cases jg my hv;dsimp only at o;by_cases c:jO x y=true
   ·rw [qA4 c]at o
    exact ⟨c,o _ G H (Ext.refl I.gh) (Md.sca rfl (λ_=>.bl) d)⟩
   ·rw[qA6 c]at o;exact o.elim
end
end TP
namespace TP
open PySem L2
mutual
def pd:W->PyData
 | .non=>.none
 | .bl b=>.bool b
 | .int i=>.int i
 | .str x=>.str x
 | .ty _=>.none
 | .exc _ _=>.none
 | .cls _=>.none
 | .tup ws=>.tuple (pds ws)
 | .lst ws=>.list (pds ws)
 | .scr ws=>.list (pds ws)
def pds:List W->List PyData
 | []=>[]
 |w::ws=>pd w::pds ws
end
mutual
def shp:Nat->W->Bool
 |_,.non=>true
 |_,.bl _=>true
 |_,.int _=>true
 |_,.str x=>PyData.strOk x
 |n+1,.tup ws=>T8 n ws
 |n+1,.lst ws=>T8 n ws
 |n+1,.scr ws=>T8 n ws
 |_,_=>false
def T8:Nat->List W->Bool
 |_,[]=>true
 |n,w::ws=>shp n w&&T8 n ws
end
theorem jH:∀(w:W) (n:Nat),shp n w=true->(pd w).canLay0=true/\(pd w).depth<=n:=by
 intro w;have tl:∀(ws:List W) (c:List PyData->PyData),(∀l,(c l).canLay0=PyData.canLayAll0 l)->(∀l,(c l).depth=PyData.depthAll l+1)->(∀n:Nat,T8 n ws=true->PyData.canLayAll0 (pds ws)=true/\PyData.depthAll (pds ws)<=n)->∀n:Nat,(match n with|0=>false|n+1=>T8 n ws)=true->(c (pds ws)).canLay0=true/\(c (pds ws)).depth<=n:=λws c h1 h2 ih n h=>by
  cases n with
  |zero=>cases h
  |succ n=>have:=ih n h;exact ⟨by rw[h1];exact this.1,by rw[h2];exact qH5 this.2⟩
 have fl:∀{n:Nat}{w:W}{P:Prop},shp n w=false->shp n w=true->P:=λh1 h2=>by rw[h1]at h2;cases h2
 induction w using W.rec (motive_2:=λws=>∀n:Nat,T8 n ws=true->PyData.canLayAll0 (pds ws)=true/\PyData.depthAll (pds ws)<=n) with
 |non=>exact λn _=>⟨rfl,qD1 _⟩
 |bl b=>exact λn _=>⟨rfl,qD1 _⟩
 |int i=>exact λn _=>⟨rfl,qD1 _⟩
 |str x=>exact λn h=>⟨by cases n <;> exact h,qD1 _⟩
 |ty a=>exact λn h=>fl (by cases n <;> rfl) h
 |exc a b=>exact λn h=>fl (by cases n <;> rfl) h
 |cls a=>exact λn h=>fl (by cases n <;> rfl) h
 |tup ws ih=>exact λn h=>tl ws .tuple (λ_=>rfl) (λ_=>rfl) ih n (by cases n <;> exact h)
 |lst ws ih=>exact λn h=>tl ws .list (λ_=>rfl) (λ_=>rfl) ih n (by cases n <;> exact h)
 |scr ws ih=>exact λn h=>tl ws .list (λ_=>rfl) (λ_=>rfl) ih n (by cases n <;> exact h)
 |nil=>exact ⟨rfl,qD1 _⟩
 | cons w ws h1 h2=>
  rename_i n h
  have h':shp n w=true/\T8 n ws=true:=(qG7 _ _).mp h;have a:=h1 n h'.1;have b:=h2 n h'.2;exact ⟨by show (PyData.canLay0 _&&PyData.canLayAll0 _)=true;rw[a.1,b.1];rfl,Nat.max_le.mpr ⟨a.2,b.2⟩⟩
theorem xr (ws:List W) (n:Nat) (h:T8 n ws=true):PyData.canLayAll0 (pds ws)=true/\PyData.depthAll (pds ws)<=n:=by
 have:=jH (.tup ws) (n+1) h
 exact ⟨this.1,qG4 this.2⟩
section
variable {X:Cx}{pins:List (Addr×Obj)}{σ:St}{H:Hp}{s:Shared}
theorem Rep.reads (I:Inv X pins σ H s){x:V}{w:W}{u:Value}(n:Nat) (r:Rep X.K H x w):shp n w=true->RelV x u->∃as,Reads s.heap u (pd w) as:=by
 have fl:∀{n:Nat}{w:W}{P:Prop},shp n w=false->shp n w=true->P:=λh1 h2=>by rw[h1]at h2;cases h2
 induction r using Rep.rec (motive_2:=λxs ws _=>∀(us:List Value) (n:Nat),T8 n ws=true->Vals xs us->∃as,ReadsAll s.heap us (pds ws) as) generalizing u n with
 |non=>intro _ r;cases r;exact ⟨_,.none⟩
 |bl=>intro _ r;cases r;exact ⟨_,.bool _⟩
 |int=>intro _ r;obtain ⟨t,rfl⟩:=r;exact ⟨_,.int _ _⟩
 |str=>intro _ r;obtain ⟨t,rfl⟩:=r;exact ⟨_,.str _ _⟩
 |ty=>exact λh _=>fl (by cases n <;> rfl) h
 |exc=>exact λh _=>fl (by cases n <;> rfl) h
 |cls=>exact λh _=>fl (by cases n <;> rfl) h
 | tup ha _ ih=>
  intro h r;cases r;cases n with
  |zero=>cases h
  | succ n=>
   obtain ⟨its,rv,⟨o,e,c,k,dd⟩,_⟩:=I.tuple (SqT.of ha);obtain ⟨as,q⟩:=ih _ n h rv;exact ⟨_,.tuple e c dd (by simpa using q)⟩
 | lst ha _ ih=>
  intro h r;cases r;cases n with
  |zero=>cases h
  | succ n=>
   obtain ⟨its,rv,pl,_⟩:=I.list (SqL.of ha);obtain ⟨o,e,c,k,dd⟩:=pl.isList;obtain ⟨as,q⟩:=ih _ n h rv;exact ⟨_,.list e c dd (by simpa using q)⟩
 | scr ha _ ih=>
  intro h r;cases r;cases n with
  |zero=>cases h
  | succ n=>
   obtain ⟨its,rv,pl,_⟩:=I.list ha;obtain ⟨o,e,c,k,dd⟩:=pl.isList;obtain ⟨as,q⟩:=ih _ n h rv;exact ⟨_,.list e c dd (by simpa using q)⟩
 |nil=>rename_i us n _ r;cases r;exact ⟨_,.nil⟩
 | cons _ _ h1 h2=>
  rename_i us n h r
  cases r with
  | cons r1 r2=>
   have h':=(qG7 _ _).mp h;obtain ⟨as,q1⟩:=h1 n h'.1 r1;obtain ⟨bs,q2⟩:=h2 _ n h'.2 r2;exact ⟨_,.cons q1 q2⟩
def eqW (u v:W):Bool:=PyData.eqv (pd u) (pd v)
def uB (K:Frag)(neg:Bool):R2:=λx y H Q=>∃u v,Rep K H x u/\Rep K H y v/\shp 8 u=true/\shp 8 v=true/\Q (.bl (if neg then !eqW u v else eqW u v)) H
theorem Y4 {w:W}(h:shp 8 w=true):SeqAt.shaped (pd w)=true:=by
 obtain ⟨a,b⟩:=jH w 8 h;unfold SeqAt.shaped;rw[a,Bool.true_and];exact decide_eq_true (qB8 b (by decide))
theorem cj (hu:X.A.units+64<cLine):OpR X (compareOp .Eq) (uB X.K false):=by
 intro pins s σ H x y v u Q I rx ry h;obtain ⟨a,b,ra,rb,sa,sb,q⟩:=h;obtain ⟨as,qa⟩:=Rep.reads I 8 ra sa rx;obtain ⟨bs,qb⟩:=Rep.reads I 8 rb sb ry;exact PyProof.Rows.eq_dataH qa qb (Y4 sa) (Y4 sb) hu ⟨.bl (eqW a b),H,I,rfl,q⟩
theorem qP (hu:X.A.units+64<cLine):OpR X (compareOp .NotEq) (uB X.K true):=by
 intro pins s σ H x y v u Q I rx ry h;obtain ⟨a,b,ra,rb,sa,sb,q⟩:=h;obtain ⟨as,qa⟩:=Rep.reads I 8 ra sa rx;obtain ⟨bs,qb⟩:=Rep.reads I 8 rb sb ry;exact PyProof.Rows.ne_dataH qa qb (Y4 sa) (Y4 sb) hu ⟨.bl (!eqW a b),H,I,rfl,q⟩
def fEq (neg:Bool)(u v:W):R W:=if shp 8 u&&shp 8 v then .ok (.bl (if neg then !eqW u v else eqW u v)) else .stuck
theorem W9 {K:Frag}{d:Mode}{neg:Bool}:Op2 K .B d (uB K neg) (fEq neg):=by
 intro EX H0 Hs G H ρ σ Ha Hb x y u v Q I s mx my o;unfold fEq at o;by_cases c:(shp 8 u&&shp 8 v)=true
 ·rw [qA4 c]at o
  have c':shp 8 u=true/\shp 8 v=true:=by simpa using c
  exact ⟨u,v,mx.whole I,my.whole I,c'.1,c'.2,o _ G H (Ext.refl I.gh) (Md.sca rfl (λ_=>.bl) d)⟩
 ·rw[qA6 c]at o;exact o.elim
def af:W->Bool->Bool
 | .bl a,b=>a == b
 |_,_=>false
def fIsB (neg:Bool):W->W->R W
 |u,.bl b=>.ok (.bl (if neg then !af u b else af u b))
 |_,_=>.stuck
end
theorem cH {A:Around}{k:Nat}(hr:Room k A):A.units+64<cLine:=hr.units
end TP
namespace TP
open PySem L2
section
variable {X:Cx}{pins:List (Addr×Obj)}{σ:St}{H:Hp}{s:Shared}
theorem J4 {x:V}{us:List Value}(r:Vals [x] us):∃u,us = [u]/\RelV x u:=by
 cases r with
 |cons a t=>cases t;exact ⟨_,rfl,a⟩
theorem cF {h':Heap}{o:Obj}(hk:∀b u,b ∉ [s.heap.objs.size]->(s.heap.push o).get? b=some u->h'.get? b=some u):∀b u,s.heap.get? b=some u->h'.get? b=some u:=λb u e=>
 hk b u (by simp;exact qD2 (qB4 e)) (qA9 _ e)
theorem pM {α:Type}{f:α->V}{g:α->Value->Prop}(hg:∀a u,RelV (f a) u->g a u){as:List α}{its:List Value}(r:Vals (as.map f) its){i:Nat}{v:Value}(h:its.toArray[i]?=some v):∃a,as[i]?=some a/\g a v:=by
 have h':its[i]?=some v:=by simpa using h
 induction as generalizing its i with
 |nil=>cases r;simp at h'
 | cons a as ih=>
  cases r with
  | cons q t=>
   cases i with
   |zero=>simp at h';subst h';exact ⟨a,rfl,hg _ _ q⟩
   |succ i=>simpa using ih t (i:=i) (by simpa using h') (by simpa using h')
theorem io {p:Addr}{xs:List V}(I:Inv X pins σ H s) (hc:X.calm=true) (hp:H p=some (.lst xs)):∃its:List Value,Vals xs its/\s.heap.IsList p its.toArray/\xs.length=its.toArray.size/\p≠s.heap.objs.size /\
  Walks X.prog X.w X.A.in1 s.heap.objs.size [s.heap.objs.size,p] [s.heap.objs.size] its.toArray.size (λi v=>its.toArray[i]?=some v) (λi h=>h.IsListIter s.heap.objs.size p i/\h.IsList p its.toArray):=by
 obtain ⟨its,rv,pl,hz⟩:=I.list (SqL.of hp);obtain ⟨o,e,_⟩:=pl.isList;have hne:p≠s.heap.objs.size:=qD2 (qB4 e);exact ⟨its,rv,pl.isList,by rw[qB5];exact rv.length,hne,Walks.list (show X.A.in1.handled=none from I.ok.hd hc) _ p hne _⟩
theorem all_range {bs:List Bool}:(List.range bs.length).all (λi=>bs.getD i false)=bs.all id:=by
 rw[qJ8,qE5,qE5];constructor
 ·intro h x hx;obtain ⟨i,hi,e⟩:=qE6.mp hx
  have:=h i (by simpa using hi)
  rw[qA0]at this;simpa [hi,e]using this
 ·intro h i hi;have hi:i<bs.length:=by simpa using hi
  rw[qA0];simpa [hi]using h bs[i] (qF0 hi)
theorem tL {A:Around}{bs:List Bool}{its:List Value}(rv:Vals (bs.map V.bl) its):TruthOf X.prog X.w A (λi v=>its.toArray[i]?=some v) (λi=>bs.getD i false):=λi v s' Q' E hv hq=>by
 obtain ⟨b,hb,e⟩:=pM (f:=V.bl) (g:=λb u=>u=.bool b) (λb u r=>r) rv hv;subst e
 have:bs.getD i false=b:=by rw[qA0,hb];rfl
 have hq':Q' (bs.getD i false) s':=hq;rw[this]at hq';exact wpAny_truthy_bool hq'
theorem sE (hc:X.calm=true):F5 X (.builtin "all") (λxs H Q=>∃(p:Addr) (bs:List Bool),xs = [.ref p]/\H p=some (.lst (bs.map V.bl))/\Q (.bl (bs.all id)) H):=by
 intro pins s σ H xs us Q I r h;obtain ⟨p,bs,rfl,hp,q⟩:=h;obtain ⟨u,rfl,rx⟩:=J4 r;cases rx;obtain ⟨its,rv,hl,hlen,hne,Wk⟩:=io I hc hp;rw[qA1]at hlen;refine call_all_walk (wpAny_pyIter_list hl ⟨_,_,_,_,_,_,_,rfl,Wk,⟨⟨_,qC2 _ rfl,rfl,rfl⟩,hl.push _⟩,tL rv,λh' tk hk=>?_⟩);rw[<- hlen,all_range];exact ⟨.bl (bs.all id),H,I.kept (t':=tk) (cF hk),rfl,q⟩
def X9:List W->Option (List Bool)
 | []=>some []
 | .bl b::ws=>(X9 ws).map (b::·)
 |_=>none
theorem zU (bs:List Bool):X9 (bs.map W.bl)=some bs:=by
 induction bs with
 |nil=>rfl
 |cons b bs ih=>rw[qC4,X9,ih];rfl
theorem Reps.bls {K:Frag}{F:Hp}{vs:List V}{ws:List W}{bs:List Bool}(r:Reps K F vs ws):X9 ws=some bs->vs=bs.map V.bl:=
 Reps.ind (P:=λvs ws=>∀bs,X9 ws=some bs->vs=bs.map V.bl) (λbs h=>by cases h;rfl) (λ{v w vs ws} r _ ih bs h=>by
  cases w <;> first|cases h|skip
  rename_i b
  have e:v=.bl b:=r.inv;subst e;have h':(X9 ws).map (b::·)=some bs:=h;cases q:X9 ws with
  |none=>rw[q]at h';cases h'
  |some cs=>rw[q]at h';cases h';rw[ih cs q];rfl) r bs
def lA (g:List Bool->Bool):List W->R W
 | [.lst ws]=>toR (X9 ws)>>=λbs=>.ok (.bl (g bs))
 |_=>.stuck
theorem zW {K:Frag}{d:Mode}{g:List Bool->Bool}:Cal K .B d (λxs H Q=>∃(p:Addr) (bs:List Bool),xs = [.ref p]/\H p=some (.lst (bs.map V.bl))/\Q (.bl (g bs)) H) (lA g):=by
 intro EX H0 Hs G H ρ σ Ha vs ws Q I s m o;cases m with
 |nil=>exact o.elim
 | @cons w v ws2 vs2 a t=>
  cases t with
  |cons _ _=>first|exact o.elim | (cases w <;> exact o.elim)
  | nil=>
   cases w <;> first|exact o.elim|skip
   rename_i ws
   obtain ⟨p,ys,rfl,hs,r⟩:=a.lstB I;replace o:Out EX G H (mdW K d H0 Hs) (toR (X9 ws)>>=λbs=>.ok (.bl (g bs))) Q:=o
   cases q:X9 ws with
   |none=>rw[q]at o;exact o.elim
   | some bs=>
    rw[q]at o;rw[Reps.bls r q]at hs;exact ⟨p,bs,rfl,hs,o _ G H (Ext.refl I.gh) (Md.sca rfl (λ_=>.bl) d)⟩
def vB (bs:List Bool):Bool:=bs.all id
end
theorem ET:bootBuiltins "all" = some (.builtin "all"):=by decide +kernel
section
variable {X:Cx}{K:Frag}{d:Mode}
def z8:List W->Option (List Int)
 | []=>some []
 | .int b::ws=>(z8 ws).map (b::·)
 |_=>none
theorem ints_map (bs:List Int):z8 (bs.map W.int)=some bs:=by
 induction bs with
 |nil=>rfl
 |cons b bs ih=>rw[qC4,z8,ih];rfl
theorem Reps.ints {F:Hp}{vs:List V}{ws:List W}{bs:List Int}(r:Reps K F vs ws):z8 ws=some bs->vs=bs.map V.int:=
 Reps.ind (P:=λvs ws=>∀bs,z8 ws=some bs->vs=bs.map V.int) (λbs h=>by cases h;rfl) (λ{v w vs ws} r _ ih bs h=>by
  cases w <;> first|cases h|skip
  rename_i b
  have e:v=.int b:=r.inv;subst e;have h':(z8 ws).map (b::·)=some bs:=h;cases q:z8 ws with
  |none=>rw[q]at h';cases h'
  |some cs=>rw[q]at h';cases h';rw[ih cs q];rfl) r bs
def Gf (g:List Int->Int):List W->R W
 | [.lst ws]=>toR (z8 ws)>>=λbs=>.ok (.int (g bs))
 |_=>.stuck
def fAbs:List W->R W
 | [.int i]=>.ok (.int (if i<0 then -i else i))
 |_=>.stuck
def fInt:List W->R W
 | [.int i]=>.ok (.int i)
 | [.bl k]=>.ok (.int (if k then 1 else 0))
 |_=>.stuck
theorem pj:Cal K .B d (λxs H Q=>(∃i,xs = [.int i]/\Q (.int i) H)\/∃k:Bool,xs = [.bl k]/\Q (.int (if k then 1 else 0)) H) fInt:=by
 intro EX H0 Hs G H ρ σ Ha vs ws Q I s m o;cases m with
 |nil=>exact o.elim
 | @cons w v ws2 vs2 a t=>
  cases t with
  |cons _ _=>first|exact o.elim | (cases w <;> exact o.elim)
  | nil=>
   cases w <;> first|exact o.elim|skip
   ·exact .inr ⟨_,by rw[a.blB],o _ G H (Ext.refl I.gh) (Md.sca rfl (λ_=>.int) d)⟩
   ·exact .inl ⟨_,by rw[a.intB],o _ G H (Ext.refl I.gh) (Md.sca rfl (λ_=>.int) d)⟩
def fStr:List W->R W
 | [.int i]=>if i.natAbs.log2<1920 then .ok (.str (toString i)) else .stuck
 |_=>.stuck
end
end TP
namespace TP
open PySem L2
def kY (i:Nat) (c:Bool) (m:Rho->R W):Rho->R Fl:=λρ=>match ρ[i]? with
 | some (.own ws)=>m ρ>>=λw=>(match w with
  | .lst us=>if ws.length+us.length<=1000 then (if c||m5 us then .ok (.nx (ρ.set i (.own (ws++us)))) else .stuck) else .stuck
  |_=>.stuck)
 |_=>.stuck
def gJ (i:Nat):Rho->R Fl:=λρ=>match ρ[i]? with
 |some (.own ws)=>.ok (.nx (ρ.set i (.own ws.reverse)))
 |_=>.stuck
section
variable {K:Frag}{EX:EXT}{H0 G H:Hp}{ρ:Rho}{σ:St}{d:Mode}{D:Ends}
theorem Gy {i:Nat}{c:Bool}{m:Rho->R W}(h:tSt K EX d (kY i c m) D σ H):cY (tBM K "list" rExtend (V6 i) (Y2 (tM K EX (cb c) m) tNil)) D σ H:=by
 obtain ⟨H0,G,ρ,I,o⟩:=h;unfold kY at o
 split at o
 ·rename_i ws e
  obtain ⟨a,vs,es,ha,hg,h0,r⟩:=I.own_at e;refine ⟨.ref a,es,.inl ⟨rfl,vs,SqL.of ha⟩,H0,G,ρ,I,OutS.bind I o λx G1 H1 w e1 m1 o1=>?_⟩;cases w <;> first|exact o1.elim|skip
  rename_i us
  dsimp only at o1;by_cases hn:ws.length+us.length<=1000
  ·rw [qA4 hn]at o1
   by_cases hc:(c||m5 us)=true
   ·rw [qA4 hc]at o1
    have I1:=I.ext e1;have hx:∃b zs,x=.ref b/\H1 b=some (.lst zs)/\Reps K G1 zs us:=by
     cases c with
     |true=>exact Md.lstC (H:=H) I1 m1
     | false=>
      obtain ⟨b,zs,ex,hb,rb⟩:=Md.lstB (H:=H) I1 m1;exact ⟨b,zs,ex,hb,Reps.clean I1 rb (by simpa using hc)⟩
    obtain ⟨b,zs,rfl,hb,rb⟩:=hx;have h1:=e1.hh a _ ha;refine ⟨a,b,vs,zs,rfl,rfl,h1,hb,by rw[r.length,rb.length];exact aB hn,?_⟩;exact o1 G1 σ _ (Same.refl _) (I1.own_upd e es ((r.same e1.gg).append rb))
   ·rw[qA6 hc]at o1;exact o1.elim
  ·rw[qA6 hn]at o1;exact o1.elim
 ·exact o.elim
theorem Gn {i:Nat}(h:tSt K EX d (gJ i) D σ H):cY (AG K "list" rReverse (V6 i)) D σ H:=by
 obtain ⟨H0,G,ρ,I,o⟩:=h;unfold gJ at o
 split at o
 ·rename_i ws e
  obtain ⟨a,vs,es,ha,hg,h0,r⟩:=I.own_at e;exact ⟨.ref a,es,.inl ⟨rfl,vs,SqL.of ha⟩,a,vs,rfl,rfl,ha,o G σ _ (Same.refl _) (I.own_upd e es r.reverse)⟩
 ·exact o.elim
end
section
variable {X:Cx}{K:Frag}{EX:EXT}{d:Mode}{e:Expr}{pos:Pos}{ma:Rho->R W}
theorem Fz {i:Nat}{c:Bool}{x:Str}{p apos cpos:Pos}(hN:X.N[i]?=some x) (hv:Vis X.env.scope x) (ha:PE X e (tM K EX (cb c) ma)) (hK:X.K=K:=by rfl) (hd:(x == ("__debug__" : Str))=false:=by decide) (hcd:(x == ("__classdict__" : Str))=false:=by decide)
  (hbase:attributeBase (.Name x p) "extend" X.env (eval (.Name x p) X.env)=eval (.Name x p) X.env:=by rfl)
  (hfew:((backTo cpos (starEach [e] X.env)).all (λx=>!x.1)&&(backToKw cpos (keywordEach [] X.env)).all (λx=>x.1.isSome)
   && decide (([e]:List Expr).length+([]:List Keyword).length+(if ([]:List Keyword).isEmpty then 0 else 1)<30))=true:=by rfl)
  (hline:(apos.endLine == cpos.line)=true:=by rfl) (hs:starEach [e] X.env=(false,eval e X.env)::starEach [] X.env:=by rfl) (hplain:(backTo cpos (starEach [] X.env)).any (·.1)=false:=by rfl)
  (hsw:swapsWith (.Call (.Attribute (.Name x p) "extend" apos) [e] [] cpos) none pos.line X.env=pure false:=by rfl) :
  PS X (.Expr (.Call (.Attribute (.Name x p) "extend" apos) [e] [] cpos) pos) (tSt K EX d (kY i c ma)):=by
 subst hK;exact (au (wF qJ7 PySem.F.slot_list_extend PySem.F.type_list_extend rh (S6 hN hv hd hcd) (aw ha pa_nil hs) hbase hfew hline hs hplain) hsw).mono λ_ _ _ q=>Gy q
theorem wz {i:Nat}{x:Str}{p apos cpos:Pos}(hN:X.N[i]?=some x) (hv:Vis X.env.scope x) (hK:X.K=K:=by rfl) (hd:(x == ("__debug__" : Str))=false:=by decide) (hcd:(x == ("__classdict__" : Str))=false:=by decide)
  (hbase:attributeBase (.Name x p) "reverse" X.env (eval (.Name x p) X.env)=eval (.Name x p) X.env:=by rfl) (hline:(apos.endLine == cpos.line)=true:=by rfl)
  (hsw:swapsWith (.Call (.Attribute (.Name x p) "reverse" apos) [] [] cpos) none pos.line X.env=pure false:=by rfl) :
  PS X (.Expr (.Call (.Attribute (.Name x p) "reverse" apos) [] [] cpos) pos) (tSt K EX d (gJ i)):=by
 subst hK;exact (au (Cs qJ7 PySem.F.slot_list_reverse PySem.F.type_list_reverse oF (S6 hN hv hd hcd) hbase hline) hsw).mono λ_ _ _ q=>Gn q
end
section
variable {X:Cx}{K:Frag}{EX:EXT}{a e tg:Expr}{es:List Expr}{pos:Pos}{ma:Rho->R W}{mr:Rho->R (List W)}
theorem M0 (h:PE X e (tM K EX .B ma))(hK:X.K=K:=by rfl):PI X tg e (tIt K EX false .U (bS ma)):=wB (lp:=false) h hK
theorem D7 (h:PE X e (tM K EX .U ma))(hK:X.K=K:=by rfl):PI X tg e (tIt K EX true .U (bS ma)):=wB (lp:=true) h hK
theorem W2 {elts:List Expr}{p tp:Pos}{k:Nat}(hg:Gl X "zip") (hm:X.mg "zip" = none) (ha:PA X (a::es) (tA K EX .B mr)) (hK:X.K=K:=by rfl) (hs:starEach (a::es) X.env=(false,eval a X.env)::starEach es X.env:=by rfl) (hpl:(backTo pos (starEach es X.env)).any (·.1)=false:=by rfl) :
  PI X (.Tuple elts k tp) (.Call (.Name "zip" p) (a::es) [] pos) (tIt K EX false .U (bI E6 mr)):=wx (lp:=false) hg hm ha hK hs hpl
theorem qF {elts:List Expr}{p tp:Pos}{k:Nat}(hg:Gl X "zip") (hm:X.mg "zip" = none) (ha:PA X (a::es) (tA K EX .U mr)) (hK:X.K=K:=by rfl) (hs:starEach (a::es) X.env=(false,eval a X.env)::starEach es X.env:=by rfl) (hpl:(backTo pos (starEach es X.env)).any (·.1)=false:=by rfl) :
  PI X (.Tuple elts k tp) (.Call (.Name "zip" p) (a::es) [] pos) (tIt K EX true .U (bI E6 mr)):=wx (lp:=true) hg hm ha hK hs hpl
end
end TP
namespace TP
open PySem L2
section
variable {K:Frag}{EX:EXT}{H0 G H G1 H1:Hp}{ρ:Rho}{σ:St}{d:Mode}{D:Ends}
def FX:Sl->Bool
 | .own _=>true
 | .dic _=>true
 | .dik _=>true
 |_=>false
def noOwn (ρ:Rho):Bool:=ρ.all λs=>!FX s
def sCU (i:Nat)(f:List W->R W)(ma:Rho->R (List W)):Rho->R Fl:=λρ=>if noOwn ρ then (ma ρ>>=λws=>f ws>>=λw=>.ok (.nx (ρ.set i (.par w)))) else .stuck
end
section
variable {X:Cx}{K:Frag}{d:Mode}{e:Expr}{es:List Expr}{pos:Pos}{mr:Rho->R (List W)}
end
end TP
namespace TP
open PySem L2
def pF (K:Frag) (a:Addr) (n:Nat):It:=
 ⟨λi H=>i<n/\∃xs x,SqL K H a xs/\xs.length=n/\xs[n-1-i]?=some x,λi H x H'=>H'=H/\∀xs,SqL K H a xs->xs[n-1-i]?=some x,λi H=>i=n/\∃xs,SqL K H a xs/\xs.length=n⟩
theorem tJ {P:Program}{w:World}{K:Frag}{tg:Expr}(a it:Addr) (n:Nat):Turn P w K tg (pF K a n) [it] it (λi h=>i<=n/\h.IsRevIter it a ((n:Int)-1-(i:Int))) where
 mem:=by simp
 obj:=λi h st b hb=>by
  have e:b=it:=by simpa using hb
  subst e;obtain ⟨_,o,e,c,d⟩:=st;exact ⟨o,e,λv z=>by rw[d]at z;cases z⟩
 keep:=λi h h' st k=>⟨st.1,st.2.at λo e=>k it (by simp) o e⟩
 item:=by
  intro X hP hw hK hc i pins s σ H E I hf st hg;subst hP hw hK;obtain ⟨hi,xs,x,hq,hn,hx⟩:=hg;obtain ⟨its,rv,p,hz⟩:=I.list hq;obtain ⟨u,hu,ru⟩:=rv.get hx;obtain ⟨f0,f1,f2,f3,f4,f5⟩:=hf it (by simp);have e1:(n:Int)-1-(i:Int)=((n-1-i:Nat):Int):=by omega
  have st2:=st.2;rw[e1]at st2;refine wpAny_pyNext_rev_item st2 p.isList (x:=u) (by simpa using hu) λh' st' sb=>?_;have I1:Inv X pins σ H { s with heap:=h' }:=I.turned (t':=s.toks) (λb o hb e=>(sb.2 b hb).trans e) f0 f1 f3 f4 f5;have e2:((n-1-i:Nat):Int)-1=(n:Int)-1-((i+1:Nat):Int):=by omega
  rw[e2]at st';obtain ⟨o,e,c,d⟩:=id st';exact ⟨u,rfl,jq (s:={ s with heap:=h' }) e c d (by decide) ⟨x,H,I1,ru,⟨rfl,λys hy=>by rw[I.list_inj hy hq];exact hx⟩,⟨hi,st'⟩,λb hb=>(hf b hb).1⟩⟩
 done:=by
  intro X hP hw hK hc i pins s σ H E I hf st hg;subst hP hw hK;obtain ⟨rfl,xs,hq,hn⟩:=hg;obtain ⟨f0,f1,f2,f3,f4,f5⟩:=hf it (by simp);have e1:(i:Int)-1-(i:Int) = -1:=by omega
  have st2:=st.2;rw[e1]at st2;exact wpAny_pyNext_rev_end (I.ok.hd hc) st2 λh' eb=>⟨rfl,I.turned (t':=s.toks) (λb o hb e=>eb b o hb e) f0 f1 f3 f4 f5⟩
 self:=λ_ _ _ _ _ st h=>wpAny_pyIter_revIter st.2 h
def DG (K:Frag)(ta:TA):TI:=λσ H R=>ta σ H λvs H1=>∃a,vs = [.ref a]/\∃xs,SqL K H1 a xs/\R (pF K a xs.length) H1
theorem dQ:bootBuiltins "reversed" = some (.type "reversed"):=by decide +kernel
section
variable {X:Cx}{tg:Expr}
theorem Cm {a:Expr}{ta:TA}{p pos:Pos}(hg:Gl X "reversed") (hm:X.mg "reversed" = none) (ha:PA X [a] ta) (hs:starEach [a] X.env = [(false,eval a X.env)]:=by rfl):PI X tg (.Call (.Name "reversed" p) [a] [] pos) (DG X.K ta):=by
 intro pins s σ H R I h;refine wpAny_Call_Name_kw (O9 I hg hm dQ ?_ (by decide) (by decide));refine qF5 (thn (ha pos pins s σ H _ I h) λus s1 zz78=>?_) hs (by rfl);obtain ⟨vs,H1,I1,r1,q1⟩:=zz78;obtain ⟨b,e,xs,hq,q⟩:=q1;subst e;obtain ⟨u,rfl,ru⟩:=J4 r1;cases ru;obtain ⟨its,rv,pl,hz⟩:=I1.list hq;have hl:=rv.length;refine call_reversed_list pl.isList ?_;have hit:(s1.heap.push (revObj b ((its.toArray.size:Int)-1))).IsRevIter s1.heap.objs.size b ((xs.length:Int)-1-((0:Nat):Int)):=by
  refine ⟨_,qC2 _ rfl,rfl,?_⟩
  have:((xs.length:Int)-1-((0:Nat):Int))=((its.toArray.size:Int)-1):=by simp;omega
  rw[this];rfl
 refine wpAny_pyIter_revIter hit ?_;refine ⟨s1.heap.objs.size,[s1.heap.objs.size],_,pF X.K b xs.length,H1,rfl,I1.kept (t':=s1.toks) λb o e=>qA9 _ e,tJ b _ _,⟨qD1 _,hit⟩,λc hc=>?_,q⟩;have e:c=s1.heap.objs.size:=by simpa using hc
 subst e;exact I1.fpOk (qB9 _) (I1.hok.fresh (qB9 _))
end
def bZ:List W->R (List W)
 | [.lst ws]=>.ok ws.reverse
 |_=>.stuck
section
variable {K:Frag}{EX:EXT}{H0 G H:Hp}{ρ:Rho}{σ:St}
theorem vk {e:Mode}{Z:Hp}{a:Addr}{vs:List V}{ws:List W}(he:e=.V\/e=.U) (s:SqL K Z a vs) (r:Reps K (fz e H0 G) vs ws):bx K e H0 Z G (pF K a vs.length) ws.reverse:=by
 have hl:=r.length;have hq:∀H,Same Z H->SqL K H a vs:=λH z=>Same.seq z s;refine ⟨λi H hi z=>?_,λH z=>⟨by rw[qB2,hl],vs,hq H z,rfl⟩,λi H x H' w hw z ⟨e1,y⟩ G2 ρ σ I sg=>?_⟩
 ·rw [qB2]at hi
  exact ⟨by omega,vs,vs[vs.length-1-i]'(qG0 (Nat.sub_le _ _) (Nat.sub_lt (hl ▸ qG0 (qD1 i) hi) (by decide))),hq H z,rfl,by simp⟩
 ·subst e1;have hi:i<ws.length:=by have:=(qB0.mp hw).1;simpa using this
  have hx:=y vs (hq _ z);rw[List.getElem?_reverse hi]at hw;obtain ⟨v,hv,rv⟩:=Reps.get r hw;rw[hl,hv]at hx;cases hx;exact ⟨G2,Ext.refl I.gh,Md.of_fz he (rv.same (L3 sg))⟩
theorem Md.srcL {lp:Bool}{Hs:Hp}{x:V}{ws:List W}(I:PIv K H0 G ρ σ H) (m:Md K H0 Hs G H x (.lst ws) (bT lp .U)):∃a vs,x=.ref a/\SqL K (if lp then join H0 G else H) a vs/\Reps K (fz .U H0 G) vs ws:=by
 have ez:fz .U H0 G=join H0 G:=by unfold fz;rw[qA6 (show ¬ (Mode.U=Mode.V) by intro z;cases z)]
 rw[ez];cases lp with
 | true=>
  rw[qA4 rfl];obtain ⟨a,vs,e,s,r⟩:=Rep.inv m;exact ⟨a,vs,e,SqL.of s,r⟩
 | false=>
  rw[qA6 qA5];rcases m with m|⟨a,vs,us,rfl,e2,h1,r⟩
  ·obtain ⟨a,vs,e,s,r⟩:=Rep.inv m;exact ⟨a,vs,e,SqL.of (I.join_H _ _ s),r⟩
  ·rw[W.lst.inj e2];exact ⟨a,vs,rfl,SqL.of h1,r.same I.G_join⟩
theorem Gm {lp:Bool}{ma:Rho->R (List W)}{Rr:It->Hp->Prop}(h:tIt K EX lp .U (λρ=>ma ρ>>=bZ) σ H Rr):DG K (tA K EX (bT lp .U) ma) σ H Rr:=by
 refine aO h (λH0 G ρ G1 H1 xs ws us I e1 m1 q o=>?_) (λws e z=>?_)
 ·have I1:=I.ext e1;unfold bZ at q
  split at q
  ·rename_i ws'
   cases q;cases m1 with
   | cons a1 t=>
    cases t;obtain ⟨p,vs,rfl,hL,r⟩:=Md.srcL I1 a1;exact ⟨p,rfl,vs,Same.seq (gK I1) hL,o _ G1 H1 e1 (vk (.inr rfl) hL r)⟩
  ·cases q
 ·unfold bZ at z
  split at z <;> cases z
end
section
variable {X:Cx}{K:Frag}{EX:EXT}{a tg:Expr}{pos:Pos}{mr:Rho->R (List W)}
theorem om {p:Pos}(hg:Gl X "reversed") (hm:X.mg "reversed" = none) (ha:PA X [a] (tA K EX .U mr)) (hK:X.K=K:=by rfl) (hs:starEach [a] X.env = [(false,eval a X.env)]:=by rfl):PI X tg (.Call (.Name "reversed" p) [a] [] pos) (tIt K EX true .U (bI bZ mr)):=by
 subst hK;exact (Cm hg hm ha hs).mono λ_ _ _ q=>Gm (lp:=true) q
end
end TP
namespace TP
open PySem L2
def L6 (ns:List Int):Int:=ns.getD (argBest (λi j=>decide (ns.getD j 0<ns.getD i 0)) (ns.length-1)) 0
theorem gS {ns : List Int} : ∀k, k < ns.length -> ns.getD k 0 <= L6 ns := by
  have key : ∀ m k, k <= m -> ns.getD k 0 <= ns.getD (argBest (λi j => decide (ns.getD j 0 < ns.getD i 0)) m) 0 := by
    intro m
    induction m with
    | zero => intro k hk;have : k = 0 := by omega
              subst this;exact qG5 _
    | succ m ih =>
      intro k hk;unfold argBest
      split
      · rename_i h
        have h := of_decide_eq_true h;by_cases e : k = m + 1
        · subst e;exact qG5 _
        · have := ih k (by omega);omega
      · rename_i h
        by_cases e : k = m + 1
        · subst e;have : ¬ (ns.getD (argBest (λi j => decide (ns.getD j 0 < ns.getD i 0)) m) 0 < ns.getD (m + 1) 0) := λz => h (decide_eq_true z)
          omega
        · exact ih k (by omega)
  intro k hk;exact key _ k (by omega)
section
variable {X:Cx}{pins:List (Addr×Obj)}{σ:St}{H:Hp}{s:Shared}
theorem int_at {ns:List Int}{its:List Value}(rv:Vals (ns.map V.int) its){i:Nat}{v:Value}(h:its.toArray[i]?=some v):∃t,v=.int (ns.getD i 0) t:=by
 obtain ⟨n,hn,t,e⟩:=pM (f:=V.int) (g:=λn u=>∃t,u=.int n t) (λb u r=>r) rv h;exact ⟨t,by rw[e,qA0,hn];rfl⟩
theorem cmp_gt {A:Around}{ns:List Int}{its:List Value}(rv:Vals (ns.map V.int) its):CmpOf X.prog X.w A .Gt (λi v=>its.toArray[i]?=some v) (λi j=>decide (ns.getD j 0<ns.getD i 0)):=λi j vi vj s' Q' E hi hj hq=>by
 obtain ⟨t,rfl⟩:=int_at rv hi;obtain ⟨u,rfl⟩:=int_at rv hj;exact PyProof.Rows.gt_int hq
theorem lt2 {p:Addr}{o:Obj}{u:Obj}(e:s.heap.get? p=some u):∀b ∈ [s.heap.objs.size,p],b<(s.heap.push o).objs.size:=λb hb=>by
 have hlt:=qB4 e;simp at hb;rcases hb with rfl|rfl
 ·simp [Heap.push]
 ·exact qB7 hlt (by simp [Heap.push])
theorem iX (hc:X.calm=true):F5 X (.builtin "max") (λxs H Q=>∃(p:Addr) (ns:List Int),xs = [.ref p]/\(H p=some (.lst (ns.map V.int))\/H p=some (.tup (ns.map V.int)))/\0<ns.length/\Q (.int (L6 ns)) H):=by
 intro pins s σ H xs us Q I r h;obtain ⟨p,ns,rfl,hp,hn,q⟩:=h;obtain ⟨u,rfl,rx⟩:=J4 r;cases rx;have hd:X.A.in1.handled=none:=I.ok.hd hc;rcases hp with hp|hp
 ·obtain ⟨its,rv,hl,hlen,hne,Wk⟩:=io I hc hp;rw[qA1]at hlen;obtain ⟨o,e,_⟩:=id hl;refine call_max_walk (wpAny_pyIter_list hl ⟨_,_,_,_,_,_,_,rfl,Wk,⟨⟨_,qC2 _ rfl,rfl,rfl⟩,hl.push _⟩,lt2 e,by omega,cmp_gt rv,λv h' tk hv hk=>?_⟩);obtain ⟨t,rfl⟩:=int_at rv hv;rw[<- hlen];exact ⟨.int (L6 ns),H,I.kept (t':=tk) (cF hk),⟨t,rfl⟩,q⟩
 ·obtain ⟨its,rv,pl,hz⟩:=I.tuple (SqT.of hp);have hlen:ns.length=its.toArray.size:=by rw[qB5,<- rv.length,qA1]
  have ht:s.heap.IsTuple p its.toArray:=pl;obtain ⟨o,e,_⟩:=id ht;have hne:p≠s.heap.objs.size:=qD2 (qB4 e);refine call_max_walk (wpAny_pyIter_tuple ht ⟨_,_,_,_,_,_,_,rfl,Walks.tuple hd _ p hne its.toArray,⟨⟨_,qC2 _ rfl,rfl,rfl⟩,ht.push _⟩,lt2 e,by omega,cmp_gt rv,λv h' tk hv hk=>?_⟩);obtain ⟨t,rfl⟩:=int_at rv hv;rw[<- hlen];exact ⟨.int (L6 ns),H,I.kept (t':=tk) (cF hk),⟨t,rfl⟩,q⟩
end
def AT:W->Option (List Int)
 | .lst ws=>z8 ws
 | .tup ws=>z8 ws
 |_=>none
def Z5 (g:List Int->Int):List W->R W
 | [w]=>toR (AT w)>>=λns=>if 0<ns.length then .ok (.int (g ns)) else .stuck
 |_=>.stuck
theorem sS {K:Frag}{d:Mode}{g:List Int->Int}:Cal K .B d (λxs H Q=>∃(p:Addr) (ns:List Int),xs = [.ref p]/\(H p=some (.lst (ns.map V.int))\/H p=some (.tup (ns.map V.int)))/\0<ns.length/\Q (.int (g ns)) H) (Z5 g):=by
 intro EX H0 Hs G H ρ σ Ha vs ws Q I s m o;unfold Z5 at o
 split at o
 ·rename_i w
  cases m with
  | cons a t=>
   cases t;cases q:AT w with
   |none=>rw[q]at o;exact o.elim
   | some ns=>
    rw[q]at o;replace o:Out EX G H (mdW K d H0 Hs) (if 0<ns.length then R.ok (W.int (g ns)) else .stuck) Q:=o
    by_cases hn:0<ns.length
    ·rw [qA4 hn]at o
     cases w <;> first|cases q|skip
     ·obtain ⟨p,ys,rfl,hs,r⟩:=a.tupB I;rw[Reps.ints r q]at hs;exact ⟨p,ns,rfl,.inr hs,hn,o _ G H (Ext.refl I.gh) (Md.sca rfl (λ_=>.int) d)⟩
     ·obtain ⟨p,ys,rfl,hs,r⟩:=a.lstB I;rw[Reps.ints r q]at hs;exact ⟨p,ns,rfl,.inl hs,hn,o _ G H (Ext.refl I.gh) (Md.sca rfl (λ_=>.int) d)⟩
    ·rw[qA6 hn]at o;exact o.elim
 ·exact o.elim
end TP
namespace HT
open PySem PySem.Spec PyProof.Rows
theorem Z2:typeLookup (.type "tuple") (dunderR "mul")=pure (some (.builtin "tuple.__rmul__")):=by rw[typeLookup_type,builtinLookup_eq_fast];kernel_rfl
theorem noFill_tuple_mul:fillsNumberSlot (.type "tuple") "mul" = pure false:=
 PySem.fillsNumberSlot_seq (id := "tuple.__mul__") (r:=some (.builtin "tuple.__rmul__")) F.slot_tuple_mul.lookup (by decide +kernel) Z2 (by decide +kernel)
theorem repeat_tuple:seqRepeat? (.type "tuple")=pure (some (.builtin "tuple.__mul__")):=by
 unfold seqRepeat?;rw[PySem.seqSlot_of (T := "tuple") (name := "__mul__") (id := "tuple.__mul__") F.slot_tuple_mul.lookup (by decide +kernel),PySem.seqSlot_of (T := "tuple") (name := "__rmul__") (id := "tuple.__rmul__") Z2 (by decide +kernel)];rfl
theorem rmul_declines (a:Int) (t:Tok) (l:Addr) (items:Array Value) (n:Nat) (dd:Option Addr) (sl:Array (Option Value)) :
  Meets (Builtin.«int.__rmul__» ⟨[.int a t,.ref l],[]⟩) (λ_ R s=>s.heap.get? l=some { cls:=.type "tuple",dict:=dd,data:=.seq items n,slots:=sl }/\R (.ok (.ret Value.notImplemented)) s):=
 .of_wp λprog w A R s h=>by obtain ⟨hp,g,d,tk,os⟩:=s;obtain ⟨hl,h⟩:=h;wp_walk;exact ⟨_,rfl,h⟩
theorem tuple_mul1 (l:Addr) (items:Array Value) (n:Nat) (dd:Option Addr) (sl:Array (Option Value)) (u:Tok) :
  Meets (Builtin.«tuple.__mul__» ⟨[.ref l,.int 1 u],[]⟩) (λ_ R s=>s.heap.get? l=some { cls:=.type "tuple",dict:=dd,data:=.seq items n,slots:=sl }/\R (.ok (.ret (.ref l))) s):=
 .of_wp λprog w A R s h=>by
  obtain ⟨hp,g,d,tk,os⟩:=s;obtain ⟨hl,h⟩:=h;have f1:=AutoSeq1.idx_int
  wp_walk using wpAny_loadPart' hl;exact ⟨_,rfl,h⟩
theorem tuple_mul2 (l:Addr) (items:Array Value) (n:Nat) (dd:Option Addr) (sl:Array (Option Value)) (k:Int) (u:Tok) (hc:¬ (decide (k < -(2^63))||decide (k≥2^63))=true)
  (hi:¬ (items.isEmpty||k == 1)=true) (h0:¬ (decide (k<=0)||items.isEmpty)=true) (hm:¬ (items.size*k>(2^63-1)/8)) (hz:¬ Builtin.Tuple.tupleTooMany (items.size*k)=true) (hs0:((List.replicate k.toNat items).foldl (·++·) #[]).size<=sizeLine) :
  Meets (Builtin.«tuple.__mul__» ⟨[.ref l,.int k u],[]⟩) (λ_ R s=>s.heap.get? l=some { cls:=.type "tuple",dict:=dd,data:=.seq items n,slots:=sl }/\R (.ok (.ret (.ref s.heap.objs.size))) { s with heap:=s.heap.push { cls:=.type "tuple",data:=.seq ((List.replicate k.toNat items).foldl (·++·) #[]) } }):=
 .of_wp λprog w A R s h=>by
  obtain ⟨hp,g,d,tk,os⟩:=s;obtain ⟨hl,h⟩:=h;have f1:=AutoSeq1.idx_int
  wp_walk using wpAny_loadPart' hl
  rw[qA6 hc]
  wp_walk using wpAny_loadPart' hl
  rw[qA6 hm]
  wp_walk using wpAny_loadPart' hl
  exact ⟨_,rfl,h⟩
end HT
namespace TP
open PySem L2 PySem.Spec PyProof.Rows
theorem len_reps {α:Type}(xs:List α):∀k:Nat,(List.replicate k xs).flatten.length=k*xs.length
 |0=>by simp
 |k+1=>by rw[qF4,qI2,qC3,len_reps xs k,Nat.succ_mul,Nat.add_comm]
theorem fF (its:List Value):∀(m:Nat) (acc:List Value),List.foldl (λx1 x2=>x1++x2) acc.toArray (List.replicate m its.toArray)=(acc++(List.replicate m its).flatten).toArray
 |0,acc=>by simp
 |m+1,acc=>by rw[qF4,List.foldl_cons,List.append_toArray,fF its m (acc++its),qF4,qI2,qI3]
def ww (K:Frag):R2:=λx y H Q=>∃a k xs,x=.ref a/\y=.int k/\SqT K H a xs/\xs ≠ []/\1<=k/\k<2^63/\xs.length*k.toNat<=sizeLine /\
 (k=1->Q (.ref a) H)/\(k≠1->∀l,H l=none->Q (.ref l) (upd H l (.tup (List.replicate k.toNat xs).flatten)))
variable {X:Cx}{K:Frag}
theorem yh (hK:X.K=K:=by rfl):OpR X (binaryOp .Mult) (ww K):=by
 subst hK;intro pins s σ H x y v u Q I rx ry h;obtain ⟨l,k,xs,rfl,rfl,hH,hne,h1,h2,hz,q1,q2⟩:=h;cases rx;obtain ⟨t,rfl⟩:=ry;obtain ⟨its,r,p,_⟩:=I.tuple hH;obtain ⟨⟨cls,dd,data,sl⟩,ho,hc,n,hd⟩:=id p;simp only at hc hd;subst hc hd;have hin:its ≠ []:=λz=>hne (r.nil_iff.mp z);refine wpAny_binaryOp_repeat_ref (T := "tuple") (U := "int") (by decide) ⟨_,ho,rfl⟩ (λs'=>typeIs_int s' k t) HT.noFill_tuple_mul F.fills_int_mul F.slot_int_rmul HT.repeat_tuple F.slot_int_index.lookup
  (call_meets F.slot_int_rmul (typeIs_int s k t) F.entry_int_rmul (F.args_int_rmul_2 _ _) (HT.rmul_declines k t l its.toArray n dd sl)
   ⟨ho,rfl,⟨_,ho,rfl⟩,?_⟩)
 by_cases e:k=1
 ·subst e;exact call_meets F.slot_tuple_mul ⟨_,ho,rfl⟩ F.entry_tuple_mul (F.args_tuple_mul_2 _ _) (HT.tuple_mul1 l its.toArray n dd sl t) ⟨ho,.ref l,H,I,rfl,q1 rfl⟩
 ·have hnew:List.foldl (λx1 x2=>x1++x2) #[] (List.replicate k.toNat its.toArray)=(List.replicate k.toNat its).flatten.toArray:=by
   have:=fF its k.toNat []
   rw[qL7]at this;exact this
  have hlen:its.length*k.toNat<=sizeLine:=by rw[<- r.length];exact hz
  have hsz:(its.toArray.size:Int)*k<=(sizeLine:Nat):=by
   have e2:((its.length*k.toNat:Nat):Int)=(its.toArray.size:Int)*k:=by
    rw[Int.natCast_mul,Int.toNat_of_nonneg (by omega),qB5]
   rw[<- e2];exact_mod_cast hlen
  have hcap:((sizeLine:Nat):Int)<=(2^63-1)/8:=by decide
  refine call_meets F.slot_tuple_mul ⟨_,ho,rfl⟩ F.entry_tuple_mul (F.args_tuple_mul_2 _ _) (HT.tuple_mul2 l its.toArray n dd sl k t ?_ ?_ ?_ ?_ ?_ ?_) ⟨ho,?_⟩
  ·simp only [Bool.or_eq_true,decide_eq_true_eq];omega
  ·simp [hin,e]
  ·simp only [Bool.or_eq_true,decide_eq_true_eq];rintro (z|z)
   ·omega
   ·simp [hin]at z
  ·omega
  ·simp only [Builtin.Tuple.tupleTooMany,decide_eq_true_eq];omega
  ·rw[hnew,qB5,len_reps,Nat.mul_comm];exact hlen
  ·rw [hnew]
   refine ⟨.ref s.heap.objs.size,_,I.laid (t':=s.toks) (o:=.tup (List.replicate k.toNat xs).flatten) (λb ob q=>qA9 _ q) (qB9 _) ?_,rfl,q2 e _ (I.hok.fresh (qB9 _))⟩;exact ⟨by rw[len_reps,Nat.mul_comm];exact hz,_,r.rep k.toNat,IsTup.new _ _⟩
def fRepT:W->W->R W
 | .tup us,.int k=>if us ≠ []/\us.length*k.toNat<=1000/\1<=k/\k<=1000 then .ok (.tup (List.replicate k.toNat us).flatten) else .stuck
 |_,_=>.stuck
theorem yn:Op2 K .C .F (ww K) fRepT:=by
 intro EX H0 Hs G H ρ σ Ha Hb x y u v Q I s mx my o;cases u <;> first|exact o.elim|skip
 all_goals (cases v <;> first|exact o.elim|skip)
 rename_i us k
 replace o:Out EX G H (mdW K .F H0 Hs) (if us ≠ []/\us.length*k.toNat<=1000/\1<=k/\k<=1000 then .ok (.tup (List.replicate k.toNat us).flatten) else .stuck) Q:=o
 by_cases hn:us ≠ []/\us.length*k.toNat<=1000/\1<=k/\k<=1000
 ·rw [qA4 hn]at o
  obtain ⟨hne,hz,h1,h2⟩:=hn;have hy:y=.int k:=Md.intB (Md.CB (H:=Hb) I my);subst hy;obtain ⟨a,vs,rfl,h,r⟩:=(Md.repC mx λ_=>W.noConfusion).inv;refine ⟨_,k,_,rfl,rfl,SqT.of (I.gh _ _ h),?_,h1,by omega,by rw[r.length];exact aB hz,?_,?_⟩
  ·intro z
   have:=r.length
   rw[z]at this;exact hne (List.eq_nil_of_length_eq_zero this.symm)
  ·intro e;subst e;refine o _ G H (Ext.refl I.gh) (.tup h ?_);simpa using r
  ·intro _ l hl;exact Out.newTF I (r.rep _) hl o
 ·rw[qA6 hn]at o;exact o.elim
end TP
namespace TP
open PySem PySem.W PyProof.Rows
section
variable (r:Nat->Int)
def runK {α:Type}:KasT α->α
 | .ret a=>a
 | .ask i j k=>runK (k (decide (r i<r j)))
theorem S3 {α β:Type}(f:α->KasT β) (t:KasT α):runK r (t.bind f)=runK r (f (runK r t)):=by
 induction t with
 |ret _=>rfl
 |ask i j k ih=>exact ih _
theorem fS {α:Type}{i j:Nat}{k:Bool->KasT α}(h:r i<r j):runK r (.ask i j k)=runK r (k true):=congrArg (λb=>runK r (k b)) (decide_eq_true h)
theorem dy {α:Type}{i j:Nat}{k:Bool->KasT α}(h:¬ r i<r j):runK r (.ask i j k)=runK r (k false):=congrArg (λb=>runK r (k b)) (decide_eq_false h)
def ky (p:Array Nat)(k:Nat):Int:=r (p.getD k 0)
theorem fD {p q:Array Nat}{k l:Nat}(h:p[k]?=q[l]?):ky r p k=ky r q l:=by
 unfold ky;rw[qE2,qE2,h]
theorem lj {p:Array Nat}{i j:Nat}(hj:j<=p.size) (k:Nat):ky r (kas_rev p i j) k=if i<=k/\k<j then ky r p (i+j-1-k) else ky r p k:=by
 have e:=getElem?_mirror_all (i:=i) hj k;by_cases h:i<=k/\k<j
 ·rw[qA4 h]at e ⊢;exact fD r e
 ·rw[qA6 h]at e ⊢;exact fD r e
theorem CM {p:Array Nat}{k d:Nat}(hs:k<p.size) (hd:d<=k) (i:Nat):ky r (bubble p k d) i=if i=k-d then ky r p k else if k-d<i/\i<=k then ky r p (i-1) else ky r p i:=by
 have e:=getElem?_bubble hs d hd i;by_cases h:i=k-d
 ·rw[qA4 h]at e ⊢;exact fD r e
 ·rw [qA6 h]at e ⊢
  by_cases h2:k-d<i/\i<=k
  ·rw[qA4 h2]at e ⊢;exact fD r e
  ·rw[qA6 h2]at e ⊢;exact fD r e
theorem rev_eq {p:Array Nat}{i j:Nat}{c:Int}(hj:j<=p.size) (h:∀k,i<=k->k<j->ky r p k=c) (k:Nat):ky r (kas_rev p i j) k=ky r p k:=by
 rw[lj r hj];by_cases hk:i<=k/\k<j
 ·rw[qA4 hk,h k hk.1 hk.2,h _ (by omega) (by omega)]
 ·rw[qA6 hk]
def up (p:Array Nat)(n:Nat):Prop:=∀k,k+1<n->ky r p k<=ky r p (k+1)
def dn (p:Array Nat)(n:Nat):Prop:=∀k,k+1<n->ky r p (k+1)<=ky r p k
theorem xi {p:Array Nat}{n:Nat}(h:up r p (n+1)) (e:ky r p n<=ky r p (n+1)):up r p (n+2):=λk hk=>by
 rcases qL9 (qG4 (qG4 hk)) with q|rfl
 ·exact h k (Nat.succ_lt_succ q)
 ·exact e
theorem aH {p:Array Nat}{n:Nat}(h:dn r p (n+1)) (e:ky r p (n+1)<=ky r p n):dn r p (n+2):=λk hk=>by
 rcases qL9 (qG4 (qG4 hk)) with q|rfl
 ·exact h k (Nat.succ_lt_succ q)
 ·exact e
theorem sW (p:Array Nat):∀(f m:Nat),up r p (m+1)->∃R,runK r (kas_asc p f (m+1))=R+1/\m<=R/\R<=m+f/\up r p (R+1)/\(R<m+f->ky r p (R+1)<ky r p R):=by
 intro f
 induction f with
 |zero=>exact λm hu=>⟨m,rfl,qB9 _,qB9 _,hu,λh=>absurd h (qF1 _)⟩
 | succ f ih=>
  intro m hu;by_cases h:ky r p (m+1)<ky r p m
  ·exact ⟨m,fS r h,qB9 _,qK7 _ _,hu,λ_=>h⟩
  ·obtain ⟨R,e,a,b,c,d⟩:=ih (m+1) (xi r hu (Int.not_lt.mp h));have hf:m+1+f=m+(f+1):=qF9 m f;rw[hf]at b d;exact ⟨R,(dy r h).trans e,qH0 a,b,c,d⟩
theorem zH:∀(f:Nat) (p:Array Nat) (m q:Nat),m+1+f<=p.size->q<=m->dn r p (m+1)->(∀k,m+1-(q+1)<=k->k<=m->ky r p k=ky r p m) ->
  ∃p' m' q',runK r (kas_desc f p (m+1) q)=(p',m'+1,q')/\p'.Perm p/\m<=m'/\m'<=m+f/\dn r p' (m'+1)/\∀k,m'+1-(q'+1)<=k->k<=m'->ky r p' k=ky r p' m':=by
 intro f
 induction f with
 |zero=>exact λp m q _ _ hd he=>⟨p,m,q,rfl,.refl _,qB9 _,qB9 _,hd,he⟩
 | succ f ih=>
  intro p m q hz hq hd he;have hf:m+1+f=m+(f+1):=qF9 m f;have hz1:m+1+1+f<=p.size:=by rw[qF9 (m+1) f];exact hz
  by_cases h:ky r p (m+1)<ky r p m
  ·have e0:runK r (kas_desc (f+1) p (m+1) q)=runK r (if q>0 then kas_desc f (kas_rev p (m+1-(q+1)) (m+1)) (m+1+1) 0 else kas_desc f p (m+1+1) 0):=fS r h;by_cases hq0:q>0
   ·have key:=rev_eq r (p:=p) (i:=m+1-(q+1)) (j:=m+1) (c:=ky r p m) (qB8 (qK7 _ _) hz) λk a b=>he k a (qI6 b);obtain ⟨p',m',q',e,h1,h2,h3,h5⟩:=ih (kas_rev p (m+1-(q+1)) (m+1)) (m+1) 0 (by rw[kas_rev_size];exact hz1) (qD1 _) (aH r (λk hk=>by rw[key,key];exact hd k hk) (by rw[key,key];exact Int.le_of_lt h)) λk a b=>by rw[qL8 b a]
    rw[e0,qA4 hq0];rw[hf]at h3;exact ⟨p',m',q',e,h1.trans (mirror_perm _ _ _ _),qH0 h2,h3,h5⟩
   ·obtain ⟨p',m',q',e,h1,h2,h3,h5⟩:=ih p (m+1) 0 hz1 (qD1 _) (aH r hd (Int.le_of_lt h)) λk a b=>by rw[qL8 b a]
    rw[e0,qA6 hq0];rw[hf]at h3;exact ⟨p',m',q',e,h1,qH0 h2,h3,h5⟩
  ·by_cases h2:ky r p m<ky r p (m+1)
   ·exact ⟨p,m,q,(dy r h).trans (fS r h2),.refl _,qB9 _,qK7 _ _,hd,he⟩
   ·have ee:ky r p (m+1)=ky r p m:=Int.le_antisymm (Int.not_lt.mp h2) (Int.not_lt.mp h);obtain ⟨p',m',q',e,h1,h2',h3,h5⟩:=ih p (m+1) (q+1) hz1 (qH5 hq) (aH r hd (Int.le_of_eq ee)) λk a b=>by
     rcases qL9 b with b|rfl
     ·rw[ee];exact he k (by rw[Nat.add_sub_add_right]at a;exact a) (qI6 b)
     ·rfl
    rw[hf]at h3;exact ⟨p',m',q',(dy r h).trans ((dy r h2).trans e),h1,qH0 h2',h3,h5⟩
def oY (nrem:Nat)(p:Array Nat)(R:Nat×Array Nat):Prop:=R.2.Perm p/\R.1<=nrem/\up r R.2 R.1
theorem jC {p:Array Nat}{m nrem:Nat}(hn:m+1<=nrem) (hz:nrem<=p.size) (hd:dn r p (m+1)):oY r nrem p (runK r (kas_tail3 (m+1) nrem p)):=by
 unfold kas_tail3;rw[S3];have hm:=qB8 hn hz;have hu:up r (kas_rev p 0 (m+1)) (m+1):=λk hk=>by
  rw[lj r hm,lj r hm,qA4 ⟨qD1 _,qK1 hk⟩,qA4 ⟨qD1 _,hk⟩,Nat.zero_add,Nat.add_sub_cancel];have e:m-k=m-(k+1)+1:=(Nat.succ_pred_eq_of_pos (Nat.sub_pos_of_lt (Nat.lt_of_succ_lt_succ hk))).symm;rw[e];exact hd _ (by rw[<- e];exact Nat.lt_succ_of_le (Nat.sub_le _ _))
 obtain ⟨R,e,a,b,c,_⟩:=sW r (kas_rev p 0 (m+1)) (nrem-(m+1)) m hu;rw[e];exact ⟨mirror_perm _ _ _ _,by show R+1<=nrem;omega,c⟩
theorem dM {p:Array Nat}{m nrem:Nat}(hn:m+1<=nrem) (hz:nrem<=p.size) (hd:dn r p (m+1)):oY r nrem p (runK r (kas_descPart m nrem p)):=by
 unfold kas_descPart;rw[S3];obtain ⟨p',m',q',e,h1,h2,h3,h5,h6⟩:=zH r (nrem-(m+1)) p m 0 (by rw[qL2 hn];exact hz) (qD1 _) hd λk a b=>by rw[qL8 b a]
 rw[e]
 show oY r nrem p (runK r (if q'>0 then kas_tail3 (m'+1) nrem (kas_rev p' (m'+1-(q'+1)) (m'+1)) else kas_tail3 (m'+1) nrem p'));have hm:m'+1<=nrem:=by omega
 have hz':nrem<=p'.size:=by rw[h1.size_eq];exact hz
 by_cases hq:q'>0
 ·rw [qA4 hq]
  have key:=rev_eq r (p:=p') (i:=m'+1-(q'+1)) (j:=m'+1) (c:=ky r p' m') (qB8 hm hz') λk a b=>h6 k a (qI6 b);obtain ⟨t1,t2⟩:=jC r (p:=kas_rev p' (m'+1-(q'+1)) (m'+1)) hm (by rw[kas_rev_size];exact hz') λk hk=>by rw[key,key];exact h5 k hk
  exact ⟨(t1.trans (mirror_perm _ _ _ _)).trans h1,t2⟩
 ·rw [qA6 hq]
  obtain ⟨t1,t2⟩:=jC r hm hz' h5;exact ⟨t1.trans h1,t2⟩
theorem al {p:Array Nat}{n:Nat}(h:up r p n):∀j i,i<=j->j<n->ky r p i<=ky r p j:=by
 intro j
 induction j with
 |zero=>intro i a _;rw[Nat.le_zero.mp a];exact qG5 _
 | succ j ih=>
  intro i a b;rcases qL9 a with q|rfl
  ·exact qJ5 (ih i (qI6 q) (qK1 b)) (h j b)
  ·exact qG5 _
theorem sk {p:Array Nat}{nrem:Nat}(h2:2<=nrem) (hz:nrem<=p.size):oY r nrem p (runK r (kas_count nrem p)):=by
 unfold kas_count;rw[S3];obtain ⟨R,e,_,b,c,d⟩:=sW r p (nrem-1) 0 λk hk=>absurd hk (qM7 (qH5 (qD1 k)));have e:runK r (kas_asc p (nrem-1) 1)=R+1:=e;rw[e];by_cases e1:R+1=nrem
 ·rw [qA4 (beq_iff_eq.mpr e1)]
  exact ⟨.refl _,Nat.le_of_eq e1,c⟩
 ·rw [qA6 λq=>e1 (beq_iff_eq.mp q)]
  have hR:R+1+1<=nrem:=by omega
  have hlt:=d (by omega);by_cases h1:R+1>1
  ·rw [qA4 h1]
   by_cases h:ky r p 0<ky r p R
   ·have q:runK r (KasT.ask (p.getD 0 0) (p.getD (R+1-1) 0) λc=>if c=true then .ret (R+1,p) else kas_descPart (R+1) nrem (kas_rev p 0 (R+1)))=(R+1,p):=fS r h;rw[q];exact ⟨.refl _,qH0 hR,c⟩
   ·have q:runK r (KasT.ask (p.getD 0 0) (p.getD (R+1-1) 0) λc=>if c=true then .ret (R+1,p) else kas_descPart (R+1) nrem (kas_rev p 0 (R+1)))=runK r (kas_descPart (R+1) nrem (kas_rev p 0 (R+1))):=dy r h;rw[q];have hall:∀k,k<R+1->ky r p k=ky r p 0:=λk hk=>
     Int.le_antisymm (qJ5 (al r c R k (qI6 hk) (qJ4 _)) (Int.not_lt.mp h)) (al r c k 0 (qD1 _) hk)
    have key:=rev_eq r (p:=p) (i:=0) (j:=R+1) (c:=ky r p 0) (qB8 (qH0 hR) hz) λk _ hk=>hall k hk;obtain ⟨t1,t2⟩:=dM r (p:=kas_rev p 0 (R+1)) (m:=R+1) hR (by rw[kas_rev_size];exact hz) (aH r (λk hk=>by rw[key,key,hall _ hk,hall k (qK1 hk)];exact qG5 _) (by rw[key,key];exact Int.le_of_lt hlt));exact ⟨t1.trans (mirror_perm _ _ _ _),t2⟩
  ·rw [qA6 h1]
   have hn0:R=0:=by omega
   exact dM r hR hz (aH r (λk hk=>absurd hk (by rw[hn0];exact qM7 (qH5 (qD1 k)))) (Int.le_of_lt hlt))
theorem uG {p:Array Nat}{k:Nat}(hu:up r p k):∀(f l h:Nat),h-l<=f->l<=h->h<=k->(∀i,i<l->ky r p i<=ky r p k)->(∀i,h<=i->i<k->ky r p k<ky r p i) ->
  ∃R,runK r (kas_place p k f l h)=R/\R<=k/\(∀i,i<R->ky r p i<=ky r p k)/\∀i,R<=i->i<k->ky r p k<ky r p i:=by
 intro f
 induction f with
 | zero=>
  intro l h hf hl hk a b;have e:h=l:=by omega
  subst e;exact ⟨h,rfl,hk,a,b⟩
 | succ f ih=>
  intro l h hf hl hk a b;by_cases hlh:l≥h
  ·have e:h=l:=qL8 hlh hl;subst e;exact ⟨h,by show runK r (if h≥h then .ret h else _)=h;rw[qA4 (qB9 _)];rfl,hk,a,b⟩
  ·obtain ⟨md,hmd⟩:∃md,md=(l+h)/2:=⟨_,rfl⟩;have m1:l<=md:=by rw[hmd];exact (Nat.le_div_iff_mul_le (by decide)).mpr (by rw[Nat.mul_two];exact Nat.add_le_add_left hl _)
   have m2:md<h:=by rw[hmd];exact (Nat.div_lt_iff_lt_mul (by decide)).mpr (by rw[Nat.mul_two];exact Nat.add_lt_add_right (Nat.lt_of_not_le hlh) _)
   have m3:md-l<=f:=qI6 (qB7 (Nat.sub_lt_sub_right m1 m2) hf);have m4:h-(md+1)<=f:=qB8 (Nat.sub_le_sub_left (qH5 m1) h) (Nat.pred_le_pred hf);have e0:runK r (kas_place p k (f+1) l h)=runK r (.ask (p.getD k 0) (p.getD md 0) λc=>if c=true then kas_place p k f l md else kas_place p k f (md+1) h):=by
    rw[hmd]
    show runK r (if l≥h then .ret l else _)=_;rw[qA6 hlh]
   by_cases c:ky r p k<ky r p md
   ·obtain ⟨R,e,x⟩:=ih l md m3 m1 (qB8 (qH9 m2) hk) a λi x y=>Int.lt_of_lt_of_le c (al r hu i md x y);exact ⟨R,e0.trans ((fS r c).trans e),x⟩
   ·obtain ⟨R,e,x⟩:=ih (md+1) h m4 m2 hk (λi x=>qJ5 (al r hu md i (qI6 x) (qB7 m2 hk)) (Int.not_lt.mp c)) b;exact ⟨R,e0.trans ((dy r c).trans e),x⟩
theorem EU:∀(f:Nat) (p:Array Nat) (k:Nat),k+f<=p.size->up r p k->(runK r (kas_bin f p k)).Perm p/\up r (runK r (kas_bin f p k)) (k+f):=by
 intro f
 induction f with
 |zero=>exact λp k _ hu=>⟨.refl _,hu⟩
 | succ f ih=>
  intro p k hz hu;obtain ⟨l,e,p1,p2,p3⟩:=uG r hu k 0 k (qB9 _) (qD1 _) (qB9 _) (λi x=>absurd x (qF7 _)) λi x y=>absurd y (qM7 x);have e0:runK r (kas_bin (f+1) p k)=runK r (kas_bin f (bubble p k (k-l)) (k+1)):=by
   show runK r ((kas_place p k k 0 k).bind _)=_;rw[S3,e]
  have hf:k+(f+1)=k+1+f:=(qF9 k f).symm;rw[hf]at hz;have bub:=λi=>CM r (p:=p) (k:=k) (d:=k-l) (qB7 (qJ4 k) (qB8 (qK7 _ _) hz)) (Nat.sub_le _ _) i;rw[Nat.sub_sub_self p1]at bub;have ih:=ih (bubble p k (k-l)) (k+1) (by rw[bubble_size];exact hz) λi hi=>by
   rw[bub,bub];have hi:=Nat.lt_of_succ_lt_succ hi;rcases Nat.lt_trichotomy i l with c|c|c
   ·rw [qA6 (qD2 c),qA6 λz=>Nat.lt_asymm z.1 c]
    by_cases c2:i+1=l
    ·rw[qA4 c2];exact p2 i c
    ·have c3:i+1<l:=Nat.lt_of_le_of_ne c c2;rw[qA6 c2,qA6 λz=>Nat.lt_asymm z.1 c3];exact hu i (qB7 c3 p1)
   ·subst c;rw[qA4 rfl,qA6 (Nat.succ_ne_self _),qA4 ⟨qJ4 _,hi⟩];exact Int.le_of_lt (p3 i (qB9 _) hi)
   ·have c2:=Nat.lt_succ_of_lt c;rw[qA6 (qJ2 c),qA4 ⟨c,qH9 hi⟩,qA6 (qJ2 c2),qA4 ⟨c2,hi⟩];cases i with
    |zero=>exact absurd c (qF7 _)
    |succ j=>exact hu j hi
  rw[e0,hf];exact ⟨ih.1.trans (bubble_perm _ _ _),ih.2⟩
theorem da {n:Nat}(h2:2<=n):(runK r (kas_sort n)).Perm (List.toArray (List.range n))/\up r (runK r (kas_sort n)) n:=by
 unfold kas_sort;rw[S3];have c:=sk r (p:=List.toArray (List.range n)) (nrem:=n) h2 (by simp);generalize runK r (kas_count n (List.toArray (List.range n)))=R at c
 obtain ⟨c1,c2,c3⟩:=c;by_cases h:R.1<n
 ·rw [qA4 h]
  have hm:max R.1 1<=n:=Nat.max_le.mpr ⟨c2,qH0 h2⟩;have b:=EU r (n-max R.1 1) R.2 (max R.1 1) (by rw[qL2 hm,c1.size_eq];simp) λk hk=>c3 k (by omega);rw[qL2 hm]at b;exact ⟨b.1.trans c1,b.2⟩
 ·rw [qA6 h]
  rw[qL8 c2 (Nat.not_lt.mp h)]at c3;exact ⟨c1,c3⟩
end
end TP
namespace TP
open PySem L2
section
variable {prog:Program}{w:World}{A:Around}{E:Value->Shared->Prop}{s:Shared}
theorem iq (hh:A.handled=none) (u:Sub) (hne:u.l≠u.i) (its:Array Value) :
  Draws prog w A u.i [u.i,u.l] its.size (λi v=>its[i]?=some v) (λi h=>u.At h i/\u.Src h its) where
 live:=λ_ _ st=>by obtain ⟨o,e,_⟩:=st.1.obj;exact ⟨o,e⟩
 frame:=λ_ _ _ st hk=>⟨st.1.keep λo e=>hk u.i (by simp) o e,st.2.keep λo e=>hk u.l (by simp) o e⟩
 item:=λi s Q E hi st hQ=>Sub.item st.1 st.2 (x:=its[i]) (by simp [hi]) λh' a sb=>hQ _ h' s.toks (by simp [hi]) ⟨a,st.2.keep λo e=>sb.extBut _ _ hne e⟩ sb
 done:=λs Q E st hE=>Sub.ends hh st.1 st.2 (by simp) hE
theorem mm (l:Addr) (its:Array Value) (m:Nat) (dct:Option Addr) (sl:Array (Option Value)) :
  Meets (Builtin.«enumerate.__new__» ⟨[.type "enumerate",.ref l],[]⟩) (λ_ R s=>s.heap.get? l=some { cls:=.type "tuple",dict:=dct,data:=.seq its m,slots:=sl } /\
   R (.ok (.ret (.ref (s.heap.push { cls:=.type "tuple_iterator",data:=.fields #[.ref l,.int 0 0] }).objs.size)))
    { s with heap:=(s.heap.push { cls:=.type "tuple_iterator",data:=.fields #[.ref l,.int 0 0] }).push { cls:=.type "enumerate",data:=.fields #[.none,.bool false,.ref s.heap.objs.size,rawInt 0,.none,.none] } }):=
 .of_wp λprog w A R s hyp=>by
  obtain ⟨hp,g,d,tk,os⟩:=s;obtain ⟨hl,hyp⟩:=hyp;have hsb:=sub_enumerate;have hT:Heap.IsTuple (Shared.heap ⟨hp,g,d,tk,os⟩) l its:=⟨_,hl,rfl,m,rfl⟩
  wp_walk using qI1 hl
  refine wpAny_stack_any λstk=>wpAny_pure ?_
  split
  ·rename_i cc _ _ _ _ _
   cases (cc == Value.type "enumerate") <;>
   ·wp_walk using qI1 hl,wpAny_pyIter_tuple hT
    exact ⟨_,rfl,hyp⟩
  ·wp_walk using qI1 hl,wpAny_pyIter_tuple hT
   exact ⟨_,rfl,hyp⟩
theorem ph {l:Addr}{its:Array Value}{Q:Value->Shared->Prop}(hL:s.heap.IsTuple l its)
  (hyp:∀h',IsEnum h' (s.heap.objs.size+1) s.heap.objs.size 0 .none->h'.IsTupleIter s.heap.objs.size l 0->(∀b o,s.heap.get? b=some o->h'.get? b=some o)->Q (.ref (s.heap.objs.size+1)) { s with heap:=h' }) :
  wpAny (model prog w) A (call (.type "enumerate") [.ref l]) Q E s:=by
 obtain ⟨⟨c,dct,dt,sl⟩,hl,hc,m,hd⟩:=hL;have hc':c=.type "tuple" := hc;have hd':dt=.seq its m:=hd;subst hc' hd';refine callType_new F.called_enumerate (by decide) (F.typeCall_enumerate_1 _) (F.newCall_enumerate_1 _) (λobj=>F.args_object_init_2 obj _) F.entry_enumerate_new (mm l its m dct sl) ⟨hl,?_⟩;generalize hP:s.heap.push { cls:=.type "tuple_iterator",data:=.fields #[.ref l,.int 0 0] }=P
 have hz:P.objs.size=s.heap.objs.size+1:=by rw[<- hP];exact qK3 ..
 have hi:P.get? s.heap.objs.size=some { cls:=.type "tuple_iterator",data:=.fields #[.ref l,.int 0 0] }:=by rw[<- hP];exact qC2 _ rfl
 have hk:∀b o,s.heap.get? b=some o->P.get? b=some o:=λb o e=>by rw[<- hP];exact qA9 _ e
 show _/\_;have en:IsEnum (P.push { cls:=.type "enumerate",data:=.fields #[.none,.bool false,.ref s.heap.objs.size,rawInt 0,.none,.none] }) (s.heap.objs.size+1) s.heap.objs.size 0 .none:=by rw[<- hz];exact qC2 _ rfl
 rw[hz];exact ⟨⟨_,en,rfl⟩,hyp _ en ⟨_,qA9 _ hi,rfl,rfl⟩ λb o e=>qA9 _ (hk b o e)⟩
theorem sD {t:Bool}{l:Addr}{its:Array Value}{Q:Value->Shared->Prop}(hL:SrcAt s.heap (t,l,its))
  (hyp:∀h',IsEnum h' (s.heap.objs.size+1) s.heap.objs.size 0 .none->(L2.Sub.mk t s.heap.objs.size l).At h' 0->(∀b o,s.heap.get? b=some o->h'.get? b=some o)->Q (.ref (s.heap.objs.size+1)) { s with heap:=h' }) :
  wpAny (model prog w) A (call (.type "enumerate") [.ref l]) Q E s:=by
 unfold SrcAt at hL;cases t with
 |true=>exact ph hL λh' a b c=>hyp h' a (by unfold Sub.At;exact b) c
 |false=>exact call_enumerate_list hL λh' a b _ c=>hyp h' a (by unfold Sub.At;exact b) c
end
def ItE (K:Frag) (t:Bool) (a:Addr):It:=
  ⟨fun i H=>∃xs x,Sq K H t a xs/\xs[i]?=some x,
   λi H x H'=>∃p y,x=.ref p/\H p=none/\H'=upd H p (.tup [.int (i:Int),y])/\∀xs,Sq K H t a xs->xs[i]?=some y,
   λi H=>∃xs,Sq K H t a xs/\xs.length=i⟩
abbrev eTn (e:Addr)(u:Sub)(i:Nat)(h:Heap):Prop:=(∃old,IsEnum h e u.i (i:Int) old)/\u.At h i
theorem pV {P:Program}{w:World}{K:Frag}{elts:List Expr}{k:Nat}{tp:Pos}{e:Addr}{u:Sub}(hne:e≠u.i) :
  Turn P w K (.Tuple elts k tp) (ItE K u.t u.l) [e,u.i] e (eTn e u) where
 mem:=by simp
 obj:=λi h st b hb=>by
  obtain ⟨⟨old,he⟩,ha⟩:=st;simp only [qB3,qD6,or_false]at hb;rcases hb with rfl|rfl
  ·exact ⟨_,he,λv q=>by cases q⟩
  ·obtain ⟨o,q,d⟩:=ha.obj;exact ⟨o,q,λv z=>by rw[d]at z;cases z⟩
 keep:=λi h h' st kp=>⟨st.1.imp λold he=>kp e (by simp) _ he,st.2.keep λo q=>kp u.i (by simp) o q⟩
 item:=by
  intro X hP hw hK hc i pins s σ H E I hf st hg;subst hP hw hK;obtain ⟨⟨old,he⟩,ha⟩:=st;obtain ⟨xs,x,hq,hx⟩:=hg;obtain ⟨its,rv,hsrc⟩:=Sq.src I hq;obtain ⟨v,hv,rx⟩:=rv.get hx;have fe:=hf e (by simp);have fi:=hf u.i (by simp);have hli:u.l≠u.i:=Sq.ne I hq fi;have hle:u.l≠e:=Sq.ne I hq fe;have hi:i<its.toArray.size:=by have:=(qB0.mp hv).1;simpa using this
  refine wpAny_pyNext_enum_itemD (iq (prog:=X.prog) (w:=X.w) (show X.A.in1.handled=none from I.ok.hd hc) u hli its.toArray) he ⟨ha,hsrc⟩ hi hne (by simp only [qB3,qD6,or_false,not_or];exact ⟨hne,Ne.symm hle⟩) λy h1 tk hy z1 s1 p1 z2 k1=>?_;have ey:y=v:=by
   have e1:its[i]?=some y:=by simpa using hy
   rw[hv]at e1;cases e1;rfl
  subst ey;refine ⟨_,rfl,wpAny_letOwnedTupleGo_enum z1 λh2 e2 sb2=>?_⟩;have hzl:e<s.heap.objs.size:=qB4 he;have hil:u.i<s.heap.objs.size:=by obtain ⟨o,q,_⟩:=ha.obj;exact qB4 q
  have kp:∀b o,b≠e->b≠u.i->s.heap.get? b=some o->h2.get? b=some o:=λb o b1 b2 q=>sb2.extBut _ _ b1 (k1 b o b1 b2 q);have hfr:H s.heap.objs.size=none:=I.hok.fresh (qB9 _);have trk:∀b c,H b=some c->b≠e/\b≠u.i:=λb c q=>⟨λz=>(by subst z;rw[fe.1]at q;cases q),λz=>(by subst z;rw[fi.1]at q;cases q)⟩;have hP2:h2.get? s.heap.objs.size=some { cls:=.type "tuple",data:=.seq #[.int i tk,y] }:=sb2.extBut _ _ (qJ2 hzl) p1;have rel:Vals [.int (i:Int),x] [.int i tk,y]:=.cons ⟨tk,rfl⟩ (.cons rx .nil);refine ⟨.ref s.heap.objs.size,upd H s.heap.objs.size (.tup [.int (i:Int),x]),?_,rfl,⟨_,_,rfl,hfr,rfl,?_⟩,⟨⟨y,?_⟩,?_⟩,λb hb=>?_⟩
  ·show Inv X pins σ _ { s with heap:=h2,toks:=tk+1 };refine I.step (g':=s.gens) (t':=tk+1) (d':=s.drawn) (ch:=[e,u.i]) (λb hb=>?_) (λb o _ _ hc q _=>kp b o ?_ ?_ q) (λb o _ _ hc q _=>⟨o.slots,kp b o ?_ ?_ q⟩) (λb o hc q n=>?_) (λb o hc q=>⟨o,kp b o ?_ ?_ q⟩) (λb ys q=>?_) (λb o c q=>?_) (λb ps q=>?_) (λm hm=>?_) ?_ I.bare
   ·simp only [qB3,qD6,or_false]at hb;rcases hb with rfl|rfl
    ·exact ⟨fe.2.2.2.1,fe.2.1,fe.2.2.2.2.1,fe.2.2.2.2.2⟩
    ·exact ⟨fi.2.2.2.1,fi.2.1,fi.2.2.2.2.1,fi.2.2.2.2.2⟩
   all_goals first
    | (intro z;exact hc (by simp [z];done))
    |skip
   ·rw[d4 (qD2 (qB4 q))];exact n
   ·rw[d4 (e8 q hfr)];exact q
   ·rw[d4 (e8 q hfr)];exact q
   ·exact ⟨#[],by rw[d4 (e8 q hfr),q];simp⟩
   ·obtain ⟨o,es,ep,ho,r⟩:=hm;exact ⟨o,es,ep,kp _ o (Ne.symm fe.2.1) (Ne.symm fi.2.1) ho,r⟩
   ·intro b c q;by_cases hb:b=s.heap.objs.size
    ·subst hb;rw[n6]at q;cases q;exact ⟨(show 2<=sizeLine by decide),_,rel,⟨_,hP2,rfl,_,rfl⟩⟩
    ·rw [d4 hb]at q
     refine (I.hok b c q).stay (λd v hcc z=>?_) (λd z=>by rw[d4 (e8 z hfr)];exact z) λd ys z=>by rw[d4 (e8 z hfr)];exact z
     rcases hcc with rfl|hcc
     ·exact kp _ v (trk _ _ q).1 (trk _ _ q).2 z
     ·exact kp _ v (trk _ _ hcc).1 (trk _ _ hcc).2 z
  ·intro ys hy2;rw[Sq.inj I hy2 hq];exact hx
  ·have:((i+1:Nat):Int)=(i:Int)+1:=by omega
   rw[this];exact e2
  ·exact s1.1.keep λo q=>sb2.extBut _ _ (Ne.symm hne) q
  ·have:b≠s.heap.objs.size:=by
    simp only [qB3,qD6,or_false]at hb;rcases hb with rfl|rfl
    ·exact qD2 hzl
    ·exact qD2 hil
   rw[d4 this];exact (hf b hb).1
 done:=by
  intro X hP hw hK hc i pins s σ H E I hf st hg;subst hP hw hK;obtain ⟨⟨old,he⟩,ha⟩:=st;obtain ⟨xs,hq,hn⟩:=hg;obtain ⟨its,rv,hsrc⟩:=Sq.src I hq;have fe:=hf e (by simp);have fi:=hf u.i (by simp);have hli:u.l≠u.i:=Sq.ne I hq fi;have hsz:its.toArray.size=i:=by have:=rv.length;simp;omega
  subst hsz;refine wpAny_pyNext_enum_endD (iq (prog:=X.prog) (w:=X.w) (show X.A.in1.handled=none from I.ok.hd hc) u hli its.toArray) he ⟨ha,hsrc⟩ λh' eb=>⟨rfl,?_⟩;obtain ⟨f0,f1,f2,f3,f4,f5⟩:=fi;exact I.turned (t':=s.toks) (λb o hb q=>eb b o hb q) f0 f1 f3 f4 f5
 self:=λA i s Q E st h=>by
  obtain ⟨⟨old,he⟩,_⟩:=st;exact wpAny_pyIter_enum he h
def wM (K:Frag)(ta:TA):TI:=λσ H R=>ta σ H λvs H1=>∃t a xs,vs = [.ref a]/\Sq K H1 t a xs/\R (ItE K t a) H1
theorem lM:bootBuiltins "enumerate" = some (.type "enumerate"):=by decide +kernel
section
variable {X:Cx}
theorem mQ {a:Expr}{elts:List Expr}{ta:TA}{p pos tp:Pos}{k:Nat}(hg:Gl X "enumerate") (hm:X.mg "enumerate" = none) (ha:PA X [a] ta) (hs:starEach [a] X.env = [(false,eval a X.env)]:=by rfl):PI X (.Tuple elts k tp) (.Call (.Name "enumerate" p) [a] [] pos) (wM X.K ta):=by
 intro pins s σ H R I h;refine wpAny_Call_Name_kw (O9 I hg hm lM ?_ (by decide) (by decide));refine qF5 (thn (ha pos pins s σ H _ I h) λus s1 zz80=>?_) hs (by rfl);obtain ⟨vs,H1,I1,r1,t,b,xs,e1,hq,q⟩:=zz80;subst e1;obtain ⟨u,rfl,ru⟩:=J4 r1;cases ru;obtain ⟨its,rv,hsrc⟩:=Sq.src I1 hq;refine sD (t:=t) (its:=its.toArray) (by unfold SrcAt;unfold Sub.Src at hsrc;exact hsrc) λh' he hA hk=>wpAny_pyIter_enum he ?_;have I2:Inv X pins σ H1 { s1 with heap:=h' }:=I1.kept (t':=s1.toks) hk;have TE:=pV (P:=X.prog) (w:=X.w) (K:=X.K) (elts:=elts) (k:=k) (tp:=tp) (e:=s1.heap.objs.size+1) (u:=⟨t,s1.heap.objs.size,b⟩) (neN (by show s1.heap.objs.size+1≠s1.heap.objs.size;omega));refine ⟨_,_,_,_,H1,rfl,I2,TE,⟨⟨_,he⟩,hA⟩,λc hc=>?_,q⟩;have hb':s1.heap.objs.size<=c:=by
  simp only [qB3,qD6,or_false]at hc;rcases hc with rfl|rfl
  ·omega
  ·exact qB9 _
 exact I1.fpOk (H':=H1) hb' (I1.hok.fresh hb')
end
def bp:List W->R (List W)
 | [w]=>match A3 w with
  | .ok xs=>.ok (xs.mapIdx λi x=>W.tup [.int (i:Int),x])
  |_=>.stuck
 |_=>.stuck
section
variable {K:Frag}{EX:EXT}{H0 G H:Hp}{ρ:Rho}{σ:St}
theorem rG {e:Mode}{Z:Hp}{t:Bool}{a:Addr}{xs:List V}{us:List W}(he:e=.V\/e=.U) (s1:Sq K Z t a xs) (r1:Reps K (fz e H0 G) xs us):bx K e H0 Z G (ItE K t a) (us.mapIdx λi x=>W.tup [.int (i:Int),x]):=by
 have l1:=r1.length;have hq:∀H,Same Z H->Sq K H t a xs:=λH z=>Sq.same z s1;refine ⟨λi H hi z=>?_,λH z=>⟨xs,hq H z,by rw[List.length_mapIdx,l1]⟩,λi H x H' w hw z y G2 ρ σ I sg=>?_⟩
 ·rw [List.length_mapIdx]at hi
  exact ⟨xs,xs[i]'(by omega),hq H z,by simp⟩
 ·obtain ⟨p,y1,rfl,hp,rfl,hy⟩:=y;obtain ⟨w1,e1,q1⟩:=Reps.get' r1 (hy xs (hq H z));have hw':w=.tup [.int (i:Int),w1]:=by
   rw[List.getElem?_mapIdx,e1]at hw;cases hw;rfl
  subst hw';obtain ⟨x1,x2⟩:=gq (Hs:=H) he I hp (.cons .int (.cons (q1.same (L3 sg)) .nil));exact ⟨_,x1,x2⟩
theorem sK {lp:Bool}{e:Mode}{ma:Rho->R (List W)}{Rr:It->Hp->Prop}(he:e=.V\/e=.U) (h:tIt K EX lp e (λρ=>ma ρ>>=bp) σ H Rr):wM K (tA K EX (bT lp e) ma) σ H Rr:=by
 refine aO h (λH0 G ρ G1 H1 xs ws us I e1 m1 q o=>?_) (λws e z=>?_)
 ·have I1:=I.ext e1;unfold bp at q
  split at q
  ·rename_i w
   cases hw:A3 w with
   |stuck=>rw[hw]at q;cases q
   |ex _=>rw[hw]at q;cases q
   | ok ls=>
    rw[hw]at q;cases q;cases m1 with
    | cons a1 m1=>
     cases m1;obtain ⟨t1,p1,v1,rfl,q1,r1⟩:=Md.src he I1 a1 hw;exact ⟨t1,p1,v1,rfl,G0 (gK I1) q1,o _ G1 H1 e1 (rG he q1 r1)⟩
  ·cases q
 ·unfold bp at z
  split at z
  ·split at z <;> cases z
  ·cases z
end
section
variable {X:Cx}{K:Frag}{EX:EXT}{a:Expr}{pos:Pos}{mr:Rho->R (List W)}
theorem BW {elts:List Expr}{p tp:Pos}{k:Nat}(hg:Gl X "enumerate") (hm:X.mg "enumerate" = none) (ha:PA X [a] (tA K EX .B mr)) (hK:X.K=K:=by rfl) (hs:starEach [a] X.env = [(false,eval a X.env)]:=by rfl):PI X (.Tuple elts k tp) (.Call (.Name "enumerate" p) [a] [] pos) (tIt K EX false .U (bI bp mr)):=by
 subst hK;exact (mQ hg hm ha hs).mono λ_ _ _ q=>sK (lp:=false) (.inr rfl) q
theorem BV {elts:List Expr}{p tp:Pos}{k:Nat}(hg:Gl X "enumerate") (hm:X.mg "enumerate" = none) (ha:PA X [a] (tA K EX .U mr)) (hK:X.K=K:=by rfl) (hs:starEach [a] X.env = [(false,eval a X.env)]:=by rfl):PI X (.Tuple elts k tp) (.Call (.Name "enumerate" p) [a] [] pos) (tIt K EX true .U (bI bp mr)):=by
 subst hK;exact (mQ hg hm ha hs).mono λ_ _ _ q=>sK (lp:=true) (.inr rfl) q
end
section
variable {X:Cx}
end
end TP
namespace TP
open PySem L2
def lexLt:List Int->List Int->Bool
 | [],[]=>false
 | [],_::_=>true
 |_::_,[]=>false
 |a::as,b::bs=>if a=b then lexLt as bs else decide (a<b)
theorem gQ:∀a,lexLt a a=false
 | []=>rfl
 |x::a=>by unfold lexLt;rw[qA4 rfl];exact gQ a
theorem fB:∀a b c,lexLt a b=true->lexLt b c=true->lexLt a c=true
 | [],[],_,h,_=>by cases h
 | [],_::_,[],_,h=>by cases h
 | [],_::_,_::_,_,_=>rfl
 |_::_,[],_,h,_=>by cases h
 |_::_,_::_,[],_,h=>by cases h
 | x::a,y::b,z::c,h1,h2=>by
  unfold lexLt at h1 h2 ⊢;by_cases e1:x=y
  ·subst e1;rw[qA4 rfl]at h1;by_cases e2:x=z
   ·subst e2;rw[qA4 rfl]at h2 ⊢;exact fB a b c h1 h2
   ·rw[qA6 e2]at h2 ⊢;exact h2
  ·rw [qA6 e1]at h1
   have h1:=of_decide_eq_true h1;by_cases e2:y=z
   ·subst e2;rw[qA6 e1];exact decide_eq_true h1
   ·rw [qA6 e2]at h2
    have h2:=of_decide_eq_true h2;rw[qA6 (by omega)];exact decide_eq_true (by omega)
theorem gP:∀a b,lexLt a b=false->lexLt b a=false->a=b
 | [],[],_,_=>rfl
 | [],_::_,h,_=>by cases h
 |_::_,[],_,h=>by cases h
 | x::a,y::b,h1,h2=>by
  unfold lexLt at h1 h2;by_cases e:x=y
  ·subst e;rw[qA4 rfl]at h1 h2;rw[gP a b h1 h2]
  ·rw [qA6 e]at h1
   rw[qA6 (λz=>e z.symm)]at h2;have h1:=of_decide_eq_false h1;have h2:=of_decide_eq_false h2;omega
def K9 (ss:List (List Int))(i:Nat):Int:=((ss.countP λx=>lexLt x (ss.getD i [])):Nat)
theorem sv {α:Type}{p q:α->Bool}:∀{l:List α},(∀x∈l,p x=true->q x=true)->(∃x∈l,q x=true/\p x=false)->l.countP p<l.countP q:=by
 intro l
 induction l with
 |nil=>intro _ h;obtain ⟨_,h,_⟩:=h;exact absurd h qD6
 | cons x l ih=>
  intro h h0;obtain ⟨y,hy,hq,hp⟩:=h0;have h':∀z∈l,p z=true->q z=true:=λz hz=>h z (qA7 _ hz);have le:l.countP p<=l.countP q:=qK4 h';rw[qM8,qM8];rcases qB3.mp hy with e|hy
  ·subst e;rw[qA4 hq,hp,qA6 qA5];omega
  ·have:=ih h' ⟨y,hy,hq,hp⟩
   by_cases c:p x=true
   ·rw[qA4 c,qA4 (h x qB1 c)];omega
   ·rw[qA6 c];split <;> omega
theorem getD_mem {ss:List (List Int)}{i:Nat}(h:i<ss.length):ss.getD i []∈ss:=by
 rw[qA0];simp [h]
theorem mJ {ss:List (List Int)}{i j:Nat}(hi:i<ss.length) (hj:j<ss.length):decide (K9 ss i<K9 ss j)=lexLt (ss.getD i []) (ss.getD j []):=by
 cases h:lexLt (ss.getD i []) (ss.getD j []) with
 | true=>
  apply decide_eq_true;unfold K9
  have:=sv (l:=ss) (p:=λx=>lexLt x (ss.getD i [])) (q:=λx=>lexLt x (ss.getD j [])) (λx _ hx=>fB _ _ _ hx h) ⟨_,getD_mem hi,h,gQ _⟩
  omega
 | false=>
  apply decide_eq_false;unfold K9
  have:ss.countP (λx=>lexLt x (ss.getD j []))<=ss.countP λx=>lexLt x (ss.getD i []):=by
   apply qK4;intro x _ hx;cases h2:lexLt (ss.getD j []) (ss.getD i []) with
   |true=>exact fB _ _ _ hx h2
   |false=>rw[gP _ _ h h2];exact hx
  omega
def ci (ss:List (List Int)):List Nat:=if ss.length<2 then List.range ss.length else (runK (K9 ss) (PySem.W.kas_sort ss.length)).toList
def J0 (ss:List (List Int)):List (List Int):=(ci ss).map λi=>ss.getD i []
theorem aX (ss:List (List Int)):(ci ss).Perm (List.range ss.length):=by
 unfold ci
 split
 ·exact .refl _
 ·rename_i h
  have:=(da (K9 ss) (n:=ss.length) (by omega)).1
  exact (qJ1.mp this).trans (by simp)
theorem qD (ss:List (List Int)):(List.range ss.length).map (λi=>ss.getD i [])=ss:=by
 apply qH6
 ·simp
 ·intro i h1 h2;simp [h2]
theorem iw (ss:List (List Int)):(J0 ss).Perm ss:=by
 have:=(aX ss).map λi=>ss.getD i []
 rw[qD]at this;exact this
theorem xo (ss:List (List Int)):(J0 ss).Pairwise λa b=>lexLt b a=false:=by
 unfold J0;rw[qI4];unfold ci
 split
 ·rename_i h
  have:ss.length=0\/ss.length=1:=by omega
  rcases this with e|e <;> rw[e] <;> simp
 ·rename_i h
  have k:=da (K9 ss) (n:=ss.length) (by omega);have hp:=qJ1.mp k.1;have hl:(runK (K9 ss) (PySem.W.kas_sort ss.length)).toList.length=ss.length:=by have:=hp.length_eq;simpa using this
  have hm:∀x∈(runK (K9 ss) (PySem.W.kas_sort ss.length)).toList,x<ss.length:=λx hx=>by have:=hp.mem_iff.mp hx;simpa using this
  have hu:=al (K9 ss) k.2;generalize runK (K9 ss) (PySem.W.kas_sort ss.length)=p at hl hm hu
  rw[List.pairwise_iff_getElem];intro i j hi hj hij
  have:=hu j i (by omega) (by omega)
  unfold ky at this;have ei:p.getD i 0=p.toList[i]:=by rw[qE2];simp at hi ⊢;simp [hi]
  have ej:p.getD j 0=p.toList[j]:=by rw[qE2];simp at hj ⊢;simp [hj]
  rw[ei,ej]at this;rw[<- mJ (hm _ (qF0 hj)) (hm _ (qF0 hi))];exact decide_eq_false (by omega)
def Q8 {α:Type}(n:Nat) (P:α->Prop):PySem.W.KasT α->Prop
 | .ret a=>P a
 | .ask i j k=>i<n/\j<n/\∀b,Q8 n P (k b)
theorem Q7 {α β:Type}{n:Nat}{P:α->Prop}{P':β->Prop}{f:α->PySem.W.KasT β}:∀{t:PySem.W.KasT α},Q8 n P t->(∀a,P a->Q8 n P' (f a))->Q8 n P' (t.bind f)
 | .ret a,h,hf=>hf a h
 | .ask i j k,h,hf=>⟨h.1,h.2.1,λb=>Q7 (h.2.2 b) hf⟩
def allLt (n:Nat)(p:Array Nat):Prop:=∀x∈p,x<n
theorem allLt.perm {n:Nat}{p q:Array Nat}(h:allLt n p)(hp:q.Perm p):allLt n q:=λx hx=>h x (hp.mem_iff.mp hx)
theorem allLt.at {n:Nat}{p:Array Nat}(h:allLt n p) (h0:0<n) (k:Nat):p.getD k 0<n:=by
 rw[qE2];cases e:p[k]? with
 |none=>exact h0
 |some x=>exact h x (Array.mem_of_getElem? e)
section
open PySem.W PyProof.Rows
variable {n:Nat}(h0:0<n)
include h0
theorem ik {p:Array Nat}(h:allLt n p):∀f k,Q8 n (λ_=>True) (kas_asc p f k)
 |0,_=>trivial
 |f+1,k=>⟨h.at h0 _,h.at h0 _,λb=>by cases b <;> first|exact ik h f (k+1)|trivial⟩
theorem bv:∀(f:Nat) (p:Array Nat) (k q:Nat),allLt n p->Q8 n (λr:Array Nat×Nat×Nat=>allLt n r.1) (kas_desc f p k q)
 |0,p,k,q,h=>h
 | f+1,p,k,q,h=>by
  refine ⟨h.at h0 _,h.at h0 _,λb=>?_⟩;cases b with
  | true=>
   dsimp only;rw[qA4 rfl]
   split
   ·exact bv f _ _ _ (h.perm (mirror_perm _ _ _ _))
   ·exact bv f _ _ _ h
  | false=>
   dsimp only;rw[qA6 qA5];refine ⟨h.at h0 _,h.at h0 _,λb=>?_⟩;cases b with
   |true=>dsimp only;rw[qA4 rfl];exact h
   |false=>dsimp only;rw[qA6 qA5];exact bv f _ _ _ h
theorem iZ {p:Array Nat}{k m:Nat}(h:allLt n p):Q8 n (λr:Nat×Array Nat=>allLt n r.2) (kas_tail3 k m p):=
 Q7 (ik h0 (h.perm (mirror_perm _ _ _ _)) _ _) λ_ _=>h.perm (mirror_perm _ _ _ _)
theorem cW {p:Array Nat}{k m:Nat}(h:allLt n p):Q8 n (λr:Nat×Array Nat=>allLt n r.2) (kas_descPart k m p):=by
 refine Q7 (bv h0 _ _ _ _ h) λr hr=>?_
 split
 ·exact iZ h0 (hr.perm (mirror_perm _ _ _ _))
 ·exact iZ h0 hr
theorem sT {p:Array Nat}{m:Nat}(h:allLt n p):Q8 n (λr:Nat×Array Nat=>allLt n r.2) (kas_count m p):=by
 refine Q7 (ik h0 h _ _) λr hr=>?_
 split
 ·exact h
 ·split
  ·refine ⟨h.at h0 _,h.at h0 _,λb=>?_⟩;cases b with
   |true=>dsimp only;rw[qA4 rfl];exact h
   |false=>dsimp only;rw[qA6 qA5];exact cW h0 (h.perm (mirror_perm _ _ _ _))
  ·exact cW h0 h
theorem cV {p:Array Nat}{k:Nat}(h:allLt n p):∀f l m,Q8 n (λ_=>True) (kas_place p k f l m)
 |0,_,_=>trivial
 | f+1,l,m=>by
  unfold kas_place
  split
  ·trivial
  ·refine ⟨h.at h0 _,h.at h0 _,λb=>?_⟩;cases b with
   |true=>dsimp only;rw[qA4 rfl];exact cV h f _ _
   |false=>dsimp only;rw[qA6 qA5];exact cV h f _ _
theorem nK:∀(f:Nat) (p:Array Nat) (k:Nat),allLt n p->Q8 n (λ_=>True) (kas_bin f p k)
 |0,_,_,_=>trivial
 |f+1,p,k,h=>Q7 (cV h0 h _ _ _) λl _=>nK f _ _ (h.perm (bubble_perm _ _ _))
theorem lN:Q8 n (λ_=>True) (kas_sort n):=by
 refine Q7 (sT h0 λx hx=>by simpa using hx) λr hr=>?_
 split
 ·exact nK h0 _ _ _ hr
 ·trivial
end
theorem wp_run {n:Nat}{r:Nat->Int}{cmp:Nat->Nat->(Bool->Shared->Prop)->Shared->Prop}{s:Shared}(hc:∀i j C,i<n->j<n->C (decide (r i<r j)) s->cmp i j C s){α:Type}{P:α->Prop}{Q:α->Shared->Prop} :
  ∀{t:PySem.W.KasT α},Q8 n P t->Q (runK r t) s->t.kasWp cmp Q s
 | .ret _,_,h=>h
 | .ask i j k,a,h=>hc i j _ a.1 a.2.1 (wp_run hc (a.2.2 _) h)
def ae (fin:Bool):List (Int×Int)->Bool
 | []=>fin
 | (a,b)::r=>if a=b then ae fin r else decide (a<b)
theorem gU:∀xs ys:List Int,ae (decide (xs.length<ys.length)) (xs.zip ys)=lexLt xs ys
 | [],[]=>rfl
 | [],_::_=>by simp [ae,lexLt]
 |_::_,[]=>by simp [ae,lexLt]
 | x::xs,y::ys=>by
  have:=gU xs ys
  simp only [qI8,ae,lexLt,qC1,Nat.add_lt_add_iff_right];rw[this]
section
open PySem.W PyProof.Rows
variable {prog:Program}{w:World}{A:Around}{E:Value->Shared->Prop}{s:Shared}
theorem rB {fin:Bool}{Q:Bool->Shared->Prop}:∀(xs ys:List Int) (us vs:List Value) (i:Nat),Vals (xs.map V.int) us->Vals (ys.map V.int) vs->Q (ae fin (xs.zip ys)) s->KatLex prog w A true fin Q (us.zip vs) i s
 | [],_,_,_,_,.nil,_,h=>h
 |_::_,[],_,_,_,.cons _ _,.nil,h=>h
 | x::xs,y::ys,_,_,i,.cons r1 t1,.cons r2 t2,h=>by
  obtain ⟨t,rfl⟩:=r1;obtain ⟨u,rfl⟩:=r2;refine kat_cons (wpAny_eqBool_int ?_);simp only [qI8,ae]at h;by_cases e:x=y
  ·rw [qA4 e]at h
   rw[show (x == y)=true by simpa using e];exact kat_yes (rB xs ys _ _ (i+1) t1 t2 h)
  ·rw [qA6 e]at h
   rw[show (x == y)=false by simpa using e];refine kat_no ?_;cases i with
   |zero=>exact oneLt_int h
   |succ i=>exact kat_one _ _ (lt_int h)
def L8 (h:Heap)(v:Value)(xs:List Int):Prop:=∃(a:Addr)(o:Obj)(its:List Value)(m:Nat),v=.ref a/\h.get? a=some o/\o.cls=.type "tuple" /\ o.data=.seq its.toArray m/\Vals (xs.map V.int) its
theorem yP {v u:Value}{xs ys:List Int}{Q:Bool->Shared->Prop}(hv:L8 s.heap v xs) (hu:L8 s.heap u ys) (h:Q (lexLt xs ys) s):wpAny (model prog w) A (keyLt' (tuples' true) v u) Q E s:=by
 obtain ⟨a,o,its,m,rfl,ho,_,hd,rv⟩:=hv;obtain ⟨b,o2,its2,m2,rfl,ho2,_,hd2,rv2⟩:=hu;refine kat_lt ho hd ho2 hd2 ?_;have l1:=rv.length;have l2:=rv2.length;rw[qA1]at l1 l2;refine rB xs ys _ _ 0 rv rv2 ?_;simp only [qB5,<- l1,<- l2];rw[gU];exact h
theorem tK {h:Heap}{v:Value}{xs:List Int}(hv:L8 h v xs) (hne:xs ≠ []):∃(a:Addr) (o:Obj) (its:Array Value) (m:Nat) (i:Int) (tk:Tok),v=.ref a/\h.get? a=some o/\o.cls=.type "tuple" /\ o.data=.seq its m/\its[0]?=some (.int i tk):=by
 obtain ⟨a,o,its,m,e,ho,hc,hd,rv⟩:=hv;cases xs with
 |nil=>exact absurd rfl hne
 | cons x xs=>
  cases its with
  |nil=>cases rv
  | cons u its=>
   cases rv with
   | cons r1 _=>
    obtain ⟨tk,rfl⟩:=r1;exact ⟨a,o,_,m,x,tk,e,ho,hc,hd,rfl⟩
theorem jz {h:Heap}:∀{vs:List Value}{ss:List (List Int)},Paired (λv xs=>L8 h v xs/\xs ≠ []) vs ss->∃fs:List Value,KatTups h vs fs/\fs.length=ss.length/\∀f∈fs,∃i t,f=.int i t
 |_,_,.nil=>⟨[],trivial,rfl,λ_ h=>nomatch h⟩
 | _,_,.cons hv t=>by
  obtain ⟨fs,k,hl,hi⟩:=jz t;obtain ⟨a,o,its,m,i,tk,e,ho,hc,hd,h0⟩:=tK hv.1 hv.2;subst e;refine ⟨.int i tk::fs,KatTups.cons ho hc hd h0 k,by rw[qC1,qC1,hl],λf hf=>?_⟩;rcases qB3.mp hf with q|hf
  ·exact ⟨i,tk,q⟩
  ·exact hi f hf
end
theorem E9 {α β:Type}{F:α->β->Prop}{d:α}:∀{as:List α}{bs:List β}{i:Nat},Paired F as bs->i<as.length->∃b,bs[i]?=some b/\F (as.getD i d) b
 |_,_,_,.nil,h=>absurd h (qF7 _)
 |_,_,0,.cons r _,_=>⟨_,rfl,r⟩
 | _,_,i+1,.cons _ t,h=>by
  obtain ⟨b,e,q⟩:=E9 (d:=d) (i:=i) t (by simpa using h);exact ⟨b,by simpa using e,by simpa using q⟩
theorem dC {α β γ:Type}{F:α->β->Prop}{G:α->γ->Prop}{R:β->γ->Prop}:∀{as:List α}{bs:List β}{cs:List γ},Paired F as bs->Paired G as cs->(∀a b c,F a b->G a c->R b c)->Paired R bs cs
 |_,_,_,.nil,.nil,_=>.nil
 |_,_,_,.cons a r,.cons b t,h=>.cons (h _ _ _ a b) (dC r t h)
section
open PySem.W PyProof.Rows
variable {prog:Program}{w:World}{A:Around}{E:Value->Shared->Prop}{s:Shared}
def B7 {α:Type}(ss:List (List Int))(d:α)(vs:List α):List α:=(ci ss).map λi=>vs.getD i d
theorem ow {α:Type}{ss:List (List Int)}{d:α}{vs:List α}(hl:vs.length=ss.length) (h:ss.length<2):B7 ss d vs=vs:=by
 unfold B7 ci;rw[qA4 h,<- hl];apply qH6
 ·simp
 ·intro i h1 h2;simp [h2]
theorem ke {α:Type}(ss:List (List Int)) (d:α) (vs:List α):(B7 ss d vs).length=ss.length:=by
 unfold B7;rw[qA1,(aX ss).length_eq,qE8]
theorem qd {a:Addr}{vs:List Value}{ss:List (List Int)}{n:Nat}{P:PySem.Fin->Shared->Prop}(ho:s.heap.get? a=some (seqObj "list" vs.toArray n)) (hl:vs.length=ss.length) (h64:ss.length<64)
  (ht:∀h':Heap,(∀b o,b≠a->s.heap.get? b=some o->h'.get? b=some o)->Paired (λv xs=>L8 h' v xs/\xs ≠ []) vs ss)
  (hyp:P (.done (.ret .none)) { s with heap:=sortedHeap s.heap a vs (B7 ss Value.none vs).toArray }):wpAny (model prog w) A (Builtin.«list.sort» ⟨[.ref a],[]⟩) P E s:=by
 rw[list_sort_plain];have ha:=qB4 ho;refine qA2 (listItems_at ho rfl (qA2 (listUpdate_at ho rfl ?_ (by rw[qB5,sizeLine_eq];omega) (qD1 _))));obtain ⟨ep,hp⟩:∃ep,(s.heap.update a (Obj.mapSeq λ_=>(#[]:Array Value))).get? a=some (seqObj "list" #[] ep):=⟨_,get?_update_seq ho λ_=>#[]⟩;refine qA2 (seqEpoch_at hp rfl (qA2 (wpAny_newTuple (qA2 (wpAny_newList (wpAny_holding ?_) (qD1 _))) (by show vs.length<=_;rw[sizeLine_eq];omega))));generalize hh:((s.heap.update a (Obj.mapSeq λ_=>(#[]:Array Value))).push (seqObj "tuple" vs.toArray 0)).push (seqObj "list" #[] 0)=h6
 have h6a:h6.get? a=some (seqObj "list" #[] ep):=by rw[<- hh];exact qA9 _ (qA9 _ hp)
 have h6k:∀b o,b≠a->s.heap.get? b=some o->h6.get? b=some o:=λb o hb e=>by rw[<- hh];exact qA9 _ (qA9 _ (by rw[qL3 _ _ _ _ hb];exact e))
 have gY:sortedHeap s.heap a vs (B7 ss Value.none vs).toArray=h6.update a (Obj.mapSeq λ_=>(B7 ss Value.none vs).toArray):=by rw[<- hh];rfl
 rw[gY]at hyp
 show wpAny (model prog w) A _ P E { s with heap:=h6 };dsimp only;have hs0:vs.toArray.size=vs.length:=by simp
 have hz2:(B7 ss Value.none vs).toArray.size<=sizeLine+1:=by rw[qB5,ke,sizeLine_eq];omega
 by_cases c2:vs.toArray.size<2
 ·rw [qA4 c2,qA4 c2]
  refine qA2 (wpAny_pure ?_);rw[StateT.run_pure];refine qA2 (wpAny_pure ?_);dsimp only;have eo:Array.map (λx=>x.snd) (arrOf (SortSt.mk' general' (vs.toArray.zip vs.toArray) #[] 7 none))=(B7 ss Value.none vs).toArray:=by
   rw[ow hl (by omega)]
   show Array.map (λx=>x.snd) (vs.toArray.zip vs.toArray)=vs.toArray;apply Array.toList_inj.mp;rw[Array.toList_map,Array.toList_zip];apply qH6
   ·simp
   ·intro i h1 h2;simp
  rw[eo];refine qA2 (seqEpoch_at h6a rfl (qA2 (listUpdate_at h6a rfl ?_ (qD1 _) hz2)));simp only [bne_self_eq_false,qD5,if_false];exact wpAny_pure hyp
 ·rw [qA6 c2,qA6 c2]
  have tt:=ht h6 h6k;obtain ⟨fs,kt,fl,fi⟩:=jz tt;refine qA2 (kat_kind (s:={ s with heap:=h6 }) (T:=.type "int") kt (by omega) (λv hv=>?_) (by decide) ?_)
  ·obtain ⟨i,t,rfl⟩:=fi v hv;exact Looks.of_pure rfl
  have hw:(kas_sort vs.length).kasWp (kas_ask prog w A (tuples' (Value.type "int" != Value.type "tuple")) vs) (λp s'=>s'={ s with heap:=h6 }/\p.toList=ci ss) { s with heap:=h6 }:=by
   refine wp_run (n:=vs.length) (r:=K9 ss) (λi j C hi hj hC=>?_) (lN (by omega)) ⟨rfl,?_⟩
   ·obtain ⟨x,hx,tx⟩:=E9 tt hi;obtain ⟨y,hy,ty⟩:=E9 tt hj;rw[mJ (by omega) (by omega)]at hC;have ex:ss.getD i []=x:=by rw[qA0,hx];rfl
    have ey:ss.getD j []=y:=by rw[qA0,hy];rfl
    rw[ex,ey]at hC;exact yP (s:={ s with heap:=h6 }) tx.1 ty.1 hC
   ·unfold ci;rw[qA6 (by omega),hl]
  refine qA2 (wpAny_mono (kat_run (Q:=λst' s'=>s'={ s with heap:=h6 }/\(arrOf st').map (·.2)=(B7 ss Value.none vs).toArray/\failedOf st'=none) rfl (by omega) (by omega) (λp st' s' a1 a2 a3 a4=>⟨a4.1,by rw[kat_snds rfl a2,a4.2];rfl,a3⟩) hw) ?_ λ_ _ e=>e);rintro ⟨⟨⟩,st'⟩ s' ⟨rfl,ho',hf'⟩;dsimp only;rw[ho'];refine qA2 (seqEpoch_at h6a rfl (qA2 (listUpdate_at h6a rfl ?_ (qD1 _) hz2)));rw[hf'];simp only [bne_self_eq_false,qD5,if_false];exact wpAny_pure hyp
theorem lV {l:Addr}{vs:List Value}{ss:List (List Int)}{Q:Value->Shared->Prop}(hL:s.heap.IsList l vs.toArray) (hl:vs.length=ss.length) (h64:ss.length<64)
  (ht:Paired (λv xs=>L8 s.heap v xs/\xs ≠ []) vs ss) (hyp:Q (.ref (s.heap.objs.size+1)) { s with heap:=sortedAll s.heap vs (B7 ss Value.none vs).toArray }):wpAny (model prog w) A (call (.builtin "sorted") [.ref l]) Q E s:=by
 refine Calls.call_function_entry kind_sorted plain_sorted entry_sorted (args_sorted1 _) ?_;unfold Builtin.«sorted»;refine qA2 (m:=checkCount "sorted" 1 1 _) (wpAny_pure (qA2 (collect_list hL (qA2 (wpAny_newList ?_ (by rw[sizeLine_eq];omega))) (by rw[sizeLine_eq];omega))));generalize hg:(s.heap.push (seqObj "list" #[] 0)).update s.heap.objs.size (Obj.mapSeq (·++vs.toArray))=g
 have gz:g.objs.size=s.heap.objs.size+1:=by rw[<- hg,Heap.size_update,size_push']
 have gk:∀b o,s.heap.get? b=some o->g.get? b=some o:=λb o e=>by
  have hlt:=qB4 e;rw[<- hg,qL3 _ _ _ _ (qD2 hlt)];exact qA9 _ e
 have go:(g.push (seqObj "list" vs.toArray 0)).get? (s.heap.objs.size+1)=some (seqObj "list" vs.toArray 0):=by rw[<- gz];exact qC2 _ rfl
 have ea:sortedAll s.heap vs (B7 ss Value.none vs).toArray=sortedHeap (g.push (seqObj "list" vs.toArray 0)) (s.heap.objs.size+1) vs (B7 ss Value.none vs).toArray:=by rw[<- hg];rfl
 rw[ea]at hyp
 show wpAny _ _ _ _ _ { s with heap:=g.push (seqObj "list" vs.toArray 0) };rw[gz];refine qA2 (wpAny_holding (wpAny_call_entry slot_list_sort ⟨_,go,rfl⟩ entry_list_sort (qd go hl h64 (λh' hk=>?_) ⟨_,rfl,wpAny_pure ⟨_,rfl,hyp⟩⟩) (args_list_sort _)));refine Paired.mapP ht λv xs hv=>⟨?_,hv.2⟩;obtain ⟨a,o,its,m,rfl,h1,h2,h3,h4⟩:=hv.1;exact ⟨a,o,its,m,rfl,hk a o (qD2 (Nat.lt_succ_of_lt (qB4 h1))) (qA9 _ (gk a o h1)),h2,h3,h4⟩
end
theorem tD {ss:List (List Int)}{ys:List V}{its:List Value}(r:Vals ys its) (hl:ys.length=ss.length):Vals (B7 ss V.non ys) (B7 ss Value.none its):=O6 λi hi=>by
 have hi':i<ys.length:=by have:=(aX ss).mem_iff.mp hi;rw[qE7]at this;omega
 obtain ⟨u,e,q⟩:=E9 (d:=V.non) r hi';rw[show its.getD i Value.none=u by rw[qA0,e];rfl];exact q
theorem iY:bootBuiltins "sorted" = some (.builtin "sorted"):=by decide +kernel
section
variable {X:Cx}{K:Frag}
theorem pe (hK:X.K=K:=by rfl):F5 X (.builtin "sorted") (λxs H Q=>∃p ys ss,xs = [.ref p]/\SqL K H p ys/\Paired (λv zs=>(∃a,v=.ref a/\SqT K H a (zs.map V.int))/\zs ≠ []) ys ss/\ss.length<64/\∀l,H l=none->Q (.ref l) (upd H l (.lst (B7 ss V.non ys)))):=by
 subst hK;intro pins s σ H xs us Q I r h;obtain ⟨p,ys,ss,rfl,hq,ht,h64,q⟩:=h;obtain ⟨u,rfl,ru⟩:=J4 r;cases ru;obtain ⟨its,rv,pl,hz⟩:=I.list hq;have hlen:=rv.length;have hys:ys.length=ss.length:=Paired.length ht;have tt:Paired (λv xs=>L8 s.heap v xs/\xs ≠ []) its ss:=dC rv ht λv u zs r1 r2=>by
  obtain ⟨⟨a,rfl,hs⟩,hne⟩:=r2;cases r1;obtain ⟨its2,rv2,⟨o,e,c,k,dd⟩,_⟩:=I.tuple hs;exact ⟨⟨a,o,its2,k,rfl,e,c,dd,rv2⟩,hne⟩
 refine lV pl.isList (by omega) h64 tt ?_;obtain ⟨e,he⟩:=PyProof.Rows.sortedAll_at s.heap its (B7 ss Value.none its).toArray;have hle:s.heap.objs.size<=s.heap.objs.size+1:=Nat.le_succ _;refine ⟨.ref (s.heap.objs.size+1),_,I.laid (t':=s.toks) (λb o q=>PyProof.Rows.sortedAll_old q) hle (show ObjOk X.prog X.w _ _ _ (.lst (B7 ss V.non ys)) from ⟨by rw[ke];exact qB8 (qH9 h64) (by decide),B7 ss Value.none its,e,tD rv (by omega),he⟩),rfl,q _ (I.hok.fresh hle)⟩
end
def N9:List W->Option (List (List Int))
 | []=>some []
 | .tup ws::r=>match z8 ws,N9 r with
  |some x,some xs=>some (x::xs)
  |_,_=>none
 |_=>none
theorem dW:∀ss:List (List Int),N9 (ss.map λx=>W.tup (x.map W.int))=some ss
 | []=>rfl
 | x::ss=>by
  show (match z8 (x.map W.int),N9 (ss.map λx=>W.tup (x.map W.int)) with|some x,some xs=>_|_,_=>_)=_;rw[ints_map,dW ss]
def fSort:List W->R W
 | [w]=>match lstOf w with
  | some ws=>match N9 ws with
   |some ss=>if ss.length<64/\ss.all (λx=>!x.isEmpty)=true then .ok (.lst ((J0 ss).map λx=>W.tup (x.map W.int))) else .stuck
   |none=>.stuck
  |none=>.stuck
 |_=>.stuck
theorem vo:∀{ws:List W}{x:List Int},z8 ws=some x->ws=x.map W.int:=by
 intro ws
 induction ws with
 |nil=>intro x h;cases h;rfl
 | cons w ws ih=>
  intro x h;cases w <;> first | (cases h;done)|skip
  rename_i i
  have h':(z8 ws).map (i::·)=some x:=h;cases hw:z8 ws with
  |none=>rw[hw]at h';cases h'
  |some bs=>rw[hw]at h';rw[ih hw,<- Option.some.inj h'];rfl
theorem jA:∀{ws:List W}{ss:List (List Int)},N9 ws=some ss->ws=ss.map λx=>W.tup (x.map W.int):=by
 intro ws
 induction ws with
 |nil=>intro ss h;cases h;rfl
 | cons w r ih=>
  intro ss h;cases w <;> first | (cases h;done)|skip
  rename_i ws
  have h':(match z8 ws,N9 r with|some x,some xs=>some (x::xs)|_,_=>none)=some ss:=h;cases h1:z8 ws with
  |none=>rw[h1]at h';cases h'
  | some x=>
   cases h2:N9 r with
   |none=>rw[h1,h2]at h';cases h'
   |some xs=>rw[h1,h2]at h';rw[vo h1,ih h2,<- Option.some.inj h'];rfl
theorem iG:∀ns:List Int,m5 (ns.map W.int)=true
 | []=>rfl
 |n::ns=>by rw[qC4];simp only [m5,noL,iG ns,qL0]
theorem eL:∀ss:List (List Int),m5 (ss.map λx=>W.tup (x.map W.int))=true
 | []=>rfl
 |x::ss=>by rw[qC4];simp only [m5,noL,iG x,eL ss,qL0]
section
variable {K:Frag}
theorem iA {F:Hp}:∀{ys:List V}{ss:List (List Int)},Reps K F ys (ss.map λx=>W.tup (x.map W.int))->(∀x∈ss,x ≠ [])->Paired (λv zs=>(∃a,v=.ref a/\F a=some (.tup (zs.map V.int)))/\zs ≠ []) ys ss
 |_,[],.nil,_=>.nil
 | _,x::ss,.cons r t,hne=>by
  refine .cons ⟨?_,hne x qB1⟩ (iA t λy hy=>hne y (qA7 _ hy));cases r with
  |tup ha hr=>exact ⟨_,rfl,by rw[ha,Reps.ints hr (ints_map x)]⟩
theorem gn {F:Hp}:∀{ys:List V}{ws:List W}{i:Nat},Reps K F ys ws->i<ys.length->∃w,ws[i]?=some w/\Rep K F (ys.getD i .non) w
 |_,_,_,.nil,h=>absurd h (qF7 _)
 |_,_,0,.cons r _,_=>⟨_,rfl,r⟩
 | _,_,i+1,.cons _ t,h=>by
  obtain ⟨b,e,q⟩:=gn (i:=i) t (by simpa using h);exact ⟨b,by simpa using e,by simpa using q⟩
theorem eD {F:Hp}{f:Nat->V}{g:Nat->W}:∀{l:List Nat},(∀i∈l,Rep K F (f i) (g i))->Reps K F (l.map f) (l.map g)
 | [],_=>.nil
 |_::_,h=>.cons (h _ qB1) (eD λb hb=>h b (qA7 _ hb))
theorem uv {F:Hp}{ys:List V}{ss:List (List Int)}(r:Reps K F ys (ss.map λx=>W.tup (x.map W.int))):Reps K F (B7 ss V.non ys) ((J0 ss).map λx=>W.tup (x.map W.int)):=by
 have hl:=r.length;rw[qA1]at hl;unfold J0 B7;rw[qC7];refine eD λi hi=>?_;have hi':i<ss.length:=by have:=(aX ss).mem_iff.mp hi;rwa [qE7]at this
 obtain ⟨w,e,q⟩:=gn (i:=i) r (by omega);rw[qA8]at e
 have:ss[i]?=some (ss.getD i []):=by rw[qA0];simp [hi']
 rw[this]at e;cases e;exact q
theorem EY {c:Bool}:Cal K (cb c) .F (λxs H Q=>∃p ys ss,xs = [.ref p]/\SqL K H p ys/\Paired (λv zs=>(∃a,v=.ref a/\SqT K H a (zs.map V.int))/\zs ≠ []) ys ss/\ss.length<64/\∀l,H l=none->Q (.ref l) (upd H l (.lst (B7 ss V.non ys)))) fSort:=by
 intro EX H0 Hs G H ρ σ Ha vs ws Q I s m o;cases m with
 |nil=>exact o.elim
 | cons a t=>
  cases t with
  |cons _ _=>exact o.elim
  | nil=>
   rename_i w v
   unfold fSort at o;cases hl:lstOf w with
   |none=>simp only [hl]at o;exact o.elim
   | some us=>
    simp only [hl]at o;cases ht:N9 us with
    |none=>simp only [ht]at o;exact o.elim
    | some ss=>
     simp only [ht]at o;by_cases hc:ss.length<64/\ss.all (λx=>!x.isEmpty)=true
     ·rw [qA4 hc]at o
      obtain ⟨p,ys,rfl,hs,r⟩:=Md.lstOf I a hl;rw[jA ht]at r;have hne:∀x∈ss,x ≠ []:=λx hx=>by
       have:=qE5.mp hc.2 x hx
       intro e;subst e;simp at this
      have sm:Same (if c then G else join H0 G) H:=by
       cases c with
       |true=>rw[qA4 rfl];exact I.gh
       |false=>rw[qA6 qA5];exact I.join_H
      refine ⟨p,ys,ss,rfl,hs,Paired.mapP (iA r hne) λv zs h=>⟨?_,h.2⟩,hc.1,Out.chks (EX:=EX) (c:=c) I s (uv r) ?_⟩
      ·obtain ⟨b,e,q⟩:=h.1;exact ⟨b,e,SqT.of (sm _ _ q)⟩
      ·have e:TP.chks c ((J0 ss).map λx=>W.tup (x.map W.int))=.ok (.lst ((J0 ss).map λx=>W.tup (x.map W.int))):=by
        unfold TP.chks;rw[eL,qK5,qA4 rfl]
       rw[e];exact o
     ·rw[qA6 hc]at o;exact o.elim
end
end TP
namespace TP
open PySem L2
set_option maxHeartbeats 2000000
theorem Au (l b:Addr) (us vs:List Value) (m m2:Nat) (dd dd2:Option Addr) (sl sl2:Array (Option Value)) (xs ys:List Int) (rx:Vals (xs.map V.int) us) (ry:Vals (ys.map V.int) vs) :
  Meets (Builtin.«tuple.__lt__» ⟨[.ref l,.ref b],[]⟩) (λ_ R s=>s.heap.get? l=some { cls:=.type "tuple",dict:=dd,data:=.seq us.toArray m,slots:=sl }/\s.heap.get? b=some { cls:=.type "tuple",dict:=dd2,data:=.seq vs.toArray m2,slots:=sl2 }/\R (.ok (.ret (.bool (lexLt xs ys)))) s):=
 .of_wp fun prog w A R s hyp=>by
  obtain ⟨hp,g,d,tk,os⟩:=s;obtain ⟨hl,hb,hyp⟩:=hyp;have g1:=AutoSeq1.sub_tuple_tuple;have l1:=rx.length;have l2:=ry.length;rw[qA1]at l1 l2
  wp_walk using qI1 hl,qI1 hb,wpAny_forIn_list _ (λrest b s'=>b.1=none/\s'=⟨hp,g,d,tk,os⟩/\∃(zs ts:List Int) (us vs:List Value),rest=us.zip vs/\Vals (zs.map V.int) us/\Vals (ts.map V.int) vs/\R (.ok (.ret (.bool (ae (decide (xs.length<ys.length)) (zs.zip ts))))) ⟨hp,g,d,tk,os⟩) _
  case turn=>
   rintro ⟨y,x⟩ rest b s' ⟨hb',rfl,zs,ts,us',vs',hz,r1,r2,hR⟩;cases zs with
   |nil=>cases r1;cases hz
   | cons z zs=>
    cases ts with
    |nil=>cases r2;cases us' <;> cases hz
    | cons t ts=>
     cases r1 with
     | cons a1 r1=>
      cases r2 with
      | cons a2 r2=>
       obtain ⟨k1,rfl⟩:=a1;obtain ⟨k2,rfl⟩:=a2;rw[qI8]at hz;injection hz with h1 h2
       injection h1 with h3 h4
       subst h3 h4 h2;simp only [qI8,ae]at hR;refine qA2 (wpAny_eqBool_int ?_);by_cases e:z=t
       ·rw [qA4 e]at hR
        rw[show (z == t)=true by simpa using e]
        wp_walk
        exact ⟨rfl,rfl,zs,ts,_,_,rfl,r1,r2,hR⟩
       ·rw [qA6 e]at hR
        rw[show (z == t)=false by simpa using e];rw[qA4 (show (!false)=true from rfl)];refine qA2 (wpAny_rule (qA2 (PyProof.Rows.lt_int ?_)))
        wp_walk
        exact ⟨_,rfl,hR⟩
  case fin=>
   rintro ⟨b1,b2⟩ s' ⟨hb',rfl,zs,ts,us',vs',hz,r1,r2,hR⟩;simp only at hb';subst hb';have hk:ae (decide (xs.length<ys.length)) (zs.zip ts)=decide (xs.length<ys.length):=by
    cases zs with
    |nil=>rfl
    | cons z zs=>
     cases ts with
     |nil=>rfl
     |cons t ts=>cases r1;cases r2;cases hz
   rw[hk]at hR
   wp_walk
   refine ⟨_,rfl,?_⟩;simpa [Builtin.Tuple.tupleCompareSizes,<- l1,<- l2]using hR
  case h=>
   exact ⟨rfl,rfl,xs,ys,us,vs,rfl,rx,ry,by rw[gU];exact hyp⟩
section
variable {X:Cx}{K:Frag}
end
section
variable {K:Frag}
end
end TP
namespace L2
open PySem PySem.Spec PyProof.Rows
section
variable {X:Cx}{pins:List (Addr×Obj)}{σ:St}{H:Hp}{s:Shared}{A:Around}{E:Value->Shared->Prop}{Q:Value->Shared->Prop}{b:Bool}
end
end L2
namespace TP
open PySem L2
section
variable {K:Frag}{d:Mode}
end
end TP
namespace HT
open PySem PyProof.Rows
section
variable {prog:Program}{w:World}{A:Around}{E:Value->Shared->Prop}{s:Shared}
end
end HT
namespace TP
open PySem L2
section
variable {X:Cx}
end
section
variable {K:Frag}{EX:EXT}{H0 G H:Hp}{ρ:Rho}{σ:St}{Q:VK}
end
section
variable {X:Cx}{K:Frag}{EX:EXT}{e:Expr}{pos:Pos}{ma:Rho->R W}
end
end TP
namespace TP
open PySem L2
section
variable {K:Frag}{EX:EXT}{H0 G H G1 H1 F:Hp}{ρ:Rho}{σ:St}{d:Mode}{D:Ends}
end
section
variable {X:Cx}{K:Frag}{EX:EXT}{d:Mode}{e k v:Expr}{pos:Pos}{mk me:Rho->R W}
end
end TP
namespace TP
open PySem L2
set_option maxHeartbeats 2000000
section
variable {X:Cx}{K:Frag}
end
section
variable {K:Frag}
end
end TP
namespace TP
open PySem L2
section
variable {X:Cx}{K:Frag}{EX:EXT}{d:Mode}{p:Pos}{es:List Expr}{mr:Rho->R (List W)}
theorem l7 {i j}(hr:PA X es (tA K EX d mr)):PA X (.Constant (.int i) j p::es) (tA K EX d (aC (mC (.int i)) mr)):=b6 c9 hr (by rfl)
theorem BT {a0 a1 a2 a3 a4 a5} {u0 u1 u2 u3 u4 u5}{p0 p1 p2 p3 p4 p5:Pos}{pos:Pos}:PE X (.List [.Constant (.int a0) u0 p0,.Constant (.int a1) u1 p1,.Constant (.int a2) u2 p2,.Constant (.int a3) u3 p3,.Constant (.int a4) u4 p4,.Constant (.int a5) u5 p5] pos) (tM K EX .F (A1 (aC (mC (.int a0)) (aC (mC (.int a1)) (aC (mC (.int a2)) (aC (mC (.int a3)) (aC (mC (.int a4)) (aC (mC (.int a5)) aN)))))))):=by
 refine y9 ?_;refine l7 ?_;refine l7 ?_;refine l7 ?_;refine l7 ?_;refine l7 ?_;refine l7 ?_;exact b8
theorem BS {a0 a1 a2 a3 a4 a5 a6} {u0 u1 u2 u3 u4 u5 u6}{p0 p1 p2 p3 p4 p5 p6:Pos}{pos:Pos}:PE X (.List [.Constant (.int a0) u0 p0,.Constant (.int a1) u1 p1,.Constant (.int a2) u2 p2,.Constant (.int a3) u3 p3,.Constant (.int a4) u4 p4,.Constant (.int a5) u5 p5,.Constant (.int a6) u6 p6] pos) (tM K EX .F (A1 (aC (mC (.int a0)) (aC (mC (.int a1)) (aC (mC (.int a2)) (aC (mC (.int a3)) (aC (mC (.int a4)) (aC (mC (.int a5)) (aC (mC (.int a6)) aN))))))))):=by
 refine y9 ?_;refine l7 ?_;refine l7 ?_;refine l7 ?_;refine l7 ?_;refine l7 ?_;refine l7 ?_;refine l7 ?_;exact b8
end
end TP
namespace TB
open PySem PySem.W
theorem bits_of {ns:List Int}(h:WData.layableAll [WData.list (ns.map WData.int)]=true):∀x∈ns,Builtin.Int.intBits x<=1048576:=λx hx=>by
 have h1:(WData.list (ns.map WData.int)).layable=true:=by simpa [WData.layableAll]using h
 have h2:(WData.list (ns.map WData.int)).weight<=2^20:=(layableW_iff.mp h1).2.2;have key:∀ms:List Int,x∈ms->Builtin.Int.intBits x<=WData.weightAll (ms.map WData.int):=by
  intro ms
  induction ms with
  |nil=>intro z;cases z
  | cons m ms ih=>
   intro z;rw[qC4]
   show _<=WData.weight (.int m)+1+WData.weightAll (ms.map WData.int);rcases qB3.mp z with e|e
   ·subst e
    have:WData.weight (.int x)=Builtin.Int.intBits x:=by rfl
    omega
   ·have:=ih e
    omega
 exact qB8 (key ns hx) (by simpa [WData.weight]using h2)
end TB
namespace Att
open PySem PySem.W PySem.Calls PyProof.Rows
theorem attach_callB {l:OpenLaw}{n:Nat}{q:Program}{loose:List Str}{XP:(Str->Option Value)->Heap->Prop}{YP:World->Heap->Prop}{d:DefRec}
  (hn:l.most=some n) (hdf:d.params.defaults = [])
  (call:∀(w:World) (s₀ s₁:Shared) (mg mb:Str->Option Value) (fa:Addr) (o:Obj) (pm cd doc:Value) (a:Addr) (vs:List Value) (ns:List Int),
   Ground q loose [] XP w s₀ mg mb s₁.heap->YP w s₁.heap ->
   s₁.heap.get? fa=some o->o.data=.func (docDef d.name d.params d.body d.scope pm cd doc)->s₁.heap.CodeRec cd d.name->mg d.name=some (.ref fa) ->
   s₁.heap.get? a=some { cls:=.type "list",data:=.seq vs.toArray }->IntsAre vs ns->ns.length<=n->(∀x∈ns,Builtin.Int.intBits x<=1048576)->s₁.gens=#[] ->
   codeAny (model l.prog w) callerA (.call (.ref fa) ⟨[.ref a],[]⟩) (λr s'=>r=.ok (.ret (.bool true))/\OldK s₁.heap s'.heap/\s'.os=s₁.os/\AllBare s'.gens) s₁) :
  WalkO q loose XP YP l.row.toRowW d [] (λf vs=>PySem.call f vs):=by
 intro w s₀ s₁ mg mb G Y fa o pm cd doc dV kV ho hd hcd hD hmg hg args vals as hpre hlay hrd hwl hlo;obtain rfl:dV=.none:=Dflts.none hD hdf;obtain rfl:kV=.none:=Dflts.noKw hD;obtain ⟨a,vs,ns,rfl,rfl,hobj,hints,hlen⟩:=qr hn hpre hwl;refine enter_call (codeAny_mono (call w s₀ s₁ mg mb fa o pm cd doc a vs ns G Y ho (fd_plain hd) hcd hmg hobj hints hlen (TB.bits_of hlay) hg) λr s' hq=>?_);obtain ⟨rfl,h2,h3,h4⟩:=hq;exact ⟨.inl ⟨.bool true,.bool true,[],rfl,λ_=>rfl,.bool true,qH l _,λ_=>⟨List.Pairwise.nil,λ_ hm=>(nomatch hm)⟩⟩,h2,h3,h4⟩
end Att
namespace L2
open PySem PySem.Spec PyProof.Rows
theorem tz {l:PySem.W.OpenLaw}{n k:Nat}{q:Program}{loose:List Str}{XP:(Str->Option Value)->Heap->Prop}{YP:World->Heap->Prop}{d:DefRec}{K:Params->Frag}{CX:World->CXT}{sp:World->Sp}{x:Str}
  (hn:l.most=some n) (hn2:n<=sizeLine) (hdf:d.params.defaults = []) (hr:Room k callerA)
  (hY:∀(w:World) (h:Heap),YP w h->(K w.params).In h)
  (F:∀(w:World) (mg:Str->Option Value) (fa:Addr) (h:Heap),(K w.params).In h->h.Ns mainGlobals mg->mg d.name=some (.ref fa) ->
   ∃ fd:FuncData,(∀(s:Shared) (u:Value),BindsTo s fd ⟨[u],[]⟩ [(x,u)]) /\
    ∀base:Heap,(K w.params).In base->base.Ns mainGlobals mg->FnOk l.prog w (K w.params) mg base (CX w) k fa fd [x] (sp w))
  (hsp:∀(w:World) (H:Hp) (a:Addr) (ns:List Int),ns.length<=n->(∀x∈ns,Builtin.Int.intBits x<=1048576)->pE H->SqL (K w.params) H a (ns.map V.int)->sp w [.ref a] H (λv _=>v=.bl true) λ_ _ _=>False)
  (hCX:∀(w:World) (H:Hp) (s:Shared) (e:Value) (s':Shared),CX w [] H s (λ_ _ _=>False) e s'->False) :
  PySem.W.WalkO q loose XP YP l.row.toRowW d [] (λf vs=>PySem.call f vs):=by
 refine Att.attach_callB hn hdf λw s₀ s₁ mg mb fa o pm cd doc a vs ns G Y ho hd hcd hmg hobj hints hlen hbi hg=>?_;have KX:=hY w _ Y;obtain ⟨fd,hb,hF⟩:=F w mg fa _ KX G.T.g hmg;exact vd KX G.T.g G.T.b G.T.builtins G.T.nolimit hg hobj hints (qB8 hlen hn2) hr hF hb (λH hO hS=>hsp w H a ns hlen hbi hO hS) λH e s'=>hCX w H s₁ e s'
theorem walk_ofKB {l:PySem.W.OpenLaw}{n k:Nat}{q:Program}{loose:List Str}{XP:(Str->Option Value)->Heap->Prop}{YP:World->Heap->Prop}{d:DefRec}{K:Params->Frag}{CX:CXT}{sp:Frag->Sp}{x:Str}
  (hn:l.most=some n) (hn2:n<=sizeLine) (hdf:d.params.defaults = []) (hr:Room k callerA)
  (hY:∀(w:World) (h:Heap),YP w h->(K w.params).In h)
  (F:∀(w:World) (mg:Str->Option Value) (fa:Addr) (h:Heap),(K w.params).In h->h.Ns mainGlobals mg->mg d.name=some (.ref fa) ->
   ∃ fd:FuncData,(∀(s:Shared) (u:Value),BindsTo s fd ⟨[u],[]⟩ [(x,u)]) /\
    ∀base:Heap,(K w.params).In base->base.Ns mainGlobals mg->FnOk l.prog w (K w.params) mg base CX k fa fd [x] (sp (K w.params)))
  (hsp:∀(K:Frag) (H:Hp) (a:Addr) (ns:List Int),ns.length<=n->(∀x∈ns,Builtin.Int.intBits x<=1048576)->pE H->SqL K H a (ns.map V.int)->sp K [.ref a] H (λv _=>v=.bl true) λ_ _ _=>False)
  (hCX:∀(H:Hp) (s:Shared) (e:Value) (s':Shared),CX [] H s (λ_ _ _=>False) e s'->False) :
  PySem.W.WalkO q loose XP YP l.row.toRowW d [] (λf vs=>PySem.call f vs):=
 tz (K:=K) (CX:=λ_=>CX) (sp:=λw=>sp (K w.params)) hn hn2 hdf hr hY F (λw H a ns h1 hb h2 h3=>hsp (K w.params) H a ns h1 hb h2 h3) λ_ H s e s'=>hCX H s e s'
end L2
namespace TP
open PySem L2
def CMulB (i j:Int):Prop:=CMul i j\/Builtin.Int.intBits i+Builtin.Int.intBits j<=134217728
instance (i j:Int):Decidable (CMulB i j):=by unfold CMulB;infer_instance
theorem CMulB.ok {i j:Int}(h:CMulB i j):IntMulOk i j:=by
 rcases h with h|h
 ·exact h.ok
 ·exact IntMulOk.of_le (qB9 _) (qB9 _) h
section
variable {X:Cx}
theorem w6:OpR X (binaryOp .Mult) (rI CMulB λi j=>.int (i*j)):=opI λ_ _ _ _ _ _ _ hc q=>PyProof.Rows.mul_int q hc.ok
end
theorem rg {i j:Int}(h:-18446744073709551616<i/\i<18446744073709551616):fI CMulB p7 (.int i) (.int j)=.ok (.int (i*j)):=by
 show (if CMulB i j then _ else _)=_;exact qA4 (.inl (.inl h))
theorem kG {i j:Int}(h:-18446744073709551616<j/\j<18446744073709551616):fI CMulB p7 (.int i) (.int j)=.ok (.int (i*j)):=by
 show (if CMulB i j then _ else _)=_;exact qA4 (.inl (.inr h))
theorem rf {i j:Int}(h:Builtin.Int.intBits i+Builtin.Int.intBits j<=134217728):fI CMulB p7 (.int i) (.int j)=.ok (.int (i*j)):=by
 show (if CMulB i j then _ else _)=_;exact qA4 (.inr h)
theorem yV {P:Program}{w:World}{K:Frag}{mg:Str->Option Value}{base:Heap}{k:Nat}{f:Addr}{fd:FuncData}{ps:List Str}{d:Mode}{F:List W->R W}(G:FnOk P w K mg base CX0 k f fd ps (spM K 1 d F))
  (h:∀ns:List Int,ns.length<=63->(∀x∈ns,Builtin.Int.intBits x<=1048576)->F [.scr (ns.map W.int)]=.ok (.bl true)):FnOk P w K mg base CX0 k f fd ps (λvs H Q _=>∃(a:Addr) (ns:List Int),vs = [.ref a]/\SqL K H a (ns.map V.int)/\ns.length<=63/\(∀x∈ns,Builtin.Int.intBits x<=1048576)/\∀H',Q (.bl true) H'):=
 G.imp λvs H Q E zz81=>by
  obtain ⟨a,ns,e,hs,hl,hb,q⟩:=zz81;subst e;refine ⟨rfl,[.scr (ns.map W.int)],.cons (.scr hs ?_) .nil,?_⟩
  ·clear hs hl hb
   induction ns with
   |nil=>exact .nil
   |cons n ns ih=>exact .cons .int ih
  ·rw [h ns hl hb]
   intro v G' H' _ _ _ m;have e:v=.bl true:=by
    cases d <;> first | (cases m;rfl) | (rcases m with m|⟨_,_,_,_,z,_⟩ <;> first | (cases m;rfl)|cases z)
   subst e;exact q H'
end TP
namespace TL
open PySem
theorem CF:typeLookup (.type "list_reverseiterator") "__len__" = pure none:=by rw[typeLookup_type,builtinLookup_eq_fast];kernel_rfl
theorem vw:typeLookup (.type "list_reverseiterator") "__length_hint__" = pure (some (.builtin "list_reverseiterator.__length_hint__")):=by rw[typeLookup_type,builtinLookup_eq_fast];kernel_rfl
theorem sub_self:isSubtype (.type "list_reverseiterator") (.type "list_reverseiterator")=pure true:=by rw[isSubtype_type];kernel_rfl
section
variable {prog:Program}{w:World}{A:Around}{E:Value->Shared->Prop}{s:Shared}
theorem vq {I l:Addr}{i:Int}{Q:Bool->Shared->Prop}(hit:s.heap.IsRevIter I l i) (h:Q false s):wpAny (model prog w) A (Builtin.List.listLengthHint (.ref I)) Q E s:=by
 have hT:=hit.typeIs;unfold Builtin.List.listLengthHint;refine qA2 (wpAny_specialOf hT CF ?_)
 show wpAny _ _ (specialOf (Value.ref I) (Str.ofString "__length_hint__")>>=_) _ _ _;refine qA2 (wpAny_specialOf hT vw ?_);have hsp:splitId "list_reverseiterator.__length_hint__" = some ("list_reverseiterator","__length_hint__"):=by decide +kernel
 dsimp only;rw[hsp];dsimp only;refine qA2 (wpAny_isInstance (T := "list_reverseiterator") (b:=true) hT sub_self ?_);rw[qA6 (show ¬ ((!true)=true) by decide)];refine wpAny_ite_split (λ_=>?_) (λhab=>absurd (by decide +kernel) hab);rw[qA6 (show ¬ ((Value.builtin "list_reverseiterator.__length_hint__" == Value.builtin "range_iterator.__length_hint__")=true) by decide)];exact wpAny_pure h
theorem zA {R:Result->Shared->Prop}{I l S:Addr}{items:Array Value}{c₀:Nat}(res:Value) (hh:A.handled=none) (hne:l≠I) (hit:s.heap.IsRevIter I l ((items.size:Int)-1)) (hl:s.heap.IsList l items) (hSI:S≠I) (hSl:S≠l) (hn:items.size<=sizeLine)
  (hS:s.heap.get? S=some { cls:=.type "list",data:=.seq #[] c₀ })
  (hR:∀h' tk acc' c',(∀b o,b≠S->b≠I->s.heap.get? b=some o->h'.get? b=some o)->h'.get? S=some { cls:=.type "list",dict:=none,data:=.seq acc' c',slots:=#[] }->ItemsOf (λi v=>items[items.size-1-i]?=some v) acc' items.size->R (.ok (.ret res)) { s with heap:=h',toks:=tk }) :
  wpAny (model prog w) A.in1 (Builtin.List.listExtendWith (.ref S) (.ref I) res)
   (λfin s'=>match fin with | .done f=>R (.ok f) s' | .again c'=>c'.quiet=true/\codeAny (model prog w) A c' R s') (λe s'=>R (.error e) s') s:=by
 have W:=(Walks.listRev (prog:=prog) (w:=w) (A:=A.in1) hh I l hne items).toS;have hSf:S ∉ [I,l]:=by simp [hSI,hSl]
 unfold Builtin.List.listExtendWith;refine qA2 (wpAny_typeOf hit.typeIs ?_);have h1:Builtin.List.listSameRef (.ref S) (.ref I)=false:=by simp [Builtin.List.listSameRef,hSI]
 have h2:(Value.type "list_reverseiterator" == Value.type "list")=false/\(Value.type "list_reverseiterator" == Value.type "tuple")=false:=by decide
 rw[h1,h2.1,h2.2];simp only [Bool.or_false,qD5,if_false];refine qA2 (wpAny_pyIter_revIter hit ?_);refine qA2 (wpAny_holding (vq hit ?_));refine wpAny_ite_split (λhab=>absurd hab (by decide +kernel)) (λ_=>?_);refine wpAny_pure ⟨plainId_quiet F.plain_extend_loop _,?_⟩;refine codeAny_extend_loopS W hn S hSf res items.size 0 s #[] c₀ rfl (qD1 _) ⟨qD1 _,by simpa using hit,hl⟩ hS (ItemsOf.nil _) λs' acc' c' hm hS' hacc=>?_;rw[Moved.eq_with hm];exact hR s'.heap s'.toks acc' c' (λb o hb hbI e=>hm.heap b o (by simp [hb,hbI]) e) hS' hacc
theorem call_list_rev {I l:Addr}{items:Array Value}{Q:Value->Shared->Prop}(hh:A.handled=none) (hne:l≠I) (hit:s.heap.IsRevIter I l ((items.size:Int)-1)) (hl:s.heap.IsList l items) (hn:items.size<=sizeLine)
  (hQ:∀h' tk acc' c',(∀b o,b≠I->s.heap.get? b=some o->h'.get? b=some o)->h'.get? s.heap.objs.size=some { cls:=.type "list",dict:=none,data:=.seq acc' c',slots:=#[] }->ItemsOf (λi v=>items[items.size-1-i]?=some v) acc' items.size->Q (.ref s.heap.objs.size) { s with heap:=h',toks:=tk }) :
  wpAny (model prog w) A (call (.type "list") [.ref I]) Q E s:=by
 obtain ⟨oi,hi,hi2⟩:=id hit;obtain ⟨ol,hol,hol2⟩:=id hl;have hSI:s.heap.objs.size≠I:=λe=>absurd (qB4 hi) (by rw[<- e];exact qF1 _);have hSl:s.heap.objs.size≠l:=λe=>absurd (qB4 hol) (by rw[<- e];exact qF1 _);refine callType_codes (Q₁:=λobj s₁=>obj=.ref s.heap.objs.size/\s₁={ s with heap:=s.heap.push { cls:=.type "list",data:=.seq #[] } }) F.called_list (F.typeCall_list_1 _) F.entry_list_init (code_list_new _ ⟨rfl,rfl⟩) λobj s₁ h₁=>?_;obtain ⟨rfl,rfl⟩:=h₁;have hS:(s.heap.push { cls:=.type "list",data:=.seq #[] }).get? s.heap.objs.size=some { cls:=.type "list",data:=.seq #[] }:=qC2 _ rfl;refine ⟨⟨_,hS,rfl⟩,F.args_list_init_2 _ _,?_⟩
 show wpAny _ _ (do let old <- Builtin.List.listItems (.ref s.heap.objs.size);Builtin.List.listUpdate (.ref s.heap.objs.size) (λ_=>#[]);letGo old.toList.reverse;Builtin.List.listExtendWith (.ref s.heap.objs.size) (.ref I) .none) _ _ _;refine qA2 ?_;unfold Builtin.List.listItems;refine qA2 (wpAny_seqItems hS rfl (wpAny_pure ?_))
 show wpAny _ _ (updateSeq s.heap.objs.size (λ_=>#[])>>=λ_=>letGo (#[]:Array Value).toList.reverse>>=λ_=>Builtin.List.listExtendWith (.ref s.heap.objs.size) (.ref I) .none) _ _ _;refine qA2 (wpAny_updateSeq hS rfl ?_);have hS₂:=qI9 (Obj.mapSeq (λ_=>(#[]:Array Value))) hS rfl;have oth:∀b o,s.heap.get? b=some o->((s.heap.push { cls:=.type "list",data:=.seq #[] }).update s.heap.objs.size (Obj.mapSeq (λ_=>(#[]:Array Value)))).get? b=some o:=λb o e=>by
  have hb:b≠s.heap.objs.size:=λz=>absurd (qB4 e) (by rw[z];exact qF1 _);exact (qK0 _ _ (Ne.symm hb)).trans (qA9 _ e)
 refine qA2 (wpAny_letGo ?_);refine zA (s:={ s with heap:=(s.heap.push { cls:=.type "list",data:=.seq #[] }).update s.heap.objs.size (Obj.mapSeq (λ_=>(#[]:Array Value))) }) .none hh hne ⟨oi,oth _ _ hi,hi2⟩ ⟨ol,oth _ _ hol,hol2⟩ hSI hSl hn hS₂ λh' tk acc' c' hk hS' hacc=>?_;refine ⟨rfl,hQ h' tk acc' c' (λb o hb e=>hk b o (λz=>absurd (qB4 e) (by rw[z];exact qF1 _)) hb (oth b o e)) hS' hacc⟩
end
end TL
namespace TP
open PySem L2
theorem qB {its:List Value}{acc:Array Value}(h:ItemsOf (λi v=>its.toArray[its.toArray.size-1-i]?=some v) acc its.toArray.size):acc.toList=its.reverse:=by
 obtain ⟨h1,h2⟩:=h;have hl:its.toArray.size=its.length:=qB5;rw[hl]at h1;apply qH6
 ·rw[Array.length_toList,qB2,h1]
 ·intro i q1 q2;have hi:i<acc.size:=by simpa using q1
  have:=h2 i acc[i] (Array.getElem?_eq_getElem hi)
  rw[hl]at this;rw[List.getElem_reverse,Array.getElem_toList];have e:its.toArray[its.length-1-i]?=some (its[its.length-1-i]'(by omega)):=by simp
  rw[e]at this;exact (Option.some.inj this).symm
section
variable {X:Cx}
def tRv (K:Frag)(f:List V->HO)(ta:TA):TE:=λσ H Q=>ta σ H λvs H1=>∃a xs,vs = [.ref a]/\SqL K H1 a xs/\∀p,H1 p=none->Q (.ref p) (upd H1 p (f xs.reverse))
theorem yc {a:Expr}{ta:TA}{p pos p2 pos2:Pos}(hc:X.calm=true) (hgl:Gl X "list") (hml:X.mg "list" = none) (hg:Gl X "reversed") (hm:X.mg "reversed" = none) (ha:PA X [a] ta) (hs:starEach [a] X.env = [(false,eval a X.env)]:=by rfl)
  (hs2:starEach [.Call (.Name "reversed" p2) [a] [] pos2] X.env = [(false,eval (.Call (.Name "reversed" p2) [a] [] pos2) X.env)]:=by rfl):PE X (.Call (.Name "list" p) [.Call (.Name "reversed" p2) [a] [] pos2] [] pos) (tRv X.K .lst ta):=by
 intro pins s σ H Q I h;refine wpAny_Call_Name_kw (O9 I hgl hml ii ?_ (by decide) (by decide));refine qF5 ?_ hs2 (by rfl);rw[hs2]
 show wpAny _ _ (spliced [(false,eval (.Call (.Name "reversed" p2) [a] [] pos2) X.env)]) _ _ s;refine Calls.spliced_cons ?_;refine wpAny_Call_Name_kw (O9 I hg hm dQ ?_ (by decide) (by decide));refine qF5 (thn (ha pos2 pins s σ H _ I h) λus s1 zz82=>?_) hs (by rfl);obtain ⟨vs,H1,I1,r1,q1⟩:=zz82;obtain ⟨b,xs,e,hq,q⟩:=q1;subst e;obtain ⟨u,rfl,ru⟩:=J4 r1;cases ru;obtain ⟨its,rv,pl,hz⟩:=I1.list hq;have hl:=rv.length;have hsz:its.toArray.size<=sizeLine:=by rw[qB5,<- hl];exact hz
 obtain ⟨ol,hol,hol2⟩:=id pl.isList;have hbI:b≠s1.heap.objs.size:=λz=>absurd (qB4 hol) (by rw[z];exact qF1 _);refine call_reversed_list pl.isList (Calls.spliced_nil ?_);refine TL.call_list_rev (s:={ s1 with heap:=s1.heap.push (revObj b ((its.toArray.size:Int)-1)) }) (I1.ok.hd hc) hbI ⟨_,qC2 _ rfl,rfl,rfl⟩ ⟨ol,qA9 _ hol,hol2⟩ hsz λh' tk acc' c' hk hS hacc=>?_;have e1:=qB hacc;have hkeep:∀b o,s1.heap.get? b=some o->h'.get? b=some o:=λb o e=>hk b o (λz=>absurd (qB4 e) (by rw[z];exact qF1 _)) (qA9 _ e);have hge:s1.heap.objs.size<=(s1.heap.push (revObj b ((its.toArray.size:Int)-1))).objs.size:=by rw[show (s1.heap.push (revObj b ((its.toArray.size:Int)-1))).objs.size=s1.heap.objs.size+1 from by simp [Heap.push]];omega
 refine ⟨.ref (s1.heap.push (revObj b ((its.toArray.size:Int)-1))).objs.size,_,I1.laid (t':=tk) hkeep hge (show ObjOk X.prog X.w _ h' _ (.lst xs.reverse) from ⟨by rw[qB2];exact hz,its.reverse,c',Vals.reverse rv,?_⟩),rfl,q _ (I1.hok.fresh hge)⟩;rw[<- e1];simpa using hS
end
def fJ:List W->R W
 | [w]=>match w with
  | .lst ws=>chks false ws.reverse
  |_=>.stuck
 |_=>.stuck
section
variable {K:Frag}{EX:EXT}{σ:St}{H:Hp}{Q:VK}
theorem EM {ma:Rho->R (List W)}(h:tM K EX .F (bA fJ ma) σ H Q):tRv K .lst (tA K EX .B ma) σ H Q:=by
 obtain ⟨H0,G,ρ,I,o⟩:=h;replace o:Out EX G H (mdW K .F H0 H) (ma ρ>>=fJ) Q:=o
 refine ⟨H0,G,ρ,I,Out.bind o λxs G1 H1 ws e1 m1 o1=>?_⟩;have I1:=I.ext e1;cases m1 with
 |nil=>exact o1.elim
 | cons a t=>
  cases t with
  |cons _ _=>exact o1.elim
  | nil=>
   rename_i w v
   cases w <;> first|exact o1.elim|skip
   rename_i us
   obtain ⟨p,vs,rfl,hs,r⟩:=a.lstB I1;exact ⟨p,vs,rfl,SqL.of hs,Out.chks I1 e1.hh (c:=false) (by rw[qA6 qA5];exact r.reverse) o1⟩
end
section
variable {X:Cx}{K:Frag}{EX:EXT}{a:Expr}{pos:Pos}{mr:Rho->R (List W)}
theorem BR {p p2 pos2:Pos}(hc:X.calm=true) (hgl:Gl X "list") (hml:X.mg "list" = none) (hg:Gl X "reversed") (hm:X.mg "reversed" = none) (ha:PA X [a] (tA K EX .B mr)) (hK:X.K=K:=by rfl) (hs:starEach [a] X.env = [(false,eval a X.env)]:=by rfl)
  (hs2:starEach [.Call (.Name "reversed" p2) [a] [] pos2] X.env = [(false,eval (.Call (.Name "reversed" p2) [a] [] pos2) X.env)]:=by rfl):PE X (.Call (.Name "list" p) [.Call (.Name "reversed" p2) [a] [] pos2] [] pos) (tM K EX .F (bA fJ mr)):=by
 subst hK;exact (yc hc hgl hml hg hm ha hs hs2).mono λ_ _ _ q=>EM q
end
theorem nA (ns:List Int):fJ [.lst (ns.map W.int)]=.ok (.lst (ns.reverse.map W.int)):=by
 have hn:∀l:List Int,m5 (l.map W.int)=true:=λl=>by induction l with|nil=>rfl|cons a l ih=>simpa [m5,noL]using ih
 show TP.chks false (ns.map W.int).reverse=_;rw[<- qG8];unfold TP.chks;rw[hn,qK5,qA4 rfl]
end TP
namespace TP
open PySem L2
def gX (u:W)(ws:List W):Option Nat:=(pds ws).findIdx? λy=>PyData.eqv y (pd u)
def jW (K:Frag):V->List V->Hp->VK->Prop:=λx vs H Q=>∃u ws y j,vs = [y]/\Rep K H y u/\Rep K H x (.lst ws)/\shp 8 u=true/\shp 8 (.lst ws)=true/\gX u ws=some j/\j<1000/\Q (.int (j:Int)) H
section
variable {X:Cx}
theorem uT (hu:X.A.units+64<cLine):MtR X "list.index" (jW X.K):=by
 intro pins s σ H x vs v us Q I rx rv h;obtain ⟨u,ws,y,j,rfl,ry,rc,su,sc,hj,hj1,q⟩:=h;obtain ⟨uy,rfl,rr⟩:=rv.one;obtain ⟨as,qa⟩:=Rep.reads I 8 ry su rr;obtain ⟨bs,qb⟩:=Rep.reads I 8 rc sc rx;have la:=jH u 8 su;have lc:=xr ws 7 sc;have hm:X.A.units+1+min (PyData.depthAll (pds ws)) (pd u).depth<cLine:=by have:=Nat.min_le_left (PyData.depthAll (pds ws)) (pd u).depth;omega
 have qb:Reads s.heap v (.list (pds ws)) bs:=qb;cases qb with
 | list h1 h2 h3 h4=>
  rename_i a o items n as'
  obtain ⟨oc,od,odt,osl⟩:=o;have h2:oc=.type "list" := h2;have h3:odt=.seq items n:=h3;subst h2 h3;have hmap:=SeqAt.readsAll_map (pds ws) _ _ lc.1 h4;have heq:=SeqAt.items_eqAt (A:=X.A) h4 qa lc.1 la.1 hm;unfold gX at hj;rw[<- hmap,List.findIdx?_map,List.findIdx?_eq_some_iff_getElem]at hj;obtain ⟨hlt,ht,hno⟩:=hj;have hlt':j<items.size:=by simpa using hlt
  refine call_meets PySem.F.slot_list_index ⟨_,h1,rfl⟩ PySem.F.entry_list_index (PySem.F.args_list_index_2 _ _) (SeqAt.list_indexAt a items n od osl uy (λz=>PyData.eqv (SeqAt.readOf s.heap z) (pd u)) j hlt' (by omega) (by simpa using ht) (λm hm1 hm2=>by simpa using hno m hm2)) ⟨h1,heq,?_⟩;exact ⟨.int (j:Int),H,I.tok _,⟨_,rfl⟩,q⟩
end
def lm (ws:List W) (u:W):R W:=if (shp 8 u&&shp 8 (.lst ws))=true then (match gX u ws with
 |some j=>if j<1000 then .ok (.int (j:Int)) else .stuck
 |none=>.stuck) else .stuck
def Rix (x:R W) (y:R W):R W:=x>>=λx=>(match x with
 | .lst ws=>y>>=λy=>lm ws y
 |_=>.stuck)
def kX (mo me:Rho->R W):Rho->R W:=λρ=>Rix (mo ρ) (me ρ)
theorem nh (mo me:Rho->R W)(ρ:Rho):kX mo me ρ=Rix (mo ρ) (me ρ):=rfl
theorem sZ (ws:List W)(u:W):Rix (.ok (.lst ws)) (.ok u)=lm ws u:=rfl
section
variable {K:Frag}{EX:EXT}{d:Mode}{σ:St}{H:Hp}{Q:VK}
theorem zP {mo me:Rho->R W}(h:tM K EX d (kX mo me) σ H Q):tBM K "list" (jW K) (tM K EX .B mo) (tA K EX .B (aC me aN)) σ H Q:=by
 obtain ⟨H0,G,ρ,I,o⟩:=h;unfold kX Rix at o;refine ⟨H0,G,ρ,I,Out.bind o λx G1 H1 w e1 m1 o1=>?_⟩;have I1:=I.ext e1;cases w <;> first|exact o1.elim|skip
 rename_i ws
 obtain ⟨p,vs,rfl,hs,_⟩:=m1.lstB I1;refine ⟨.inl ⟨rfl,vs,SqL.of hs⟩,H0,G1,ρ,I1,?_⟩;have key:Out EX G1 H1 (mdW K .B H0 H1) (me ρ) λy H2=>jW K (.ref p) [y] H2 Q:=Out.bind (md:=mdW K .B H0 H1) o1 λy G2 H2 u e2 m2 o2=>by
  have I2:=I1.ext e2;unfold lm at o2;by_cases c:(shp 8 u&&shp 8 (.lst ws))=true
  ·rw [qA4 c]at o2
   have c':shp 8 u=true/\shp 8 (.lst ws)=true:=by simpa using c
   cases hj:gX u ws with
   |none=>rw[hj]at o2;exact o2.elim
   | some j=>
    rw[hj]at o2;by_cases hl:j<1000
    ·dsimp only at o2;rw[qA4 hl]at o2;exact ⟨u,ws,y,j,rfl,m2.whole I2,(m1.move e2).whole I2,c'.1,c'.2,hj,hl,o2 _ G2 H2 (Ext.refl I2.gh) (Md.sca rfl (λ_=>.int) d)⟩
    ·dsimp only at o2;rw[qA6 hl]at o2;exact o2.elim
  ·rw[qA6 c]at o2;exact o2.elim
 show Out EX G1 H1 (mdA K .B H0 H1) (me ρ>>=λw=>aN ρ>>=λws=>.ok (w::ws)) _
 revert key
 cases me ρ with
 |stuck=>exact id
 |ex e=>exact id
 | ok u=>
  intro key v G2 H2 e2 m2;cases m2 with
  |cons a t=>cases t;exact key _ G2 H2 e2 a
end
section
variable {X:Cx}{K:Frag}{EX:EXT}{d:Mode}{o e:Expr}{apos cpos:Pos}{mo me:Rho->R W}
theorem xR (hu:X.A.units+64<cLine) (ho:PE X o (tM K EX .B mo)) (he:PE X e (tM K EX .B me)) (hK:X.K=K:=by rfl)
  (hbase:attributeBase o "index" X.env (eval o X.env)=eval o X.env:=by rfl)
  (hfew:((backTo cpos (starEach [e] X.env)).all (λx=>!x.1)&&(backToKw cpos (keywordEach [] X.env)).all (λx=>x.1.isSome)
   && decide (([e]:List Expr).length+([]:List Keyword).length+(if ([]:List Keyword).isEmpty then 0 else 1)<30))=true:=by rfl)
  (hline:(apos.endLine == cpos.line)=true:=by rfl) (hs:starEach [e] X.env=(false,eval e X.env)::starEach [] X.env:=by rfl) (hplain:(backTo cpos (starEach [] X.env)).any (·.1)=false:=by rfl) :
  PE X (.Call (.Attribute o "index" apos) [e] [] cpos) (tM K EX d (kX mo me)):=by
 subst hK;exact (wF qJ7 PySem.F.slot_list_index PySem.F.type_list_index (uT hu) ho (b6 he b8 hs) hbase hfew hline hs hplain).mono λ_ _ _ q=>zP q
end
end TP
namespace TP
open PySem L2
def OutW (K:Frag) (EX:EXT) (d:Mode) (H0:Hp) (r:R Fl) (D:Ends):Prop:=match r with
 | .ok (.nx ρ)=>∀G' σ' H',PIv K H0 G' ρ σ' H'->D.nx σ' H'
 | .ok (.bk ρ)=>∀G' σ' H',PIv K H0 G' ρ σ' H'->D.bk σ' H'
 | .ok (.ct ρ)=>∀G' σ' H',PIv K H0 G' ρ σ' H'->D.ct σ' H'
 | .ok (.rt w)=>∀v G' H',Same G' H'->Same H0 H'->(∀a o,H0 a=some o->isL o=true->G' a=none)->Md K H0 H0 G' H' v w d->D.rt v H'
 | .ex e=>∀H',Same H0 H'->EX e H'
 | .stuck=>False
def tStW (K:Frag)(EX:EXT)(d:Mode)(m:Rho->R Fl):TS:=λD σ H=>∃H0 G ρ,PIv K H0 G ρ σ H/\OutW K EX d H0 (m ρ) D
section
variable {K:Frag}{EX:EXT}{H0 G H G1 H1 G2 H2:Hp}{ρ:Rho}{σ:St}{d:Mode}{D:Ends}
theorem S2 {H:Hp}{a:Addr}{o:HO}:upd H a o a=some o:=by unfold upd;rw[qA4 rfl]
def clS:Sl->Sl
 | .un=>.un
 | .val w=>if noL w=true then .val w else .un
 | .par w=>if noL w=true then .val w else .un
 | .own ws=>if m5 ws=true then .own ws else .un
 | .dic ks=>.dic ks
 | .dik ks=>.dik ks
 | .iop p ws=>if m5 ws=true then .iop p ws else .un
 | .hz _=>.un
def subS (i j:Nat)(us ws':List W)(ρ:Rho):Rho:=(ρ.map clS).set i (.val (.tup (us.set j (.lst ws'))))
end
section
variable {X:Cx}{K:Frag}{EX:EXT}{d:Mode}{e:Expr}{pos:Pos}{ma:Rho->R W}{m n:Rho->R Fl}{ta:Rho->R Bool}{st:Stmt}{sts:List Stmt}
end
end TP
namespace TP
open PySem L2
set_option maxHeartbeats 2000000
section
variable {X:Cx}{K:Frag}
end
section
variable {K:Frag}
end
end TP
namespace TP
open PySem L2
def Hx (p:Addr)(H0 H1:Hp):Prop:=(∀a,a≠p->H1 a=H0 a)/\∃vs,H1 p=some (.lst vs)
def OutIo (K:Frag) (EX:EXT) (p:Addr) (H0:Hp) (r:R Fl) (D:Ends):Prop:=match r with
 | .ok (.nx ρ)=>∀H0' G' σ' H',Hx p H0 H0'->PIv K H0' G' ρ σ' H'->D.nx σ' H'
 | .ok (.bk ρ)=>∀H0' G' σ' H',Hx p H0 H0'->PIv K H0' G' ρ σ' H'->D.rt .non H'
 | .ex e=>∀H',EX e H'
 |_=>False
def tStI (K:Frag)(EX:EXT)(p:Addr)(m:Rho->R Fl):TS:=λD σ H=>∃H0 G ρ,PIv K H0 G ρ σ H/\(∃vs,H0 p=some (.lst vs))/\OutIo K EX p H0 (m ρ) D
def nbR:R Fl->R Fl
 | .ok (.nx ρ)=>.ok (.nx ρ)
 | .ex e=>.ex e
 |_=>.stuck
def nb (m:Rho->R Fl):Rho->R Fl:=λρ=>nbR (m ρ)
section
variable {K:Frag}{EX:EXT}{H0 H0' G H G1 H1 G2 H2:Hp}{ρ:Rho}{σ:St}{d:Mode}{D:Ends}{p:Addr}
theorem Hx.refl (h:∃vs,H0 p=some (.lst vs)):Hx p H0 H0:=⟨λ_ _=>rfl,h⟩
theorem Hx.trans {A B C:Hp}(h:Hx p A B)(g:Hx p B C):Hx p A C:=⟨λa q=>(g.1 a q).trans (h.1 a q),g.2⟩
theorem OutIo.move {r:R Fl}(s:Hx p H0 H0') (o:OutIo K EX p H0 r D):OutIo K EX p H0' r D:=by
 cases r with
 |stuck=>exact o
 |ex e=>exact o
 | ok f=>
  cases f with
  |nx ρ'=>exact λA G' σ' H' h I'=>o A G' σ' H' (s.trans h) I'
  |bk ρ'=>exact λA G' σ' H' h I'=>o A G' σ' H' (s.trans h) I'
  |ct ρ'=>exact o
  |rt w=>exact o
theorem OutIo.bind {α β:Type}{md:α->β->Hp->Hp->Prop}{m:R α}{k:α->R Fl}{Q1:β->Hp->Prop}(o:OutIo K EX p H0 (m>>=k) D)
  (h:∀x G1 H1 w,Ext G H G1 H1->md w x G1 H1->OutIo K EX p H0 (k w) D->Q1 x H1):Out EX G H md m Q1:=by
 cases m with
 |ok w=>exact λv G' H' e q=>h v G' H' w e q o
 |ex e=>exact λH' _=>o H'
 |stuck=>exact o
theorem tStI.toS {m:Rho->R Fl}(h:tStI K EX p (nb m) D σ H):tSt K EX d m D σ H:=by
 obtain ⟨H0,G,ρ,I,hp,o⟩:=h;refine ⟨H0,G,ρ,I,?_⟩;unfold nb at o
 revert o
 cases m ρ with
 |stuck=>exact id
 |ex e=>exact λo H' _=>o H'
 | ok f=>
  cases f with
  |nx ρ'=>exact λo G' σ' H' _ I'=>o H0 G' σ' H' (Hx.refl hp) I'
  |bk ρ'=>exact λo=>o.elim
  |ct ρ'=>exact λo=>o.elim
  |rt w=>exact λo=>o.elim
theorem EG {m n:Rho->R Fl}(h:tStI K EX p (d3 m n) D σ H):tR (tStI K EX p m) (tStI K EX p n) D σ H:=by
 obtain ⟨H0,G,ρ,I,hp,o⟩:=h;refine ⟨H0,G,ρ,I,hp,?_⟩;unfold d3 at o
 revert o
 cases m ρ with
 |stuck=>exact id
 |ex e=>exact id
 | ok f=>
  cases f with
  |nx ρ'=>exact λo A G' σ' H' s I'=>⟨A,G',ρ',I',s.2,OutIo.move s o⟩
  |_=>exact id
theorem Gu {c:Rho->R Bool}{m n:Rho->R Fl}(h:tStI K EX p (mIf c m n) D σ H):tS (tT K EX c) (tStI K EX p m) (tStI K EX p n) D σ H:=by
 obtain ⟨H0,G,ρ,I,hp,o⟩:=h;refine ⟨H0,G,ρ,I,OutIo.bind o λx G1 H1 w e1 m1 o1=>?_⟩;cases m1;cases x with
 |true=>exact ⟨H0,G1,ρ,I.ext e1,hp,o1⟩
 |false=>exact ⟨H0,G1,ρ,I.ext e1,hp,o1⟩
def nZ:Rho->R Fl:=λρ=>.ok (.bk ρ)
theorem EI (h:tStI K EX p nZ D σ H):tRetN D σ H:=by
 obtain ⟨H0,G,ρ,I,hp,o⟩:=h;exact o H0 G σ H (Hx.refl hp) I
def clI:Sl->Sl
 | .un=>.un
 | .val w=>.val w
 | .par w=>if noL w=true then .val w else .un
 | .own ws=>.own ws
 | .dic ks=>.dic ks
 | .dik ks=>.dik ks
 | .iop _ _=>.un
 | .hz _=>.un
theorem zJ {s:Sl}{ws:List W}(h:clI s=.own ws):s=.own ws:=by
 cases s with
 |un=>cases h
 |val w=>cases h
 | par w=>
  by_cases c:noL w=true
  ·rw[clI,qA4 c]at h;cases h
  ·rw[clI,qA6 c]at h;cases h
 |own us=>exact h
 |dic ks=>cases h
 |dik ks=>cases h
 |iop q us=>cases h
 |hz _=>cases h
def appI (i:Nat)(p:Addr)(ws:List W)(ρ:Rho):Rho:=(ρ.map clI).set i (.iop p ws)
theorem PIv.appI {i:Nat}{ws:List W}{vs vs':List V}(I:PIv K H0 G ρ σ H) (hi:i<ρ.length) (es:σ[i]?=some (some (.ref p))) (hp:H0 p=some (.lst vs)) (rv:Reps K G vs' ws):PIv K (upd H0 p (.lst vs')) G (appI i p ws ρ) σ (upd H p (.lst vs')):=by
 have gp:G p=none:=I.gl p _ hp rfl;refine ⟨λb o hb hl=>?_,λb o hb hl=>?_,λb o hb=>?_,λb o hb=>?_,?_,λk x o h1 h2=>?_,λx y u1 u2 c hab h1 h2 h3 h4=>?_⟩
 ·by_cases q:b=p
  ·subst q;rw[S2]at hb;cases hb;cases hl
  ·rw[d4 q]at hb;exact I.g0 b o hb hl
 ·by_cases q:b=p
  ·subst q;exact gp
  ·rw[d4 q]at hb;exact I.gl b o hb hl
 ·have q:b≠p:=by rintro rfl;rw[gp]at hb;cases hb
  rw[d4 q];exact I.gh b o hb
 ·by_cases q:b=p
  ·subst q;rw[S2]at hb ⊢;exact hb
  ·rw[d4 q]at hb ⊢;exact I.hh b o hb
 ·unfold TP.appI;rw[qD7,qA1];exact I.len
 ·unfold TP.appI at h1;by_cases q:i=k
  ·subst q;rw[qF2 (by rw[qA1];exact hi)]at h1;cases h1;rw[es]at h2;cases h2;exact ⟨rfl,vs',S2,rv⟩
  ·rw [qC0 q,qA8]at h1
   obtain ⟨s,hs,rfl⟩:=qE3.mp h1;have old:=I.sl k s o hs h2;cases s with
   |un=>trivial
   |val w=>exact old
   | par w=>
    rw[clI];by_cases c:noL w=true
    ·rw [qA4 c]
     obtain ⟨v,ev,r⟩:=old;exact ⟨v,ev,Rep.clean I r c⟩
    ·rw[qA6 c];trivial
   | own ws=>
    obtain ⟨b,us',eb,hb,hgb,h0b,rb⟩:=old;have hbl:b≠p:=by rintro rfl;rw[hp]at h0b;cases h0b
    exact ⟨b,us',eb,by rw[d4 hbl];exact hb,hgb,by rw[d4 hbl];exact h0b,rb⟩
   | dic ks=>
    obtain ⟨b,us',eb,hb,hgb,h0b,rb⟩:=old;have hbl:b≠p:=by rintro rfl;rw[hp]at h0b;cases h0b
    exact ⟨b,us',eb,by rw[d4 hbl];exact hb,hgb,by rw[d4 hbl];exact h0b,rb⟩
   | dik ks=>
    obtain ⟨b,us',eb,hb,hgb,h0b,rb⟩:=old;have hbl:b≠p:=by rintro rfl;rw[hp]at h0b;cases h0b
    exact ⟨b,us',eb,by rw[d4 hbl];exact hb,hgb,by rw[d4 hbl];exact h0b,rb⟩
   |iop q us=>trivial
   |hz _=>trivial
 ·have key:∀{k:Nat}{u:List W},(TP.appI i p ws ρ)[k]?=some (.own u)->ρ[k]?=some (.own u):=λ{k u} hk=>by
   unfold TP.appI at hk;by_cases q:i=k
   ·subst q;rw[qF2 (by rw[qA1];exact hi)]at hk;cases hk
   ·rw [qC0 q,qA8]at hk
    obtain ⟨s,hs,h⟩:=qE3.mp hk;rw[hs,zJ h]
  exact I.ne x y u1 u2 c hab (key h1) (key h2) h3 h4
def dg (p:Addr) (i:Nat) (m:Rho->R W):Rho->R Fl:=λρ=>match ρ[i]? with
 |some (.iop q ws)=>m ρ>>=λw=>if q=p/\ws.length<1000 then .ok (.nx (appI i p (ws ++ [w]) ρ)) else .stuck
 |_=>.stuck
theorem ER {i:Nat}{m:Rho->R W}(h:tStI K EX p (dg p i m) D σ H):cY (tU (V6 i) (tM K EX .V m)) D σ H:=by
 obtain ⟨H0,G,ρ,I,hp,o⟩:=h;unfold dg at o
 split at o
 ·rename_i q ws e
  have hi:=(qB0.mp e).1;have hs:i<σ.length:=by rw[<- I.len];exact hi
  have es:σ[i]?=some σ[i]:=by simp
  obtain ⟨ev,vs,h0,r⟩:=I.sl i _ _ e es;have hq:=I.hh q _ h0;refine ⟨.ref q,by rw[es,ev],q,rfl,⟨vs,hq⟩,H0,G,ρ,I,OutIo.bind o λx G1 H1 w e1 m1 o1=>?_⟩;by_cases hl:q=p/\ws.length<1000
  ·rw [qA4 hl]at o1
   obtain ⟨rfl,hl⟩:=hl;have h1:=e1.hh q _ hq;dsimp only;rw[h1];dsimp only;have hlen:vs.length=ws.length:=r.length;exact ⟨qB7 (by omega:vs.length<1000) (by decide),o1 _ G1 σ _ ⟨λa ha=>d4 ha,_,S2⟩ ((I.ext e1).appI hi (by rw[es,ev]) h0 ((r.same e1.gg).snoc m1))⟩
  ·rw[qA6 hl]at o1;exact o1.elim
 ·exact o.elim
def ioR (p:Addr) (ρ:Rho):R (List W):=match (ρ[1]?:Option Sl) with
 |some (.iop q cs)=>if q=p then .ok cs else .stuck
 |_=>.stuck
def Y5 (n N:Nat) (m:Addr->Rho->R Fl) (p:Addr) (w1:W) (cs wr:List W):R (List W):=if wr.length+2=n/\m5 cs=true then (match m p (.par w1::.iop p cs::(wr.map Sl.par++List.replicate (N-n) Sl.un)) with
 | .ok (.nx ρ)=>ioR p ρ
 | .ok (.bk ρ)=>ioR p ρ
 |_=>.stuck) else .stuck
open Classical in
def F6 (n N:Nat)(m:Addr->Rho->R Fl)(w1:W)(cs wr:List W):R (List W):=if h:∃cs',∀p,Y5 n N m p w1 cs wr=.ok cs' then .ok (Classical.choose h) else .stuck
theorem dB {n N:Nat}{m:Addr->Rho->R Fl}{w1:W}{cs wr cs':List W}(h:F6 n N m w1 cs wr=.ok cs') (p:Addr):Y5 n N m p w1 cs wr=.ok cs':=by
 unfold F6 at h
 split at h
 ·rename_i q
  cases h;exact Classical.choose_spec q p
 ·cases h
theorem qz {n N:Nat}{m:Addr->Rho->R Fl}{w1:W}{cs wr cs':List W}(h:∀p,Y5 n N m p w1 cs wr=.ok cs'):F6 n N m w1 cs wr=.ok cs':=by
 have hx:∃cs',∀p,Y5 n N m p w1 cs wr=.ok cs':=⟨cs',h⟩;unfold F6;rw[dif_pos hx]
 have:=Classical.choose_spec hx (0:Nat)
 rw[h]at this;cases this;rfl
theorem qA {n N:Nat}{m:Addr->Rho->R Fl}{w1:W}{cs wr:List W}:F6 n N m w1 cs wr=.stuck\/∃cs',F6 n N m w1 cs wr=.ok cs':=by
 unfold F6
 split
 ·exact .inr ⟨_,rfl⟩
 ·exact .inl rfl
theorem iy {n N:Nat}{m:Addr->Rho->R Fl}{p:Addr}{w1:W}{cs wr cs':List W}(h:Y5 n N m p w1 cs wr=.ok cs'):wr.length+2=n/\m5 cs=true:=by
 unfold Y5 at h;by_cases e:wr.length+2=n/\m5 cs=true
 ·exact e
 ·rw[qA6 e]at h;cases h
def gc (K:Frag) (n:Nat) (f:W->List W->List W->R (List W)):Sp:=λvs H Q _=>vs.length=n/\∃v1 p vr w1 cs wr us cs',vs=v1::.ref p::vr/\H p=some (.lst us)/\Rep K H v1 w1/\Reps K H vr wr/\Reps K H us cs/\f w1 cs wr=.ok cs' /\
 ∀H' us' G',(∀a o,a≠p->H a=some o->H' a=some o)->H' p=some (.lst us')->Same G' H'->(∀a o,H a=some o->isL o=true->G' a=none)->Reps K G' us' cs'->Q .non H'
theorem PIv.toIop {i:Nat}{cs:List W}{us:List V}(I:PIv K H0 G ρ σ H) (hi:i<ρ.length) (es:σ[i]?=some (some (.ref p))) (hp:H0 p=some (.lst us)) (r:Reps K G us cs):PIv K H0 G (ρ.set i (.iop p cs)) σ H:=by
 refine ⟨I.g0,I.gl,I.gh,I.hh,by rw[qD7];exact I.len,λk x o h1 h2=>?_,λx y u1 u2 c hab h1 h2 h3 h4=>?_⟩
 ·by_cases q:i=k
  ·subst q;rw[qF2 hi]at h1;cases h1;rw[es]at h2;cases h2;exact ⟨rfl,us,hp,r⟩
  ·rw [qC0 q]at h1
   exact I.sl k x o h1 h2
 ·have key:∀{k:Nat}{u:List W},(ρ.set i (.iop p cs))[k]?=some (.own u)->ρ[k]?=some (.own u):=λ{k u} hk=>by
   by_cases q:i=k
   ·subst q;rw[qF2 hi]at hk;cases hk
   ·rw[qC0 q]at hk;exact hk
  exact I.ne x y u1 u2 c hab (key h1) (key h2) h3 h4
theorem zT {n:Nat}{Nl:List Str}{m:Addr->Rho->R Fl}{vs:List V}{Q:VK}{E:XK}(h:gc K n (F6 n Nl.length m) vs H Q E):∃p,tStI K (λ_ _=>False) p (m p) { nx:=λ_ H'=>Q .non H',rt:=Q } (L2.start Nl vs) H:=by
 obtain ⟨hl,v1,p,vr,w1,cs,wr,us,cs',rfl,hp,r1,rr,ru,hf,hq⟩:=h;have hrun:=dB hf p;obtain ⟨hn,hnl⟩:=iy hrun;have ra:Reps K H (v1::.ref p::vr) (w1::.lst cs::wr):=.cons r1 (.cons (.lst hp ru) rr);have I0:=PIv.begin (k:=Nl.length-n) (k':=Nl.length-n) ra rfl;have ru':Reps K (z9 H) us cs:=Reps.clean I0 (by rw[cG];exact ru) hnl;have I1:=I0.toIop (i:=1) (p:=p) (cs:=cs) (us:=us) (by simp) rfl hp ru';refine ⟨p,H,z9 H,Sl.par w1::.iop p cs::(wr.map Sl.par++List.replicate (Nl.length-n) Sl.un),?_,⟨us,hp⟩,?_⟩
 ·have e:L2.start Nl (v1::.ref p::vr)=((v1::.ref p::vr).map some++List.replicate (Nl.length-n) none):=by unfold L2.start;rw[hl]
  rw[e];exact I1
 ·unfold Y5 at hrun;rw[qA4 ⟨hn,hnl⟩]at hrun;have fin:∀ρ,ioR p ρ=.ok cs'->∀H0' G' σ' H',Hx p H H0'->PIv K H0' G' ρ σ' H'->Q .non H':=λρ hr H0' G' σ' H' hx I'=>by
   unfold ioR at hr
   split at hr
   ·rename_i q cs2 e2
    by_cases e3:q=p
    ·rw [qA4 e3]at hr
     cases hr;subst e3;have hi:1<σ'.length:=by rw[<- I'.len];exact (qB0.mp e2).1
     obtain ⟨_,us',h0',r'⟩:=I'.sl 1 _ _ e2 (show σ'[1]?=some σ'[1] by simp);refine hq H' us' G' (λa o ha hb=>I'.hh a o (by rw[hx.1 a ha];exact hb)) (I'.hh _ _ h0') I'.gh (λa o hb hl=>?_) r';by_cases e4:a=q
     ·subst e4;exact I'.gl a _ h0' rfl
     ·exact I'.gl a o (by rw[hx.1 a e4];exact hb) hl
    ·rw[qA6 e3]at hr;cases hr
   ·cases hr
  revert hrun
  cases m p (.par w1::.iop p cs::(wr.map Sl.par++List.replicate (Nl.length-n) Sl.un)) with
  |stuck=>exact λh=>nomatch h
  |ex e=>exact λh=>nomatch h
  | ok f=>
   cases f with
   |nx ρ'=>exact λh H0' G' σ' H' hx I'=>fin ρ' h H0' G' σ' H' hx I'
   |bk ρ'=>exact λh H0' G' σ' H' hx I'=>fin ρ' h H0' G' σ' H' hx I'
   |ct ρ'=>exact λh=>nomatch h
   |rt w=>exact λh=>nomatch h
def mIO (i:Nat) (f:W->List W->List W->R (List W)) (m1:Rho->R W) (mr:Rho->R (List W)):Rho->R Fl:=λρ=>match ρ[i]? with
 |some (.own cs)=>m1 ρ>>=λw1=>mr ρ>>=λwr=>f w1 cs wr>>=λcs'=>.ok (.nx (ρ.set i (.own cs')))
 |_=>.stuck
theorem zR {i n:Nat}{f:W->List W->List W->R (List W)}{E:XK}{m1:Rho->R W}{mr:Rho->R (List W)}(hf:∀w1 cs wr,f w1 cs wr=.stuck\/∃cs',f w1 cs wr=.ok cs'/\wr.length+2=n) (h:tSt K EX d (mIO i f m1 mr) D σ H) :
  cY (eW (gc K n f) [] E (Y2 (tM K EX .B m1) (Y2 (V6 i) (tA K EX .B mr)))) D σ H:=by
 obtain ⟨H0,G,ρ,I,o⟩:=h;unfold mIO at o
 split at o
 ·rename_i cs e
  obtain ⟨a,vs,es,ha,hg,h0,r⟩:=I.own_at e;refine ⟨H0,G,ρ,I,OutS.bind I o λx G1 H1 w1 e1 m1 o1=>⟨.ref a,es,H0,G1,ρ,I.ext e1,OutS.bind (I.ext e1) o1 λxs G2 H2 wr e2 m2 o2=>?_⟩⟩;have I2:=(I.ext e1).ext e2;rcases hf w1 cs wr with hs|⟨cs',hs,hn⟩
  ·rw[hs]at o2;exact o2.elim
  rw[hs,R.ok_bind]at o2;have rx:=MdA.whole I2 m2;have ha2:H2 a=some (.lst vs):=e2.hh _ _ (e1.hh _ _ ha);have g2a:G2 a=none:=e2.keep _ _ (e1.hh _ _ ha) rfl (e1.keep _ _ ha rfl hg);have r2:Reps K G2 vs cs:=(r.same e1.gg).same e2.gg
  show gc K n f ((x::.ref a::xs) ++ []) H2 (λ_ H1=>D.nx σ H1) E;rw[qF3];refine ⟨?_,x,a,xs,w1,cs,wr,vs,cs',rfl,ha2,(m1.move e2).whole I2,rx,r2.same I2.gh,hs,λH' us' G' k1 k2 gH cl rr=>?_⟩
  ·rw[qC1,qC1,rx.length];exact hn
  have ga':G' a=none:=cl a _ ha2 rfl;have hk:∀b o,G2 b=some o->H' b=some o:=λb o q=>k1 b o (by rintro rfl;rw[g2a]at q;cases q) (I2.gh b o q);have sB:Same G2 (both G2 G'):=λb o q=>by unfold both;rw[q]
  have sB':Same G' (both G2 G'):=λb o q=>by
   unfold both;cases q1:G2 b with
   |none=>exact q
   | some u=>
    have a1:=hk b u q1;rw[gH b o q]at a1;exact a1.symm
  have sHB:Same (both G2 G') H':=λb o q=>by
   unfold both at q;cases q1:G2 b with
   |none=>rw[q1]at q;exact gH b o q
   |some u=>rw[q1]at q;cases q;exact hk b _ q1
  have bn:∀b o,H2 b=some o->isL o=true->G2 b=none->both G2 G' b=none:=λb o q l g=>by unfold both;rw[g];exact cl b o q l
  have hi:=(qB0.mp e).1;refine o2 (both G2 G') σ H' sB ⟨λb o q l=>sB b o (I2.g0 b o q l),λb o q l=>bn b o (I2.hh b o q) l (I2.gl b o q l),sHB,λb o q=>k1 b o (by rintro rfl;rw[h0]at q;cases q) (I2.hh b o q),by rw[qD7];exact I2.len,λk y o h1 h2=>?_,λx1 y1 u1 u2 c hab h1 h2 h3 h4=>?_⟩
  ·by_cases q:i=k
   ·subst q;rw[qF2 hi]at h1;cases h1;rw[es]at h2;cases h2;exact ⟨a,us',rfl,k2,bn a _ ha2 rfl g2a,h0,rr.same sB'⟩
   ·rw [qC0 q]at h1
    have old:=I2.sl k y o h1 h2;cases y with
    |un=>trivial
    |val w=>obtain ⟨v,ev,r⟩:=old;exact ⟨v,ev,r.same sB⟩
    |par w=>obtain ⟨v,ev,r⟩:=old;exact ⟨v,ev,r.same (u9 sB)⟩
    | own ws=>
     obtain ⟨b,us2,eb,hb,hgb,h0b,rb⟩:=old;subst eb;have hba:b≠a:=by
      rintro rfl;exact I.ne i k cs ws b q e h1 es h2
     exact ⟨b,us2,rfl,k1 b _ hba hb,bn b _ hb rfl hgb,h0b,rb.same sB⟩
    | dic ks=>
     obtain ⟨b,us2,eb,hb,hgb,h0b,rb⟩:=old;have hba:b≠a:=by
      rintro rfl;rw[ha2]at hb;cases hb
     exact ⟨b,us2,eb,k1 b _ hba hb,bn b _ hb rfl hgb,h0b,rb⟩
    | dik ks=>
     obtain ⟨b,us2,eb,hb,hgb,h0b,rb⟩:=old;have hba:b≠a:=by
      rintro rfl;rw[ha2]at hb;cases hb
     exact ⟨b,us2,eb,k1 b _ hba hb,bn b _ hb rfl hgb,h0b,rb⟩
    |iop q us=>obtain ⟨ev,vs1,h1',r1⟩:=old;exact ⟨ev,vs1,h1',r1.same sB⟩
    |hz w=>obtain ⟨v,ev,r⟩:=old;exact ⟨v,ev,r.same (u9 (Z0 sB))⟩
  ·have key:∀{k:Nat}{u:List W},(ρ.set i (.own cs'))[k]?=some (.own u)->∃u',ρ[k]?=some (.own u'):=λ{k u} hk=>by
    by_cases q:i=k
    ·subst q;exact ⟨cs,e⟩
    ·rw[qC0 q]at hk;exact ⟨u,hk⟩
   obtain ⟨v1,k1'⟩:=key h1;obtain ⟨v2,k2'⟩:=key h2;exact I.ne x1 y1 v1 v2 c hab k1' k2' h3 h4
 ·exact o.elim
end
section
variable {X:Cx}{K:Frag}{EX:EXT}{d:Mode}{e:Expr}{es:List Expr}{pos:Pos}{ma:Rho->R W}{m n:Rho->R Fl}{ta:Rho->R Bool}{st:Stmt}{sts:List Stmt}{p:Addr}{mr:Rho->R (List W)}
theorem q_i (h:PS X st (tSt K EX d m)):PS X st (tStI K EX p (nb m)):=h.mono λ_ _ _ q=>q.toS
theorem BU (h:PSs X sts (tSt K EX d m)):PSs X sts (tStI K EX p (nb m)):=h.mono λ_ _ _ q=>q.toS
theorem dc (h1:PS X st (tStI K EX p m))(h2:PSs X sts (tStI K EX p n)):PSs X (st::sts) (tStI K EX p (d3 m n)):=(jX h1 h2).mono λ_ _ _ q=>EG q
theorem gy (h1:PS X st (tStI K EX p m)):PSs X [st] (tStI K EX p m):=mK h1
theorem wA {c:Expr}{x y:List Stmt}(hc:PT X c (tT K EX ta))(ha:PSs X x (tStI K EX p m))(hb:PSs X y (tStI K EX p n)):PS X (.If c x y pos) (tStI K EX p (mIf ta m n)):=(wD hc ha hb).mono λ_ _ _ q=>Gu q
theorem BP:PS X (.Return none pos) (tStI K EX p nZ):=ps_retN.mono λ_ _ _ q=>EI q
theorem Ca {i:Nat}{x:Str}{p1 apos cpos:Pos}(hN:X.N[i]?=some x) (hv:Vis X.env.scope x) (ha:PE X e (tM K EX .V ma)) (hd:(x == ("__debug__" : Str))=false:=by decide) (hcd:(x == ("__classdict__" : Str))=false:=by decide)
  (hbase:attributeBase (.Name x p1) "append" X.env (eval (.Name x p1) X.env)=eval (.Name x p1) X.env:=by rfl)
  (hfew:((backTo cpos (starEach [e] X.env)).all (λx=>!x.1)&&(backToKw cpos (keywordEach [] X.env)).all (λx=>x.1.isSome)
   && decide (([e]:List Expr).length+([]:List Keyword).length+(if ([]:List Keyword).isEmpty then 0 else 1)<30))=true:=by rfl)
  (hline:(apos.endLine == cpos.line)=true:=by rfl) (hs:starEach [e] X.env=(false,eval e X.env)::starEach [] X.env:=by rfl) (hsw:swapsWith (.Call (.Attribute (.Name x p1) "append" apos) [e] [] cpos) none pos.line X.env=pure false:=by rfl) :
  PS X (.Expr (.Call (.Attribute (.Name x p1) "append" apos) [e] [] cpos) pos) (tStI K EX p (dg p i ma)):=(au (iC (S6 hN hv hd hcd) ha hbase hfew hline hs) hsw).mono λ_ _ _ q=>ER q
theorem xT {i k:Nat}{y:Str}{p1 p2 cpos:Pos}{f:Addr}{fd:FuncData}{ps:List Str}{x:Str}{n N:Nat}{m:Addr->Rho->R Fl}(hN:X.N[i]?=some y) (hv:Vis X.env.scope y)
  (F:FnOk X.prog X.w X.K X.mg X.base CX0 k f fd ps (gc K n (F6 n N m))) (hr:Room k X.A) (hg:Gl X x) (hm:X.mg x=some (.ref f)) (hk:PySem.W.keepIn X.K (.ref f)=true) (hb:Binds X.K fd ps [])
  (h1:PE X e (tM K (λ_ _=>False) .B ma)) (h2:PA X es (tA K (λ_ _=>False) .B mr)) (hd:(y == ("__debug__" : Str))=false:=by decide) (hcd:(y == ("__classdict__" : Str))=false:=by decide)
  (hdb:(x == ("__debug__" : Str))=false:=by decide) (he:starEach (e::.Name y p2::es) X.env=(false,eval e X.env)::starEach (.Name y p2::es) X.env:=by rfl) (he2:starEach (.Name y p2::es) X.env=(false,eval (.Name y p2) X.env)::starEach es X.env:=by rfl) (hpl:(backTo cpos (starEach (.Name y p2::es) X.env)).any (·.1)=false:=by rfl)
  (hsw:swapsWith (.Call (.Name x p1) (e::.Name y p2::es) [] cpos) none pos.line X.env=pure false:=by rfl) :
  PS X (.Expr (.Call (.Name x p1) (e::.Name y p2::es) [] cpos) pos) (tSt K (λ_ _=>False) d (mIO i (F6 n N m) ma mr)):=
 (au (de F hr hg hm hk hb .nil fh (aw h1 (aw (S6 hN hv hd hcd) h2 he2) he) hdb he hpl) hsw).mono λ_ _ _ q=>zR (λw1 cs wr=>by
  rcases qA (n:=n) (N:=N) (m:=m) (w1:=w1) (cs:=cs) (wr:=wr) with h|⟨cs',h⟩
  ·exact .inl h
  ·exact .inr ⟨cs',h,(iy (dB h (0:Nat))).1⟩) q
end
end TP
namespace TP
open PySem L2
section
variable {K:Frag}{EX:EXT}{H0 G H:Hp}{ρ:Rho}{σ:St}
theorem Rep.ofNoL {v:V}{w:W}(r:Rep K H v w)(h:noL w=true):Rep K (z9 H) v w:=Rep.clean (PIv.begin (vs:=[]) (ws:=[]) (k:=0) (k':=0) .nil rfl) (by rw[cG];exact r) h
theorem CH (K:Frag)(H:Hp):Same (z9 H) H:=(PIv.begin (K:=K) (H:=H) (vs:=[]) (ws:=[]) (k:=0) (k':=0) .nil rfl).gh
end
section
variable {X:Cx}{K:Frag}{e:Expr}{es:List Expr}{pos:Pos}{mr:Rho->R (List W)}
end
end TP
namespace TP
open PySem L2
section
variable {X:Cx}
end
section
variable {K:Frag}{EX:EXT}{H0 G H:Hp}{ρ:Rho}{σ:St}{d:Mode}{D:Ends}
end
section
variable {X:Cx}{K:Frag}{EX:EXT}{d:Mode}{e:Expr}{pos:Pos}{ma:Rho->R W}
end
end TP
namespace TP
open PySem L2
def t8:List (List Int)->List (List Int)->Bool
 | [],[]=>false
 | [],_::_=>true
 |_::_,[]=>false
 |a::as,b::bs=>if a=b then t8 as bs else lexLt a b
theorem lf:∀a,t8 a a=false
 | []=>rfl
 |x::a=>by unfold t8;rw[qA4 rfl];exact lf a
theorem gR:∀a b c,t8 a b=true->t8 b c=true->t8 a c=true
 | [],[],_,h,_=>by cases h
 | [],_::_,[],_,h=>by cases h
 | [],_::_,_::_,_,_=>rfl
 |_::_,[],_,h,_=>by cases h
 |_::_,_::_,[],_,h=>by cases h
 | x::a,y::b,z::c,h1,h2=>by
  unfold t8 at h1 h2 ⊢;by_cases e1:x=y
  ·subst e1;rw[qA4 rfl]at h1;by_cases e2:x=z
   ·subst e2;rw[qA4 rfl]at h2 ⊢;exact gR a b c h1 h2
   ·rw[qA6 e2]at h2 ⊢;exact h2
  ·rw [qA6 e1]at h1
   by_cases e2:y=z
   ·subst e2;rw[qA6 e1];exact h1
   ·rw [qA6 e2]at h2
    have h3:=fB _ _ _ h1 h2;by_cases e3:x=z
    ·subst e3;rw[gQ]at h3;cases h3
    ·rw[qA6 e3];exact h3
theorem bc:∀a b,t8 a b=false->t8 b a=false->a=b
 | [],[],_,_=>rfl
 | [],_::_,h,_=>by cases h
 |_::_,[],_,h=>by cases h
 | x::a,y::b,h1,h2=>by
  unfold t8 at h1 h2;by_cases e:x=y
  ·subst e;rw[qA4 rfl]at h1 h2;rw[bc a b h1 h2]
  ·rw [qA6 e]at h1
   rw[qA6 (λz=>e z.symm)]at h2;exact absurd (gP _ _ h1 h2) e
def M2 (ss:List (List (List Int)))(i:Nat):Int:=((ss.countP λx=>t8 x (ss.getD i [])):Nat)
theorem rQ {ss:List (List (List Int))}{i:Nat}(h:i<ss.length):ss.getD i []∈ss:=by
 rw[qA0];simp [h]
theorem jT {ss:List (List (List Int))}{i j:Nat}(hi:i<ss.length) (hj:j<ss.length):decide (M2 ss i<M2 ss j)=t8 (ss.getD i []) (ss.getD j []):=by
 cases h:t8 (ss.getD i []) (ss.getD j []) with
 | true=>
  apply decide_eq_true;unfold M2
  have:=sv (l:=ss) (p:=λx=>t8 x (ss.getD i [])) (q:=λx=>t8 x (ss.getD j [])) (λx _ hx=>gR _ _ _ hx h) ⟨_,rQ hi,h,lf _⟩
  omega
 | false=>
  apply decide_eq_false;unfold M2
  have:ss.countP (λx=>t8 x (ss.getD j []))<=ss.countP λx=>t8 x (ss.getD i []):=by
   apply qK4;intro x _ hx;cases h2:t8 (ss.getD j []) (ss.getD i []) with
   |true=>exact gR _ _ _ hx h2
   |false=>rw[bc _ _ h h2];exact hx
  omega
def Q2 (ss:List (List (List Int))):List Nat:=if ss.length<2 then List.range ss.length else (runK (M2 ss) (PySem.W.kas_sort ss.length)).toList
theorem N7 (ss:List (List (List Int))):(Q2 ss).Perm (List.range ss.length):=by
 unfold Q2
 split
 ·exact .refl _
 ·rename_i h
  have:=(da (M2 ss) (n:=ss.length) (by omega)).1
  exact (qJ1.mp this).trans (by simp)
theorem yg (ss:List (List (List Int))):(Q2 ss).Pairwise λi j=>t8 (ss.getD j []) (ss.getD i [])=false:=by
 unfold Q2
 split
 ·rename_i h
  have:ss.length=0\/ss.length=1:=by omega
  rcases this with e|e <;> rw[e] <;> simp
 ·rename_i h
  have k:=da (M2 ss) (n:=ss.length) (by omega);have hp:=qJ1.mp k.1;have hl:(runK (M2 ss) (PySem.W.kas_sort ss.length)).toList.length=ss.length:=by have:=hp.length_eq;simpa using this
  have hm:∀x∈(runK (M2 ss) (PySem.W.kas_sort ss.length)).toList,x<ss.length:=λx hx=>by have:=hp.mem_iff.mp hx;simpa using this
  have hu:=al (M2 ss) k.2;generalize runK (M2 ss) (PySem.W.kas_sort ss.length)=p at hl hm hu
  rw[List.pairwise_iff_getElem];intro i j hi hj hij
  have:=hu j i (by omega) (by omega)
  unfold ky at this;have ei:p.getD i 0=p.toList[i]:=by rw[qE2];simp at hi ⊢;simp [hi]
  have ej:p.getD j 0=p.toList[j]:=by rw[qE2];simp at hj ⊢;simp [hj]
  rw[ei,ej]at this;rw[<- jT (hm _ (qF0 hj)) (hm _ (qF0 hi))];exact decide_eq_false (by omega)
def x4 {α:Type}(ks:List (List (List Int)))(d:α)(vs:List α):List α:=((Q2 ks.reverse).map λi=>vs.reverse.getD i d).reverse
theorem kh {α:Type}(ks:List (List (List Int))) (d:α) (vs:List α):(x4 ks d vs).length=ks.length:=by
 unfold x4;rw[qB2,qA1,(N7 ks.reverse).length_eq,qE8,qB2]
theorem iz {α:Type}(d:α) (vs:List α):(List.range vs.length).map (λi=>vs.getD i d)=vs:=by
 apply qH6
 ·simp
 ·intro i h1 h2;simp [h2]
theorem qN {α:Type}{ks:List (List (List Int))}{d:α}{vs:List α}(hl:vs.length=ks.length):(x4 ks d vs).Perm vs:=by
 unfold x4;refine (qK2 _).trans ?_
 have:=(N7 ks.reverse).map λi=>vs.reverse.getD i d
 rw[show ks.reverse.length=vs.reverse.length by rw[qB2,qB2,hl],iz]at this;exact this.trans (qK2 _)
def eQ (fin:Bool):List (List Int×List Int)->Bool
 | []=>fin
 | (a,b)::r=>if a=b then eQ fin r else lexLt a b
theorem no:∀xs ys:List (List Int),eQ (decide (xs.length<ys.length)) (xs.zip ys)=t8 xs ys
 | [],[]=>rfl
 | [],_::_=>by simp [eQ,t8]
 |_::_,[]=>by simp [eQ,t8]
 | x::xs,y::ys=>by
  have:=no xs ys
  simp only [qI8,eQ,t8,qC1,Nat.add_lt_add_iff_right];rw[this]
section
open PySem.W PyProof.Rows
variable {prog:Program}{w:World}{A:Around}{E:Value->Shared->Prop}{s:Shared}
theorem items_int:∀{xs:List Int}{its:List Value},Vals (xs.map V.int) its->ItemsAre (intKind prog w) xs its:=by
 intro xs
 induction xs with
 |nil=>intro its h;cases h;exact .nil
 | cons x xs ih=>
  intro its h;cases h with
  | cons r t=>
   obtain ⟨tk,rfl⟩:=r;exact .cons (by simp [intKind,Value.isInt]) (ih t)
theorem zB {v u:Value}{xs ys:List Int}{Q:Bool->Shared->Prop}(hu:A.units<cLine) (hv:L8 s.heap v xs) (hw:L8 s.heap u ys) (h:Q (decide (xs=ys)) s):wpAny (model prog w) A (eqBool v u) Q E s:=by
 obtain ⟨a,o,its,m,rfl,ho,hc,hd,rv⟩:=hv;obtain ⟨b,o2,its2,m2,rfl,ho2,hc2,hd2,rv2⟩:=hw;exact wpAny_eqBool_tuple (knd:=intKind prog w) hu ⟨o,_,m,ho,hc,hd,by simpa using items_int rv⟩ ⟨o2,_,m2,ho2,hc2,hd2,by simpa using items_int rv2⟩ h
theorem yQ {v u:Value}{xs ys:List Int}{Q:Bool->Shared->Prop}(hu:A.units+64<cLine) (hv:L8 s.heap v xs) (hw:L8 s.heap u ys) (h:Q (lexLt xs ys) s):wpAny (model prog w) A (compareOp .Lt v u) (PySem.W.BoolBack Q) E s:=by
 obtain ⟨a,⟨c1,d1,t1,sl1⟩,its,m,rfl,ho,hc,hd,rv⟩:=hv;obtain ⟨b,⟨c2,d2,t2,sl2⟩,its2,m2,rfl,ho2,hc2,hd2,rv2⟩:=hw;simp only at hc hd hc2 hd2;subst hc hd hc2 hd2;exact richCompare_meets_room (op:=.Lt) ⟨_,ho,rfl⟩ ⟨_,ho2,rfl⟩ PySem.F.slot_tuple_lt PySem.F.entry_tuple_lt (PySem.F.args_tuple_lt_2 _ _) (Au a b its its2 m m2 d1 d2 sl1 sl2 xs ys rv rv2) ⟨ho,ho2,(λx=>nomatch x),h⟩ (by omega)
theorem yU {fin:Bool}{Q:Bool->Shared->Prop}(hu:A.units+64<cLine):∀(xs ys:List (List Int)) (us vs:List Value) (i:Nat),Paired (L8 s.heap) us xs->Paired (L8 s.heap) vs ys->Q (eQ fin (xs.zip ys)) s->KatLex prog w A false fin Q (us.zip vs) i s:=by
 intro xs
 induction xs with
 |nil=>intro ys us vs i a b h;cases a;exact h
 | cons x xs ih=>
  intro ys us vs i a b h;cases a with
  | cons r1 t1=>
   cases ys with
   |nil=>cases b;exact h
   | cons y ys=>
    cases b with
    | cons r2 t2=>
     simp only [qI8,eQ]at h;refine kat_cons (zB (by omega) r1 r2 ?_);by_cases e:x=y
     ·rw [qA4 e]at h
      rw[decide_eq_true e];exact kat_yes (ih ys _ _ (i+1) t1 t2 h)
     ·rw [qA6 e]at h
      rw[decide_eq_false e];exact kat_no (kat_one _ _ (yQ hu r1 r2 h))
def lQ (h:Heap)(v:Value)(xs:List (List Int)):Prop:=∃(a:Addr)(o:Obj)(its:List Value)(m:Nat),v=.ref a/\h.get? a=some o/\o.cls=.type "tuple" /\ o.data=.seq its.toArray m/\Paired (L8 h) its xs
theorem yR {v u:Value}{xs ys:List (List Int)}{Q:Bool->Shared->Prop}(hu:A.units+64<cLine) (hv:lQ s.heap v xs) (hw:lQ s.heap u ys) (h:Q (t8 xs ys) s):wpAny (model prog w) A (keyLt' (tuples' false) v u) Q E s:=by
 obtain ⟨a,o,its,m,rfl,ho,_,hd,rv⟩:=hv;obtain ⟨b,o2,its2,m2,rfl,ho2,_,hd2,rv2⟩:=hw;refine kat_lt ho hd ho2 hd2 ?_;have l1:=Paired.length rv;have l2:=Paired.length rv2;refine yU hu xs ys _ _ 0 rv rv2 ?_;simp only [qB5,l1,l2];rw[no];exact h
theorem jB {h:Heap}:∀{vs:List Value}{ss:List (List (List Int))},Paired (λv xs=>lQ h v xs/\xs ≠ []) vs ss->∃fs:List Value,KatTups h vs fs/\fs.length=ss.length/\∀f∈fs,∃x,L8 h f x
 |_,_,.nil=>⟨[],trivial,rfl,λ_ h=>nomatch h⟩
 | _,_,.cons hv t=>by
  obtain ⟨fs,k,hl,hi⟩:=jB t;obtain ⟨⟨a,o,its,m,rfl,ho,hc,hd,rv⟩,hne⟩:=hv;cases rv with
  |nil=>exact absurd rfl hne
  | cons r1 r2=>
   rename_i v0 x0 l1 l2
   refine ⟨v0::fs,KatTups.cons ho hc hd (by simp) k,by rw[qC1,qC1,hl],λf hf=>?_⟩;rcases qB3.mp hf with q|hf
   ·subst q;exact ⟨_,r1⟩
   ·exact hi f hf
end
end TP
namespace TP
open PySem L2
def eV (k:List (List Int)):List W:=k.map λx=>W.tup (x.map W.int)
def kW (k:List (List Int)):W:=.tup (eV k)
def keyOf:R W->Option (List (List Int))
 | .ok (.tup us)=>(match N9 us with
  |some (a::k)=>some (a::k)
  |_=>none)
 |_=>none
def F0 (f:List W->R W):List W->Option (List (List (List Int)))
 | []=>some []
 | w::r=>match keyOf (f [w]),F0 f r with
  |some k,some ks=>some (k::ks)
  |_,_=>none
theorem iO {r:R W}{k:List (List Int)}(h:keyOf r=some k):r=.ok (kW k)/\k ≠ []:=by
 unfold keyOf at h
 split at h
 ·rename_i us
  split at h
  ·rename_i a k' e
   cases h;rw[jA e];exact ⟨rfl,by simp⟩
  ·cases h
 ·cases h
theorem bf {f:List W->R W}{w:W}{r:List W}{ks:List (List (List Int))}(h:F0 f (w::r)=some ks):∃k ks',ks=k::ks'/\f [w]=.ok (kW k)/\k ≠ []/\F0 f r=some ks':=by
 unfold F0 at h
 split at h
 ·rename_i k ks' e1 e2
  cases h;exact ⟨k,ks',rfl,(iO e1).1,(iO e1).2,e2⟩
 ·cases h
theorem cE {f:List W->R W}:∀{ws:List W}{ks:List (List (List Int))},F0 f ws=some ks->ks.length=ws.length
 | [],_,h=>by cases h;rfl
 | w::r,_,h=>by
  obtain ⟨k,ks',rfl,_,_,e⟩:=bf h;rw[qC1,qC1,cE e]
theorem ll {f:List W->R W}:∀{ws:List W}{ks:List (List (List Int))},F0 f ws=some ks->∀k∈ks,k ≠ []
 | [],_,h=>by cases h;simp
 | w::r,_,h=>by
  obtain ⟨k,ks',rfl,_,hn,e⟩:=bf h;intro x hx;rcases qB3.mp hx with rfl|hx
  ·exact hn
  ·exact ll e x hx
def inK (X:Cx):Cx:={ X with A:=X.A.in1.in1,xe:=λ_ _=>False }
section
variable {X:Cx}{pins:List (Addr×Obj)}{σ:L2.St}{H:Hp}{s:Shared}
theorem DB (I:Inv X pins σ H s):Inv (inK X) pins σ H s:=
 ⟨⟨I.ok.mod,I.ok.kind,I.ok.glob,I.ok.blt,I.ok.above,I.ok.inj,I.ok.has,I.ok.cab,I.ok.hd,I.ok.frames,I.ok.stk,I.ok.exf,I.ok.bs,I.ok.bsz,I.ok.noex,I.ok.exfs,I.ok.funs,I.ok.frf⟩,I.os,I.bare,I.base,I.loc,I.cell,I.free,I.freeC,I.pin,I.hok,I.len⟩
theorem yY (I:Inv (inK X) pins σ H s):Inv X pins σ H s:=
 ⟨⟨I.ok.mod,I.ok.kind,I.ok.glob,I.ok.blt,I.ok.above,I.ok.inj,I.ok.has,I.ok.cab,I.ok.hd,I.ok.frames,I.ok.stk,I.ok.exf,I.ok.bs,I.ok.bsz,I.ok.noex,I.ok.exfs,I.ok.funs,I.ok.frf⟩,I.os,I.bare,I.base,I.loc,I.cell,I.free,I.freeC,I.pin,I.hok,I.len⟩
theorem rL {D:Addr}{ys:List V}{its:List Value}{n:Nat}{h':Heap}{t':Nat}(I:Inv X pins σ H s) (k:∀b o,b≠D->s.heap.get? b=some o->h'.get? b=some o) (hn:H D=none) (hL:D≠X.env.locals)
  (h1:X.s₀.heap.objs.size<=D) (h2:∀x c,X.env.cells.lookup x=some c->c≠D) (h3:∀p∈X.pn++pins,p.1≠D) (hz:ys.length<=sizeLine) (hv:Vals ys its) (e:h'.get? D=some { cls:=.type "list",data:=.seq its.toArray n }) :
  Inv X pins σ (upd H D (.lst ys)) { s with heap:=h',toks:=t' }:=by
 have nit:∀b u,H b=some u->b≠D:=λb u e z=>by rw[z,hn]at e;cases e
 refine I.step (g':=s.gens) (d':=s.drawn) (ch:=[D]) (λb hb=>?_) (λb o _ _ hc e _=>k b o (λz=>hc (by simp [z])) e) (λb o _ _ hc e _=>⟨o.slots,k b o (λz=>hc (by simp [z])) e⟩) (λb _ hc _ n=>by rw[d4 (λz=>hc (by simp [z]))];exact n)
  (λb o hc e=>⟨o,k b o (λz=>hc (by simp [z])) e⟩) (λb _ e=>by rw[d4 (nit b _ e)];exact e) (λb _ _ e=>by rw[d4 (nit b _ e)];exact e) (λb ps e=>⟨#[],by rw[d4 (nit b _ e),e];simp⟩) (λm hm=>?_) (λb u e1=>?_) I.bare
 ·have e:b=D:=by simpa using hb
  subst e;exact ⟨.inr h1,hL,h2,h3⟩
 ·obtain ⟨o,es,ep,ho,r⟩:=hm;exact ⟨o,es,ep,k _ o (Ne.symm hL) ho,r⟩
 ·by_cases q:b=D
  ·subst q;rw[S2]at e1;cases e1;exact ⟨hz,its,n,hv,e⟩
  ·rw [d4 q]at e1
   refine (I.hok b u e1).stay (λc v hc q'=>k c v ?_ q') (λc q'=>by rw[d4 (nit c _ q')];exact q') λc _ q'=>by rw[d4 (nit c _ q')];exact q'
   rcases hc with z|z
   ·rw[z];exact q
   ·exact nit c _ z
end
section
open PySem.W PyProof.Rows
variable {Y:Cx}{K:Frag}{pn:List (Addr×Obj)}{σ:L2.St}
theorem ve {k:Nat}{f kS:Addr}{fd:FuncData}{ps:List Str}{N:Nat}{m:Rho->R Fl}{E:Value->Shared->Prop}{body:Value->PUnit->Sem (ForInStep PUnit)}(hxe:Y.xe=λ_ _=>False)
  (F:FnOk Y.prog Y.w Y.K Y.mg Y.base CX0 k f fd ps (spM K 1 .F (f9 1 N m))) (hr:Room k Y.A) (hb:Binds Y.K fd ps [])
  (hbody:∀(x:Value) (s:Shared) (P:Value->Shared->Prop) (C:Shared->Prop),wpAny (model Y.prog Y.w) Y.A (call (.ref f) [x]) P (λ_ _=>False) s ->
   (∀u s',P u s'->∃its n,s'.heap.get? kS=some (seqObj "list" its n)/\its.size<64/\C { s' with heap:=s'.heap.update kS (Obj.mapSeq (·.push u)) })->wpAny (model Y.prog Y.w) Y.A (body x ⟨⟩) (λr s'=>r=.yield ⟨⟩/\C s') E s) :
  ∀ (r:List Value) (yr:List V) (wr:List W) (kr:List (List (List Int))) (kvs:List V) (kd:List (List (List Int))) (s:Shared) (H G:Hp),Inv Y pn σ H s->Vals yr r->Reps K G yr wr->F0 (f9 1 N m) wr=some kr ->
   H kS=some (.lst kvs)->Same G H->G kS=none->Reps K G kvs (kd.map kW)->kvs.length+r.length<64 ->
   wpAny (model Y.prog Y.w) Y.A (forIn r PUnit.unit body) (λ_ s'=>∃H' G' kvs',Inv Y pn σ H' s'/\H' kS=some (.lst kvs')/\Same G G'/\Same G' H'/\G' kS=none/\Reps K G' kvs' ((kd++kr).map kW)) E s
 := by
 intro r
 induction r with
 | nil=>
  intro yr wr kr kvs kd s H G I rv rw_ hk hS sG gk rk hl;cases rv;cases rw_;rw[List.forIn_nil];cases hk;rw[qF3];exact wpAny_pure ⟨H,G,kvs,I,hS,Same.refl G,sG,gk,rk⟩
 | cons x r ih=>
  intro yr wr kr kvs kd s H G I rv rw_ hk hS sG gk rk hl;obtain ⟨y,yr,rfl,rx,rr⟩:∃y yr',yr=y::yr'/\RelV y x/\Vals yr' r:=by
   cases rv with
   |cons a b=>exact ⟨_,_,rfl,a,b⟩
  obtain ⟨w,wr,rfl,ry,rws⟩:∃w wr',wr=w::wr'/\Rep K G y w/\Reps K G yr wr':=by
   cases rw_ with
   |cons a b=>exact ⟨_,_,rfl,a,b⟩
  obtain ⟨key,ks',rfl,hf,hne,hk'⟩:=bf hk;rw[qC1]at hl;rw[qJ9];have call:=qy (X:=Y) (us:=[x]) (vs:=[y]) (E:=λ_ _ _=>False) (Q:=λv H2=>∃G2,Same H H2/\Same G2 H2/\G2 kS=none/\Rep K G2 v (kW key)) F hr hb .nil fh I (.cons rx .nil) ⟨rfl,[w],.cons (ry.same sG) .nil,by
   rw[hf];exact λv G2 H2 s1 s2 cl md=>⟨G2,s1,s2,cl kS _ hS rfl,md⟩⟩
  rw[hxe]at call;refine qA2 (wpAny_mono (hbody x s _ (λs''=>∃H3 G3 kvs3,Inv Y pn σ H3 s''/\H3 kS=some (.lst kvs3)/\kvs3.length=kvs.length+1/\Same G G3/\Same G3 H3/\G3 kS=none/\Reps K G3 kvs3 ((kd ++ [key]).map kW)) call λu s' hp=>?_) (λq s' hq=>?_) λ_ _ x=>x)
  ·obtain ⟨v,H2,I2,rv,G2,sH,s2,g2,r2⟩:=hp;have hS2:=sH _ _ hS;obtain ⟨z,its,n,rI,hlen,e⟩:=I2.lstM hS2;refine ⟨its.toArray,n,e,by rw[qB5];omega,?_⟩;have sB:Same G (both G G2):=λb o q=>by unfold both;rw[q]
   have sB':Same G2 (both G G2):=λb o q=>by
    unfold both;cases q1:G b with
    |none=>exact q
    | some u=>
     have a1:=sH b u (sG b u q1);rw[s2 b o q]at a1;exact a1.symm
   have sBH:Same (both G G2) H2:=λb o q=>by
    unfold both at q;cases q1:G b with
    |none=>rw[q1]at q;exact s2 b o q
    |some u=>rw[q1]at q;cases q;exact sH b _ (sG b _ q1)
   have bk:both G G2 kS=none:=by unfold both;rw[gk];exact g2
   refine ⟨upd H2 kS (.lst (kvs ++ [v])),both G G2,kvs ++ [v],I2.lset (t':=s'.toks) (its':=its ++ [u]) hS2 e (by simp) (rI.append (.cons rv .nil)) (by rw[qC3,qD9,sizeLine_eq];omega),S2,by rw[qC3,qD9],sB,λb o q=>?_,bk,?_⟩
   ·rw[d4 (e8 q bk)];exact sBH b o q
   ·rw [qC6]
    exact (rk.same sB).append (.cons (r2.same sB') .nil)
  ·obtain ⟨rfl,H3,G3,kvs3,I3,hS3,hl3,s3,sH3,g3,r3⟩:=hq
   show wpAny (model Y.prog Y.w) Y.A (forIn r PUnit.unit body) _ E s';refine wpAny_mono (ih yr wr ks' kvs3 (kd ++ [key]) s' H3 G3 I3 rr (rws.same s3) hk' hS3 sH3 g3 r3 (by omega)) (λ_ s'' hq=>?_) λ_ _ x=>x;obtain ⟨H4,G4,kvs4,I4,hS4,s4,sH4,g4,r4⟩:=hq;exact ⟨H4,G4,kvs4,I4,hS4,s3.trans s4,sH4,g4,by rw[qI3]at r4;exact r4⟩
theorem CS {H G:Hp}{s:Shared}{v:V}{u:Value}{k:List (List Int)}(hK:Y.K=K) (I:Inv Y pn σ H s) (sG:Same G H) (r:Rep K G v (kW k)) (ru:RelV v u):lQ s.heap u k:=by
 subst hK;obtain ⟨a0,vs0,rfl,h0,r0⟩:=r.inv
 ·cases ru;obtain ⟨its,rv,⟨o,e,c,n,dd⟩,_⟩:=I.tuple (SqT.of (sG _ _ h0));refine ⟨_,o,its,n,rfl,e,c,dd,?_⟩;have go:∀{vs:List V}{its:List Value}{k:List (List Int)},Vals vs its->Reps Y.K G vs (k.map λx=>W.tup (x.map W.int))->Paired (L8 s.heap) its k:=by
   intro vs its k
   induction k generalizing vs its with
   |nil=>intro a b;have b:vs = []:=b.inv;subst b;cases a;exact .nil
   | cons x k ih=>
    intro a b;obtain ⟨v1,vs1,rfl,b1,b2⟩:=b.inv
    ·cases a with
     | cons a1 a2=>
      refine .cons ?_ (ih a2 b2);obtain ⟨a3,vs3,rfl,h1,r1⟩:=b1.inv
      ·cases a1;have e1:=Reps.ints r1 (ints_map x);subst e1;obtain ⟨its2,rv2,⟨o2,e2,c2,n2,dd2⟩,_⟩:=I.tuple (SqT.of (sG _ _ h1));exact ⟨_,o2,its2,n2,rfl,e2,c2,dd2,rv2⟩
  exact go rv r0
theorem yW {H G:Hp}{s:Shared}(hK:Y.K=K) (I:Inv Y pn σ H s) (sG:Same G H):∀{vs:List V}{its:List Value}{ks:List (List (List Int))},Vals vs its->Reps K G vs (ks.map kW)->(∀k∈ks,k ≠ [])->Paired (λv xs=>lQ s.heap v xs/\xs ≠ []) its ks:=by
 intro vs its ks
 induction ks generalizing vs its with
 |nil=>intro a b _;cases b;cases a;exact .nil
 | cons x k ih=>
  intro a b hn;cases b with
  | cons b1 b2=>
   cases a with
   |cons a1 a2=>exact .cons ⟨CS hK I sG b1 a1,hn x qB1⟩ (ih a2 b2 λk hk=>hn k (qA7 _ hk))
end
end TP
namespace TP
open PySem L2
section
open PySem.W PyProof.Rows
variable {Y:Cx}{K:Frag}{pins:List (Addr×Obj)}{σ:L2.St}
theorem fj {α:Type}{F:Value->α->Prop}:∀{as as':List Value}{bs bs':List α},Paired F as bs->Paired F as' bs'->Paired F (as++as') (bs++bs')
 |_,_,_,_,.nil,h=>h
 |_,_,_,_,.cons a t,h=>.cons a (fj t h)
theorem um {α:Type}{as:List Value}{bs:List α}{F:Value->α->Prop}(h:Paired F as bs):Paired F as.reverse bs.reverse:=by
 induction h with
 |nil=>exact .nil
 | cons a _ ih=>
  rw[qG9,qG9];exact fj ih (.cons a .nil)
theorem qe {D kS:Addr}{e1:Nat}{H G:Hp}{s:Shared}{vs:List Value}{ys:List V}{kvs:List V}{ks:List (List (List Int))}{P:PySem.Fin->Shared->Prop}{E:Value->Shared->Prop}(hK:Y.K=K) (hu:Y.A.units+64<cLine)
  (I:Inv Y ((D,seqObj "list" #[] e1)::pins) σ H s) (hD0:Y.s₀.heap.objs.size<=D) (hDp:∀p∈Y.pn++pins,p.1≠D) (hDk:D≠kS) (hS:H kS=some (.lst kvs)) (sG:Same G H) (gk:G kS=none) (rk:Reps K G kvs (ks.map kW)) (hne:∀k∈ks,k ≠ [])
  (rv:Vals ys vs) (hl:ks.length=vs.length) (h64:vs.length<64)
  (h:∀s' H',Inv Y pins σ H' s'->Same G H'->H' D=some (.lst (x4 ks V.non ys))->P (.done (.ret .none)) s'):∀its n,s.heap.get? kS=some (seqObj "list" its n)->wpAny (model Y.prog Y.w) Y.A (ksk_end D true vs.toArray e1 (.ref kS) its) P E s:=by
 intro its n hits;obtain ⟨z,kl,n',rI,hlen,e⟩:=I.lstM hS;rw[e]at hits;cases hits;have hlk:kl.length=vs.length:=by rw[<- hlen,rk.length,qA1,hl]
 have hly:ys.length=vs.length:=rv.length;obtain ⟨pD,nD,neL,nfs,_⟩:=I.pin (D,seqObj "list" #[] e1) (qC9 _ qB1);have pD:s.heap.get? D=some (seqObj "list" #[] e1):=pD;have nD:H D=none:=nD
 -- the tail
 have tail:∀st:SortSt,failedOf st=none->(arrOf st).map (·.2)=(((Q2 ks.reverse).map λi=>vs.reverse.getD i Value.none)).toArray->wpAny (model Y.prog Y.w) Y.A (ksk_tail D true e1 (.ref kS) st) P E s:=λst hf hst=>by
  have hrev:((Q2 ks.reverse).map λi=>vs.reverse.getD i Value.none).toArray.reverse=(x4 ks Value.none vs).toArray:=by unfold x4;simp
  have I1:=I.lset (t':=s.toks) (f:=λ_=>#[]) (its':=[]) (ys:=[]) hS e rfl .nil (qD1 _);obtain ⟨p1,n1,_⟩:=I1.pin (D,seqObj "list" #[] e1) (qC9 _ qB1);have I2:=I1.pins_of (pins':=pins) λp hp=>I1.pin p (qC9 _ (qA7 _ hp));have hsz:(x4 ks Value.none vs).toArray.size<=sizeLine:=by rw[qB5,kh,sizeLine_eq];omega
  unfold ksk_tail;dsimp only;rw[hst,qA4 rfl,hrev];refine qA2 (listUpdate_at e rfl ?_ (by rw[qB5,sizeLine_eq];omega) (qD1 _));refine qA2 (wpAny_letGo ?_);refine qA2 (seqEpoch_at p1 rfl ?_);refine qA2 (listUpdate_at p1 rfl ?_ (qD1 _) (Nat.le_succ_of_le hsz));rw[hf];simp only [bne_self_eq_false,qD5,if_false];refine wpAny_pure (h _ (upd (upd H kS (.lst [])) D (.lst (x4 ks V.non ys))) (rL (s:={ s with heap:=s.heap.update kS (Obj.mapSeq λ_=>(#[]:Array Value)) }) (t':=s.toks) (its:=x4 ks Value.none vs) (n:=_) I2 (λb o hb q=>(qK0 _ _ (Ne.symm hb)).trans q) n1 neL hD0 (λx c hc=>?_) hDp (by rw[kh,sizeLine_eq];omega) ?_ (get?_update_seq p1 λ_=>(x4 ks Value.none vs).toArray)) (λb o q=>?_) S2)
  ·rintro rfl;obtain ⟨v,o,ho,hd⟩:=I1.cell x _ hc;have p1':_=some (seqObj "list" #[] e1):=p1;rw[p1']at ho;cases ho;cases hd
  ·unfold x4;have hrr:Vals ys.reverse vs.reverse:=rv.reverse;refine Vals.reverse (O6 λi hi=>?_);have hi':i<ys.reverse.length:=by
    have:=(N7 ks.reverse).mem_iff.mp hi
    rw[qE7,qB2]at this;rw[qB2];omega
   obtain ⟨u,eu,q⟩:=E9 (d:=V.non) hrr hi';rw[show vs.reverse.getD i Value.none=u by rw[qA0,eu];rfl];exact q
  ·have hbD:b≠D:=by rintro rfl;rw[sG b o q]at nD;cases nD
   have hbk:b≠kS:=by rintro rfl;rw[gk]at q;cases q
   rw[d4 hbD,d4 hbk];exact sG b o q
 have hpairs:((List.toArray kl).zip vs.toArray).reverse=(List.toArray kl.reverse).zip (List.toArray vs.reverse):=kat_pairs true hlk;unfold ksk_end;dsimp only;rw[qA4 rfl,qA4 rfl,hpairs];refine qA2 (wpAny_rule ?_);by_cases c2:vs.toArray.size<2
 ·rw [qA4 c2,qA4 c2]
  refine qA2 (wpAny_pure ?_);rw[StateT.run_pure];refine qA2 (wpAny_pure ?_);dsimp only;refine tail _ rfl ?_;have hv2:vs.length<2:=by simpa using c2
  have e3:(Q2 ks.reverse).map (λi=>vs.reverse.getD i Value.none)=vs.reverse:=by
   unfold Q2;rw[qA4 (by rw[qB2];omega),show ks.reverse.length=vs.reverse.length by rw[qB2,qB2,hl],iz]
  rw[e3]
  show Array.map (λx=>x.snd) ((List.toArray kl.reverse).zip (List.toArray vs.reverse))=vs.reverse.toArray;apply Array.toList_inj.mp;rw[Array.toList_map,Array.toList_zip];apply qH6
  ·simp [hlk]
  ·intro i h1 h2;simp
 ·rw [qA6 c2,qA6 c2]
  have h2:2<=vs.length:=by simpa using c2
  have tt:=yW hK I sG rI rk hne;obtain ⟨fs,kt,fl,fi⟩:=jB tt;have ttr:=um tt;refine qA2 (kat_kind (T:=.type "tuple") kt (by omega) (λv hv=>?_) (by decide) ?_)
  ·obtain ⟨x,a,o,its,m,rfl,ho,hc,_⟩:=fi v hv;rw[<- hc];exact (Looks.ld ho).andThen .now
  have hlr:kl.reverse.length=vs.reverse.length:=by rw[qB2,qB2,hlk]
  have hw:(kas_sort vs.reverse.length).kasWp (kas_ask Y.prog Y.w Y.A (tuples' (Value.type "tuple" != Value.type "tuple")) kl.reverse) (λp s'=>s'=s/\p.toList=Q2 ks.reverse) s:=by
   refine wp_run (n:=vs.reverse.length) (r:=M2 ks.reverse) (λi j C hi hj hC=>?_) (lN (by rw[qB2];omega)) ⟨rfl,?_⟩
   ·rw [<- hlr]at hi hj
    obtain ⟨x,hx,tx⟩:=E9 (d:=Value.none) ttr hi;obtain ⟨y,hy,ty⟩:=E9 (d:=Value.none) ttr hj;have hkl:ks.reverse.length=kl.reverse.length:=by rw[qB2,qB2];omega
    rw[jT (by omega) (by omega)]at hC;have ex:ks.reverse.getD i []=x:=by rw[qA0,hx];rfl
    have ey:ks.reverse.getD j []=y:=by rw[qA0,hy];rfl
    rw[ex,ey]at hC;exact yR hu tx.1 ty.1 hC
   ·unfold Q2;rw[qA6 (by rw[qB2];omega),show ks.reverse.length=vs.reverse.length by rw[qB2,qB2,hl]]
  refine qA2 (wpAny_mono (kat_run (Q:=λst' s'=>s'=s/\(arrOf st').map (·.2)=((Q2 ks.reverse).map λi=>vs.reverse.getD i Value.none).toArray/\failedOf st'=none) hlr (by rw[qB2];exact h2) (by rw[qB2];exact h64) (λp st' s' a1 a2 a3 a4=>⟨a4.1,by rw[kat_snds hlr a2,a4.2],a3⟩) hw) ?_ λ_ _ e=>e);rintro ⟨⟨⟩,st'⟩ s' ⟨rfl,ho',hf'⟩;exact tail st' hf' ho'
theorem nU {k:Nat}{f D kS:Addr}{fd:FuncData}{ps:List Str}{N:Nat}{m:Rho->R Fl}{e1:Nat}{H G:Hp}{s:Shared}{vs:List Value}{ys:List V}{ws:List W}{ks:List (List (List Int))}{P:PySem.Fin->Shared->Prop}{E:Value->Shared->Prop}(hxe:Y.xe=λ_ _=>False) (hK:Y.K=K)
  (F:FnOk Y.prog Y.w Y.K Y.mg Y.base CX0 k f fd ps (spM K 1 .F (f9 1 N m))) (hr:Room k Y.A) (hb:Binds Y.K fd ps [])
  (I:Inv Y ((D,seqObj "list" #[] e1)::pins) σ H s) (hD0:Y.s₀.heap.objs.size<=D) (hDp:∀p∈Y.pn++pins,p.1≠D) (hDk:D≠kS) (hS:H kS=some (.lst [])) (sG:Same G H) (gk:G kS=none)
  (rv:Vals ys vs) (rw_:Reps K G ys ws) (hks:F0 (f9 1 N m) ws=some ks) (h64:vs.length<64)
  (h:∀s' H',Inv Y pins σ H' s'->Same G H'->H' D=some (.lst (x4 ks V.non ys))->P (.done (.ret .none)) s'):wpAny (model Y.prog Y.w) Y.A (ksk_rest D (.ref f) true vs.toArray e1 (.ref kS)) P E s:=by
 have hl:ks.length=vs.length:=by rw[cE hks,<- rw_.length,rv.length]
 unfold ksk_rest;refine qA2 (wpAny_rule ?_)
 first
  |rw[List.forIn_toArray]
  | (rw[<- Array.forIn_toList];simp only [List.toList_toArray])
  |rw[<- Array.forIn_toList]
 refine qA2 (wpAny_mono (ve (kS:=kS) (E:=E) hxe F hr hb (λx s' Pc C hc hP=>?_) vs ys ws ks [] [] s H G I rv rw_ hks hS sG gk .nil (by simpa using h64)) (λ_ s' hd=>?_) λ_ _ x=>x)
 ·refine qA2 (wpAny_attempt (wpAny_mono hc (λu s'' hk=>?_) λ_ _ hF=>hF.elim));obtain ⟨its,n,hk1,hz,hC⟩:=hP u s'' hk;dsimp only;refine qA2 (listUpdate_at hk1 rfl ?_ (by rw[sizeLine_eq];omega) (qB8 (Nat.le_of_eq (Array.size_push ..)) (by rw[sizeLine_eq];omega)));exact wpAny_pure ⟨rfl,hC⟩
 ·obtain ⟨H',G',kvs',I',hS',s1,s2,g',r'⟩:=hd;obtain ⟨z,kl,n',rI,hlen,e⟩:=I'.lstM hS';refine qA2 (listItems_at e rfl ?_);exact qe hK (by have:=hr.units;omega) I' hD0 hDp hDk hS' s2 g' (by simpa using r') (ll hks) rv hl h64 (λs'' H'' I'' q1 q2=>h s'' H'' I'' (s1.trans q1) q2) _ _ e
end
section
open PySem.W PyProof.Rows
variable {X:Cx}{K:Frag}
theorem pf {k:Nat}{f:Addr}{fd:FuncData}{ps:List Str}{N:Nat}{m:Rho->R Fl}(F:FnOk X.prog X.w X.K X.mg X.base CX0 k f fd ps (spM K 1 .F (f9 1 N m))) (hr:Room (k+2) X.A) (hb:Binds X.K fd ps []) (hK:X.K=K){pins:List (Addr×Obj)}{s:Shared}{σ:L2.St}{H:Hp}{p:Addr}{ys:List V}{ws:List W}{ks:List (List (List Int))}{Q:VK}
  (I:Inv X pins σ H s) (hq:SqL K H p ys) (rw_:Reps K H ys ws) (hks:F0 (f9 1 N m) ws=some ks) (h64:ws.length<64)
  (h:∀l H',H l=none->Same H H'->H' l=some (.lst (x4 ks V.non ys))->Q (.ref l) H') :
  wpAny (model X.prog X.w) X.A (call (.builtin "sorted") [.ref p] [(Str.ofString "key",.ref f),(Str.ofString "reverse",.bool true)]) (EP X pins σ Q) X.xe s:=by
 subst hK;obtain ⟨vs,rv,pl,hz⟩:=I.list hq;have hlen:ys.length=vs.length:=rv.length;have hlw:ys.length=ws.length:=rw_.length;refine call_function_entry_kw kind_sorted plain_sorted entry_sorted (ksk_s2 _ _ _) ?_;unfold Builtin.«sorted»;refine qA2 (m:=checkCount "sorted" 1 1 _) (wpAny_pure ?_);refine qA2 (collect_list pl.isList ?_ (by rw[sizeLine_eq];omega));refine qA2 (wpAny_newList ?_ (by rw[sizeLine_eq];omega));generalize hg:(s.heap.push (seqObj "list" #[] 0)).update s.heap.objs.size (Obj.mapSeq (·++vs.toArray))=g
 have gz:g.objs.size=s.heap.objs.size+1:=by rw[<- hg,Heap.size_update,size_push']
 have gk:∀b o,s.heap.get? b=some o->g.get? b=some o:=λb o e=>by
  have hlt:=qB4 e;rw[<- hg,qL3 _ _ _ _ (qD2 hlt)];exact qA9 _ e
 have go:(g.push (seqObj "list" vs.toArray 0)).get? (s.heap.objs.size+1)=some (seqObj "list" vs.toArray 0):=by rw[<- gz];exact qC2 _ rfl
 show wpAny _ _ _ _ _ { s with heap:=g.push (seqObj "list" vs.toArray 0) };rw[gz];refine qA2 (wpAny_holding (wpAny_call_entry_kw slot_list_sort ⟨_,go,rfl⟩ entry_list_sort ?body (ksk_l2 _ _ _)))
 case body=>
  generalize hDe:s.heap.objs.size+1=D at *
  show wpAny (model X.prog X.w) X.A.in1.in1 (Builtin.«list.sort» ⟨[.ref D],[(Str.ofString "key",.ref f),(Str.ofString "reverse",.bool true)]⟩) _ _ _;rw[ksk_t2];generalize hg2:g.push (seqObj "list" vs.toArray 0)=g2 at *
  have g2z:g2.objs.size=D+1:=by rw[<- hg2,size_push',gz]
  have g2k:∀b o,s.heap.get? b=some o->g2.get? b=some o:=λb o e=>by rw[<- hg2];exact qA9 _ (gk b o e)
  obtain ⟨e1,ho1⟩:∃e1,(g2.update D (Obj.mapSeq λ_=>(#[]:Array Value))).get? D=some (seqObj "list" #[] e1):=⟨_,get?_update_seq go λ_=>#[]⟩;unfold ksk_tree;refine qA2 (listItems_at go rfl ?_);refine qA2 (listUpdate_at go rfl ?_ (by rw[qB5,sizeLine_eq];omega) (qD1 _));refine qA2 (seqEpoch_at ho1 rfl ?_);refine qA2 (wpAny_newTuple ?_ (by show vs.length<=_;rw[sizeLine_eq];omega));refine qA2 (wpAny_newList ?_ (qD1 _));refine wpAny_holding ?_;have hDs:s.heap.objs.size<=D:=by omega
  have hHD:H D=none:=I.hok.fresh hDs;generalize hg3:(g2.update D (Obj.mapSeq λ_=>(#[]:Array Value))).push (seqObj "tuple" vs.toArray 0)=g3
  have g3z:g3.objs.size=D+2:=by rw[<- hg3,size_push',Heap.size_update,g2z]
  have g3k:∀b o,s.heap.get? b=some o->g3.get? b=some o:=λb o e=>by
   rw[<- hg3];exact qA9 _ (by rw[qL3 _ _ _ _ (qD2 (qB7 (qB4 e) hDs))];exact g2k b o e)
  have g3D:g3.get? D=some (seqObj "list" #[] e1):=by rw[<- hg3];exact qA9 _ ho1
  have I3:=I.kept (t':=s.toks) g3k;have hDL:D≠X.env.locals:=qJ2 (qB7 I.lt hDs);have I4:=I3.pins_of (pins':=(D,seqObj "list" #[] e1)::pins) λq hq=>by
   rcases qB3.mp hq with rfl|hq
   ·exact ⟨g3D,hHD,hDL,I.nofs hDs,λv z=>by cases z⟩
   ·exact I3.pin q (qC9 _ hq)
  have hkS:H g3.objs.size=none:=I.hok.fresh (by omega);have I5:=I4.lnew (t':=s.toks) (its:=[]) (ys:=[]) .nil (qD1 _);refine nU (Y:=inK X) (K:=X.K) (G:=H) (ys:=ys) (ws:=ws) (ks:=ks) (kS:=g3.objs.size) rfl rfl F (hr.in1.in1) hb (DB I5) ?_ ?_ ?_ S2 (λb o q=>?_) hkS rv rw_ hks (by omega) λs' H' I' sH hD'=>?_
  ·exact qB8 I.sz hDs
  ·intro q hq;exact qD2 (qB7 (qB4 (I.pin q hq).1) hDs)
  ·rw[g3z];exact qD2 (Nat.lt_add_of_pos_right (by decide))
  ·rw[d4 (e8 q hkS)];exact q
  ·exact ⟨_,rfl,wpAny_pure ⟨_,rfl,.ref D,H',yY I',rfl,h D H' hHD sH hD'⟩⟩
end
def cK (c:Bool) (f:List W->R W):List W->R W
 | [w]=>(match lstOf w with
  | some ws=>(match F0 f ws with
   |some ks=>if ws.length<64 then chks c (x4 ks W.non ws) else .stuck
   |none=>.stuck)
  |none=>.stuck)
 |_=>.stuck
section
variable {K:Frag}
theorem qC {F:Hp}{ys:List V}{ws:List W}{ks:List (List (List Int))}(r:Reps K F ys ws) (hl:ks.length=ws.length):Reps K F (x4 ks V.non ys) (x4 ks W.non ws):=by
 unfold x4;refine Reps.reverse (eD λi hi=>?_);have hi':i<ys.reverse.length:=by
  have:=(N7 ks.reverse).mem_iff.mp hi
  have:=r.length
  rw[qE7,qB2]at *;omega
 obtain ⟨w,e,q⟩:=gn (i:=i) r.reverse hi';rw[show ws.reverse.getD i W.non=w by rw[qA0,e];rfl];exact q
def qE (K:Frag)(f:List W->R W):List V->Hp->VK->Prop:=λxs H Q=>∃p ys ws ks,xs = [.ref p]/\SqL K H p ys/\Reps K H ys ws/\F0 f ws=some ks/\ws.length<64/\∀l H',H l=none->Same H H'->H' l=some (.lst (x4 ks V.non ys))->Q (.ref l) H'
theorem zV {c:Bool}{f:List W->R W}:Cal K (cb c) .F (qE K f) (cK c f):=by
 intro EX H0 Hs G H ρ σ Ha vs ws Q I s m o;cases m with
 |nil=>exact o.elim
 | cons a t=>
  cases t with
  |cons _ _=>exact o.elim
  | nil=>
   rename_i w v
   unfold cK at o;cases hl:lstOf w with
   |none=>simp only [hl]at o;exact o.elim
   | some us=>
    simp only [hl]at o;cases ht:F0 f us with
    |none=>simp only [ht]at o;exact o.elim
    | some ks=>
     simp only [ht]at o;by_cases hc:us.length<64
     ·rw [qA4 hc]at o
      obtain ⟨p,ys,rfl,hs,r⟩:=Md.lstOf I a hl;have sm:Same (if c then G else join H0 G) H:=by
       cases c with
       |true=>rw[qA4 rfl];exact I.gh
       |false=>rw[qA6 qA5];exact I.join_H
      refine ⟨p,ys,us,ks,rfl,hs,r.same sm,ht,hc,λl H' hn sH hl'=>?_⟩;unfold TP.chks at o;by_cases n:(c||m5 (x4 ks W.non us))=true
      ·rw [qA4 n]at o
       have ro:=qC r (cE ht);have r':Reps K G (x4 ks V.non ys) (x4 ks W.non us):=by
        cases c with
        |true=>rw[qA4 rfl]at ro;exact ro
        |false=>rw[qA6 qA5]at ro;exact Reps.clean I ro (by simpa using n)
       exact o _ G H' ⟨Same.refl G,sH,I.gh.trans sH,λ_ _ _ _ e=>e⟩ ⟨l,_,rfl,hl',I.gh.free hn,s.free hn,r'⟩
      ·rw[qA6 n]at o;exact o.elim
     ·rw[qA6 hc]at o;exact o.elim
end
section
variable {X:Cx}{K:Frag}{EX:EXT}{e:Expr}{pos:Pos}{mr:Rho->R (List W)}
theorem FG {f:Addr}{x:Str}{p kp1 kp2 p2:Pos}{n1 n2:Option Str}{kt:Nat}(hg:Gl X x) (hm:X.mg x=some (.ref f)) (hdb:(x == ("__debug__" : Str))=false:=by decide):PK X [⟨n1,.Name x p,kp1⟩,⟨n2,.Constant (.bool true) kt p2,kp2⟩] (Y2 (tC (.ref f)) (Y2 (tC (.bl true)) tNil)):=
 mP (λpins s σ H Q I h=>nk I hg hm ⟨.ref f,H,I,rfl,h⟩ hdb) (mP pe_bl Ck)
theorem xP {k:Nat}{f:Addr}{fd:FuncData}{ps:List Str}{x y:Str}{p p1 p2 kp1 kp2:Pos}{kt:Nat}{N:Nat}{m:Rho->R Fl}{c:Bool}(F:FnOk X.prog X.w X.K X.mg X.base CX0 k f fd ps (spM K 1 .F (f9 1 N m))) (hr:Room (k+2) X.A) (hg:Gl X x) (hm:X.mg x=some (.ref f)) (hb:Binds X.K fd ps [])
  (hgs:Gl X y) (hms:X.mg y=none) (hvs:bootBuiltins y=some (.builtin "sorted")) (ha:PA X [e] (tA K EX (cb c) mr)) (hK:X.K=K:=by rfl) (hdb:(x == ("__debug__" : Str))=false:=by decide) (hn:y ≠ "__name__" := by decide) (hdb2:(y == ("__debug__" : Str))=false:=by decide)
  (he:backTo pos (starEach [e] X.env)=(false,eval e X.env)::backTo pos (starEach [] X.env):=by rfl) (hplain:(backTo pos (starEach [e] X.env)).any (·.1)=false:=by rfl)
  (hall:(backToKw pos (keywordEach [⟨some "key",.Name x p1,kp1⟩,⟨some "reverse",.Constant (.bool true) kt p2,kp2⟩] X.env)).all (·.1.isSome)=true:=by rfl)
  (hkw:(backToKw pos (keywordEach [⟨some "key",.Name x p1,kp1⟩,⟨some "reverse",.Constant (.bool true) kt p2,kp2⟩] X.env)).any (·.1.isNone)=false:=by rfl)
  (hks:(backToKw pos (keywordEach [⟨some "key",.Name x p1,kp1⟩,⟨some "reverse",.Constant (.bool true) kt p2,kp2⟩] X.env)).filterMap (·.1) = [Str.ofString "key",Str.ofString "reverse"]:=by rfl) :
  PE X (.Call (.Name y p) [e] [⟨some "key",.Name x p1,kp1⟩,⟨some "reverse",.Constant (.bool true) kt p2,kp2⟩] pos) (tM K EX .F (bA (cK c (f9 1 N m)) mr)):=by
 intro pins s σ H Q I h;have h:=wa (zV (c:=c) (f:=f9 1 N m)) h;refine wpAny_Call_Name_kw (O9 I hgs hms hvs ?_ hn hdb2);refine PyProof.Rows.callWith_kw (thn (ha pos pins s σ H _ I h) λus s1 zz83=>?_) he hplain hall hkw;obtain ⟨vs,H1,I1,r1,q1⟩:=zz83;refine thn (FG hg hm hdb pos pins s1 σ H1 (λzs H2=>zs = [.ref f,.bl true]/\qE K (f9 1 N m) vs H2 Q) I1 ⟨rfl,q1⟩) λus2 s2 zz84=>?_;obtain ⟨zs,H2,I2,rz,hz,q2⟩:=zz84;subst hz;obtain ⟨p0,ys,ws,ks,rfl,hq,rw_,hks',h64,hQ⟩:=q2;obtain ⟨u,rfl,ru⟩:=J4 r1;cases ru;rw[hks];cases rz with
 | cons r2 rz=>
  cases r2;obtain ⟨u2,rfl,ru2⟩:=J4 rz;cases ru2;exact pf F hr hb hK I2 hq rw_ hks' h64 hQ
end
end TP
namespace TP
open PySem L2
section
open PySem.W PyProof.Rows
variable {X:Cx}{e:Expr}{te:TE}{st:Expr}{tk:TO}{pos p2:Pos}
end
section
variable {K:Frag}{EX:EXT}{σ:St}{H:Hp}{Q:VK}
end
section
variable {X:Cx}{K:Frag}{EX:EXT}{e:Expr}{pos:Pos}{ma:Rho->R W}
end
end TP
namespace TP
open PySem L2
section
variable {K:Frag}{EX:EXT}{H0 G H:Hp}{ρ:Rho}{σ:St}{d:Mode}{D:Ends}
end
section
variable {X:Cx}{K:Frag}{EX:EXT}{d:Mode}{e:Expr}{pos:Pos}{ma:Rho->R W}
end
end TP
namespace TP
open PySem L2
section
variable {K:Frag}{EX:EXT}{H0 G H G1 H1 F:Hp}{ρ:Rho}{σ:St}{d:Mode}{D:Ends}
end
section
variable {X:Cx}{K:Frag}{EX:EXT}{d:Mode}{e k v:Expr}{pos:Pos}{mk me:Rho->R W}
end
end TP
namespace TP
open PySem PyProof.Rows
def kk (rk:Keyed->Int) (xs:Array Keyed) (i:Nat):Int:=match xs[i]? with
 |some p=>rk p
 |none=>0
theorem sb1 {A n:Nat}(h0:0<n) (h:n<=A):A-(n-1)=A-n+1:=by
 cases n with
 |zero=>exact absurd h0 (qF1 _)
 |succ m=>exact (Nat.succ_pred_eq_of_pos (Nat.sub_pos_of_lt h)).symm
theorem sb2 {A n k:Nat}(h:n<=A)(hk:k<=n):A-k=A-n+(n-k):=(Nat.sub_add_sub_cancel h hk).symm
theorem sb3 {lo x q k:Nat}(hq:q<=x)(h:lo+x-q<=k):x-q<=k-lo:=by rw[Nat.add_sub_assoc hq]at h;exact Nat.le_sub_of_add_le' h
theorem sb4 {lo x q k:Nat}(hq:q<=x)(h:lo+x-q<=k):lo+(k-lo)=k:=qL2 (qB8 (by rw[Nat.add_sub_assoc hq];exact qK7 _ _) h)
theorem sb5 {lo j:Nat}(h:0<j):lo+(j-1)=lo+j-1:=(Nat.add_sub_assoc h lo).symm
section
variable {prog:Program}{w:World}{A:Around}{E:Value->Shared->Prop}{s:Shared}{a₀:Array Keyed}{κ:SortKind}{rk:Keyed->Int}
end
def upL (rk:Keyed->Int)(l:List Keyed):Prop:=l.Pairwise λx y=>rk x<=rk y
structure Mg (rk:Keyed->Int) (t:List Keyed) (out ra rb:List Keyed):Prop where
 perm:(out++(ra++rb)).Perm t
 up:upL rk out
 le:∀x∈out,∀y∈ra++rb,rk x<=rk y
def Gd (rk:Keyed->Int)(t res:List Keyed):Prop:=res.Perm t/\upL rk res
section
variable {rk:Keyed->Int}{t out p ra rb:List Keyed}
end
section
variable {prog:Program}{w:World}{A:Around}{E:Value->Shared->Prop}{s:Shared}{a₀:Array Keyed}{κ:SortKind}{rk:Keyed->Int}
end
section
variable {prog:Program}{w:World}{A:Around}{E:Value->Shared->Prop}{s:Shared}{a₀:Array Keyed}{κ:SortKind}{rk:Keyed->Int}
abbrev rn (rk:Keyed->Int)(x:Keyed):Int:=-rk x
abbrev rv (a:Array Keyed):List Keyed:=a.toList.reverse
theorem mF {a:Array Keyed}{k:Nat}:(rv a).drop (a.size-k)=(a.toList.take k).reverse:=by
 rw[List.reverse_take];simp
theorem Gd.rv {a b:Array Keyed}{res:List Keyed}(h:Gd (rn rk) (rv a++rv b) res.reverse):Gd rk (a.toList++b.toList) res:=by
 refine ⟨?_,?_⟩
 ·refine (qK2 res).symm.trans (h.1.trans ?_);exact List.Perm.append (qK2 _) (qK2 _)
 ·have:=h.2
  unfold upL at this ⊢;rw[List.pairwise_reverse]at this;exact this.imp λq=>by
   have q:-_ <= -_:=q;omega
theorem gY {a b out:Array Keyed}{na nb:Nat}(h:Gd (rn rk) (rv a++rv b) (out.toList++(rv b).drop (b.size-nb)++(rv a).drop (a.size-na))):Gd rk (a.toList++b.toList) (a.extract 0 na++b.extract 0 nb++out.reverse).toList:=by
 refine Gd.rv ?_;rw[mF,mF]at h;have e:(a.extract 0 na++b.extract 0 nb++out.reverse).toList.reverse=out.toList++(b.toList.take nb).reverse++(a.toList.take na).reverse:=by
  simp [List.extract_eq_take_drop]
 rw[e];exact h
end
section
variable {prog:Program}{w:World}{A:Around}{E:Value->Shared->Prop}{s:Shared}{a₀:Array Keyed}{κ:SortKind}{rk:Keyed->Int}
end
section
variable {prog:Program}{w:World}{A:Around}{E:Value->Shared->Prop}{s:Shared}{a₀:Array Keyed}{κ:SortKind}{rk:Keyed->Int}{arr:Array Keyed}{pd:Array (Nat×Nat×Nat)}{g lo:Nat}
structure Rl (lo:Nat) (arr arr':Array Keyed):Prop where
 perm:arr'.toList.Perm arr.toList
 same:∀k,k<lo->arr'[k]?=arr[k]?
end
section
variable {prog:Program}{w:World}{A:Around}{E:Value->Shared->Prop}{s:Shared}{a₀:Array Keyed}{κ:SortKind}{rk:Keyed->Int}{arr:Array Keyed}{pd:Array (Nat×Nat×Nat)}{g lo:Nat}
end
end TP
namespace TP
open PySem L2
section
open PySem.W PyProof.Rows
variable {prog:Program}{w:World}{A:Around}{E:Value->Shared->Prop}{s:Shared}
open Classical in
def rkV (vs:List Value)(ss:List (List Int))(p:Keyed):Int:=if h:∃i,i<vs.length/\vs.getD i Value.none=p.1 then K9 ss h.choose else 0
end
section
variable {X:Cx}{K:Frag}
end
section
variable {K:Frag}
end
end TP
namespace TP
open PySem L2
def spX (K:Frag) (n:Nat) (f:List W->R W):Sp:=λvs H Q E=>vs.length=n/\∃F ws,Same F H/\Reps K F vs ws/\match f ws with
 | .ok w=>∀v G' H',Same F G'->Same H H'->Same G' H'->(∀a o,H a=some o->isL o=true->F a=none->G' a=none)->Rep K G' v w->Q v H'
 | .ex e=>∀H',Same H H'->XE E e H'
 | .stuck=>False
def M6 (n N:Nat) (m:Rho->R Fl) (ws:List W):R W:=if ws.length=n then (m (ws.map Sl.val++List.replicate (N-n) Sl.un)>>=λf=>match f with
 | .rt w=>.ok w
 | .nx _=>.ok .non
 |_=>.stuck) else .stuck
theorem jQ {n N:Nat}{m:Rho->R Fl}(ws:List W) (h:M6 n N m ws≠.stuck):ws.length=n:=by
 unfold M6 at h;by_cases e:ws.length=n
 ·exact e
 ·rw[qA6 e]at h;exact absurd rfl h
def less (H F:Hp):Hp:=λa=>match F a with
 |some _=>none
 |none=>H a
section
variable {K:Frag}{EX:EXT}{H0 G H G1 H1 F:Hp}{ρ:Rho}{σ:St}{d:Mode}{D:Ends}
theorem lh {a:Addr}(h:F a=none):less H F a=H a:=by unfold less;rw[h]
theorem lg {a:Addr}{o:HO}(h:less H F a=some o):F a=none/\H a=some o:=by
 unfold less at h;cases q:F a with
 |none=>rw[q]at h;exact ⟨rfl,h⟩
 |some u=>rw[q]at h;cases h
theorem ix {H':Hp}(sF:Same F H) (h1:Same (less H F) H') (h2:Same F H'):Same H H':=λa o e=>by
 cases q:F a with
 |none=>exact h1 a o (by rw[lh q];exact e)
 | some u=>
  have:=sF a u q
  rw[e]at this;cases this;exact h2 a o q
theorem CG {a:Addr}{o:HO}(h:z9 H a=some o):H a=some o/\isL o=false:=by
 unfold z9 at h;cases q:H a with
 |none=>rw[q]at h;cases h
 | some u=>
  rw[q]at h;dsimp only at h;cases hl:isL u
  ·rw[hl]at h;cases h;exact ⟨rfl,hl⟩
  ·rw[hl]at h;cases h
theorem qf:∀{vs:List V}{ws:List W}{i:Nat}{x:Sl}{o:Option V}{k k':Nat},Reps K F vs ws->(ws.map Sl.val++List.replicate k Sl.un)[i]?=some x->(vs.map some++List.replicate k' none)[i]?=some o->x=.un\/∃v w,x=.val w/\o=some v/\Rep K F v w
 | _,_,i,x,o,k,k',.nil,h1,h2=>by
  simp only [qI0,qL7,qF6]at h1
  split at h1 <;> simp only [qG6,reduceCtorEq]at h1
  exact .inl h1.symm
 | _,_,0,x,o,k,k',.cons r _,h1,h2=>by
  simp at h1 h2;exact .inr ⟨_,_,h1.symm,h2.symm,r⟩
 | _,_,i+1,x,o,k,k',.cons _ t,h1,h2=>by
  simp only [qC4,qK8,List.getElem?_cons_succ]at h1 h2;exact qf t h1 h2
theorem PIv.beginX {vs:List V}{ws:List W}{k k':Nat}(sF:Same F H) (r:Reps K F vs ws) (hk:k=k'):PIv K (less H F) (both F (z9 H)) (ws.map Sl.val++List.replicate k Sl.un) (vs.map some++List.replicate k' none) H where
 g0 a o e l:=by
  obtain ⟨h1,h2⟩:=lg e;unfold both;rw[h1];dsimp only;unfold z9;rw[h2];dsimp only;rw[l];rfl
 gl a o e l:=by
  obtain ⟨h1,h2⟩:=lg e;unfold both;rw[h1];dsimp only;unfold z9;rw[h2];dsimp only;rw[l];rfl
 gh a o e:=by
  unfold both at e;cases q:F a with
  |none=>rw[q]at e;exact (CG e).1
  |some u=>rw[q]at e;cases e;exact sF a _ q
 hh a o e:=(lg e).2
 len:=by subst hk;simp [r.length]
 sl i x o h1 h2:=by
  rcases qf r h1 h2 with rfl|⟨v,w,rfl,rfl,q⟩
  ·trivial
  ·exact ⟨v,rfl,q.same λb u e=>by unfold both;rw[e]⟩
 ne i j us xs a hij h1 _ _ _:=by
  have:∀(i:Nat) (us:List W),(ws.map Sl.val++List.replicate k Sl.un)[i]?≠some (Sl.own us):=λi us q=>by
   rw[List.getElem?_append]at q
   split at q
   ·rw [qA8]at q
    cases hh:ws[i]? <;> rw[hh]at q <;> cases q
   ·rw [qF6]at q
    split at q <;> cases q
  exact absurd h1 (this i us)
theorem zS {n:Nat}{Nl:List Str}{m:Rho->R Fl}{vs:List V}{Q:VK}{E:XK}(h:spX K n (M6 n Nl.length m) vs H Q E):tSt K (λ_ _=>False) .V m { nx:=λ_ H'=>Q .non H',rt:=Q } (L2.start Nl vs) H:=by
 obtain ⟨hl,F,ws,sF,r,o⟩:=h;have hw:ws.length=n:=by rw[<- r.length];exact hl
 unfold M6 at o;rw[qA4 hw]at o;have sB:Same F (both F (z9 H)):=λb u e=>by unfold both;rw[e]
 refine ⟨less H F,both F (z9 H),_,PIv.beginX (k:=Nl.length-n) sF r (by rw[hl]),?_⟩
 revert o
 cases m (ws.map Sl.val++List.replicate (Nl.length-n) Sl.un) with
 |stuck=>exact id
 |ex e=>exact λo=>(o H (Same.refl H)).elim
 | ok f=>
  cases f with
  |nx ρ'=>exact λo G' σ' H' s' I'=>o .non G' H' (sB.trans s') (ix sF I'.hh ((sB.trans s').trans I'.gh)) I'.gh (λa o e l q=>I'.gl a o (by rw[lh q];exact e) l) .non
  |rt w=>exact λo v G' H' s0 s1 s2 c md=>o v G' H' (sB.trans s0) (ix sF s2 ((sB.trans s0).trans s1)) s1 (λa o e l q=>c a o (by rw[lh q];exact e) l) md
  |bk _=>exact λo=>o.elim
  |ct _=>exact λo=>o.elim
def frzL:List Nat->Rho->Rho
 | [],ρ=>ρ
 |j::js,ρ=>frzL js (frz j ρ)
theorem PIv.frzL:∀{js:List Nat}{G:Hp}{ρ:Rho},PIv K H0 G ρ σ H->∃G',Same G G'/\PIv K H0 G' (frzL js ρ) σ H
 | [],G,ρ,I=>⟨G,Same.refl G,I⟩
 | j::js,G,ρ,I=>by
  obtain ⟨G1,s1,I1⟩:=I.frz (i:=j);obtain ⟨G2,s2,I2⟩:=PIv.frzL (js:=js) I1;exact ⟨G2,s1.trans s2,I2⟩
def dZ (i:Nat)(js:List Nat)(w:W)(ρ:Rho):Rho:=if noL w=true then ρ.set i (.val w) else (frzL js ρ).set i (.val w)
def sCX (i:Nat)(js:List Nat)(f:List W->R W)(ma:Rho->R (List W)):Rho->R Fl:=λρ=>ma (frzL js ρ)>>=λws=>f ws>>=λw=>.ok (.nx (dZ i js w ρ))
theorem MdA.repsV {Hs:Hp}:∀{ws:List W}{vs:List V},MdA K .V H0 Hs G H ws vs->Reps K G vs ws
 |_,_,.nil=>.nil
 |_,_,.cons h t=>.cons h (MdA.repsV t)
theorem zQ {i n:Nat}{js:List Nat}{f:List W->R W}{E:XK}{ma:Rho->R (List W)}(hf:∀ws,f ws≠.stuck->ws.length=n) (hE:∀e H,EX e H->XE E e H) (h:tSt K EX d (sCX i js f ma) D σ H) :
  bQ (eW (spX K n f) [] E (tA K EX .V ma)) (P1 i) D σ H:=by
 obtain ⟨H0,G,ρ,I,o⟩:=h;obtain ⟨G2,s2,I2⟩:=I.frzL (js:=js);refine ⟨H0,G2,frzL js ρ,I2,?_⟩;unfold sCX at o;cases hma:ma (frzL js ρ) with
 |stuck=>rw[hma]at o;exact o.elim
 |ex e=>rw[hma]at o;exact λH' s=>o H' (I.hh.trans s)
 | ok ws=>
  rw[hma,R.ok_bind]at o;intro xs G1 H1 e1 m1;have I1:=I2.ext e1;have r:=MdA.repsV m1;rw[qF3];refine ⟨?_,G1,ws,I1.gh,r,?_⟩
  ·rw [r.length]
   refine hf ws λz=>?_;rw[z]at o;exact o
  ·revert o
   cases f ws with
   |stuck=>exact id
   |ex e=>exact λo H' s=>hE e H' (o H' (I1.hh.trans s))
   | ok w=>
    intro o v G' H' sG sH gH cl md;rw[R.ok_bind]at o;by_cases hn:noL w=true
    ·have hs:dZ i js w ρ=ρ.set i (.val w):=qA4 hn;rw[hs]at o;have sHH:Same H H':=e1.hh.trans sH;have rH:Rep K H' v w:=md.same gH;have sN:Same (z9 H') H':=CH K H';have sB:Same G (both G (z9 H')):=λb o q=>by unfold both;rw[q]
     have sB':Same (z9 H') (both G (z9 H')):=λb o q=>by
      unfold both;cases q1:G b with
      |none=>exact q
      | some y=>
       have a1:=sHH b y (I.gh b y q1);rw[sN b o q]at a1;exact a1.symm
     have sHB:Same (both G (z9 H')) H':=λb o q=>by
      unfold both at q;cases q1:G b with
      |none=>rw[q1]at q;exact sN b o q
      |some y=>rw[q1]at q;cases q;exact sHH b _ (I.gh b _ q1)
     have ex:Ext G H (both G (z9 H')) H':=⟨sB,sHH,sHB,λb o q l g=>by
      unfold both;rw[g];dsimp only;unfold z9;rw[sHH b o q];dsimp only;rw[qA4 l]⟩
     exact o _ _ H' sB ((I.ext ex).setV ((Rep.ofNoL rH hn).same sB'))
    ·have hs:dZ i js w ρ=(frzL js ρ).set i (.val w):=qA6 hn;rw[hs]at o;have ex:Ext G1 H1 G' H':=⟨sG,sH,gH,cl⟩;exact o G' _ H' ((s2.trans e1.gg).trans sG) ((I1.ext ex).setV md)
theorem wb {n:Nat}{f:List W->R W}{E:XK}{ma:Rho->R (List W)}{Q:VK}(hf:∀ws,f ws≠.stuck->ws.length=n) (hE:∀e H,EX e H->XE E e H) (h:tM K EX .V (λρ=>ma ρ>>=λws=>f ws) σ H Q) :
  eW (spX K n f) [] E (tA K EX .V ma) σ H Q:=by
 obtain ⟨H0,G,ρ,I,o⟩:=h;refine ⟨H0,G,ρ,I,Out.bind o λxs G1 H1 ws e1 m1 o1=>?_⟩;have I1:=I.ext e1;have r:=MdA.repsV m1;rw[qF3];refine ⟨?_,G1,ws,I1.gh,r,?_⟩
 ·rw [r.length]
  refine hf ws λz=>?_;rw[z]at o1;exact o1
 ·revert o1
  cases f ws with
  |stuck=>exact id
  |ex e=>exact λo1 H' s=>hE e H' (o1 H' s)
  |ok w=>exact λo1 v G' H' sG sH gH cl md=>o1 v G' H' ⟨sG,sH,gH,cl⟩ md
end
section
variable {X:Cx}{K:Frag}{d:Mode}{e:Expr}{es:List Expr}{pos:Pos}{mr:Rho->R (List W)}
theorem xS {k:Nat}{f:Addr}{fd:FuncData}{ps:List Str}{x:Str}{p:Pos}{n N:Nat}{m:Rho->R Fl}(F:FnOk X.prog X.w X.K X.mg X.base CX0 k f fd ps (spX K n (M6 n N m))) (hr:Room k X.A) (hg:Gl X x) (hm:X.mg x=some (.ref f)) (hk:PySem.W.keepIn X.K (.ref f)=true) (hb:Binds X.K fd ps [])
  (ha:PA X (e::es) (tA K (λ_ _=>False) .V mr)) (hdb:(x == ("__debug__" : Str))=false:=by decide) (he:starEach (e::es) X.env=(false,eval e X.env)::starEach es X.env:=by rfl) (hpl:(backTo pos (starEach es X.env)).any (·.1)=false:=by rfl) :
  PE X (.Call (.Name x p) (e::es) [] pos) (tM K (λ_ _=>False) .V (bA (M6 n N m) mr)):=
 (de F hr hg hm hk hb .nil fh ha hdb he hpl).mono λ_ _ _ q=>wb (λws h=>jQ ws h) (λ_ _ z=>z) q
theorem xQ {i k:Nat}{js:List Nat}{y:Str}{pos':Pos}{f:Addr}{fd:FuncData}{ps:List Str}{x:Str}{p cpos:Pos}{n N:Nat}{m:Rho->R Fl}(hN:X.N.Nodup) (hi:X.N[i]?=some y) (hy:Loc X.env.scope y)
  (F:FnOk X.prog X.w X.K X.mg X.base CX0 k f fd ps (spX K n (M6 n N m))) (hr:Room k X.A) (hg:Gl X x) (hm:X.mg x=some (.ref f)) (hk:PySem.W.keepIn X.K (.ref f)=true) (hb:Binds X.K fd ps [])
  (ha:PA X (e::es) (tA K (λ_ _=>False) .V mr)) (hdb:(x == ("__debug__" : Str))=false:=by decide) (he:starEach (e::es) X.env=(false,eval e X.env)::starEach es X.env:=by rfl) (hpl:(backTo cpos (starEach es X.env)).any (·.1)=false:=by rfl)
  (hs:swapsWith (.Call (.Name x p) (e::es) [] cpos) (some (.Name y pos')) pos.line X.env=pure false:=by rfl) (hf:X.fn y=true\/X.env.scope.names.lookup y=some .local:=by first|exact .inl rfl|exact .inr rfl|assumption) :
  PS X (.Assign [.Name y pos'] (.Call (.Name x p) (e::es) [] cpos) pos) (tSt K (λ_ _=>False) d (sCX i js (M6 n N m) mr)):=
 (fg hN hi hy (de F hr hg hm hk hb .nil fh ha hdb he hpl) hs hf).mono λ_ _ _ q=>zQ (λws h=>jQ ws h) (λ_ _ z=>z) q
end
theorem vH (ρ:Rho):frzL [] ρ=ρ:=rfl
theorem rR (j:Nat)(js:List Nat)(ρ:Rho):frzL (j::js) ρ=frzL js (frz j ρ):=rfl
def RcX (f:List W->R W) (i:Nat) (js:List Nat) (ρ:Rho):R (List W)->R Fl
 | .ok ws=>f ws>>=λw=>.ok (.nx (dZ i js w ρ))
 | .ex e=>.ex e
 | .stuck=>.stuck
theorem AX (i:Nat) (js:List Nat) (f:List W->R W) (ma:Rho->R (List W)) (ρ:Rho):sCX i js f ma ρ=RcX f i js ρ (ma (frzL js ρ)):=by
 unfold sCX;cases ma (frzL js ρ) <;> rfl
theorem Fh (f:List W->R W)(i:Nat)(js:List Nat)(ρ:Rho)(ws:List W):RcX f i js ρ (.ok ws)=(f ws>>=λw=>.ok (.nx (dZ i js w ρ))):=rfl
end TP
namespace TP
open PySem L2
section
variable {K:Frag}{EX:EXT}{X:Cx}{tg e:Expr}{ma:Rho->R W}
end
end TP
namespace TP
open PySem L2
def GO (H:Hp):Prop:=∀a vs,H a≠some (.lst vs)
def OutN (K:Frag) (d:Mode) (Hb:Hp) (r:R Fl) (D:Ends):Prop:=match r with
 | .ok (.nx ρ)=>∀H0 G' σ' H',Same Hb H0->PIv K H0 G' ρ σ' H'->D.nx σ' H'
 | .ok (.rt w)=>∀v G' H',Same G' H'->Same Hb H'->(∀a o,Hb a=some o->isL o=true->G' a=none)->Md K Hb Hb G' H' v w d->D.rt v H'
 |_=>False
def tStN (K:Frag)(EX:EXT)(d:Mode)(m:Rho->R Fl):TS:=λD σ H=>∃Hb H0 G ρ,GO Hb/\Same Hb H0/\PIv K H0 G ρ σ H/\OutN K d Hb (m ρ) D
section
variable {K:Frag}{EX:EXT}{Hb H0 G H G1 H1 G2 H2:Hp}{ρ:Rho}{σ:St}{d:Mode}{D:Ends}
end
section
variable {X:Cx}{K:Frag}{EX:EXT}{d:Mode}{e:Expr}{es:List Expr}{pos:Pos}{ma:Rho->R W}{mr:Rho->R (List W)}{m n:Rho->R Fl}{ta:Rho->R Bool}{st:Stmt}{sts:List Stmt}
end
end TP
namespace TP
open PySem L2
open PyProof.Rows (envOfC)
def XE1 (K:Frag)(E:XK):EXT:=λe H=>∀(C:Addr)(od:Option Addr),PySem.W.nsIn K mainGlobals e.cls=some (some (.ref C))->XD H od e.at_->E (.ref C) od H
def spR (K:Frag) (n:Nat) (d:Mode) (f:List W->R W):Sp:=λvs H Q E=>vs.length=n/\∃ws,Reps K H vs ws/\match f ws with
 | .ok w=>∀v G' H',Same H H'->Same G' H'->(∀a o,H a=some o->isL o=true->G' a=none)->Md K H H G' H' v w d->Q v H'
 | .ex e=>∀H',Same H H'->XE1 K E e H'
 | .stuck=>False
def calm (f:List W->R W):List W->R W:=λws=>match f ws with
 | .ok w=>.ok w
 |_=>.stuck
section
variable {K:Frag}{EX:EXT}{H0 G H G1 H1 G2 H2:Hp}{ρ:Rho}{σ:St}{d:Mode}{D:Ends}
def flUn (j:Nat):Fl->R Fl
 | .nx ρ=>.ok (.nx (ρ.set j .un))
 | .bk ρ=>.ok (.bk (ρ.set j .un))
 | .ct ρ=>.ok (.ct (ρ.set j .un))
 | .rt w=>.ok (.rt w)
def mExc (c:Str)(j:Nat)(mb:Rho->R Fl)(e:XW)(ρ:Rho):R Fl:=if e.cls=c then mb (ρ.set j (.val (.exc e.cls e.at_)))>>=flUn j else .stuck
end
section
variable {X:Cx}{K:Frag}{EX:EXT}{d:Mode}{e:Expr}{es:List Expr}{pos:Pos}{ma:Rho->R W}{mr:Rho->R (List W)}{mb:Rho->R Fl}
end
section
variable {P:Program}{w:World}{K:Frag}{mg:Str->Option Value}{base:Heap}{N:List Str}{qual:Str}{scope:Scope}{f0:Addr}{cd:Value}{A:Around}{outer:List Env}{s0:Shared}{H0:Hp}{E:XK}{d:Mode}{e:Expr}{es:List Expr}{pos:Pos}{mr:Rho->R (List W)}
end
end TP
namespace TP
open PySem L2
def big8:Int:=2^2000
def bB (_ j:Int):Prop:=0<j/\j<big8
instance (i j:Int):Decidable (bB i j):=by unfold bB;infer_instance
theorem uL {X:Cx}:OpR X (binaryOp .FloorDiv) (rI bB λi j=>.int (i/j)):=opI λi j _ _ _ _ _ hc q=>by
 have h1:(0:Int)<j:=hc.1;have h2:j<big8:=hc.2;refine PyProof.Rows.floordiv_int (by omega) (by rw[Int.fdiv_eq_ediv_of_nonneg i (by omega)];exact q) (.inl (PyProof.noPylong_of_log2 ?_));have h3:j.natAbs<2^9000:=by
  have:j.natAbs<2^2000:=by
   have h4:(j.natAbs:Int)<2^2000:=by
    rw[Int.natAbs_of_nonneg (by omega)];exact h2
   exact_mod_cast h4
  exact qB7 this (Nat.pow_le_pow_right (by decide) (by decide))
 by_cases h0:j.natAbs=0
 ·omega
 ·exact (Nat.log2_lt h0).mpr h3
theorem zG {i j:Int}(h0:0<j) (h:j<=1000000000000000000000):fI bB x5 (.int i) (.int j)=.ok (.int (i/j)):=by
 show (if bB i j then _ else _)=_;rw[qA4 ⟨h0,Int.lt_of_le_of_lt h (by unfold big8;decide)⟩]
def xa (_ j:Int):Prop:=j≠0/\j.natAbs<2^8999
instance (i j:Int):Decidable (xa i j):=by unfold xa;infer_instance
def wS (_ j:Int):Prop:=j≠0
instance (i j:Int):Decidable (wS i j):=by unfold wS;infer_instance
section
variable {K:Frag}{EX:EXT}{H:Hp}{σ:St}{d:Mode}{D:Ends}{i j:Nat}{m:Rho->R (List W)}
end
end TP
namespace TP
open PySem L2
abbrev tI (ns:List Int):W:=.tup (ns.map W.int)
abbrev lI (ns:List Int):W:=.lst (ns.map W.int)
theorem N8 (ns:List Int):m5 (ns.map W.int)=true:=by
 induction ns with
 |nil=>rfl
 |cons n ns ih=>rw[qC4];simp only [m5,noL,ih,qL0]
theorem zy (n:Bool) (i j:Int):o8 n (.int i) (.int j)=.ok (.bl (if n then !decide (i=j) else decide (i=j))):=by
 show R.ok (W.bl (if n then !decide (V.int i=V.int j) else decide (V.int i=V.int j)))=_;rw[show decide (V.int i=V.int j)=decide (i=j) from decide_eq_decide.mpr ⟨V.int.inj,congrArg _⟩]
theorem zz (n:Bool) (i j:Bool):o8 n (.bl i) (.bl j)=.ok (.bl (if n then !decide (i=j) else decide (i=j))):=by
 show R.ok (W.bl (if n then !decide (V.bl i=V.bl j) else decide (V.bl i=V.bl j)))=_;rw[show decide (V.bl i=V.bl j)=decide (i=j) from decide_eq_decide.mpr ⟨V.bl.inj,congrArg _⟩]
theorem zt (n:Bool) (i j:Str):o8 n (.str i) (.str j)=.ok (.bl (if n then !decide (i=j) else decide (i=j))):=by
 show R.ok (W.bl (if n then !decide (V.str i=V.str j) else decide (V.str i=V.str j)))=_;rw[show decide (V.str i=V.str j)=decide (i=j) from decide_eq_decide.mpr ⟨V.str.inj,congrArg _⟩]
theorem zu (n:Bool):o8 n .non .non=.ok (.bl (!n)):=by cases n <;> rfl
theorem zw (n:Bool) (i:Int):o8 n .non (.int i)=.ok (.bl n):=by cases n <;> rfl
theorem zx (n:Bool) (i:Int):o8 n (.int i) .non=.ok (.bl n):=by cases n <;> rfl
theorem atW {ns:List Int}{i:Int}(h0:0<=i) (h1:i<ns.length):L2.atI (ns.map W.int) i=some (.int (ns.getD i.toNat 0)):=by
 unfold L2.atI;rw[qA1,aE h0 h1]
 show (ns.map W.int)[i.toNat]?=_;rw[qA8,N5 (by omega)];rfl
theorem aK {ws:List W}{k:Nat}{w:W}(h:ws[k]?=some w):L2.atI ws (k:Int)=some w:=by
 have hk:=(qB0.mp h).1;unfold L2.atI;rw[aE (by omega) (by omega),qF8];exact h
def andThen (r:R Fl) (n:Rho->R Fl):R Fl:=r>>=λf=>match f with
 | .nx ρ'=>n ρ'
 | .rt w=>.ok (.rt w)
 | .bk ρ'=>.ok (.bk ρ')
 | .ct ρ'=>.ok (.ct ρ')
theorem yK (m n:Rho->R Fl)(ρ:Rho):d3 m n ρ=andThen (m ρ) n:=rfl
theorem px (ρ:Rho)(n:Rho->R Fl):andThen (.ok (.nx ρ)) n=n ρ:=rfl
theorem pw (w:W)(n:Rho->R Fl):andThen (.ok (.rt w)) n=.ok (.rt w):=rfl
theorem pB (ρ:Rho)(n:Rho->R Fl):andThen (.ok (.bk ρ)) n=.ok (.bk ρ):=rfl
theorem pA (ρ:Rho)(n:Rho->R Fl):andThen (.ok (.ct ρ)) n=.ok (.ct ρ):=rfl
theorem FT (w:W)(ρ:Rho):mC w ρ=.ok w:=rfl
theorem GG (f:W->R W)(ma:Rho->R W)(ρ:Rho):b1 f ma ρ=(ma ρ>>=f):=rfl
def R2b (a b:R W)(f:W->W->R W):R W:=a>>=λx=>b>>=λy=>f x y
theorem GF (f:W->W->R W)(ma mb:Rho->R W)(ρ:Rho):b2 f ma mb ρ=R2b (ma ρ) (mb ρ) f:=rfl
theorem Fj (x y:W)(f:W->W->R W):R2b (.ok x) (.ok y) f=f x y:=rfl
theorem GE (f:List W->R W)(ma:Rho->R (List W))(ρ:Rho):bA f ma ρ=(ma ρ>>=f):=rfl
theorem GD (f:List W->R (List W))(ma:Rho->R (List W))(ρ:Rho):bI f ma ρ=(ma ρ>>=f):=rfl
theorem GC (ma:Rho->R W)(ρ:Rho):bS ma ρ=(ma ρ>>=A3):=rfl
theorem GL (ρ:Rho):aN ρ=.ok []:=rfl
def fW (a:R W)(b:R (List W)):R (List W):=a>>=λx=>b>>=λxs=>.ok (x::xs)
theorem GM (ma:Rho->R W)(mr:Rho->R (List W))(ρ:Rho):aC ma mr ρ=fW (ma ρ) (mr ρ):=rfl
theorem wg (x:W)(xs:List W):fW (.ok x) (.ok xs)=.ok (x::xs):=rfl
theorem zX (ma:Rho->R W)(ρ:Rho):U5 ma ρ=(ma ρ>>=chk):=rfl
theorem wd (ma:Rho->R W)(ρ:Rho):e9 ma ρ=(ma ρ>>=toB):=rfl
theorem xm (a b:Rho->R Bool)(ρ:Rho):Q9 a b ρ=rAnd (a ρ) (b ρ):=rfl
theorem AB (a b:Rho->R Bool)(ρ:Rho):fZ a b ρ=rOr (a ρ) (b ρ):=rfl
theorem xl (a:Rho->R Bool)(ρ:Rho):C6 a ρ=oa (a ρ):=rfl
theorem xN (x y:Bool):rAnd (.ok x) (.ok y)=.ok (x&&y):=by cases x <;> rfl
theorem xO (r:R Bool):rAnd (.ok false) r=.ok false:=rfl
theorem xM (r:R Bool):rAnd (.ok true) r=r:=rfl
theorem BK (x y:Bool):rOr (.ok x) (.ok y)=.ok (x||y):=by cases x <;> rfl
theorem BJ (r:R Bool):rOr (.ok true) r=.ok true:=rfl
theorem BL (r:R Bool):rOr (.ok false) r=r:=rfl
theorem xI (x:Bool):oa (.ok x)=.ok (!x):=rfl
theorem xh (a b:Rho->R W)(ρ:Rho):nM a b ρ=aV (a ρ) (b ρ):=rfl
theorem Ap (a b:Rho->R W)(ρ:Rho):vOr a b ρ=eE (a ρ) (b ρ):=rfl
theorem xf (a:Rho->R W)(ρ:Rho):tE a ρ=jh (a ρ):=rfl
theorem uD (x y:Bool):aV (.ok (.bl x)) (.ok (.bl y))=.ok (.bl (x&&y)):=by cases x <;> rfl
theorem uE (r:R W):aV (.ok (.bl false)) r=.ok (.bl false):=rfl
theorem uC (r:R W):aV (.ok (.bl true)) r=r:=rfl
theorem xG (x y:Bool):eE (.ok (.bl x)) (.ok (.bl y))=.ok (.bl (x||y)):=by cases x <;> rfl
theorem xF (r:R W):eE (.ok (.bl true)) r=.ok (.bl true):=rfl
theorem xH (r:R W):eE (.ok (.bl false)) r=r:=rfl
theorem uA (x:Bool):jh (.ok (.bl x))=.ok (.bl (!x)):=rfl
def og (c:R Bool)(a b:R W):R W:=c>>=λt=>if t then a else b
theorem Aq (c:Rho->R Bool)(a b:Rho->R W)(ρ:Rho):vIf c a b ρ=og (c ρ) (a ρ) (b ρ):=rfl
theorem xJ (a b:R W):og (.ok true) a b=a:=rfl
theorem xL (a b:R W):og (.ok false) a b=b:=rfl
theorem xK (t:Bool)(x y:W):og (.ok t) (.ok x) (.ok y)=.ok (if t then x else y):=by cases t <;> rfl
def lR (f f':W->W->R W)(a b c:R W):R W:=a>>=λx=>b>>=λy=>f x y>>=λz=>toB z>>=λt=>if t then c>>=λu=>f' y u else .ok (.bl false)
theorem pO (f f':W->W->R W)(ma mb mc:Rho->R W)(ρ:Rho):Ar f f' ma mb mc ρ=lR f f' (ma ρ) (mb ρ) (mc ρ):=rfl
theorem tf (g g':Int->Int->Bool) (i j k:Int):lR (fI0 λi j=>.bl (g i j)) (fI0 λi j=>.bl (g' i j)) (.ok (.int i)) (.ok (.int j)) (.ok (.int k))=.ok (.bl (g i j&&g' j k)):=by
 unfold lR
 show (if g i j=true then _ else _)=_;cases h:g i j <;> simp [fI0]
def oG (ws:List W):R W:=lim ws.length (.tup ws)
def oH (ws:List W):R W:=lim ws.length (.lst ws)
theorem xc (ma:Rho->R (List W))(ρ:Rho):L5 ma ρ=(ma ρ>>=oG):=rfl
theorem xg (ma:Rho->R (List W))(ρ:Rho):A1 ma ρ=(ma ρ>>=oH):=rfl
theorem FM (ρ:Rho):pN ρ=.ok none:=rfl
theorem FL (m:Rho->R W)(ρ:Rho):pS m ρ=(m ρ>>=jm):=rfl
theorem qM (i:Int):jm (.int i)=.ok (some i):=rfl
def Rsl (c:Bool)(x:R W)(l u:R (Option Int)):R W:=x>>=λx=>l>>=λl=>u>>=λu=>toR (lstOf x)>>=λws=>chks c (N4 ws l u)
theorem Ao (c:Bool)(m:Rho->R W)(ml mh:Rho->R (Option Int))(ρ:Rho):vSl c m ml mh ρ=Rsl c (m ρ) (ml ρ) (mh ρ):=rfl
theorem Af (c:Bool)(ws:List W)(l u:Option Int):Rsl c (.ok (.lst ws)) (.ok l) (.ok u)=chks c (N4 ws l u):=rfl
theorem Ae (c:Bool)(ws:List W)(l u:Option Int):Rsl c (.ok (.scr ws)) (.ok l) (.ok u)=chks c (N4 ws l u):=rfl
def wV (r:R (List W))(n:Nat)(mg:W->Rho->Option Rho)(mc:Rho->R Bool)(me:Rho->R W)(ρ:Rho):R W:=r>>=λws=>l6 n mg mc me ws ρ
theorem tF (n:Nat)(mi:Rho->R (List W))(mg:W->Rho->Option Rho)(mc:Rho->R Bool)(me:Rho->R W)(ρ:Rho):n5 n mi mg mc me ρ=wV (mi ρ) n mg mc me ρ:=rfl
theorem wj (ws:List W)(n:Nat)(mg:W->Rho->Option Rho)(mc:Rho->R Bool)(me:Rho->R W)(ρ:Rho):wV (.ok ws) n mg mc me ρ=l6 n mg mc me ws ρ:=rfl
theorem AV (ρ:Rho):sNx ρ=.ok (.nx ρ):=rfl
theorem AZ (ρ:Rho):sBk ρ=.ok (.bk ρ):=rfl
theorem AW (ρ:Rho):sCt ρ=.ok (.ct ρ):=rfl
def wU (r:R W)(ρ:Rho):R Fl:=r>>=λ_=>.ok (.nx ρ)
theorem uh (m:Rho->R W)(ρ:Rho):Fw m ρ=wU (m ρ) ρ:=rfl
theorem wf (w:W)(ρ:Rho):wU (.ok w) ρ=.ok (.nx ρ):=rfl
def eC (w:W):R Fl:=.ok (.rt w)
theorem xv (m:Rho->R W)(ρ:Rho):i6 m ρ=(m ρ>>=eC):=rfl
theorem xD (w:W):eC w=.ok (.rt w):=rfl
theorem ug (ρ:Rho):Ft ρ=.ok (.rt .non):=rfl
def il (r:R W)(f:W->Sl)(i:Nat)(ρ:Rho):R Fl:=r>>=λw=>.ok (.nx (ρ.set i (f w)))
theorem Fq (i:Nat)(m:Rho->R W)(ρ:Rho):sV i m ρ=il (m ρ) Sl.val i ρ:=rfl
theorem Fs (i:Nat)(m:Rho->R W)(ρ:Rho):sU i m ρ=il (m ρ) Sl.par i ρ:=rfl
theorem Fv (i:Nat)(m:Rho->R W)(ρ:Rho):sF i m ρ=il (m ρ) R1 i ρ:=rfl
theorem Ag (w:W)(f:W->Sl)(i:Nat)(ρ:Rho):il (.ok w) f i ρ=.ok (.nx (ρ.set i (f w))):=rfl
theorem qj (ws:List W):R1 (.lst ws)=.own ws:=rfl
theorem qg (ws:List W):R1 (.tup ws)=.val (.tup ws):=rfl
theorem qk (i:Int):R1 (.int i)=.val (.int i):=rfl
theorem uc (i:Bool):R1 (.bl i)=.val (.bl i):=rfl
theorem qi:R1 .non=.val .non:=rfl
theorem qh (i:Str):R1 (.str i)=.val (.str i):=rfl
def Aw:Option Rho->R Fl
 |some ρ=>.ok (.nx ρ)
 |none=>.stuck
def Fi (r:R W)(mg:W->Rho->Option Rho)(ρ:Rho):R Fl:=r>>=λw=>toR (mg w ρ)>>=λρ'=>.ok (.nx ρ')
theorem Fu (mg:W->Rho->Option Rho)(m:Rho->R W)(ρ:Rho):sG mg m ρ=Fi (m ρ) mg ρ:=rfl
theorem Aj (w:W) (mg:W->Rho->Option Rho) (ρ:Rho):Fi (.ok w) mg ρ=Aw (mg w ρ):=by
 show (toR (mg w ρ)>>=_)=_;cases mg w ρ <;> rfl
theorem pW (ρ:Rho):Aw (some ρ)=.ok (.nx ρ):=rfl
def Fd (r:R (List W))(mg:W->Rho->Option Rho)(mb:Rho->R Fl)(ρ:Rho):R Fl:=r>>=λws=>K1 mg mb ws ρ
theorem xx (mi:Rho->R (List W))(mg:W->Rho->Option Rho)(mb:Rho->R Fl)(ρ:Rho):x3 mi mg mb ρ=Fd (mi ρ) mg mb ρ:=rfl
theorem Ah (ws:List W)(mg:W->Rho->Option Rho)(mb:Rho->R Fl)(ρ:Rho):Fd (.ok ws) mg mb ρ=K1 mg mb ws ρ:=rfl
theorem xw (i:Nat)(m:Rho->R Fl)(ρ:Rho):gi i m ρ=m (frz i ρ):=rfl
def gZ:Option Sl->Nat->Rho->Rho
 |some (.own ws),i,ρ=>ρ.set i (.val (.lst ws))
 |_,_,ρ=>ρ
theorem DN (i:Nat) (ρ:Rho):frz i ρ=gZ (ρ[i]?) i ρ:=by
 unfold frz gZ;rcases h:ρ[i]? with _|s
 ·rfl
 ·cases s <;> rfl
theorem vG (ws:List W)(i:Nat)(ρ:Rho):gZ (some (.own ws)) i ρ=ρ.set i (.val (.lst ws)):=rfl
theorem vD (w:W)(i:Nat)(ρ:Rho):gZ (some (.val w)) i ρ=ρ:=rfl
theorem vE (w:W)(i:Nat)(ρ:Rho):gZ (some (.par w)) i ρ=ρ:=rfl
theorem zh (i:Nat)(ρ:Rho):gZ (some .un) i ρ=ρ:=rfl
def rdS (d:Mode):Option Sl->R W
 |some (.val w)=>(match d with | .F=>chk w|_=>.ok w)
 |some (.par w)=>(match d with | .F=>chk w | .V=>chk w | .C=>chk w|_=>.ok w)
 |some (.own ws)=>(match d with | .C=>.ok (.lst ws) | .B=>.ok (.lst ws)|_=>.stuck)
 |some (.iop _ ws)=>(match d with | .B=>.ok (.lst ws) | .U=>.ok (.lst ws)|_=>.stuck)
 |some (.hz w)=>(match d with | .B=>.ok w | .U=>.ok w|_=>.stuck)
 |_=>.stuck
theorem gI (d:Mode) (i:Nat) (ρ:Rho):b7 d i ρ=rdS d (ρ[i]?):=by
 unfold b7 rdS;rfl
theorem Bw (w:W):rdS .F (some (.val w))=chk w:=rfl
theorem Bu (w:W):rdS .V (some (.val w))=.ok w:=rfl
theorem Bv (w:W):rdS .U (some (.val w))=.ok w:=rfl
theorem Bx (w:W):rdS .C (some (.val w))=.ok w:=rfl
theorem By (w:W):rdS .B (some (.val w))=.ok w:=rfl
theorem BB (w:W):rdS .F (some (.par w))=chk w:=rfl
theorem Bz (w:W):rdS .V (some (.par w))=chk w:=rfl
theorem BA (w:W):rdS .U (some (.par w))=.ok w:=rfl
theorem BC (w:W):rdS .C (some (.par w))=chk w:=rfl
theorem BD (w:W):rdS .B (some (.par w))=.ok w:=rfl
theorem BE (ws:List W):rdS .C (some (.own ws))=.ok (.lst ws):=rfl
theorem BF (ws:List W):rdS .B (some (.own ws))=.ok (.lst ws):=rfl
def retS (d:Mode):Option Sl->R Fl
 |some (.own ws)=>.ok (.rt (.lst ws))
 |o=>rdS d o>>=eC
theorem oJ (d:Mode) (i:Nat) (ρ:Rho):r6 d i ρ=retS d (ρ[i]?):=by
 unfold r6 retS;rw[gI];rcases h:ρ[i]? with _|s
 ·rfl
 ·cases s <;> rfl
theorem ur (d:Mode)(ws:List W):retS d (some (.own ws))=.ok (.rt (.lst ws)):=rfl
theorem uo (d:Mode)(w:W):retS d (some (.val w))=(rdS d (some (.val w))>>=eC):=rfl
theorem uq (d:Mode)(w:W):retS d (some (.par w))=(rdS d (some (.par w))>>=eC):=rfl
def we (o:Option Sl) (r:R W) (i:Nat) (ρ:Rho):R Fl:=match o with
 |some (.own ws)=>r>>=λw=>if ws.length<1000 then .ok (.nx (ρ.set i (.own (ws ++ [w])))) else .stuck
 |_=>.stuck
theorem yO (i:Nat)(m:Rho->R W)(ρ:Rho):M7 i m ρ=we (ρ[i]?) (m ρ) i ρ:=rfl
theorem zZ (ws:List W)(w:W)(i:Nat)(ρ:Rho):we (some (.own ws)) (.ok w) i ρ=if ws.length<1000 then .ok (.nx (ρ.set i (.own (ws ++ [w])))) else .stuck:=rfl
def AN (o:Option Sl) (a b:R W) (i:Nat) (ρ:Rho):R Fl:=match o with
 | some (.own ws)=>b>>=λw=>a>>=λk=>(match k with
  | .int k=>(match ixN ws.length k with
   |some j=>.ok (.nx (ρ.set i (.own (ws.set j w))))
   |none=>.stuck)
  |_=>.stuck)
 |_=>.stuck
theorem yJ (i:Nat)(mk me:Rho->R W)(ρ:Rho):eO i mk me ρ=AN (ρ[i]?) (mk ρ) (me ρ) i ρ:=rfl
def AO (o:Option Nat) (ws:List W) (w:W) (i:Nat) (ρ:Rho):R Fl:=match o with
 |some j=>.ok (.nx (ρ.set i (.own (ws.set j w))))
 |none=>.stuck
theorem xt (ws:List W)(w:W) (k:Int)(i:Nat)(ρ:Rho):AN (some (.own ws)) (.ok (.int k)) (.ok w) i ρ=AO (ixN ws.length k) ws w i ρ:=rfl
theorem qp (j:Nat)(ws:List W)(w:W)(i:Nat)(ρ:Rho):AO (some j) ws w i ρ=.ok (.nx (ρ.set i (.own (ws.set j w)))):=rfl
def EZ (f:Int->Int->Int) (a b:R W) (i:Nat) (ρ:Rho):R Fl:=a>>=λx=>b>>=λy=>match x,y with
 | .int a,.int b=>.ok (.nx (ρ.set i (.val (.int (f a b)))))
 |_,_=>.stuck
theorem yN (i:Nat) (f:Int->Int->Int) (m:Rho->R W) (ρ:Rho):kZ i f m ρ=EZ f (rdS .B (ρ[i]?)) (m ρ) i ρ:=by
 rw[<- gI];rfl
theorem zY (f:Int->Int->Int) (a b:Int)(i:Nat)(ρ:Rho):EZ f (.ok (.int a)) (.ok (.int b)) i ρ=.ok (.nx (ρ.set i (.val (.int (f a b))))):=rfl
def ifS (c:R Bool)(m n:Rho->R Fl)(ρ:Rho):R Fl:=c>>=λb=>if b then m ρ else n ρ
theorem CK (c:Rho->R Bool)(m n:Rho->R Fl)(ρ:Rho):mIf c m n ρ=ifS (c ρ) m n ρ:=rfl
theorem DC (m n:Rho->R Fl)(ρ:Rho):ifS (.ok true) m n ρ=m ρ:=rfl
theorem DD (m n:Rho->R Fl)(ρ:Rho):ifS (.ok false) m n ρ=n ρ:=rfl
def w4 (r:R Fl):R W:=r>>=λf=>match f with
 | .rt w=>.ok w
 | .nx _=>.ok .non
 |_=>.stuck
theorem aq {n N:Nat}{m:Rho->R Fl}{ws:List W}(h:ws.length=n):f9 n N m ws=w4 (m (ws.map Sl.par++List.replicate (N-n) Sl.un)):=by unfold f9;rw[qA4 h];rfl
theorem Bg {N:Nat}{m:Rho->R Fl}(a:W):f9 1 N m [a]=w4 (m (Sl.par a::List.replicate (N-1) Sl.un)):=aq rfl
theorem Bf {N:Nat}{m:Rho->R Fl}(a b:W):f9 2 N m [a,b]=w4 (m (Sl.par a::Sl.par b::List.replicate (N-2) Sl.un)):=aq rfl
theorem Be {N:Nat}{m:Rho->R Fl}(a b c:W):f9 3 N m [a,b,c]=w4 (m (Sl.par a::Sl.par b::Sl.par c::List.replicate (N-3) Sl.un)):=aq rfl
theorem Bd {N:Nat}{m:Rho->R Fl}(a b c d:W):f9 4 N m [a,b,c,d]=w4 (m (Sl.par a::Sl.par b::Sl.par c::Sl.par d::List.replicate (N-4) Sl.un)):=aq rfl
theorem Bc {N:Nat}{m:Rho->R Fl}(a b c d e:W):f9 5 N m [a,b,c,d,e]=w4 (m (Sl.par a::Sl.par b::Sl.par c::Sl.par d::Sl.par e::List.replicate (N-5) Sl.un)):=aq rfl
theorem zE (w:W):w4 (.ok (.rt w))=.ok w:=rfl
theorem zF (ρ:Rho):w4 (.ok (.nx ρ))=.ok .non:=rfl
theorem DY (g:Int->Int->W) (i j:Int):fI0 g (.int i) (.int j)=.ok (g i j):=rfl
theorem fU_i (g:Int->W) (i:Int):fU g (.int i)=.ok (g i):=rfl
theorem Ge (ws:List W) (i:Int):fIx (.lst ws) (.int i)=toR (L2.atI ws i):=rfl
theorem Gb (ws:List W) (i:Int):fIx (.tup ws) (.int i)=toR (L2.atI ws i):=rfl
theorem Gc (ws:List W) (i:Int):fIx (.scr ws) (.int i)=toR (L2.atI ws i):=rfl
theorem tO {α:Type}(a:α):toR (some a)=.ok a:=rfl
theorem Ax (b:Bool):toB (.bl b)=.ok b:=rfl
theorem DT (ws:List W):fLen [.lst ws]=.ok (.int ws.length):=rfl
theorem DR (ws:List W):fLen [.tup ws]=.ok (.int ws.length):=rfl
theorem DS (ws:List W):fLen [.scr ws]=.ok (.int ws.length):=rfl
theorem zp (c:Bool)(ws:List W):fK c [.lst ws]=chks c ws:=rfl
theorem zo (c:Bool)(ws:List W):fK c [.tup ws]=chks c ws:=rfl
theorem lw (c:Bool)(ws:List W):A7 c [.lst ws]=X8 c ws:=rfl
theorem DO (c:Bool)(ws:List W):A7 c [.tup ws]=X8 c ws:=rfl
theorem Et (ws:List W):chks true ws=.ok (.lst ws):=rfl
theorem EA (ws:List W):X8 true ws=.ok (.tup ws):=rfl
theorem dr {c:Bool}{ws:List W}(h:m5 ws=true):chks c ws=.ok (.lst ws):=by unfold chks;rw[h,qK5,qA4 rfl]
theorem du {c:Bool}{ws:List W}(h:m5 ws=true):X8 c ws=.ok (.tup ws):=by unfold X8;rw[h,qK5,qA4 rfl]
theorem Ew (c:Bool)(ns:List Int):chks c (ns.map W.int)=.ok (.lst (ns.map W.int)):=dr (N8 ns)
theorem sy (c:Bool)(ns:List Int):X8 c (ns.map W.int)=.ok (.tup (ns.map W.int)):=du (N8 ns)
theorem v5 {w:W}(h:noL w=true):chk w=.ok w:=by unfold chk;rw[qA4 h]
theorem zM (i:Int):chk (.int i)=.ok (.int i):=rfl
theorem Ez (i:Bool):chk (.bl i)=.ok (.bl i):=rfl
theorem zK (i:Str):chk (.str i)=.ok (.str i):=rfl
theorem zL:chk .non=.ok .non:=rfl
theorem Ex (ns:List Int):chk (.tup (ns.map W.int))=.ok (.tup (ns.map W.int)):=v5 (N8 ns)
theorem Gg (g:Int->Int->Int) (i j:Int):f2 g [.int i,.int j]=.ok (.int (g i j)):=rfl
theorem AS (ws:List W):A3 (.lst ws)=.ok ws:=rfl
theorem AQ (ws:List W):A3 (.tup ws)=.ok ws:=rfl
theorem AR (ws:List W):A3 (.scr ws)=.ok ws:=rfl
theorem Bo (j:Int):E8 [.int j]=O3 0 j:=rfl
theorem Bm (i j:Int):rng2 [.int i,.int j]=O3 i j:=rfl
theorem gN_U (i:Nat)(w:W)(ρ:Rho):gN .U i w ρ=some (ρ.set i (.par w)):=rfl
theorem gN_V (i:Nat)(w:W)(ρ:Rho):gN .V i w ρ=some (ρ.set i (.val w)):=rfl
theorem gT_t (n:Nat)(g:List W->Rho->Option Rho)(ws:List W)(ρ:Rho):gT n g (.tup ws) ρ=if ws.length=n then g ws ρ else none:=rfl
theorem vx (f:W->Rho->Option Rho)(g:List W->Rho->Option Rho)(w:W)(ws:List W)(ρ:Rho):n4 f g (w::ws) ρ=(f w ρ).bind (g ws):=rfl
theorem za (ρ:Rho):gsNil [] ρ=some ρ:=rfl
theorem uU (ws:List W):oG ws=if ws.length<=1000 then .ok (.tup ws) else .stuck:=rfl
theorem uV (ws:List W):oH ws=if ws.length<=1000 then .ok (.lst ws) else .stuck:=rfl
theorem zq (x:W)(T:String):fIsi [x,.ty T]=(toR ((tyW x).bind λA=>D9 A T)>>=λb=>.ok (.bl b)):=rfl
theorem De:D9 "NoneType" "tuple" = some false:=by decide
theorem Df:D9 "NoneType" "list" = some false:=by decide
theorem Di:D9 "list" "tuple" = some false:=by decide
theorem CW:D9 "tuple" "list" = some false:=by decide
theorem DU (n:Bool)(u:W):F1 n u .non=.ok (.bl (if n then !isN u else isN u)):=rfl
theorem uX {f:W->R (Option W)}{α:Type}(g:α->W) (s:α->W):∀(as:List α),(∀a∈as,f (s a)=.ok (some (g a)))->mapR f (as.map s)=.ok (as.map g):=by
 intro as
 induction as with
 |nil=>exact λ_=>rfl
 | cons a as ih=>
  intro h;rw[qC4,mapR,h a qB1,ih λb hb=>h b (qA7 _ hb)];rfl
theorem mn {f:W->R (Option W)}{α:Type}(g:α->W) (s:α->W) (c:α->Bool):∀(as:List α),(∀a∈as,f (s a)=.ok (if c a then some (g a) else none))->mapR f (as.map s)=.ok ((as.filter c).map g):=by
 intro as
 induction as with
 |nil=>exact λ_=>rfl
 | cons a as ih=>
  intro h;rw[qC4,mapR,h a qB1,ih λb hb=>h b (qA7 _ hb),List.filter_cons];cases c a <;> rfl
theorem m8 {N':Nat}{mg:W->Rho->Option Rho}{me:Rho->R W}{α:Type}(g:α->W) (s:α->W) (as:List α) (ρ:Rho) (hl:as.length<=1000)
  (h:∀a∈as,∃ρ1,mg (s a) (ρ++List.replicate (N'-ρ.length) Sl.un)=some ρ1/\me ρ1=.ok (g a)):l6 N' mg yes me (as.map s) ρ=.ok (.lst (as.map g)):=by
 unfold l6;rw[qA1,qA4 hl,uX g s as];intro a ha;obtain ⟨ρ1,e1,e2⟩:=h a ha;unfold elR;rw[e1];have hy:yes ρ1=.ok true:=rfl;dsimp only;rw[hy];dsimp only;rw[e2]
theorem K2 {N':Nat}{mg:W->Rho->Option Rho}{mc:Rho->R Bool}{me:Rho->R W}{α:Type}(g:α->W) (s:α->W) (c:α->Bool) (as:List α) (ρ:Rho) (hl:as.length<=1000)
  (h:∀a∈as,∃ρ1,mg (s a) (ρ++List.replicate (N'-ρ.length) Sl.un)=some ρ1/\mc ρ1=.ok (c a)/\(c a=true->me ρ1=.ok (g a))):l6 N' mg mc me (as.map s) ρ=.ok (.lst ((as.filter c).map g)):=by
 unfold l6;rw[qA1,qA4 hl,mn g s c as];intro a ha;obtain ⟨ρ1,e1,e2,e3⟩:=h a ha;unfold elR;rw[e1];dsimp only;rw[e2];cases hc:c a with
 |false=>rfl
 |true=>dsimp only;rw[e3 hc];rfl
theorem ul {z:Int}(h0:-1000000<=z) (h:z<=1000000):O3 0 z=.ok ((List.range z.toNat).map λk=>W.int (k:Nat)):=by
 unfold O3;rw[qA4 (by omega)];simp
theorem W1 {n i:Nat}{w:W}(h:((List.range n).map λk=>W.int (k:Nat))[i]?=some w):i<n/\w=.int (i:Nat):=by
 rw[qA8]at h;cases q:(List.range n)[i]? with
 |none=>rw[q]at h;cases h
 | some k=>
  rw[q]at h;obtain ⟨h1,h2⟩:=qB0.mp q;simp at h1 h2;subst h2;cases h;exact ⟨h1,rfl⟩
theorem kI {ns:List Int}{i:Nat}{w:W}(h:(ns.map W.int)[i]?=some w):i<ns.length/\w=.int (ns.getD i 0):=by
 rw[qA8]at h;cases q:ns[i]? with
 |none=>rw[q]at h;cases h
 | some k=>
  rw[q]at h;cases h;exact ⟨(qB0.mp q).1,by rw[zd q]⟩
def cR (xs:List Int)(lo hi:Option Int):List Int:=(xs.drop (HT.sIx xs.length 0 lo)).take (HT.sIx xs.length xs.length hi-HT.sIx xs.length 0 lo)
theorem Er (ns:List Int) (lo hi:Option Int):N4 (ns.map W.int) lo hi=(cR ns lo hi).map W.int:=by
 unfold N4 cR;rw[qA1,<- List.map_drop,<- List.map_take]
theorem AM (ns:List Int)(j:Nat) (z:Int):(ns.map W.int).set j (.int z)=(ns.set j z).map W.int:=by rw[List.map_set]
theorem Fb (ns:List Int) (z:Int):ns.map W.int ++ [.int z]=(ns ++ [z]).map W.int:=by rw[qC6];rfl
theorem Bt (k:Nat) (z:Int):(List.replicate k [W.int z]).flatten=(List.replicate k z).map W.int:=by
 induction k with
 |zero=>rfl
 |succ k ih=>rw[qF4,qI2,ih,qF4,qC4];rfl
theorem eM {α:Type}(as:List α)(f:α->Int):(as.map λa=>W.int (f a))=(as.map f).map W.int:=by rw[qC7];rfl
theorem t9 {n k:Nat}{f:Nat->Int}(h:k<n):((List.range n).map f).getD k 0=f k:=by
 rw[qA0,qA8];simp [h]
theorem P8 {a b:List Int}(h:b.length=a.length):(aL [a.map W.int,b.map W.int]).map W.tup=(List.range a.length).map λk=>W.tup [.int (a.getD k 0),.int (b.getD k 0)]:=by
 apply qI5;intro i;simp only [aL,qA8,qH7];by_cases hi:i<a.length
 ·rw[N5 hi,N5 (ns:=b) (by omega)];simp [hi]
 ·simp [hi]
theorem xb {a b c:List Int}(h:b.length=a.length) (h':c.length=a.length):(aL [a.map W.int,b.map W.int,c.map W.int]).map W.tup=(List.range a.length).map λk=>W.tup [.int (a.getD k 0),.int (b.getD k 0),.int (c.getD k 0)]:=by
 apply qI5;intro i;simp only [aL,qA8,qH7,List.zip];by_cases hi:i<a.length
 ·rw[N5 hi,N5 (ns:=b) (by omega),N5 (ns:=c) (by omega)];simp [hi]
 ·simp [hi]
theorem L9 (x y:W) (xs ys:List W) (hx:A3 x=.ok xs) (hy:A3 y=.ok ys):E6 [x,y]=.ok ((aL [xs,ys]).map W.tup):=by
 unfold E6;simp only [qC1,qL6,U6,hx,hy,Nat.reduceAdd,true_or,if_true]
theorem Ak (x y z:W) (xs ys zs:List W) (hx:A3 x=.ok xs) (hy:A3 y=.ok ys) (hz:A3 z=.ok zs):E6 [x,y,z]=.ok ((aL [xs,ys,zs]).map W.tup):=by
 unfold E6;simp only [qC1,qL6,U6,hx,hy,hz,Nat.reduceAdd,or_true,if_true]
theorem FS {i j:Int}(h:-18446744073709551616<i/\i<18446744073709551616):fI CMul p7 (.int i) (.int j)=.ok (.int (i*j)):=by
 show (if CMul i j then _ else _)=_;rw[qA4 (.inl (by simpa using h))]
theorem FR {i j:Int}(h:-18446744073709551616<j/\j<18446744073709551616):fI CMul p7 (.int i) (.int j)=.ok (.int (i*j)):=by
 show (if CMul i j then _ else _)=_;rw[qA4 (.inr (by simpa using h))]
theorem CJ {i j:Int}(h:0<j):fI j3 j4 (.int i) (.int j)=.ok (.int (i%j)):=by
 show (if j3 i j then _ else _)=_;rw[qA4 h]
theorem div_ii {i j:Int}(h:0<j/\j<1073741824):fI v9 x5 (.int i) (.int j)=.ok (.int (i/j)):=by
 show (if v9 i j then _ else _)=_;rw[qA4 (show v9 i j from h)]
theorem Ci {i j:Int}(h:0<=j/\j<=1000000 /\ -18446744073709551616<i/\i<18446744073709551616):fI bz lr (.int i) (.int j)=.ok (.int (i^j.toNat)):=by
 show (if bz i j then _ else _)=_;rw[qA4 ⟨h.1,h.2.1,by omega⟩]
theorem Fc {ws:List W}{w:W}{i:Nat}{ρ:Rho}(h:ws.length<1000):we (some (.own ws)) (.ok w) i ρ=.ok (.nx (ρ.set i (.own (ws ++ [w])))):=by rw[zZ,qA4 h]
theorem yF {ws:List W}(h:ws.length<=1000):oG ws=.ok (.tup ws):=by rw[uU,qA4 h]
theorem yG {ws:List W}(h:ws.length<=1000):oH ws=.ok (.lst ws):=by rw[uV,qA4 h]
theorem ly {c:Bool}{us vs:List W}(h:us.length+vs.length<=1000):hZ c (.lst us) (.lst vs)=chks c (us++vs):=by
 show (if us.length+vs.length<=1000 then _ else _)=_;rw[qA4 h]
theorem DQ {c:Bool}{z:W}{k:Int}(h:0<=k/\k<=1000):fRep c (.lst [z]) (.int k)=chks c (List.replicate k.toNat [z]).flatten:=by
 show (if [z].length*k.toNat<=1000 /\ -1000<=k/\k<=1000 then _ else _)=_;rw[qA4 ⟨by simp only [qC1,qL6];omega,by omega,h.2⟩]
theorem GH {ns:List Int}{i:Int}(h:0<=i/\i<ns.length):L2.atI (ns.map W.int) i=some (.int (ns.getD i.toNat 0)):=atW h.1 h.2
theorem FW {n:Nat}{i:Int}(h:0<=i/\i<n):ixN n i=some i.toNat:=aE h.1 h.2
theorem Bj {z:Int}(h:-1000000<=z/\z<=1000000):O3 0 z=.ok ((List.range z.toNat).map λk=>W.int (k:Nat)):=ul h.1 h.2
def Ok (r:R W)(P:W->Prop):Prop:=∃w,r=.ok w/\P w
def Po (r:R Fl) (Jn:Rho->Prop) (Jr:W->Prop):Prop:=match r with
 | .ok (.nx ρ)=>Jn ρ
 | .ok (.rt w)=>Jr w
 |_=>False
theorem n9 {r:R Fl}{P:W->Prop}(h:Po r (λ_=>P .non) P):Ok (w4 r) P:=by
 cases r with
 |ex _=>exact h.elim
 |stuck=>exact h.elim
 | ok f=>cases f with
  |nx ρ=>exact ⟨_,rfl,h⟩
  |rt w=>exact ⟨_,rfl,h⟩
  |bk _=>exact h.elim
  |ct _=>exact h.elim
theorem av {r:R Fl}{n:Rho->R Fl}{Jn:Rho->Prop}{Jr:W->Prop}(h:Po r (λρ=>Po (n ρ) Jn Jr) Jr):Po (andThen r n) Jn Jr:=by
 cases r with
 |ex _=>exact h.elim
 |stuck=>exact h.elim
 | ok f=>cases f with
  |nx ρ=>exact h
  |rt w=>exact h
  |bk _=>exact h.elim
  |ct _=>exact h.elim
theorem FE {ρ:Rho}{Jn:Rho->Prop}{Jr:W->Prop}:Po (.ok (.nx ρ)) Jn Jr=Jn ρ:=rfl
theorem FC {w:W}{Jn:Rho->Prop}{Jr:W->Prop}:Po (.ok (.rt w)) Jn Jr=Jr w:=rfl
theorem R4 {b:Bool}{m n:Rho->R Fl}{ρ:Rho}{Jn:Rho->Prop}{Jr:W->Prop}(h1:b=true->Po (m ρ) Jn Jr) (h2:b=false->Po (n ρ) Jn Jr):Po (ifS (.ok b) m n ρ) Jn Jr:=by
 cases b with
 |true=>exact h1 rfl
 |false=>exact h2 rfl
theorem W4 {b:Bool}{m n:Rho->R Fl}{ρ:Rho}{k:Rho->R Fl}{Jn:Rho->Prop}{Jr:W->Prop}(h1:b=true->Po (andThen (m ρ) k) Jn Jr) (h2:b=false->Po (andThen (n ρ) k) Jn Jr):Po (andThen (ifS (.ok b) m n ρ) k) Jn Jr:=by
 cases b with
 |true=>exact h1 rfl
 |false=>exact h2 rfl
theorem Po.mono {r:R Fl}{Jn Jn':Rho->Prop}{Jr Jr':W->Prop}(h:Po r Jn Jr) (h1:∀ρ,Jn ρ->Jn' ρ) (h2:∀w,Jr w->Jr' w):Po r Jn' Jr':=by
 cases r with
 |ex _=>exact h
 |stuck=>exact h
 | ok f=>cases f with
  |nx ρ=>exact h1 ρ h
  |rt w=>exact h2 w h
  |bk _=>exact h
  |ct _=>exact h
theorem qJ {mg:W->Rho->Option Rho}{mb:Rho->R Fl}{Jr:W->Prop}(I:Nat->Rho->Prop):∀(ws:List W) (k:Nat) (ρ:Rho),I k ρ ->
  (∀(i:Nat) (w:W) (ρ:Rho),ws[i]?=some w->I (k+i) ρ->∃ρ1,mg w ρ=some ρ1/\Po (mb ρ1) (I (k+i+1)) Jr)->Po (K1 mg mb ws ρ) (I (k+ws.length)) Jr:=by
 intro ws
 induction ws with
 |nil=>exact λk ρ h _=>h
 | cons w ws ih=>
  intro k ρ h st;obtain ⟨ρ1,e1,p⟩:=st 0 w ρ rfl h;unfold K1;rw[e1]
  show Po (mb ρ1>>=_) _ _
  revert p
  cases mb ρ1 with
  |ex _=>exact λp=>p.elim
  |stuck=>exact λp=>p.elim
  | ok f=>cases f with
   |bk _=>exact λp=>p.elim
   |ct _=>exact λp=>p.elim
   |rt w=>exact λp=>p
   | nx ρ2=>
    intro p
    have:=ih (k+1) ρ2 p λi w ρ hw hp=>by
     have:=st (i+1) w ρ hw (by rw[<- qF9 k i];exact hp)
     rw[<- qF9 k i]at this;exact this
    rw[qC1,<- qF9 k ws.length];exact this
theorem W5 {mg:W->Rho->Option Rho}{mb:Rho->R Fl}{ws:List W}{ρ:Rho}{Jn:Rho->Prop}{Jr:W->Prop}(I:Nat->Rho->Prop) (h0:I 0 ρ)
  (st:∀(i:Nat) (w:W) (ρ:Rho),ws[i]?=some w->I i ρ->∃ρ1,mg w ρ=some ρ1/\Po (mb ρ1) (I (i+1)) Jr) (hn:∀ρ,I ws.length ρ->Jn ρ):Po (K1 mg mb ws ρ) Jn Jr:=by
 have:=qJ (mg:=mg) (mb:=mb) (Jr:=Jr) I ws 0 ρ h0 λi w ρ hw hp=>by rw[Nat.zero_add]at hp ⊢;exact st i w ρ hw hp
 rw[Nat.zero_add]at this;exact this.mono hn λ_ h=>h
theorem p8 {mg:W->Rho->Option Rho}{mb n:Rho->R Fl}{ws:List W}{ρ:Rho}{Jn:Rho->Prop}{Jr:W->Prop}(I:Nat->Rho->Prop) (h0:I 0 ρ)
  (st:∀(i:Nat) (w:W) (ρ:Rho),ws[i]?=some w->I i ρ->∃ρ1,mg w ρ=some ρ1/\Po (mb ρ1) (I (i+1)) Jr) (hn:∀ρ,I ws.length ρ->Po (n ρ) Jn Jr):Po (andThen (K1 mg mb ws ρ) n) Jn Jr:=av (W5 I h0 st hn)
theorem eH {c:Rho->R Bool}{b:Rho->R Fl}{Jn:Rho->Prop}{Jr:W->Prop}(I:Nat->Rho->Prop)
  (st:∀m ρ,I m ρ->∃t,c ρ=.ok t/\if t=true then Po (b ρ) (λρ'=>∃m',m'<m/\I m' ρ') Jr else Jn ρ):∀(m:Nat) (ρ:Rho),I m ρ->Po (O8 c b ρ) Jn Jr:=by
 have key:∀(m:Nat) (ρ:Rho),I m ρ->∃r,J3 c b (m+1) ρ=some r/\Po r Jn Jr:=by
  intro m
  induction m using Nat.strongRecOn with
  | ind m ih=>
   intro ρ h;obtain ⟨t,e,q⟩:=st m ρ h;unfold J3;rw[e];cases t with
   |false=>rw[qA6 qA5]at q;exact ⟨_,rfl,q⟩
   | true=>
    rw[qA4 rfl]at q;dsimp only
    revert q
    cases b ρ with
    |ex _=>exact λq=>q.elim
    |stuck=>exact λq=>q.elim
    | ok f=>cases f with
     |bk _=>exact λq=>q.elim
     |ct _=>exact λq=>q.elim
     |rt w=>exact λq=>⟨_,rfl,q⟩
     | nx ρ'=>
      intro ⟨m',hm,h'⟩;obtain ⟨r,e',q'⟩:=ih m' hm ρ' h';exact ⟨r,bg (m'+1) ρ' r e' m (by omega),q'⟩
 intro m ρ h;obtain ⟨r,e,q⟩:=key m ρ h;rw[iM e];exact q
theorem mV {f:W->R (Option W)}{α:Type}(s:α->W) (p:α->Int->Prop):∀(as:List α),(∀a∈as,∃z,f (s a)=.ok (some (.int z))/\p a z)->∃zs:List Int,mapR f (as.map s)=.ok (zs.map W.int)/\Paired p as zs
 | [],_=>⟨[],rfl,.nil⟩
 | a::as,h=>by
  obtain ⟨z,e,hz⟩:=h a (by simp);obtain ⟨zs,e2,hp⟩:=mV s p as λb hb=>h b (by simp [hb]);refine ⟨z::zs,?_,.cons hz hp⟩;rw[qC4,mapR,e,e2];rfl
theorem oK {N':Nat}{mg:W->Rho->Option Rho}{me:Rho->R W}{α:Type}{as:List α}{s:α->W}{ρ:Rho}(p:α->Int->Prop) (hl:as.length<=1000)
  (h:∀a∈as,∃ρ1,mg (s a) (ρ++List.replicate (N'-ρ.length) Sl.un)=some ρ1/\Ok (me ρ1) λw=>∃z,w=.int z/\p a z):∃zs:List Int,l6 N' mg yes me (as.map s) ρ=.ok (lI zs)/\Paired p as zs:=by
 obtain ⟨zs,e,hp⟩:=mV (f:=elR mg yes me (ρ++List.replicate (N'-ρ.length) Sl.un)) s p as λa ha=>by
  obtain ⟨ρ1,e1,w,e2,z,rfl,hz⟩:=h a ha;refine ⟨z,?_,hz⟩;unfold elR;rw[e1];have hy:yes ρ1=.ok true:=rfl;dsimp only;rw[hy];dsimp only;rw[e2]
 refine ⟨zs,?_,hp⟩;unfold l6;rw[qA1,qA4 hl,e]
theorem jZ {n:Nat}{p:Nat->Int->Prop}{zs:List Int}(h:Paired p (List.range n) zs):zs.length=n/\∀k,k<n->p k (zs.getD k 0):=by
 have hl:(List.range n).length=zs.length:=Paired.length h;rw[qE8]at hl;refine ⟨hl.symm,λk hk=>?_⟩;have key:∀(l:List Nat) (zs:List Int) (k:Nat) (a:Nat),Paired p l zs->l[k]?=some a->p a (zs.getD k 0):=by
  intro l
  induction l with
  |nil=>intro zs k a _ e;simp at e
  | cons b l ih=>
   intro zs k a q e;cases q with
   | cons h1 h2=>
    cases k with
    |zero=>simp at e;subst e;exact h1
    |succ k=>simp at e;simpa using ih _ k a h2 e
 exact key _ zs k k h (by simp [hk])
def OkL (r:R (List W))(P:List W->Prop):Prop:=∃w,r=.ok w/\P w
theorem Cj {r:R W}{Jn:Rho->Prop}{Jr:W->Prop}(h:Ok r Jr):Po (r>>=eC) Jn Jr:=by
 obtain ⟨w,rfl,q⟩:=h;exact q
theorem qI {r:R W}{f:W->Sl}{i:Nat}{ρ:Rho}{Jn:Rho->Prop}{Jr:W->Prop}(h:Ok r λw=>Jn (ρ.set i (f w))):Po (il r f i ρ) Jn Jr:=by
 obtain ⟨w,rfl,q⟩:=h;exact q
theorem mL {r:R W}{f:W->Sl}{i:Nat}{ρ:Rho}{n:Rho->R Fl}{Jn:Rho->Prop}{Jr:W->Prop}(h:Ok r λw=>Po (n (ρ.set i (f w))) Jn Jr):Po (andThen (il r f i ρ) n) Jn Jr:=av (qI h)
theorem kA {r:R (List W)}{f:List W->R W}{P:W->Prop}(h:OkL r λw=>Ok (f w) P):Ok (r>>=f) P:=by
 obtain ⟨w,rfl,q⟩:=h;exact q
theorem wG {a:R W}{xs:List W}{P:List W->Prop}(h:Ok a λx=>P (x::xs)):OkL (fW a (.ok xs)) P:=by
 obtain ⟨w,rfl,q⟩:=h;exact ⟨_,rfl,q⟩
theorem gC {N':Nat}{mg:W->Rho->Option Rho}{me:Rho->R W}{α:Type}{as:List α}{s:α->W}{ρ:Rho}{P:W->Prop}(p:α->Int->Prop) (hl:as.length<=1000)
  (h:∀a∈as,∃ρ1,mg (s a) (ρ++List.replicate (N'-ρ.length) Sl.un)=some ρ1/\Ok (me ρ1) λw=>∃z,w=.int z/\p a z) (hp:∀zs,Paired p as zs->P (lI zs)):Ok (l6 N' mg yes me (as.map s) ρ) P:=by
 obtain ⟨zs,e,q⟩:=oK (mg:=mg) (me:=me) (ρ:=ρ) (N':=N') p hl h;exact ⟨_,e,hp zs q⟩
theorem uO {N':Nat}{mg:W->Rho->Option Rho}{me:Rho->R W}{α:Type}{as:List α}{s:α->W}{ρ:Rho}{P:W->Prop}{c:Bool}(p:α->Int->Prop) (hl:as.length<=1000)
  (h:∀a∈as,∃ρ1,mg (s a) (ρ++List.replicate (N'-ρ.length) Sl.un)=some ρ1/\Ok (me ρ1) λw=>∃z,w=.int z/\p a z) (hp:∀zs,Paired p as zs->P (tI zs)):Ok (fW (l6 N' mg yes me (as.map s) ρ) (.ok [])>>=A7 c) P:=
 kA (wG (gC p hl h λzs q=>⟨_,by rw[lw,sy],hp zs q⟩))
theorem cq {N' n:Nat}{mg:W->Rho->Option Rho}{me:Rho->R W}{ρ:Rho}{P:W->Prop}{c:Bool}(p:Nat->Int->Prop) (hl:n<=1000)
  (h:∀k,k<n->∃ρ1,mg (.int (k:Nat)) (ρ++List.replicate (N'-ρ.length) Sl.un)=some ρ1/\Ok (me ρ1) λw=>∃z,w=.int z/\p k z)
  (hp:∀zs:List Int,zs.length=n->(∀k,k<n->p k (zs.getD k 0))->P (tI zs)):Ok (fW (l6 N' mg yes me ((List.range n).map λk=>W.int (k:Nat)) ρ) (.ok [])>>=A7 c) P:=
 uO p (by simpa using hl) (λa ha=>h a (by simpa using ha)) λzs q=>let ⟨a,b⟩:=jZ q;hp zs a b
theorem vA (i j:Int):cI i j=max i j:=by unfold cI;omega
theorem vz (i j:Int):DH i j=min i j:=by unfold DH;omega
theorem mM {r:R W}{n:Rho->R Fl}{Jn:Rho->Prop}{Jr:W->Prop}(h:Ok r Jr):Po (andThen (r>>=eC) n) Jn Jr:=by
 obtain ⟨w,rfl,q⟩:=h;exact q
def oW:Option Int->W
 |none=>.non
 |some i=>.int i
theorem oW_n:oW none=.non:=rfl
theorem oW_s (i:Int):oW (some i)=.int i:=rfl
theorem qZ (o:Option Int):noL (oW o)=true:=by cases o <;> rfl
theorem Ey (o:Option Int):chk (oW o)=.ok (oW o):=v5 (qZ o)
theorem X1 {α:Type}(f:α->W) (h:∀a,noL (f a)=true) (as:List α):m5 (as.map f)=true:=by
 induction as with
 |nil=>rfl
 |cons a as ih=>rw[qC4];simp only [m5,h,ih,qL0]
theorem B3 (cs:List (Option Int)):m5 (cs.map oW)=true:=X1 oW qZ cs
theorem Ev (c:Bool)(cs:List (Option Int)):chks c (cs.map oW)=.ok (.lst (cs.map oW)):=dr (B3 cs)
theorem sx (c:Bool)(cs:List (Option Int)):X8 c (cs.map oW)=.ok (.tup (cs.map oW)):=du (B3 cs)
theorem Dr (o:Option Int):isN (oW o)=o.isNone:=by cases o <;> rfl
theorem ua (o:Option Int):R1 (oW o)=.val (oW o):=by cases o <;> rfl
theorem Y0 {α:Type}(f:α->W){as:List α}{d:α}{i:Int}(h:0<=i/\i<as.length):L2.atI (as.map f) i=some (f (as.getD i.toNat d)):=by
 unfold L2.atI;rw[qA1,aE h.1 h.2]
 show (as.map f)[i.toNat]?=_;have hi:i.toNat<as.length:=by omega
 rw[qA8,qA0];simp [hi]
theorem GJ {cs:List (Option Int)}{i:Int}(h:0<=i/\i<cs.length):L2.atI (cs.map oW) i=some (oW (cs.getD i.toNat none)):=Y0 oW h
theorem appO (cs:List (Option Int))(o:Option Int):cs.map oW ++ [oW o]=(cs ++ [o]).map oW:=by rw[qC6];rfl
theorem fY {α β:Type}(f:α->W) (g:β->W){a:List α}{b:List β}(h:b.length=a.length) (x:α) (y:β):(aL [a.map f,b.map g]).map W.tup=(List.range a.length).map λk=>W.tup [f (a.getD k x),g (b.getD k y)]:=by
 apply qI5;intro i;simp only [aL,qA8,qH7];by_cases hi:i<a.length
 ·have hb:i<b.length:=by omega
  simp [hi,hb]
 ·simp [hi]
theorem jU {n i:Nat}{f:Nat->W}{w:W}(h:((List.range n).map f)[i]?=some w):i<n/\w=f i:=by
 rw[qA8]at h;cases q:(List.range n)[i]? with
 |none=>rw[q]at h;cases h
 | some k=>
  rw[q]at h;obtain ⟨h1,h2⟩:=qB0.mp q;simp at h1 h2;subst h2;cases h;exact ⟨h1,rfl⟩
theorem O7 (ns:List Int):noL (tI ns)=true:=N8 ns
theorem fq (ss:List (List Int)):m5 (ss.map tI)=true:=X1 tI O7 ss
theorem Eu (c:Bool)(ss:List (List Int)):chks c (ss.map tI)=.ok (.lst (ss.map tI)):=dr (fq ss)
theorem EB (c:Bool)(ss:List (List Int)):X8 c (ss.map tI)=.ok (.tup (ss.map tI)):=du (fq ss)
theorem GI {ss:List (List Int)}{i:Int}(h:0<=i/\i<ss.length):L2.atI (ss.map tI) i=some (tI (ss.getD i.toNat [])):=Y0 tI h
theorem Fa (ss:List (List Int))(s:List Int):ss.map tI ++ [tI s]=(ss ++ [s]).map tI:=by rw[qC6];rfl
def vR {α:Type}(xs:List α)(lo hi:Option Int):List α:=(xs.drop (HT.sIx xs.length 0 lo)).take (HT.sIx xs.length xs.length hi-HT.sIx xs.length 0 lo)
theorem vQ {α:Type}(f:α->W) (as:List α) (lo hi:Option Int):N4 (as.map f) lo hi=(vR as lo hi).map f:=by
 unfold N4 vR;rw[qA1,<- List.map_drop,<- List.map_take]
theorem Ep (ss:List (List Int))(lo hi:Option Int):N4 (ss.map tI) lo hi=(vR ss lo hi).map tI:=vQ tI ss lo hi
theorem EC (ss ts:List (List Int)):ss.map tI++ts.map tI=(ss++ts).map tI:=by rw[qC6]
theorem ED (ss ts:List Int):ss.map W.int++ts.map W.int=(ss++ts).map W.int:=by rw[qC6]
theorem Bl {lo hi:Int}(h:-1000000<=lo/\lo<=1000000 /\ -1000000<=hi/\hi<=1000000):O3 lo hi=.ok ((List.range (hi-lo).toNat).map λk=>W.int (lo+(k:Nat))):=by
 unfold O3;rw[qA4 h]
theorem aR {α:Type}(f:α->W) (n:Nat) (h:∀a,shp n (f a)=true) (as:List α):T8 n (as.map f)=true:=by
 induction as with
 |nil=>rfl
 |cons a as ih=>rw[qC4];simp only [T8,h,ih,qL0]
theorem ao (n:Nat) (i:Int):shp n (.int i)=true:=by cases n <;> rfl
theorem qo (n:Nat)(b:Bool):shp n (.bl b)=true:=by cases n <;> rfl
theorem bU (n:Nat)(ns:List Int):shp (n+1) (tI ns)=true:=aR W.int n (ao n) ns
theorem jI (n:Nat)(ns:List Int):shp (n+1) (lI ns)=true:=aR W.int n (ao n) ns
theorem qm (n:Nat)(ss:List (List Int)):shp (n+2) (.lst (ss.map tI))=true:=aR tI (n+1) (bU n) ss
theorem eqI:∀(a b:List Int),PyData.eqvAll (pds (a.map W.int)) (pds (b.map W.int))=decide (a=b)
 | [],[]=>by simp [pds,PyData.eqvAll]
 | [],_::_=>by simp [pds,PyData.eqvAll]
 |_::_,[]=>by simp [pds,PyData.eqvAll]
 | x::a,y::b=>by
  simp only [qC4,pds,pd,PyData.eqvAll,PyData.eqv,eqI a b];by_cases h:x=y <;> by_cases h':a=b <;> simp [h,h']
theorem DZ (neg:Bool) (a b:List Int):fEq neg (tI a) (tI b)=.ok (.bl (if neg then !decide (a=b) else decide (a=b))):=by
 unfold fEq;rw[bU,bU]
 have:eqW (tI a) (tI b)=decide (a=b):=eqI a b
 rw[this];rfl
theorem Ed (neg:Bool) (a b:List Int):fEq neg (lI a) (lI b)=.ok (.bl (if neg then !decide (a=b) else decide (a=b))):=by
 unfold fEq;rw[jI,jI]
 have:eqW (lI a) (lI b)=decide (a=b):=eqI a b
 rw[this];rfl
theorem Ek:∀(a b:List (List Int)),PyData.eqvAll (pds (a.map tI)) (pds (b.map tI))=decide (a=b)
 | [],[]=>by simp [pds,PyData.eqvAll]
 | [],_::_=>by simp [pds,PyData.eqvAll]
 |_::_,[]=>by simp [pds,PyData.eqvAll]
 | x::a,y::b=>by
  simp only [qC4,pds,pd,PyData.eqvAll,PyData.eqv,Ek a b,eqI];by_cases h:x=y <;> by_cases h':a=b <;> simp [h,h']
theorem Ec (neg:Bool) (a b:List (List Int)):fEq neg (.lst (a.map tI)) (.lst (b.map tI))=.ok (.bl (if neg then !decide (a=b) else decide (a=b))):=by
 unfold fEq;rw[qm,qm]
 have:eqW (.lst (a.map tI)) (.lst (b.map tI))=decide (a=b):=Ek a b
 rw[this];rfl
theorem lx (neg:Bool) (i j:Int):fEq neg (.int i) (.int j)=.ok (.bl (if neg then !decide (i=j) else decide (i=j))):=by
 unfold fEq;rw[ao,ao]
 have:eqW (.int i) (.int j)=decide (i=j):=by
  by_cases h:i=j <;> simp [eqW,pd,PyData.eqv,h]
 rw[this];rfl
theorem Eg (neg:Bool) (i j:Bool):fEq neg (.bl i) (.bl j)=.ok (.bl (if neg then !decide (i=j) else decide (i=j))):=by
 unfold fEq;rw[qo,qo]
 have:eqW (.bl i) (.bl j)=decide (i=j):=by cases i <;> cases j <;> rfl
 rw[this];rfl
theorem rS (neg:Bool) (j:Int):fEq neg .non (.int j)=.ok (.bl neg):=by cases neg <;> rfl
theorem rT (neg:Bool) (j:Int):fEq neg (.int j) .non=.ok (.bl neg):=by cases neg <;> rfl
theorem Eb (neg:Bool):fEq neg .non .non=.ok (.bl (!neg)):=by cases neg <;> rfl
theorem vL (g:List Bool->Bool) (bs:List Bool):lA g [.lst (bs.map W.bl)]=.ok (.bl (g bs)):=by
 show (toR (X9 (bs.map W.bl))>>=_)=_;rw[zU];rfl
theorem zr (g:List Int->Int) (ns:List Int):Gf g [.lst (ns.map W.int)]=.ok (.int (g ns)):=by
 show (toR (z8 (ns.map W.int))>>=_)=_;rw[ints_map];rfl
theorem DW (i:Int):fInt [.int i]=.ok (.int i):=rfl
theorem DX (b:Bool):fInt [.bl b]=.ok (.int (if b then 1 else 0)):=rfl
theorem Eh (i:Int):fAbs [.int i]=.ok (.int (if i<0 then -i else i)):=rfl
def Ej (o:Option Sl) (r:R W) (c:Bool) (i:Nat) (ρ:Rho):R Fl:=match o with
 | some (.own ws)=>r>>=λw=>(match w with
  | .lst us=>if ws.length+us.length<=1000 then (if c||m5 us then .ok (.nx (ρ.set i (.own (ws++us)))) else .stuck) else .stuck
  |_=>.stuck)
 |_=>.stuck
theorem yM (i:Nat)(c:Bool)(m:Rho->R W)(ρ:Rho):kY i c m ρ=Ej (ρ[i]?) (m ρ) c i ρ:=rfl
theorem Ei {ws us:List W}{c:Bool}{i:Nat}{ρ:Rho}(h:ws.length+us.length<=1000):Ej (some (.own ws)) (.ok (.lst us)) c i ρ=if c||m5 us then .ok (.nx (ρ.set i (.own (ws++us)))) else .stuck:=by
 show (if ws.length+us.length<=1000 then _ else _)=_;rw[qA4 h]
def Bs (o:Option Sl) (i:Nat) (ρ:Rho):R Fl:=match o with
 |some (.own ws)=>.ok (.nx (ρ.set i (.own ws.reverse)))
 |_=>.stuck
theorem yL (i:Nat)(ρ:Rho):gJ i ρ=Bs (ρ[i]?) i ρ:=rfl
theorem xC (ws:List W)(i:Nat)(ρ:Rho):Bs (some (.own ws)) i ρ=.ok (.nx (ρ.set i (.own ws.reverse))):=rfl
theorem W6 {r:R Fl}{n:Rho->R Fl}{Jn:Rho->Prop}{Jr:W->Prop}(J:Rho->Prop)(h1:Po r J Jr)(h2:∀ρ,J ρ->Po (n ρ) Jn Jr):Po (andThen r n) Jn Jr:=av (h1.mono h2 λ_ h=>h)
theorem zg (i j:Int):x6 i j=.int (i+j):=rfl
theorem ze (i j:Int):TP.gSub i j=.int (i-j):=rfl
theorem DI (i j:Int):gLt i j=.bl (decide (i<j)):=rfl
theorem DJ (i j:Int):gLe i j=.bl (decide (i<=j)):=rfl
theorem DK (i j:Int):gGt i j=.bl (decide (j<i)):=rfl
theorem DL (i j:Int):gGe i j=.bl (decide (j<=i)):=rfl
theorem zf (i:Int):M8 i=.int (-i):=rfl
theorem vC (i j:Int):wN i j=i+j:=rfl
theorem vy (i j:Int):FY i j=i-j:=rfl
theorem DP {i:Int}(h:0<=i/\i<1000):fStr [.int i]=.ok (.str (toString i)):=by
 show (if i.natAbs.log2<1920 then _ else _)=_;rw[qA4];refine qG0 (Nat.log2_le_self _) ?_;omega
theorem DV (neg:Bool)(u:W)(b:Bool):fIsB neg u (.bl b)=.ok (.bl (if neg then !af u b else af u b)):=rfl
theorem Dw (i:Int)(b:Bool):af (.int i) b=false:=rfl
theorem Du (b:Bool):af .non b=false:=rfl
theorem Dt (x:Str)(b:Bool):af (.str x) b=false:=rfl
theorem Ds (x:List W)(b:Bool):af (.tup x) b=false:=rfl
theorem Dv (x:List W)(b:Bool):af (.lst x) b=false:=rfl
theorem Dx (a b:Bool):af (.bl a) b=(a == b):=rfl
def Rcu (c:Bool)(r:R (List W))(f:List W->R W)(i:Nat)(ρ:Rho):R Fl:=if c then (r>>=λws=>f ws>>=λw=>.ok (.nx (ρ.set i (.par w)))) else .stuck
theorem AY (i:Nat)(f:List W->R W)(ma:Rho->R (List W))(ρ:Rho):sCU i f ma ρ=Rcu (noOwn ρ) (ma ρ) f i ρ:=rfl
def Fg (r:R W)(i:Nat)(ρ:Rho):R Fl:=r>>=λw=>.ok (.nx (ρ.set i (.par w)))
theorem GN (ws:List W)(f:List W->R W)(i:Nat)(ρ:Rho):Rcu true (.ok ws) f i ρ=Fg (f ws) i ρ:=rfl
theorem Ai (w:W)(i:Nat)(ρ:Rho):Fg (.ok w) i ρ=.ok (.nx (ρ.set i (.par w))):=rfl
theorem qX:noOwn []=true:=rfl
theorem yo (w:W)(ρ:Rho):noOwn (.val w::ρ)=noOwn ρ:=rfl
theorem yt (w:W)(ρ:Rho):noOwn (.par w::ρ)=noOwn ρ:=rfl
theorem yq (ρ:Rho):noOwn (.un::ρ)=noOwn ρ:=rfl
theorem nB {g:List Int->Int}{ns:List Int}(h:0<ns.length):Z5 g [tI ns]=.ok (.int (g ns)):=by
 show (toR (z8 (ns.map W.int))>>=_)=_;rw[ints_map]
 show (if 0<ns.length then _ else _)=_;rw[qA4 h]
theorem nC {g:List Int->Int}{ns:List Int}(h:0<ns.length):Z5 g [lI ns]=.ok (.int (g ns)):=by
 show (toR (z8 (ns.map W.int))>>=_)=_;rw[ints_map]
 show (if 0<ns.length then _ else _)=_;rw[qA4 h]
theorem Br (ws:List W):bZ [.lst ws]=.ok ws.reverse:=rfl
def rp0:=Z1 (@vA) (Z1 (@vz) (Z1 (@FE) (Z1 (@FC) (Z1 (@FS) (Z1 (@FR) (Z1 (@CJ) (Z1 (@div_ii) (Z1 (@Ci) (Z1 (@Fc) (Z1 (@yF) (Z1 (@yG) (Z1 (@ly) (Z1 (@DQ) (Z1 (@GH) (Z1 (@FW) (Z1 (@Bj) (Z1 (@Er) (Z1 (@AM) (Z1 (@Fb) (Z1 (@Bt) (Z1 (@yK) (Z1 (@px) (Z1 (@pw) (@pB))))))))))))))))))))))))
def rp1:=Z1 (@pA) (Z1 (@FT) (Z1 (@GG) (Z1 (@GF) (Z1 (@Fj) (Z1 (@GE) (Z1 (@GD) (Z1 (@GC) (Z1 (@GL) (Z1 (@GM) (Z1 (@wg) (Z1 (@zX) (Z1 (@wd) (Z1 (@xm) (Z1 (@AB) (Z1 (@xl) (Z1 (@xN) (Z1 (@xO) (Z1 (@xM) (Z1 (@BK) (Z1 (@BJ) (Z1 (@BL) (Z1 (@xI) (Z1 (@xh) (@Ap))))))))))))))))))))))))
def rp2:=Z1 (@xf) (Z1 (@uD) (Z1 (@uE) (Z1 (@uC) (Z1 (@xG) (Z1 (@xF) (Z1 (@xH) (Z1 (@uA) (Z1 (@Aq) (Z1 (@xJ) (Z1 (@xL) (Z1 (@xK) (Z1 (@pO) (Z1 (@tf) (Z1 (@xc) (Z1 (@xg) (Z1 (@FM) (Z1 (@FL) (Z1 (@qM) (Z1 (@Ao) (Z1 (@Af) (Z1 (@Ae) (Z1 (@tF) (Z1 (@wj) (@AV))))))))))))))))))))))))
def rp3:=Z1 (@AZ) (Z1 (@AW) (Z1 (@uh) (Z1 (@wf) (Z1 (@xv) (Z1 (@xD) (Z1 (@ug) (Z1 (@Fq) (Z1 (@Fs) (Z1 (@Fv) (Z1 (@Ag) (Z1 (@qj) (Z1 (@qg) (Z1 (@qk) (Z1 (@uc) (Z1 (@qi) (Z1 (@qh) (Z1 (@Fu) (Z1 (@Aj) (Z1 (@pW) (Z1 (@xx) (Z1 (@Ah) (Z1 (@xw) (Z1 (@DN) (@vG))))))))))))))))))))))))
def rp4:=Z1 (@vD) (Z1 (@vE) (Z1 (@zh) (Z1 (@gI) (Z1 (@Bw) (Z1 (@Bu) (Z1 (@Bv) (Z1 (@Bx) (Z1 (@By) (Z1 (@BB) (Z1 (@Bz) (Z1 (@BA) (Z1 (@BC) (Z1 (@BD) (Z1 (@BE) (Z1 (@BF) (Z1 (@oJ) (Z1 (@ur) (Z1 (@uo) (Z1 (@uq) (Z1 (@yO) (Z1 (@yJ) (Z1 (@xt) (Z1 (@qp) (@yN))))))))))))))))))))))))
def rp5:=Z1 (@zY) (Z1 (@CK) (Z1 (@DC) (Z1 (@DD) ((((((Z1 (@zE) (Z1 (@zF) (Z1 (@DY) (Z1 (@fU_i) (Z1 (@Ge) (Z1 (@Gb) (Z1 (@Gc) (Z1 (@tO) (Z1 (@Ax) (Z1 (@DT) (Z1 (@DR) (Z1 (@DS) (Z1 (@zp) (Z1 (@zo) (Z1 (@lw) (@DO))))))))))))))))))))))))
def rp6:=Z1 (@Et) (Z1 (@EA) (Z1 (@Ew) (Z1 (@sy) (Z1 (@zM) (Z1 (@Ez) (Z1 (@zK) (Z1 (@zL) (Z1 (@Ex) (Z1 (@Gg) (Z1 (@AS) (Z1 (@AQ) (Z1 (@AR) (Z1 (@Bo) (Z1 (@Bm) (Z1 (@gN_U) (Z1 (@gN_V) (Z1 (@gT_t) (Z1 (@vx) (Z1 (@za) (Z1 (@zq) (Z1 (@De) (Z1 (@Df) (Z1 (@Di) (@CW))))))))))))))))))))))))
def rp7:=Z1 (@DU) (Z1 (@N8) (Z1 (@zy) (Z1 (@zz) (Z1 (@zt) (Z1 (@zu) (Z1 (@zw) (@zx)))))))
def rp8:=Z1 (@oW_n) (Z1 (@oW_s) (Z1 (@Ey) (Z1 (@B3) (Z1 (@Ev) (Z1 (@sx) (Z1 (@Dr) (Z1 (@ua) (Z1 (@GJ) (@appO)))))))))
def rp9:=Z1 (@fq) (Z1 (@Eu) (Z1 (@EB) (Z1 (@GI) (Z1 (@Fa) (Z1 (@Ep) (Z1 (@EC) (Z1 (@ED) (Z1 (@Bl) (Z1 (@DZ) (Z1 (@Ed) (Z1 (@Ec) (Z1 (@lx) (Z1 (@Eg) (Z1 (@rS) (Z1 (@rT) (Z1 (@Eb) ((Z1 (@vL) (Z1 (@zr) (Z1 (@DW) (Z1 (@DX) (Z1 (@Eh) (Z1 (@yM) (Z1 (@Ei) (Z1 (@yL) (@xC))))))))))))))))))))))))))
def rp10:=Z1 (@zg) (Z1 (@ze) (Z1 (@DI) (Z1 (@DJ) (Z1 (@DK) (Z1 (@DL) (Z1 (@zf) (Z1 (@vC) (@vy))))))))
def rp11:=Z1 (@DP) (Z1 (@DV) (Z1 (@Dw) (Z1 (@Du) (Z1 (@Dt) (Z1 (@Ds) (Z1 (@Dv) (@Dx)))))))
def rp12:=Z1 (@AY) (Z1 (@GN) (Z1 (@Ai) (Z1 (@qX) (Z1 (@yo) (Z1 (@yt) (@yq))))))
def rp13:=Z1 (@nB) (Z1 (@nC) (@Br))
end TP
set_option maxHeartbeats 4000000
open PySem L2 TP
namespace K94
def kT:Rho->R Fl:=
 (d3 (x3 (bI E6 (aC (b7 .U 0) (aC (b7 .U 1) aN))) (gT 2 (n4 (gN .U 2) (n4 (gN .U 3) gsNil)))
   (mIf (e9 (b2 (fI0 gLt) (b7 .B 2) (b7 .B 3))) (i6 (mC (.bl false))) sNx))
  (i6 (mC (.bl true))))
abbrev N3:List W->R W:=f9 2 4 kT
def rA:Rho->R Fl:=
 (i6 (bA N3 (aC (b7 .B 0) (aC (b2 fIx (b7 .B 1) (mC (.int 0))) aN))))
abbrev fH:List W->R W:=f9 2 2 rA
def eN:Rho->R Fl:=
 (i6 (bA (A7 true) (aC (n5 3 (bI E6 (aC (b2 fIx (b7 .B 0) (mC (.int 0))) (aC (b2 fIx (b7 .B 0) (mC (.int 1))) aN))) (gT 2 (n4 (gN .U 1) (n4 (gN .U 2) gsNil))) yes (b2 (fI0 gSub) (b7 .B 2) (b7 .B 1))) aN)))
abbrev Q4:List W->R W:=f9 1 1 eN
def ng:Rho->R Fl:=
 (d3 (mIf (C6 (e9 (bA fH (aC (b7 .B 0) (aC (b7 .B 1) aN))))) fb sNx)
  (i6 (bA (A7 true) (aC (n5 4 (bI E6 (aC (b7 .B 0) (aC (bA Q4 (aC (b7 .B 1) aN)) aN))) (gT 2 (n4 (gN .U 2) (n4 (gN .U 3) gsNil))) yes (b2 (fI0 x6) (b7 .B 2) (b7 .B 3))) aN))))
abbrev aF:List W->R W:=f9 2 2 ng
def kN:Rho->R Fl:=
 (d3 (x3 (bS (b7 .U 1)) (gN .U 2)
   (mIf (e9 (bA N3 (aC (b7 .B 0) (aC (b7 .B 2) aN)))) (i6 (mC (.bl true))) sNx))
  (i6 (mC (.bl false))))
abbrev N1:List W->R W:=f9 2 3 kN
def mY:Rho->R Fl:=
 (d3 (sF 1 (A1 aN))
  (d3 (x3 (bS (bA fSort (aC (b7 .B 0) aN))) (gN .U 2)
   (mIf (C6 (e9 (bA N1 (aC (b7 .B 2) (aC (b7 .B 1) aN))))) (M7 1 (b7 .V 2)) sNx))
  (r6 .F 1)))
abbrev di:List W->R W:=f9 1 3 mY
def kL:Rho->R Fl:=
 (i6 (bA (A7 true) (aC (n5 5 (bI E6 (aC (b7 .B 0) (aC (b2 fIx (b7 .B 1) (mC (.int 0))) (aC (b2 fIx (b7 .B 1) (mC (.int 1))) aN)))) (gT 3 (n4 (gN .U 2) (n4 (gN .U 3) (n4 (gN .U 4) gsNil)))) yes (bA (f2 cI) (aC (b7 .B 3) (aC (b2 (fI0 x6) (b2 (fI0 gSub) (b7 .B 2) (b7 .B 4)) (b7 .B 3)) aN)))) aN)))
abbrev bj:List W->R W:=f9 2 2 kL
def iJ:Rho->R Fl:=
 (d3 (sF 2 (A1 aN))
  (d3 (x3 (bS (b7 .U 0)) (gN .U 3)
   (kY 2 true (n5 5 (bS (b7 .B 1)) (gN .U 4) yes (bA bj (aC (b7 .B 4) (aC (b7 .B 3) aN))))))
  (r6 .F 2)))
abbrev T6:List W->R W:=f9 2 4 iJ
def dH:Rho->R Fl:=
 (i6 (bA di (aC (b2 (hZ true) (bA (fK false) (aC (b7 .B 1) aN)) (bA T6 (aC (b7 .B 0) (aC (b7 .B 1) aN)))) aN)))
abbrev R8:List W->R W:=f9 2 2 dH
def iL:Rho->R Fl:=
 (i6 (bA (lA vB) (aC (n5 3 (bS (bA T6 (aC (b7 .B 0) (aC (b7 .B 1) aN)))) (gN .U 2) yes (bA N1 (aC (b7 .B 2) (aC (b7 .B 1) aN)))) aN)))
abbrev cJ:List W->R W:=f9 2 2 iL
def cz:Rho->R Fl:=
 (i6 (bA (A7 true) (aC (n5 4 (bI E6 (aC (b7 .B 0) (aC (b7 .B 1) aN))) (gT 2 (n4 (gN .U 2) (n4 (gN .U 3) gsNil))) yes (bA (f2 cI) (aC (b7 .B 2) (aC (b7 .B 3) aN)))) aN)))
abbrev P5:List W->R W:=f9 2 2 cz
def kR:Rho->R Fl:=
 (d3 (sV 4 (b2 fIx (b7 .C 1) (b1 (fU M8) (mC (.int 1)))))
  (d3 (sV 5 (b2 (fI0 gSub) (bA fLen (aC (b7 .B 1) aN)) (mC (.int 1))))
  (d3 (mIf (e9 (b2 (fI0 gGt) (bA fLen (aC (b7 .B 4) aN)) (b7 .B 2))) (i6 (L5 (aC (mC (.str "open")) (aC (b7 .V 5) aN)))) sNx)
  (d3 (mIf (e9 (bA cJ (aC (b7 .B 0) (aC (b7 .B 4) aN)))) (i6 (L5 (aC (b7 .V 3) (aC (b7 .V 4) aN)))) sNx)
  (d3 (mIf (e9 (b2 (fEq false) (b7 .B 5) (b7 .B 2))) (i6 (L5 (aC (mC (.str "open")) (aC (b7 .V 5) aN)))) sNx)
  (i6 (mC .non)))))))
abbrev bo:List W->R W:=M6 4 6 kR
def cy:Rho->R Fl:=
 (i6 (n5 5 (bI bp (aC (b7 .B 1) aN)) (gT 2 (n4 (gN .U 3) (n4 (gN .U 4) gsNil))) (Q9 (e9 (bA fH (aC (b7 .B 0) (aC (b7 .B 4) aN)))) (e9 (bA N1 (aC (bA aF (aC (b7 .B 0) (aC (b7 .B 4) aN))) (aC (b7 .B 2) aN))))) (b7 .V 3)))
abbrev X5:List W->R W:=f9 3 3 cy
def cx:Rho->R Fl:=
 (d3 (sF 2 (A1 aN))
  (d3 (sV 3 (b2 fIx (b7 .C 0) (mC (.int 0))))
  (d3 (x3 (bI bZ (aC (vSl true (b7 .C 1) pN (pS (b1 (fU M8) (mC (.int 1))))) aN)) (gN .U 4)
   (d3 (sV 5 (b2 fIx (bA X5 (aC (b7 .B 3) (aC (b2 fIx (b7 .B 0) (mC (.int 1))) (aC (b7 .B 4) aN)))) (mC (.int 0))))
   (d3 (M7 2 (b7 .V 5))
   (sF 3 (bA aF (aC (b7 .B 3) (aC (b2 fIx (b2 fIx (b7 .B 0) (mC (.int 1))) (b7 .B 5)) aN)))))))
  (r6 .V 2))))
abbrev P3:List W->R W:=M6 2 6 cx
def mZ:Rho->R Fl:=
 (d3 (sF 3 (A1 (aC (A1 (aC (b7 .V 1) aN)) aN)))
  (d3 (O8 (C6 (e9 (bA N1 (aC (b2 fIx (b7 .B 0) (mC (.int 0))) (aC (b2 fIx (b7 .B 3) (b1 (fU M8) (mC (.int 1)))) aN))))) (d3 (sCX 4 [3] bo (aC (U5 (b2 fIx (b7 .B 0) (mC (.int 1)))) (aC (b7 .V 3) (aC (b7 .V 2) (aC (mC (.str "wall")) aN)))))
   (d3 (mIf (e9 (b2 (F1 true) (b7 .B 4) (mC .non))) (r6 .V 4) sNx)
   (M7 3 (bA R8 (aC (b2 fIx (b7 .B 0) (mC (.int 1))) (aC (b2 fIx (b7 .B 3) (b1 (fU M8) (mC (.int 1)))) aN)))))))
  (gi 3 (i6 (L5 (aC (mC (.str "row")) (aC (bA P3 (aC (b7 .V 0) (aC (b7 .V 3) aN))) aN)))))))
abbrev hV:List W->R W:=f9 3 5 mZ
def mX:Rho->R Fl:=
 (d3 (x3 (bI E6 (aC (b7 .U 0) (aC (b7 .U 1) aN))) (gT 2 (n4 (gN .U 2) (n4 (gN .U 3) gsNil)))
   (mIf (Q9 (e9 (b2 (F1 true) (b7 .B 3) (mC .non))) (fZ (e9 (b2 (F1 false) (b7 .B 2) (mC .non))) (e9 (b2 (fI0 gGt) (b7 .B 2) (b7 .B 3))))) (i6 (mC (.bl false))) sNx))
  (i6 (mC (.bl true))))
abbrev V3:List W->R W:=f9 2 4 mX
def dF:Rho->R Fl:=
 (d3 (x3 (bS (b7 .U 1)) (gN .U 2)
   (mIf (e9 (bA V3 (aC (b7 .B 0) (aC (b7 .B 2) aN)))) (i6 (mC (.bl true))) sNx))
  (i6 (mC (.bl false))))
abbrev M1:List W->R W:=f9 2 3 dF
def fy:Rho->R Fl:=
 (i6 (bA V3 (aC (b2 fIx (b7 .B 1) (mC (.int 0))) (aC (b7 .B 0) aN))))
abbrev V1:List W->R W:=f9 2 2 fy
def dI:Rho->R Fl:=
 (d3 (mIf (C6 (e9 (bA V1 (aC (b7 .B 0) (aC (b7 .B 1) aN))))) fb sNx)
  (i6 (bA (A7 true) (aC (n5 4 (bI E6 (aC (b7 .B 0) (aC (bA Q4 (aC (b7 .B 1) aN)) aN))) (gT 2 (n4 (gN .U 2) (n4 (gN .U 3) gsNil))) yes (vIf (e9 (b2 (F1 false) (b7 .B 2) (mC .non))) (mC .non) (b2 (fI0 x6) (b7 .B 2) (b7 .B 3)))) aN))))
abbrev R9:List W->R W:=f9 2 2 dI
def kM:Rho->R Fl:=
 (d3 (mIf (C6 (e9 (bA V3 (aC (b7 .B 1) (aC (b7 .B 0) aN))))) (r6 .F 0) sNx)
  (i6 (bA (A7 true) (aC (n5 4 (bI E6 (aC (b7 .B 0) (aC (b7 .B 1) aN))) (gT 2 (n4 (gN .U 2) (n4 (gN .U 3) gsNil))) yes (vIf (e9 (b2 (fEq false) (b7 .B 2) (b7 .B 3))) (b7 .V 2) (mC .non))) aN))))
abbrev X4:List W->R W:=f9 2 2 kM
def fw:Rho->R Fl:=
 (i6 (bA (A7 true) (aC (n5 2 (bS (b7 .B 0)) (gN .U 1) yes (vIf (e9 (b2 (F1 false) (b7 .B 1) (mC .non))) (L5 (aC (mC (.int 1)) (aC (mC (.int 0)) aN))) (L5 (aC (mC (.int 0)) (aC (b7 .V 1) aN))))) aN)))
abbrev L4:List W->R W:=f9 1 1 fw
def rp:Rho->R Fl:=
 (d3 (sF 1 (A1 aN))
  (d3 (x3 (bS (bA (cK false L4) (aC (b7 .B 0) aN))) (gN .U 2)
   (mIf (C6 (e9 (bA M1 (aC (b7 .B 2) (aC (b7 .B 1) aN))))) (M7 1 (b7 .V 2)) sNx))
  (d3 (gJ 1)
  (r6 .F 1))))
abbrev lu:List W->R W:=f9 1 3 rp
def fu:Rho->R Fl:=
 (d3 (sF 2 (A1 aN))
  (d3 (sV 3 (b7 .V 1))
  (d3 (O8 (e9 (b2 (F1 true) (b7 .B 3) (mC .non))) (d3 (M7 2 (b7 .V 3))
   (sU 3 (b2 fIx (b2 fIx (b7 .B 0) (b7 .B 3)) (mC (.int 1))))))
  (r6 .F 2))))
abbrev A6:List W->R W:=f9 2 4 fu
def S9 (p:Addr):Rho->R Fl:=
 (d3 (nb (sU 4 (b2 fIx (b2 fIx (b7 .B 0) (mC (.int 1))) (b7 .B 3))))
  (d3 (mIf (C6 (e9 (bA V1 (aC (b2 fIx (b2 fIx (b7 .B 1) (b7 .B 2)) (mC (.int 0))) (aC (b7 .B 4) aN))))) nZ (nb sNx))
  (d3 (nb (sF 5 (bA R9 (aC (b2 fIx (b2 fIx (b7 .B 1) (b7 .B 2)) (mC (.int 0))) (aC (b7 .B 4) aN)))))
  (d3 (nb (x3 (bS (bA A6 (aC (b7 .B 1) (aC (b7 .B 2) aN)))) (gN .U 6)
   (sF 5 (bA X4 (aC (b7 .B 5) (aC (b2 fIx (b2 fIx (b7 .B 1) (b7 .B 6)) (mC (.int 0))) aN))))))
  (mIf (C6 (e9 (bA M1 (aC (b7 .B 5) (aC (n5 8 (bS (b7 .B 1)) (gN .U 7) yes (U5 (b2 fIx (b7 .B 7) (mC (.int 0))))) aN))))) (dg p 1 (L5 (aC (b7 .V 5) (aC (b7 .V 2) (aC (b7 .V 3) aN))))) (nb sNx))))))
abbrev fG:W->List W->List W->R (List W):=F6 4 7 S9
def kQ:Rho->R Fl:=
 (d3 (sF 2 (A1 (aC (L5 (aC (U5 (b2 fIx (b7 .B 0) (mC (.int 0)))) (aC (mC .non) (aC (mC .non) aN)))) aN)))
  (d3 (sV 3 (mC (.int 0)))
  (d3 (O8 (e9 (b2 (fI0 gLt) (b7 .B 3) (bA fLen (aC (b7 .B 2) aN)))) (d3 (x3 (bI E8 (aC (bA fLen (aC (b2 fIx (b7 .B 0) (mC (.int 1))) aN)) aN)) (gN .U 4)
    (mIO 2 fG (b7 .B 0) (aC (b7 .B 3) (aC (b7 .B 4) aN))))
   (d3 (mIf (e9 (b2 (fI0 gGt) (bA fLen (aC (b7 .B 2) aN)) (b7 .B 1))) (i6 (mC .non)) sNx)
   (kZ 3 wN (mC (.int 1))))))
  (r6 .F 2))))
abbrev N2:List W->R W:=f9 2 5 kQ
def gG:Rho->R Fl:=
 (d3 (sF 2 (bA N2 (aC (b7 .B 0) (aC (b7 .B 1) aN))))
  (d3 (mIf (e9 (b2 (F1 false) (b7 .B 2) (mC .non))) (i6 (mC .non)) sNx)
  (i6 (bA lu (aC (n5 4 (bS (b7 .B 2)) (gN .U 3) yes (U5 (b2 fIx (b7 .B 3) (mC (.int 0))))) aN)))))
abbrev dj:List W->R W:=f9 2 3 gG
def iK:Rho->R Fl:=
 (i6 (b2 fRepT (L5 (aC (mC (.int 0)) aN)) (bA fLen (aC (b2 fIx (b7 .B 0) (mC (.int 0))) aN))))
abbrev Z4:List W->R W:=f9 1 1 iK
def kP:Rho->R Fl:=
 (d3 (sF 2 (bA Z4 (aC (b7 .B 0) aN)))
  (d3 (x3 (bI bZ (aC (b7 .U 1) aN)) (gN .U 3)
   (sF 2 (bA bj (aC (b7 .B 2) (aC (b2 fIx (b2 fIx (b7 .B 0) (mC (.int 1))) (b7 .B 3)) aN)))))
  (r6 .F 2)))
abbrev Q3:List W->R W:=f9 2 4 kP
def cv:Rho->R Fl:=
 (i6 (bA (A7 true) (aC (n5 5 (bI E6 (aC (b7 .B 0) (aC (b7 .B 1) aN))) (gT 2 (n4 (gN .U 3) (n4 (gN .U 4) gsNil))) yes (b2 (fI0 x6) (b7 .B 3) (b2 (fI CMulB p7) (b7 .B 2) (b7 .B 4)))) aN)))
abbrev E5:List W->R W:=f9 3 3 cv
def kJ:Rho->R Fl:=
 (d3 (sF 2 (bA Z4 (aC (b7 .B 0) aN)))
  (d3 (x3 (bS (b7 .U 1)) (gN .U 3)
   (sF 2 (bA E5 (aC (b7 .B 2) (aC (bA Q4 (aC (b2 fIx (b2 fIx (b7 .B 0) (mC (.int 1))) (b7 .B 3)) aN)) (aC (mC (.int 1)) aN))))))
  (r6 .F 2)))
abbrev D3:List W->R W:=f9 2 4 kJ
def rq:Rho->R Fl:=
 (d3 (mIf (e9 (b2 (o8 false) (b7 .B 3) (mC (.int 0)))) (i6 (mC (.bl true))) sNx)
  (d3 (sF 4 (bA Q3 (aC (b7 .B 0) (aC (b7 .B 2) aN))))
  (d3 (sF 5 (bA E5 (aC (b7 .B 1) (aC (bA D3 (aC (b7 .B 0) (aC (b7 .B 2) aN))) (aC (b2 (fI0 gSub) (b7 .B 3) (mC (.int 1))) aN)))))
  (i6 (nM (bA N3 (aC (b7 .B 1) (aC (b7 .B 4) aN))) (bA N3 (aC (b7 .B 5) (aC (b7 .B 4) aN))))))))
abbrev lv:List W->R W:=f9 4 6 rq
def kK:Rho->R Fl:=
 (d3 (sV 3 (b7 .V 1))
  (d3 (x3 (bI bp (aC (b7 .U 2) aN)) (gT 2 (n4 (gN .U 4) (n4 (gN .U 5) gsNil)))
   (d3 (sU 6 (b2 fIx (b7 .B 5) (mC (.int 0))))
   (d3 (sU 7 (b2 fIx (b7 .B 5) (mC (.int 1))))
   (d3 (mIf (C6 (e9 (bA lv (aC (b7 .B 0) (aC (b7 .B 3) (aC (b7 .B 6) (aC (b7 .B 7) aN))))))) fb sNx)
   (sF 3 (bA E5 (aC (b7 .B 3) (aC (bA D3 (aC (b7 .B 0) (aC (b7 .B 6) aN))) (aC (b7 .B 7) aN)))))))))
  (r6 .F 3)))
abbrev X3:List W->R W:=f9 3 8 kK
def wH:Rho->R Fl:=
 (i6 (bA fJ (aC (bA A6 (aC (b7 .B 0) (aC (b7 .B 1) aN))) aN)))
abbrev oR:List W->R W:=f9 2 2 wH
def bG:Rho->R Fl:=
 (d3 (sF 3 (bA oR (aC (b7 .B 0) (aC (b7 .B 2) aN))))
  (i6 (n5 5 (bS (vSl true (b7 .C 3) (pS (b2 (fI0 x6) (kX (b7 .B 3) (b7 .B 1)) (mC (.int 1)))) pN)) (gN .U 4) yes (U5 (b2 fIx (b2 fIx (b7 .B 0) (b7 .B 4)) (mC (.int 2)))))))
abbrev M3:List W->R W:=f9 3 4 bG
def fv:Rho->R Fl:=
 (d3 (sU 3 (b2 fIx (b7 .B 1) (b7 .B 2)))
  (i6 (bA R9 (aC (b2 fIx (b2 fIx (b7 .B 1) (b2 fIx (b7 .B 3) (mC (.int 1)))) (mC (.int 0))) (aC (b2 fIx (b2 fIx (b7 .B 0) (mC (.int 1))) (b2 fIx (b7 .B 3) (mC (.int 2)))) aN)))))
abbrev P2:List W->R W:=f9 3 4 fv
def fx:Rho->R Fl:=
 (d3 (mIf (e9 (b2 (o8 false) (b7 .B 2) (mC (.int 0)))) (i6 (A1 aN)) sNx)
  (d3 (sF 3 (A1 aN))
  (d3 (sF 4 (bA P2 (aC (b7 .B 0) (aC (b7 .B 1) (aC (b7 .B 2) aN)))))
  (d3 (x3 (bS (vSl true (bA A6 (aC (b7 .B 1) (aC (b7 .B 2) aN))) (pS (mC (.int 1))) pN)) (gN .U 5)
   (d3 (sF 6 (bA X4 (aC (b7 .B 4) (aC (b2 fIx (b2 fIx (b7 .B 1) (b7 .B 5)) (mC (.int 0))) aN))))
   (d3 (sF 7 (bA (A7 true) (aC (n5 9 (bI E8 (aC (bA fLen (aC (b7 .B 4) aN)) aN)) (gN .U 8) (e9 (b2 (fEq true) (b2 fIx (b7 .B 6) (b7 .B 8)) (b2 fIx (b7 .B 4) (b7 .B 8)))) (b7 .V 8)) aN)))
   (d3 (mIf (e9 (b2 (fI0 gGt) (bA fLen (aC (b7 .B 7) aN)) (mC (.int 0)))) (M7 3 (L5 (aC (b7 .V 5) (aC (b7 .V 7) aN)))) sNx)
   (gi 6 (sV 4 (b7 .V 6)))))))
  (r6 .F 3)))))
abbrev P4:List W->R W:=f9 3 8 fx
def aA:Rho->R Fl:=
 (d3 (sF 4 (bA Q3 (aC (b7 .B 0) (aC (b7 .B 1) aN))))
  (d3 (sF 5 (bA D3 (aC (b7 .B 0) (aC (b7 .B 1) aN))))
  (d3 (sF 6 (bA P5 (aC (b7 .B 4) (aC (bA E5 (aC (b7 .B 4) (aC (b7 .B 5) (aC (b2 (fI0 gSub) (mC (.int 1)) (b7 .B 2)) aN)))) aN))))
  (i6 (bA P5 (aC (b7 .B 6) (aC (bA E5 (aC (b7 .B 3) (aC (b7 .B 5) (aC (b1 (fU M8) (b7 .B 2)) aN)))) aN)))))))
abbrev B4:List W->R W:=f9 4 7 aA
def dG:Rho->R Fl:=
 (i6 (bA (Z5 L6) (aC (b2 (hZ true) (A1 (aC (mC (.int 0)) aN)) (n5 5 (bS (b7 .B 2)) (gN .U 4) yes (b1 (fU M8) (b2 (fI bB x5) (b2 (fI0 gSub) (b2 fIx (b7 .B 0) (b7 .B 4)) (b2 fIx (b7 .B 3) (b7 .B 4))) (b2 fIx (b7 .B 1) (b7 .B 4)))))) aN)))
abbrev R7:List W->R W:=f9 4 4 dG
def nc:Rho->R Fl:=
 (d3 (sF 4 (bA (A7 true) (aC (n5 13 (bS (b2 fIx (b2 fIx (b7 .B 1) (b7 .B 2)) (mC (.int 0)))) (gN .U 12) yes (vIf (e9 (b2 (F1 false) (b7 .B 12) (mC .non))) (b7 .V 3) (b7 .V 12))) aN)))
  (d3 (sF 5 (A1 aN))
  (d3 (x3 (bS (vSl true (bA A6 (aC (b7 .B 1) (aC (b7 .B 2) aN))) pN (pS (b1 (fU M8) (mC (.int 1)))))) (gN .U 6)
   (d3 (sF 7 (bA P2 (aC (b7 .B 0) (aC (b7 .B 1) (aC (b7 .B 6) aN)))))
   (d3 (x3 (bI bZ (aC (bA P4 (aC (b7 .B 0) (aC (b7 .B 1) (aC (b7 .B 6) aN)))) aN)) (gT 2 (n4 (gN .U 8) (n4 (gN .U 9) gsNil)))
    (d3 (sF 10 (bA M3 (aC (b7 .B 1) (aC (b7 .B 8) (aC (b7 .B 6) aN)))))
    (d3 (sF 11 (bA R7 (aC (b7 .B 7) (aC (bA D3 (aC (b7 .B 0) (aC (b7 .B 10) aN))) (aC (b7 .B 9) (aC (b7 .B 4) aN))))))
    (mIf (e9 (b2 (fI0 gGt) (b7 .B 11) (mC (.int 0)))) (d3 (gi 11 (gi 10 (M7 5 (L5 (aC (b7 .V 10) (aC (b7 .V 11) aN))))))
     (sF 4 (bA B4 (aC (b7 .B 0) (aC (b7 .B 10) (aC (b7 .B 11) (aC (b7 .B 4) aN))))))) sNx))))
   (d3 (M7 5 (L5 (aC (A1 (aC (U5 (b2 fIx (b2 fIx (b7 .B 1) (b7 .B 6)) (mC (.int 2)))) aN)) (aC (mC (.int 1)) aN))))
   (sF 4 (bA B4 (aC (b7 .B 0) (aC (A1 (aC (U5 (b2 fIx (b2 fIx (b7 .B 1) (b7 .B 6)) (mC (.int 2)))) aN)) (aC (mC (.int 1)) (aC (b7 .B 4) aN))))))))))
  (d3 (gJ 5)
  (r6 .F 5)))))
abbrev dl:List W->R W:=f9 4 12 nc
def R5:Rho->R Fl:=
 (d3 (mIf (e9 (b2 (fI0 gLt) (b7 .B 1) (bA fLen (aC (b7 .B 0) aN)))) (i6 (U5 (b2 fIx (b7 .B 0) (b7 .B 1)))) sNx)
  (d3 (sV 2 (b2 (fI0 x6) (b2 (fI CMulB p7) (mC (.int 120011)) (b7 .B 1)) (mC (.int 47))))
  (d3 (mIf (e9 (b2 (fI0 gGt) (bA fLen (aC (b7 .B 0) aN)) (mC (.int 0)))) (sV 2 (b2 (fI0 x6) (b2 (fI0 x6) (b2 (fI CMulB p7) (b2 fIx (b7 .B 0) (b2 (fI j3 j4) (b2 (fI CMulB p7) (b7 .B 1) (mC (.int 43))) (bA fLen (aC (b7 .B 0) aN)))) (mC (.int 16807))) (b2 (fI CMulB p7) (b2 (fI CMulB p7) (b7 .B 1) (b7 .B 1)) (mC (.int 5003)))) (mC (.int 11)))) sNx)
  (i6 (b2 (fI j3 j4) (b2 (fI CMulB p7) (b7 .B 2) (b7 .B 2)) (mC (.int 2147483549)))))))
abbrev j5:List W->R W:=f9 2 3 R5
def dJ:Rho->R Fl:=
 (d3 (sF 5 (A1 aN))
  (d3 (sF 6 (A1 aN))
  (d3 (x3 (bI E8 (aC (b7 .B 2) aN)) (gN .U 7)
   (d3 (sF 8 (bA j5 (aC (b7 .B 0) (aC (b2 (fI0 x6) (b7 .B 1) (b7 .B 7)) aN))))
   (d3 (M7 5 (b2 (fI CMulB p7) (b2 fIx (A1 (aC (mC (.int 0)) (aC (mC (.int 1)) (aC (mC (.int 0)) (aC (mC (.int 0)) (aC (mC (.int 1)) (aC (mC (.int 2)) aN))))))) (b2 (fI j3 j4) (b7 .B 8) (mC (.int 6)))) (b7 .B 4)))
   (M7 6 (b2 (fI CMulB p7) (b2 fIx (A1 (aC (mC (.int 0)) (aC (mC (.int 1)) (aC (mC (.int 0)) (aC (mC (.int 1)) (aC (mC (.int 0)) (aC (mC (.int 2)) (aC (mC (.int 0)) aN)))))))) (b2 (fI j3 j4) (b2 (fI v9 x5) (b7 .B 8) (mC (.int 6))) (mC (.int 7)))) (b7 .B 4))))))
  (d3 (mIf (e9 (b7 .B 3)) (d3 (sV 9 (b2 (fI j3 j4) (b2 (fI v9 x5) (bA j5 (aC (b7 .B 0) (aC (b7 .B 1) aN))) (mC (.int 42))) (b7 .B 2)))
   (d3 (sV 10 (b2 (fI j3 j4) (b2 (fI v9 x5) (bA j5 (aC (b7 .B 0) (aC (b2 (fI0 x6) (b7 .B 1) (mC (.int 1))) aN))) (mC (.int 42))) (b7 .B 2)))
   (d3 (sF 5 (n5 12 (bI E8 (aC (b7 .B 2) aN)) (gN .U 11) yes (b2 (fI CMulB p7) (bA fInt (aC (b2 (fEq false) (b7 .B 11) (b7 .B 9)) aN)) (b7 .B 4))))
   (sF 6 (n5 12 (bI E8 (aC (b7 .B 2) aN)) (gN .U 11) yes (b2 (fI CMulB p7) (bA fInt (aC (vOr (b2 (fEq false) (b7 .B 11) (b7 .B 10)) (nM (b2 (o8 false) (b7 .B 11) (b2 (fI j3 j4) (b2 (fI0 x6) (b7 .B 10) (mC (.int 1))) (b7 .B 2))) (b2 (o8 false) (b2 (fI j3 j4) (b7 .B 9) (mC (.int 2))) (mC (.int 0))))) aN)) (b7 .B 4))))))) sNx)
  (i6 (L5 (aC (bA (A7 true) (aC (b7 .C 5) aN)) (aC (bA (A7 true) (aC (b7 .C 6) aN)) aN))))))))
abbrev ah:List W->R W:=f9 5 11 dJ
def bK:Rho->R Fl:=
 (d3 (x3 (bI E8 (aC (bA fLen (aC (b7 .B 0) aN)) aN)) (gN .U 2)
   (mIf (e9 (b2 (fI0 gLt) (b2 fIx (b7 .B 0) (b7 .B 2)) (b2 fIx (b7 .B 1) (b7 .B 2)))) (i6 (mC (.bl false))) sNx))
  (i6 (mC (.bl true))))
abbrev w9:List W->R W:=f9 2 3 bK
def bM:Rho->R Fl:=
 (i6 (bA (A7 true) (aC (n5 3 (bI E8 (aC (bA fLen (aC (b7 .B 0) aN)) aN)) (gN .U 2) yes (b2 (fI0 x6) (b2 (fI0 gSub) (b2 fIx (b7 .B 0) (b7 .B 2)) (b2 fIx (b2 fIx (b7 .B 1) (mC (.int 0))) (b7 .B 2))) (b2 fIx (b2 fIx (b7 .B 1) (mC (.int 1))) (b7 .B 2)))) aN)))
abbrev M4:List W->R W:=f9 2 2 bM
def cC:Rho->R Fl:=
 (d3 (sV 3 (b7 .V 1))
  (d3 (x3 (bI E8 (aC (b2 (fI j3 j4) (b2 (fI v9 x5) (bA j5 (aC (b7 .B 0) (aC (mC (.int 6)) aN))) (mC (.int 8))) (mC (.int 13))) aN)) (gN .U 4)
   (d3 (sF 5 (n5 7 (bS (b7 .B 2)) (gN .U 6) (e9 (bA w9 (aC (b7 .B 3) (aC (b2 fIx (b7 .B 6) (mC (.int 0))) aN)))) (b7 .V 6)))
   (mIf (e9 (b2 (fEq true) (b7 .B 5) (A1 aN))) (sF 3 (bA M4 (aC (b7 .B 3) (aC (b2 fIx (b7 .B 5) (b2 (fI j3 j4) (b2 (fI v9 x5) (bA j5 (aC (b7 .B 0) (aC (b2 (fI0 x6) (mC (.int 30)) (b7 .B 4)) aN))) (mC (.int 3))) (bA fLen (aC (b7 .B 5) aN)))) aN)))) sNx)))
  (r6 .F 3)))
abbrev X6:List W->R W:=f9 3 6 cC
def bH:Rho->R Fl:=
 (d3 (sF 5 (bA j5 (aC (b7 .B 0) (aC (mC (.int 5)) aN))))
  (d3 (sV 6 (b2 (fI j3 j4) (b2 (fI v9 x5) (b7 .B 5) (mC (.int 4))) (bA fLen (aC (b7 .B 1) aN))))
  (d3 (mIf (e9 (b2 (o8 false) (b2 (fI j3 j4) (b7 .B 5) (mC (.int 4))) (mC (.int 0)))) (i6 (bA (A7 true) (aC (n5 11 (bI E8 (aC (bA fLen (aC (b7 .B 1) aN)) aN)) (gN .U 10) yes (b2 (fI CMulB p7) (b2 (fI j3 j4) (b2 (fI v9 x5) (bA j5 (aC (b7 .B 0) (aC (b2 (fI0 x6) (mC (.int 7)) (b7 .B 10)) aN))) (mC (.int 3))) (mC (.int 4))) (b7 .B 4))) aN))) sNx)
  (d3 (mIf (e9 (b2 (o8 false) (b2 (fI j3 j4) (b7 .B 5) (mC (.int 4))) (mC (.int 1)))) (i6 (bA (A7 true) (aC (n5 11 (bI E8 (aC (bA fLen (aC (b7 .B 1) aN)) aN)) (gN .U 10) yes (b2 (fI CMulB p7) (b2 (fI j3 j4) (b2 (fI v9 x5) (bA j5 (aC (b7 .B 0) (aC (b2 (fI0 x6) (mC (.int 7)) (b7 .B 10)) aN))) (mC (.int 3))) (b2 (fI0 x6) (b2 (fI bz lr) (mC (.int 10)) (mC (.int 9))) (mC (.int 1)))) (bA fInt (aC (b2 (fEq false) (b7 .B 10) (b7 .B 6)) aN)))) aN))) sNx)
  (d3 (sF 7 (bA (fK true) (aC (bA X6 (aC (b7 .B 0) (aC (b7 .B 1) (aC (b7 .B 2) aN)))) aN)))
  (d3 (mIf (Q9 (e9 (b2 (o8 false) (b2 (fI j3 j4) (b7 .B 5) (mC (.int 4))) (mC (.int 3)))) (e9 (b2 (F1 true) (b7 .B 3) (mC .non)))) (d3 (sU 8 (b2 fIx (b7 .B 3) (b2 (fI j3 j4) (b2 (fI v9 x5) (b7 .B 5) (mC (.int 16))) (bA fLen (aC (b7 .B 3) aN)))))
   (x3 (bI E8 (aC (bA fLen (aC (b7 .B 1) aN)) aN)) (gN .U 9)
    (d3 (eO 7 (b7 .B 9) (U5 (b2 fIx (b7 .B 8) (b7 .B 9))))
    (mIf (e9 (b2 (F1 false) (b2 fIx (b7 .B 8) (b7 .B 9)) (mC .non))) (eO 7 (b7 .B 9) (b2 (fI j3 j4) (b2 (fI v9 x5) (bA j5 (aC (b7 .B 0) (aC (b2 (fI0 x6) (mC (.int 7)) (b7 .B 9)) aN))) (mC (.int 3))) (b2 (fI CMulB p7) (mC (.int 4)) (b7 .B 4)))) sNx)))) sNx)
  (d3 (eO 7 (b7 .B 6) (b2 (fI0 x6) (b2 fIx (b7 .B 7) (b7 .B 6)) (b2 (fI j3 j4) (b2 (fI v9 x5) (b7 .B 5) (mC (.int 64))) (mC (.int 2)))))
  (i6 (bA (A7 true) (aC (b7 .C 7) aN))))))))))
abbrev U3:List W->R W:=f9 5 10 bH
def cA:Rho->R Fl:=
 (i6 (b2 (o8 false) (bA fLen (aC (n5 3 (bI E8 (aC (bA fLen (aC (b7 .B 1) aN)) aN)) (gN .U 2) (Q9 (e9 (b2 (F1 true) (b2 fIx (b7 .B 1) (b7 .B 2)) (mC .non))) (e9 (b2 (fI0 gGt) (b2 fIx (b7 .B 0) (b7 .B 2)) (b2 fIx (b7 .B 1) (b7 .B 2))))) (b7 .V 2)) aN)) (mC (.int 0))))
abbrev K4:List W->R W:=f9 2 2 cA
def fA:Rho->R Fl:=
 (d3 (sV 4 (b7 .V 1))
  (d3 (x3 (bS (b7 .U 0)) (gN .U 5)
   (d3 (mIf (C6 (e9 (bA w9 (aC (b7 .B 4) (aC (b2 fIx (b2 fIx (b7 .B 2) (b7 .B 5)) (mC (.int 0))) aN))))) (i6 (mC (.bl false))) sNx)
   (sF 4 (bA M4 (aC (b7 .B 4) (aC (b2 fIx (b7 .B 2) (b7 .B 5)) aN))))))
  (i6 (bA w9 (aC (b7 .B 4) (aC (b7 .B 3) aN))))))
abbrev P6:List W->R W:=f9 4 6 fA
def bJ:Rho->R Fl:=
 (d3 (x3 (bS (b7 .U 1)) (gN .U 2)
   (mIf (e9 (bA w9 (aC (b7 .B 0) (aC (b7 .B 2) aN)))) (i6 (mC (.bl true))) sNx))
  (i6 (mC (.bl false))))
abbrev C3:List W->R W:=f9 2 3 bJ
def cB:Rho->R Fl:=
 (d3 (mIf (fZ (e9 (bA C3 (aC (b7 .B 1) (aC (b7 .B 0) aN)))) (C6 (e9 (bA C3 (aC (b7 .B 3) (aC (b7 .B 0) aN)))))) (i6 (mC (.bl false))) sNx)
  (d3 (x3 (bS (b7 .U 0)) (gN .U 4)
   (x3 (bS (b7 .U 2)) (gN .U 5)
    (mIf (C6 (e9 (bA C3 (aC (bA (A7 true) (aC (n5 7 (bI E8 (aC (bA fLen (aC (b7 .B 4) aN)) aN)) (gN .U 6) yes (b2 (fI0 x6) (b2 fIx (b2 fIx (b7 .B 5) (mC (.int 0))) (b7 .B 6)) (bA (f2 cI) (aC (mC (.int 0)) (aC (b2 (fI0 gSub) (b2 fIx (b7 .B 4) (b7 .B 6)) (b2 fIx (b2 fIx (b7 .B 5) (mC (.int 1))) (b7 .B 6))) aN))))) aN)) (aC (b7 .B 0) aN))))) (i6 (mC (.bl false))) sNx)))
  (i6 (mC (.bl true)))))
abbrev K5:List W->R W:=f9 4 6 cB
def bL:Rho->R Fl:=
 (d3 (x3 (bI E8 (aC (bA fLen (aC (b7 .B 1) aN)) aN)) (gN .U 3)
   (mIf (e9 (bA K4 (aC (b7 .B 2) (aC (b2 fIx (b2 fIx (b7 .B 1) (b7 .B 3)) (mC (.int 0))) aN)))) (d3 (sF 4 (bA dl (aC (b7 .B 0) (aC (b7 .B 1) (aC (b7 .B 3) (aC (bA (Z5 L6) (aC (b7 .B 2) aN)) aN))))))
    (i6 (bA w9 (aC (bA X3 (aC (b7 .B 0) (aC (b2 fIx (b7 .B 0) (mC (.int 0))) (aC (b7 .B 4) aN)))) (aC (b7 .B 2) aN))))) sNx))
  (i6 (mC (.bl false))))
abbrev F9:List W->R W:=f9 3 5 bL
def wI:Rho->R Fl:=
 (d3 (sV 1 (b2 (fI0 x6) (mC (.int 2)) (b2 (fI j3 j4) (bA j5 (aC (b7 .B 0) (aC (mC (.int 0)) aN))) (mC (.int 3)))))
  (d3 (sV 2 (b2 (fI0 x6) (mC (.int 1)) (b2 (fI j3 j4) (bA j5 (aC (b7 .B 0) (aC (mC (.int 1)) aN))) (mC (.int 16)))))
  (d3 (sV 3 (b2 (o8 false) (b2 (fI j3 j4) (bA j5 (aC (b7 .B 0) (aC (mC (.int 2)) aN))) (mC (.int 3))) (mC (.int 1))))
  (d3 (sV 4 (mC (.int 1)))
  (d3 (mIf (e9 (b2 (o8 false) (b2 (fI j3 j4) (bA j5 (aC (b7 .B 0) (aC (mC (.int 3)) aN))) (mC (.int 4))) (mC (.int 1)))) (sV 4 (b2 (fI0 x6) (mC (.int 1)) (b2 (fI j3 j4) (b2 (fI v9 x5) (bA j5 (aC (b7 .B 0) (aC (mC (.int 3)) aN))) (mC (.int 4))) (b2 (fI bz lr) (mC (.int 10)) (mC (.int 8)))))) sNx)
  (d3 (sF 5 (A1 aN))
  (d3 (x3 (bI E8 (aC (b2 (fI0 x6) (mC (.int 1)) (b2 (fI j3 j4) (bA j5 (aC (b7 .B 0) (aC (mC (.int 4)) aN))) (mC (.int 5)))) aN)) (gN .U 6)
   (M7 5 (bA ah (aC (b7 .B 0) (aC (b2 (fI0 x6) (mC (.int 15)) (b2 (fI CMulB p7) (b7 .B 1) (b7 .B 6))) (aC (b7 .B 1) (aC (b7 .B 3) (aC (b7 .B 4) aN))))))))
  (d3 (sF 7 (bA (A7 true) (aC (n5 14 (bI E8 (aC (b7 .B 1) aN)) (gN .U 13) yes (b2 (fI CMulB p7) (b2 (fI j3 j4) (bA j5 (aC (b7 .B 0) (aC (b2 (fI0 x6) (mC (.int 11)) (b7 .B 13)) aN))) (mC (.int 3))) (b7 .B 4))) aN)))
  (d3 (sF 8 (L5 (aC (b7 .V 7) (aC (bA (A7 true) (aC (b7 .C 5) aN)) aN))))
  (d3 (sF 9 (bA dj (aC (b7 .B 8) (aC (b7 .B 2) aN))))
  (d3 (sF 10 (bA U3 (aC (b7 .B 0) (aC (b7 .B 7) (aC (b7 .B 5) (aC (b7 .B 9) (aC (b7 .B 4) aN)))))))
  (d3 (sV 11 (bA hV (aC (b7 .B 8) (aC (b7 .B 10) (aC (b2 (fI0 x6) (mC (.int 1)) (b2 (fI j3 j4) (bA j5 (aC (b7 .B 0) (aC (mC (.int 6)) aN))) (mC (.int 8)))) aN)))))
  (d3 (mIf (Q9 (e9 (b2 (o8 false) (b2 fIx (b7 .B 11) (mC (.int 0))) (mC (.str "row")))) (C6 (e9 (bA P6 (aC (b2 fIx (b7 .B 11) (mC (.int 1))) (aC (b7 .B 7) (aC (b7 .B 5) (aC (b7 .B 10) aN)))))))) (i6 (mC (.bl false))) sNx)
  (d3 (mIf (Q9 (e9 (b2 (o8 true) (b2 fIx (b7 .B 11) (mC (.int 0))) (mC (.str "row")))) (e9 (b2 (o8 true) (b2 fIx (b7 .B 11) (mC (.int 0))) (mC (.str "open"))))) (mIf (fZ (e9 (b2 (o8 true) (b2 fIx (b7 .B 11) (mC (.int 0))) (mC (.str "wall")))) (C6 (e9 (bA K5 (aC (b2 fIx (b7 .B 11) (mC (.int 1))) (aC (b7 .B 7) (aC (b7 .B 5) (aC (b7 .B 10) aN)))))))) (i6 (mC (.bl false))) sNx) sNx)
  (d3 (mIf (e9 (b2 (F1 false) (b7 .B 9) (mC .non))) (i6 (mC (.bl true))) sNx)
  (d3 (sV 12 (b2 (fI0 gGt) (bA fLen (aC (n5 14 (bS (b7 .B 9)) (gN .U 13) (e9 (bA K4 (aC (b7 .B 10) (aC (b7 .B 13) aN)))) (b7 .V 13)) aN)) (mC (.int 0))))
  (d3 (mIf (fZ (Q9 (e9 (b2 (o8 false) (b2 fIx (b7 .B 11) (mC (.int 0))) (mC (.str "row")))) (C6 (e9 (b7 .B 12)))) (Q9 (e9 (b2 (o8 false) (b2 fIx (b7 .B 11) (mC (.int 0))) (mC (.str "wall")))) (e9 (b7 .B 12)))) (i6 (mC (.bl false))) sNx)
  (i6 (vOr (tE (b7 .B 12)) (bA F9 (aC (b7 .B 8) (aC (bA N2 (aC (b7 .B 8) (aC (b7 .B 2) aN))) (aC (b7 .B 10) aN)))))))))))))))))))))))
abbrev jr:List W->R W:=f9 1 13 wI
end K94
set_option maxHeartbeats 4000000
open PySem L2 TP
namespace K94
--RPX: nA, nh, sZ, rpio, rg, kG, rf
def rp14:=Z1 (@Dq) (Z1 (@Dp) (Z1 (@Do) (Z1 (@Dn) (Z1 (@CV) (Z1 (@Dj) (Z1 (@Dg) (Z1 (@Dh) (Z1 (@Da) (Z1 (@Db) (Z1 (@Dl) (Z1 (@Dm) (Z1 (@CY) (@CZ)))))))))))))
def rp15:=Z1 (@Bool.not_true) (Z1 (@Bool.not_false) (Z1 (@Bool.true_or) (Z1 (@qK5) (Z1 (@Bool.false_or) (Z1 (@Bool.or_false) (Z1 (@Bool.true_and) (Z1 (@Bool.and_true) (Z1 (@Bool.false_and) (Z1 (@Bool.and_false) (Z1 (@Int.sub_zero) (Z1 (@Int.zero_add) (Z1 (@qF8) (Z1 (@qD5) (Z1 (@Bool.true_eq_false) (Z1 (@and_true) (Z1 (@true_and) (Z1 (@or_true) (Z1 (@true_or) (@and_self)))))))))))))))))))
def rp18:=Z1 (@qC1.{0}) (Z1 (@qL6.{0}) (Z1 (@qA1.{0,0}) (Z1 (@qC3.{0}) (Z1 (@qD7.{0}) (@qE8)))))
def rp16:=Z1 rp14 (Z1 rp15 (Z1 rp13 (Z1 rp12 (Z1 rp11 (Z1 rp10 (Z1 rp9 (Z1 rp8 (Z1 rp0 (Z1 rp1 (Z1 rp2 (Z1 rp3 (Z1 rp4 (Z1 rp5 (Z1 rp6 rp7))))))))))))))
def rp17:=Z1 (@qC4.{0,0}) (Z1 (@qI0.{0,0}) (Z1 (@qF4.{0}) (Z1 (@List.replicate_zero.{0}) (Z1 (@qK8.{0}) (Z1 (@qL7.{0}) (Z1 (@qF3.{0}) (Z1 (@R.ok_bind) (Z1 (@R.stuck_bind) (@R.ex_bind)))))))))
def rp19:=Z1 (@beq_self_eq_true.{0}) (Z1 (@Option.isNone_none.{0}) (Z1 (@Option.isNone_some.{0}) (Z1 (@Option.bind_some.{0,0}) (Z1 (@if_true.{1}) (Z1 (@if_false.{1}) (Z1 (@decide_true) (@decide_false)))))))
theorem FP (m:Rho->R Fl)(ρ:Rho):nb m ρ=nbR (m ρ):=rfl
theorem CI (ρ:Rho):nbR (.ok (.nx ρ))=.ok (.nx ρ):=rfl
theorem xy (ρ:Rho):nZ ρ=.ok (.bk ρ):=rfl
theorem BH (q:Addr)(ws:List W):rdS .B (some (.iop q ws))=.ok (.lst ws):=rfl
theorem BG (q:Addr)(ws:List W):rdS .U (some (.iop q ws))=.ok (.lst ws):=rfl
def ioS (o:Option Sl) (f:W->List W->List W->R (List W)) (r1:R W) (rr:R (List W)) (i:Nat) (ρ:Rho):R Fl:=match o with
 |some (.own cs)=>r1>>=λw1=>rr>>=λwr=>f w1 cs wr>>=λcs'=>.ok (.nx (ρ.set i (.own cs')))
 |_=>.stuck
theorem CL (i:Nat)(f:W->List W->List W->R (List W))(m1:Rho->R W)(mr:Rho->R (List W))(ρ:Rho):mIO i f m1 mr ρ=ioS (ρ[i]?) f (m1 ρ) (mr ρ) i ρ:=rfl
theorem Dz (cs:List W)(f:W->List W->List W->R (List W))(w1:W)(wr:List W)(i:Nat)(ρ:Rho):ioS (some (.own cs)) f (.ok w1) (.ok wr) i ρ=(f w1 cs wr>>=λcs'=>.ok (.nx (ρ.set i (.own cs')))):=rfl
theorem FF {r:R Fl}{P:Rho->Prop}{Q:W->Prop}(h:Po r P λ_=>False):Po (nbR r) P Q:=by
 cases r with
 | ok f=>
  cases f with
  |nx ρ=>exact h
  |rt w=>exact h.elim
  |bk ρ=>exact h
  |ct ρ=>exact h
 |ex e=>exact h
 |stuck=>exact h
theorem uY {p:Addr}{i:Nat}{m:Rho->R W}{ws:List W}{w:W}{ρ:Rho}(h1:ρ[i]?=some (.iop p ws)) (hm:m ρ=.ok w) (hl:ws.length<1000):dg p i m ρ=.ok (.nx (appI i p (ws ++ [w]) ρ)):=by
 unfold dg;rw[h1];dsimp only;rw[hm,R.ok_bind,qA4 ⟨rfl,hl⟩]
def rpio:=Z1 (@FP) (Z1 (@CI) (Z1 (@xy) (Z1 (@BH) (Z1 (@BG) (Z1 (@CL) (@Dz))))))
def rpZ:=Z1 rp19 (Z1 rp16 (Z1 rp17 (Z1 rp18 (Z1 @nA (Z1 @nh (Z1 @sZ (Z1 rpio (Z1 @rg (Z1 @kG (Z1 @rf (@decide_eq_true_eq)))))))))))
def rpB:=Z1 (@Bg) (Z1 (@Bf) (Z1 (@Be) (Z1 (@Bd) (@Bc))))
local macro_rules | `(tactic| exists $[$es],*)=>`(tactic| simp (disch:=first | with_reducible assumption | omega | (simp only [rp18]; omega)) only [List.getElem?_cons_zero,List.getElem?_cons_succ,List.set_cons_succ,List.set_cons_zero,tyW,isN,simprocAttr,rpZ,$[$es:term],*])
theorem memD {ns:List Int}{P:Int->Prop}(h:∀x∈ns,P x){i:Nat}(hi:i<ns.length):P (ns.getD i 0):=mem_getD h hi
def j2 (a b:List Int):Bool:=(List.range a.length).all λk=>decide (b.getD k 0<=a.getD k 0)
theorem wQ {a b:List Int}{i:Nat}(hi:i<a.length) (h:a.getD i 0<b.getD i 0):j2 a b=false:=by
 unfold j2;rw[List.all_eq_false];exact ⟨i,by simpa using hi,λh'=>by have:=of_decide_eq_true h';omega⟩
theorem oV {a b:List Int}(h:∀k,k<a.length->b.getD k 0<=a.getD k 0):j2 a b=true:=by
 unfold j2;rw[qE5];exact λk hk=>decide_eq_true (h k (by simpa using hk))
theorem Z7 {a b:List Int}(hl:b.length=a.length):N3 [tI a,tI b]=.ok (.bl (j2 a b)):=by
 have fin:Ok (N3 [tI a,tI b]) λv=>v=.bl (j2 a b):=by
  have hz:=L9 (tI a) (tI b) _ _ rfl rfl;rw[P8 hl]at hz;exists rpB,kT,hz;refine n9 (p8 (λi ρ=>∃u v,ρ = [.par (tI a),.par (tI b),u,v]/\∀k,k<i->b.getD k 0<=a.getD k 0) ⟨_,_,rfl,λk hk=>absurd hk (qF7 _)⟩ ?_ ?_)
  ·rintro i u ρ hu ⟨_,_,rfl,hall⟩;obtain ⟨hi,rfl⟩:=jU hu;refine ⟨_,rfl,?_⟩;exists rp18;refine R4 (λh=>?_) (λh=>?_)
   ·exists rp18;rw[wQ hi (by simpa using h)]
   ·exists rp18;refine ⟨_,_,rfl,λk hk=>?_⟩;by_cases e:k=i
    ·subst e;simpa using h
    ·exact hall k (by omega)
  ·rintro ρ ⟨_,_,rfl,hall⟩;rw[qA1,qE8]at hall;exists rp18;rw[oV hall]
 obtain ⟨v,e,rfl⟩:=fin;exact e
def h9 (s:List Int)(ss:List (List Int)):Bool:=ss.any (j2 s)
theorem uW {ss:List (List Int)}{i:Nat}(h:i<ss.length):ss.getD i []∈ss:=by
 rw[qA0];simp [h]
theorem mU {ss:List (List Int)}{i:Nat}{w:W}(h:(ss.map tI)[i]?=some w):i<ss.length/\w=tI (ss.getD i []):=by
 rw[qA8]at h;cases q:ss[i]? with
 |none=>rw[q]at h;cases h
 | some k=>
  rw[q]at h;cases h;exact ⟨(qB0.mp q).1,by rw[qA0,q];rfl⟩
theorem FU {s:List Int}{ss:List (List Int)}{i:Nat}(hi:i<ss.length) (h:j2 s (ss.getD i [])=true):h9 s ss=true:=by
 unfold h9;rw[qD3];exact ⟨_,uW hi,h⟩
theorem FV {s:List Int}{ss:List (List Int)}(h:∀k,k<ss.length->j2 s (ss.getD k [])=false):h9 s ss=false:=by
 unfold h9;rw[qH1];intro x hx;obtain ⟨i,hi,e⟩:=qE6.mp hx
 have:=h i hi
 rw[qA0]at this;simp [hi,e]at this;simp [this]
theorem Z3 {s:List Int}{ss:List (List Int)}(hl:∀x∈ss,x.length=s.length):N1 [tI s,.lst (ss.map tI)]=.ok (.bl (h9 s ss)):=by
 have fin:Ok (N1 [tI s,.lst (ss.map tI)]) λv=>v=.bl (h9 s ss):=by
  exists rpB,kN;refine n9 (p8 (λi ρ=>∃u,ρ = [.par (tI s),.par (.lst (ss.map tI)),u]/\∀k,k<i->j2 s (ss.getD k [])=false) ⟨_,rfl,λk hk=>absurd hk (qF7 _)⟩ ?_ ?_)
  ·rintro i u ρ hu ⟨_,rfl,hall⟩;obtain ⟨hi,rfl⟩:=mU hu;have hc:=Z7 (a:=s) (b:=ss.getD i []) (hl _ (uW hi));refine ⟨_,rfl,?_⟩;exists hc;refine R4 (λh=>?_) (λh=>?_)
   ·exists rp18;rw[FU hi h]
   ·exists rp18;refine ⟨_,rfl,λk hk=>?_⟩;by_cases e:k=i
    ·subst e;exact h
    ·exact hall k (by omega)
  ·rintro ρ ⟨_,rfl,hall⟩;rw[qA1]at hall;exists rp18;rw[FV hall]
 obtain ⟨v,e,rfl⟩:=fin;exact e
def srcL (g t p:List Int):List Int:=(List.range g.length).map λk=>max (t.getD k 0) (g.getD k 0-p.getD k 0+t.getD k 0)
theorem tX (g t p:List Int):(srcL g t p).length=g.length:=by simp [srcL]
theorem gb {g t p:List Int}{k:Nat}(h:k<g.length):(srcL g t p).getD k 0=max (t.getD k 0) (g.getD k 0-p.getD k 0+t.getD k 0):=t9 h
theorem iu {g t p:List Int}(ht:t.length=g.length) (hp:p.length=g.length) (hg:g.length<=6):bj [tI g,.tup [tI t,tI p]]=.ok (tI (srcL g t p)):=by
 have a0:L2.atI [tI t,tI p] 0=some (tI t):=rfl;have a1:L2.atI [tI t,tI p] 1=some (tI p):=rfl;have hz:=Ak (tI g) (tI t) (tI p) _ _ _ rfl rfl rfl;rw[xb ht hp]at hz;exists rpB,kL,a0,a1,hz;have e:∀N mg me ρ (h:∀k,k<g.length->∃ρ1,mg (.tup [.int (g.getD k 0),.int (t.getD k 0),.int (p.getD k 0)]) (ρ++List.replicate (N-ρ.length) Sl.un)=some ρ1/\me ρ1=.ok (.int (max (t.getD k 0) (g.getD k 0-p.getD k 0+t.getD k 0)))),l6 N mg yes me ((List.range g.length).map λk=>.tup [.int (g.getD k 0),.int (t.getD k 0),.int (p.getD k 0)]) ρ=.ok (lI (srcL g t p)):=λN mg me ρ h=>by
  rw[m8 (λk=>.int (max (t.getD k 0) (g.getD k 0-p.getD k 0+t.getD k 0))) _ _ ρ (by simpa using (by omega:g.length<=1000)) (λk hk=>h k (by simpa using hk)),eM];rfl
 rw[e]
 ·exists rp18
 ·intro k hk;refine ⟨_,rfl,?_⟩;exists rp18
abbrev Mv:=List Int×List Int
abbrev mW (m:Mv):W:=.tup [tI m.1,tI m.2]
abbrev lS (ss:List (List Int)):W:=.lst (ss.map tI)
abbrev tM_ (ms:List Mv):W:=.tup (ms.map mW)
theorem rd (m:Mv):noL (mW m)=true:=by simp [noL,m5,N8]
theorem kE (ms:List Mv):m5 (ms.map mW)=true:=X1 mW rd ms
theorem yH {ms:List Mv}{i:Nat}{w:W}(h:(ms.map mW)[i]?=some w):∃m,m∈ms/\ms[i]?=some m/\w=mW m:=by
 rw[qA8]at h;cases q:ms[i]? with
 |none=>rw[q]at h;cases h
 |some m=>rw[q]at h;cases h;exact ⟨m,qC8 q,rfl,rfl⟩
def okM (n:Nat)(m:Mv):Prop:=m.1.length=n/\m.2.length=n
def y8 (ms:List Mv)(ss:List (List Int)):List (List Int):=ms.flatMap λm=>ss.map λs=>srcL s m.1 m.2
theorem aQ {ms:List Mv}{ss:List (List Int)}:(y8 ms ss).length=ms.length*ss.length:=by
 unfold y8
 induction ms with
 |nil=>simp
 |cons m ms ih=>rw[List.flatMap_cons,qC3,ih,qA1,qC1,Nat.succ_mul,Nat.add_comm]
theorem dY {n:Nat}{ms:List Mv}{ss:List (List Int)}(hs:∀x∈ss,x.length=n):∀x∈y8 ms ss,x.length=n:=λx hx=>by
 unfold y8 at hx;obtain ⟨m,_,hx⟩:=List.mem_flatMap.mp hx;obtain ⟨s,hs',rfl⟩:=qB6.mp hx;rw[tX];exact hs s hs'
theorem eY {n:Nat}{ms:List Mv}{ss:List (List Int)}(h6:n<=6) (hm:∀m∈ms,okM n m) (hs:∀x∈ss,x.length=n) (hml:ms.length<=8) (hsl:ss.length<=100):T6 [tM_ ms,lS ss]=.ok (lS (y8 ms ss)):=by
 have fin:Ok (T6 [tM_ ms,lS ss]) λv=>v=lS (y8 ms ss):=by
  exists rpB,iJ;refine n9 (p8 (λi ρ=>∃(u:Sl),ρ = [.par (tM_ ms),.par (lS ss),.own ((y8 (ms.take i) ss).map tI),u]/\i<=ms.length) ⟨_,rfl,qD1 _⟩ ?_ ?_)
  ·rintro i w ρ hw ⟨u,rfl,hi⟩;obtain ⟨m,hmm,hmi,rfl⟩:=yH hw;have hi':i<ms.length:=(qB0.mp hmi).1;refine ⟨_,rfl,?_⟩;have e:∀N mg me ρ (h:∀s∈ss,∃ρ1,mg (tI s) (ρ++List.replicate (N-ρ.length) Sl.un)=some ρ1/\me ρ1=.ok (tI (srcL s m.1 m.2))),l6 N mg yes me (ss.map tI) ρ=.ok (lS (ss.map λs=>srcL s m.1 m.2)):=λN mg me ρ h=>by
    rw[m8 (λs=>tI (srcL s m.1 m.2)) _ _ ρ (by omega) h];exact congrArg (λl=>R.ok (W.lst l)) (by rw[qC7];rfl)
   exists rp18;rw[e]
   ·have hl:(y8 (ms.take i) ss).length+ss.length<=1000:=by
     rw[aQ,qM3,Nat.min_eq_left (by omega)]
     have:=Nat.mul_le_mul (show i<=8 by omega) hsl
     omega
    exists rp18;refine ⟨.par (mW m),?_,hi'⟩
    have:y8 (ms.take (i+1)) ss=y8 (ms.take i) ss++ss.map λs=>srcL s m.1 m.2:=by
     unfold y8;rw[qM1,hmi];simp
    rw[this]
   ·intro s hss;have hk:=iu (g:=s) (t:=m.1) (p:=m.2) (by rw[hs s hss,(hm m hmm).1]) (by rw[hs s hss,(hm m hmm).2]) (by rw[hs s hss];exact h6);refine ⟨_,rfl,?_⟩;exists hk
  ·rintro ρ ⟨u,rfl,hi⟩;rw[qA1,qG2];exists rp18
 obtain ⟨v,e,rfl⟩:=fin;exact e
theorem cov_iff {a b:List Int}:j2 a b=true↔∀k,k<a.length->b.getD k 0<=a.getD k 0:=by
 unfold j2;rw[qE5];exact ⟨λh k hk=>of_decide_eq_true (h k (by simpa using hk)),λh k hk=>decide_eq_true (h k (by simpa using hk))⟩
def bst (acc:List (List Int))(s:List Int):List (List Int):=if h9 s acc then acc else acc ++ [s]
def X2 (ss:List (List Int)):List (List Int):=(J0 ss).foldl bst []
theorem fQ:∀(l acc:List (List Int)),(acc.Pairwise λa b=>j2 b a=false) ->
  (∃t,t.Sublist l/\l.foldl bst acc=acc++t)/\((l.foldl bst acc).Pairwise λa b=>j2 b a=false)/\∀z∈l,∃s∈l.foldl bst acc,j2 z s=true
 | [],acc,h2=>⟨⟨[],.slnil,by simp⟩,h2,λ_ h=>nomatch h⟩
 | z::l,acc,h2=>by
  rw[List.foldl_cons];cases c:h9 z acc with
  | true=>
   have e:bst acc z=acc:=by unfold bst;rw[qA4 c]
   rw[e];obtain ⟨⟨t,ht,et⟩,i3,i4⟩:=fQ l acc h2;refine ⟨⟨t,ht.cons z,et⟩,i3,λy hy=>?_⟩;rcases qB3.mp hy with rfl|hy
   ·unfold h9 at c;obtain ⟨s,hs,hw⟩:=qD3.mp c;exact ⟨s,by rw[et];exact qG1 _ hs,hw⟩
   ·exact i4 y hy
  | false=>
   have e:bst acc z=acc ++ [z]:=by unfold bst;rw[qA6 (by rw[c];exact qA5)]
   rw[e];have hno:∀s∈acc,j2 z s=false:=λs hs=>by
    unfold h9 at c;rw[qH1]at c;simpa using c s hs
   obtain ⟨⟨t,ht,et⟩,i3,i4⟩:=fQ l (acc ++ [z]) (by
    rw[List.pairwise_append];refine ⟨h2,qI7 _ _,λa ha b hb=>?_⟩;rw[qD0.mp hb];exact hno a ha)
   refine ⟨⟨z::t,ht.cons₂ z,by rw[et];simp⟩,i3,λy hy=>?_⟩;rcases qB3.mp hy with rfl|hy
   ·refine ⟨y,?_,oV λk hk=>qG5 _⟩;rw[et];simp
   ·exact i4 y hy
structure Bas (n:Nat) (B:List (List Int)):Prop where
 len:∀b∈B,b.length=n
 up:B.Pairwise λa b=>TP.lexLt b a=false
 a1:B.Pairwise λa b=>j2 b a=false
theorem mT {n:Nat}{ss:List (List Int)}(h:∀s∈ss,s.length=n):Bas n (X2 ss)/\(∀b∈X2 ss,b∈ss)/\(∀s∈ss,∃b∈X2 ss,j2 s b=true)/\(X2 ss).length<=ss.length:=by
 have hp:=iw ss;obtain ⟨⟨t,ht,et⟩,i3,i4⟩:=fQ (J0 ss) [] .nil;rw[qL7]at et;have hs:(X2 ss).Sublist (J0 ss):=by unfold X2;rw[et];exact ht
 refine ⟨⟨λb hb=>h b (hp.mem_iff.mp (hs.subset hb)),(xo ss).sublist hs,i3⟩,λb hb=>hp.mem_iff.mp (hs.subset hb),λs q=>i4 s (hp.mem_iff.mpr q),?_⟩
 have:=hs.length_le
 rw[hp.length_eq]at this;exact this
theorem zm {ss:List (List Int)}(h:ss.length<64) (hne:∀z∈ss,z ≠ []):fSort [lS ss]=.ok (lS (J0 ss)):=by
 have hall:ss.all (λx=>!x.isEmpty)=true:=by
  rw[qE5];intro x hx
  have:=hne x hx
  cases x with
  |nil=>exact absurd rfl this
  |cons _ _=>rfl
 show (match N9 (ss.map λx=>W.tup (x.map W.int)) with|some ss=>_|none=>_)=_;rw[dW]
 show (if _ then _ else _)=_;rw[qA4 ⟨h,hall⟩]
theorem tQ {l:List (List Int)}{i:Nat}(hi:i<l.length):(l.take (i+1)).foldl bst []=bst ((l.take i).foldl bst []) (l.getD i []):=by
 rw[qM1,List.foldl_append,qA0];simp [qA3 hi]
theorem fold_subB {l:List (List Int)}:(l.foldl bst []).Sublist l:=by
 obtain ⟨⟨t,ht,et⟩,_⟩:=fQ l [] .nil;rw[qL7]at et;rw[et];exact ht
theorem vb {n:Nat}{ss:List (List Int)}(h1:1<=n) (h:∀s∈ss,s.length=n) (h64:ss.length<64):di [lS ss]=.ok (lS (X2 ss)):=by
 have fin:Ok (di [lS ss]) λv=>v=lS (X2 ss):=by
  have k0:=zm h64 λz hz e=>by have:=h z hz;rw[e]at this;simp at this;omega
  have hp:=iw ss;have hlen:=hp.length_eq;have hSl:∀s∈J0 ss,s.length=n:=λs hs=>h s (hp.mem_iff.mp hs);exists rpB,mY,k0;unfold X2;generalize J0 ss=S at hlen hSl
  refine n9 (p8 (λi ρ=>∃a:Sl,ρ = [.par (lS ss),.own (((S.take i).foldl bst []).map tI),a]) ⟨_,rfl⟩ ?_ ?_)
  ·rintro i u ρ hu ⟨a,rfl⟩;obtain ⟨hi,rfl⟩:=mU hu;have hmem:=uW hi;have etk:=tQ hi;have hsub:((S.take i).foldl bst []).Sublist S:=fold_subB.trans (List.take_sublist _ _);generalize (S.take i).foldl bst []=F at etk hsub
   generalize S.getD i []=z at hmem etk
   have hFl:F.length<=63:=by have:=hsub.length_le;omega
   have k1:=Z3 (s:=z) (ss:=F) λx hx=>by rw[hSl x (hsub.subset hx),hSl z hmem]
   refine ⟨_,rfl,?_⟩;exists k1;refine R4 (λh=>?_) (λh=>?_)
   ·exists v5 (O7 z);refine ⟨.par (tI z),?_⟩;rw[etk];unfold bst;rw[qA6 (by simpa using h),qC6]
   ·exists rp18;refine ⟨.par (tI z),?_⟩;rw[etk];unfold bst;rw[qA4 (by simpa using h)]
  ·rintro ρ ⟨a,rfl⟩;rw[qA1,qG2];exists rp18
 obtain ⟨v,e,rfl⟩:=fin;exact e
def v8 (s:List Int)(m:Mv):List Int:=(List.range s.length).map λk=>s.getD k 0-m.1.getD k 0+m.2.getD k 0
theorem F2 (s:List Int)(m:Mv):(v8 s m).length=s.length:=by simp [v8]
def A2 (ss:List (List Int))(s:List Int)(m:Mv):Bool:=j2 s m.1&&h9 (v8 s m) ss
def oN (ms:List Mv)(ss:List (List Int))(s:List Int):Bool:=h9 s ss||ms.any (A2 ss s)
theorem wJ (s t:List Int):h9 s [t]=j2 s t:=by unfold h9;simp
theorem iT {a b c:List Int}(h1:a.length=b.length) (x:j2 a b=true) (y:j2 b c=true):j2 a c=true:=cov_iff.mpr λk hk=>by
 have p:=cov_iff.mp x k hk;have q:=cov_iff.mp y k (by omega);omega
theorem ga {n:Nat}{s z:List Int}{m:Mv}(hz:z.length=n) (hs:s.length=n):j2 z (srcL s m.1 m.2)=true↔j2 z m.1=true/\j2 (v8 z m) s=true:=by
 constructor
 ·intro h;have h:=cov_iff.mp h;refine ⟨cov_iff.mpr λk hk=>?_,cov_iff.mpr λk hk=>?_⟩
  ·have:=h k hk
   rw[gb (by omega)]at this;omega
  ·rw [F2]at hk
   have:=h k hk
   rw[gb (by omega)]at this;rw[show (v8 z m).getD k 0=_ from t9 hk];omega
 ·rintro ⟨h,h'⟩;have h:=cov_iff.mp h;have h':=cov_iff.mp h';refine cov_iff.mpr λk hk=>?_;have p:=h k hk;have q:=h' k (by rw[F2];exact hk);rw[show (v8 z m).getD k 0=_ from t9 hk]at q;rw[gb (by omega)];omega
section
variable {n:Nat}{ms:List Mv}{ss:List (List Int)}(hs:∀x∈ss,x.length=n)
include hs
theorem ju:∀x∈ss++y8 ms ss,x.length=n:=λx hx=>by
 rcases qE4.mp hx with q|q
 ·exact hs x q
 ·exact dY hs x q
theorem vc {z:List Int}(hz:z.length=n):oN ms ss z=true↔∃d∈ss++y8 ms ss,j2 z d=true:=by
 unfold oN;rw[Bool.or_eq_true];constructor
 ·rintro (h|h)
  ·unfold h9 at h;obtain ⟨s,h1,h2⟩:=qD3.mp h;exact ⟨s,qG1 _ h1,h2⟩
  ·obtain ⟨m,h1,h2⟩:=qD3.mp h;unfold A2 at h2;rw[qG7]at h2;unfold h9 at h2;obtain ⟨s,h3,h4⟩:=qD3.mp h2.2;refine ⟨srcL s m.1 m.2,qC9 _ ?_,(ga hz (hs s h3)).mpr ⟨h2.1,h4⟩⟩;unfold y8;exact List.mem_flatMap.mpr ⟨m,h1,qB6.mpr ⟨s,h3,rfl⟩⟩
 ·rintro ⟨d,hd,hc⟩;rcases qE4.mp hd with q|q
  ·exact .inl (qD3.mpr ⟨d,q,hc⟩)
  ·unfold y8 at q;obtain ⟨m,h1,q⟩:=List.mem_flatMap.mp q;obtain ⟨s,h3,rfl⟩:=qB6.mp q
   have:=(ga hz (hs s h3)).mp hc
   refine .inr (qD3.mpr ⟨m,h1,?_⟩);unfold A2;rw[this.1,Bool.true_and];exact qD3.mpr ⟨s,h3,this.2⟩
end
theorem xn {n:Nat}{ms:List Mv}{ss:List (List Int)}(h1:1<=n) (h6:n<=6) (hm:∀m∈ms,okM n m) (hs:∀x∈ss,x.length=n) (hml:ms.length<=8) (hsl:ss.length<=100) (h64:ss.length+ms.length*ss.length<64):R8 [tM_ ms,lS ss]=.ok (lS (X2 (ss++y8 ms ss))):=by
 have k1:=eY h6 hm hs hml hsl;have k2:=vb (ss:=ss++y8 ms ss) h1 (ju hs) (by rw[qC3,aQ];exact h64);have k3:hZ true (.lst (ss.map tI)) (lS (y8 ms ss))=.ok (lS (ss++y8 ms ss)):=by
  rw[ly (by simp [aQ];omega),<- qC6];rfl
 exists rpB,dH,k1,k3,k2
def O1 (ms:List Mv)(ss:List (List Int)):Bool:=(y8 ms ss).all λs=>h9 s ss
theorem xq {n:Nat}{ms:List Mv}{ss:List (List Int)}(h6:n<=6) (hm:∀m∈ms,okM n m) (hs:∀x∈ss,x.length=n) (hml:ms.length<=8) (hsl:ss.length<=100):cJ [tM_ ms,lS ss]=.ok (.bl (O1 ms ss)):=by
 have k1:=eY h6 hm hs hml hsl;have e:∀N mg me ρ (h:∀s∈y8 ms ss,∃ρ1,mg (tI s) (ρ++List.replicate (N-ρ.length) Sl.un)=some ρ1/\me ρ1=.ok (.bl (h9 s ss))),l6 N mg yes me ((y8 ms ss).map tI) ρ=.ok (.lst (((y8 ms ss).map λs=>h9 s ss).map W.bl)):=λN mg me ρ h=>by
  rw[m8 (λs=>W.bl (h9 s ss)) _ _ ρ (by rw[aQ];have:=Nat.mul_le_mul hml hsl;omega) h,qC7];rfl
 exists rpB,iL,k1;rw[e]
 ·exists rp18;unfold vB O1;rw[List.all_map];rfl
 ·intro s hss;have hk:=Z3 (s:=s) (ss:=ss) (λx hx=>by rw[hs x hx,dY hs s hss]);refine ⟨_,rfl,?_⟩;exists hk
def Bk (ms:List Mv) (t:List Int):Nat->List (List Int)
 |0=>[t]
 |k+1=>X2 (Bk ms t k++y8 ms (Bk ms t k))
theorem Y1 {n:Nat}{ms:List Mv}{t:List Int}(ht:t.length=n):∀k,Bas n (Bk ms t k)
 |0=>⟨λb hb=>by rw[qD0.mp hb];exact ht,qI7 _ _,qI7 _ _⟩
 |k+1=>(mT (ju (ms:=ms) (Y1 ht k).len)).1
section
variable {n:Nat}{ms:List Mv}{t:List Int}(ht:t.length=n)
include ht
theorem bb (k:Nat){s:List Int}(hs:s.length=n):h9 s (Bk ms t (k+1))=(h9 s (Bk ms t k)||ms.any (A2 (Bk ms t k) s)):=by
 have hB:=Y1 (ms:=ms) ht k;have hm:=mT (ju (ms:=ms) hB.len);have e:h9 s (Bk ms t (k+1))=true↔oN ms (Bk ms t k) s=true:=by
  rw[vc hB.len hs];unfold h9;rw[qD3];constructor
  ·rintro ⟨b,hb,hc⟩;exact ⟨b,hm.2.1 b hb,hc⟩
  ·rintro ⟨d,hd,hc⟩;obtain ⟨b,hb,hc'⟩:=hm.2.2.1 d hd;exact ⟨b,hb,iT (by rw[hs,ju (ms:=ms) hB.len d hd]) hc hc'⟩
 exact qJ8.mpr e
theorem va (k:Nat){s:List Int}(hs:s.length=n) (h:h9 s (Bk ms t k)=true):h9 s (Bk ms t (k+1))=true:=by
 rw[bb ht k hs,h];rfl
theorem gM:∀(k:Nat){s:List Int},s.length=n->j2 s t=true->h9 s (Bk ms t k)=true
 |0,s,_,h=>by show h9 s [t]=true;rw[wJ];exact h
 |k+1,s,hs,h=>va ht k hs (gM k hs h)
end
theorem nL {s:List Int}{m:Mv}(h:m.1.length=s.length):fH [tI s,mW m]=.ok (.bl (j2 s m.1)):=by
 have a0:L2.atI [tI m.1,tI m.2] 0=some (tI m.1):=rfl;have k:=Z7 (a:=s) (b:=m.1) h;exists rpB,rA,a0,k
theorem oZ {n:Nat}{m:Mv}(h6:n<=6) (h:okM n m):Q4 [mW m]=.ok (tI ((List.range n).map λk=>m.2.getD k 0-m.1.getD k 0)):=by
 have a0:L2.atI [tI m.1,tI m.2] 0=some (tI m.1):=rfl;have a1:L2.atI [tI m.1,tI m.2] 1=some (tI m.2):=rfl;have hz:=L9 (tI m.1) (tI m.2) _ _ rfl rfl;rw[P8 (by rw[h.1,h.2]),h.1]at hz;exists rpB,eN,a0,a1,hz;have e:∀N mg me ρ (h:∀k,k<n->∃ρ1,mg (.tup [.int (m.1.getD k 0),.int (m.2.getD k 0)]) (ρ++List.replicate (N-ρ.length) Sl.un)=some ρ1/\me ρ1=.ok (.int (m.2.getD k 0-m.1.getD k 0))),l6 N mg yes me ((List.range n).map λk=>W.tup [.int (m.1.getD k 0),.int (m.2.getD k 0)]) ρ=.ok (lI ((List.range n).map λk=>m.2.getD k 0-m.1.getD k 0)):=λN mg me ρ h=>by
  rw[m8 (λk=>.int (m.2.getD k 0-m.1.getD k 0)) _ _ ρ (by simpa using (by omega:n<=1000)) (λk hk=>h k (by simpa using hk)),eM]
 rw[e]
 ·exists rp18
 ·intro k hk;refine ⟨_,rfl,?_⟩;exists rp18
theorem sX {n:Nat}{s:List Int}{m:Mv}(h6:n<=6) (h:okM n m) (hs:s.length=n) (hc:j2 s m.1=true):aF [tI s,mW m]=.ok (tI ((List.range n).map λk=>s.getD k 0+(m.2.getD k 0-m.1.getD k 0))):=by
 have k1:=nL (s:=s) (m:=m) (by rw[hs,h.1]);rw[hc]at k1;have k2:=oZ h6 h;have hz:=L9 (tI s) (tI ((List.range n).map λk=>m.2.getD k 0-m.1.getD k 0)) _ _ rfl rfl;rw[P8 (by simp [hs]),hs]at hz;exists rpB,ng,k1,k2,hz;have e:∀N mg me ρ (h:∀k,k<n->∃ρ1,mg (.tup [.int (s.getD k 0),.int (((List.range n).map λk=>m.2.getD k 0-m.1.getD k 0).getD k 0)]) (ρ++List.replicate (N-ρ.length) Sl.un)=some ρ1/\me ρ1=.ok (.int (s.getD k 0+(m.2.getD k 0-m.1.getD k 0)))),l6 N mg yes me ((List.range n).map λk=>W.tup [.int (s.getD k 0),.int (((List.range n).map λk=>m.2.getD k 0-m.1.getD k 0).getD k 0)]) ρ=.ok (lI ((List.range n).map λk=>s.getD k 0+(m.2.getD k 0-m.1.getD k 0))):=λN mg me ρ h=>by
  rw[m8 (λk=>.int (s.getD k 0+(m.2.getD k 0-m.1.getD k 0))) _ _ ρ (by simpa using (by omega:n<=1000)) (λk hk=>h k (by simpa using hk)),eM]
 rw[e]
 ·exists rp18
 ·intro k hk;refine ⟨_,rfl,?_⟩;exists rp18;rw[t9 hk]
theorem mG {n N:Nat}{m:Rho->R Fl}{ws:List W}(h:ws.length=n):M6 n N m ws=w4 (m (ws.map Sl.val++List.replicate (N-n) Sl.un)):=by unfold M6;rw[qA4 h];rfl
theorem Bb {N:Nat}{m:Rho->R Fl}(a b:W):M6 2 N m [a,b]=w4 (m (Sl.val a::Sl.val b::List.replicate (N-2) Sl.un)):=mG rfl
theorem Ba {N:Nat}{m:Rho->R Fl}(a b c d:W):M6 4 N m [a,b,c,d]=w4 (m (Sl.val a::Sl.val b::Sl.val c::Sl.val d::List.replicate (N-4) Sl.un)):=mG rfl
def rgW (ms:List Mv)(t:List Int)(j:Nat):List W:=(List.range (j+1)).map λi=>lS (Bk ms t i)
theorem jS (ms:List Mv)(t:List Int)(j:Nat):(rgW ms t j).length=j+1:=by simp [rgW]
theorem Bp (ms:List Mv) (t:List Int) (j:Nat):rgW ms t (j+1)=rgW ms t j ++ [lS (Bk ms t (j+1))]:=by
 unfold rgW;rw[List.range_succ,qC6];rfl
theorem wv (ms:List Mv) (t:List Int) (j:Nat):L2.atI (rgW ms t j) (-1)=some (lS (Bk ms t j)):=by
 unfold L2.atI
 have:L2.ixN (rgW ms t j).length (-1)=some j:=by
  unfold L2.ixN;rw[jS];simp;omega
 rw[this]
 show (rgW ms t j)[j]?=_;unfold rgW;simp
def A8 (ms:List Mv)(t:List Int)(most:Nat)(word:String)(j:Nat):W:=if decide ((most:Int)<((Bk ms t j).length:Int))=true then .tup [.str "open",.int (j:Int)] else if O1 ms (Bk ms t j)=true then .tup [.str word,lS (Bk ms t j)] else if decide ((j:Int)=(most:Int))=true then .tup [.str "open",.int (j:Int)] else .non
theorem end_non {ms:List Mv}{t:List Int}{most:Nat}{word:String}{j:Nat}:A8 ms t most word j=.non↔((Bk ms t j).length<=most/\O1 ms (Bk ms t j)=false/\j≠most):=by
 unfold A8;constructor
 ·intro h
  split at h
  ·cases h
  ·rename_i h1
   split at h
   ·cases h
   ·rename_i h2
    split at h
    ·cases h
    ·rename_i h3
     simp at h1 h2 h3;exact ⟨by omega,h2,by omega⟩
 ·rintro ⟨h1,h2,h3⟩;rw[qA6 (by simp;omega),h2,qA6 qA5,qA6 (by simp;omega)]
theorem rV {n:Nat}{ms:List Mv}{t:List Int}{most j:Nat}{word:String}(h6:n<=6) (hm:∀m∈ms,okM n m) (hml:ms.length<=8) (ht:t.length=n) (hmo:most<=30):bo [tM_ ms,.lst (rgW ms t j),.int (most:Int),.str word]=.ok (A8 ms t most word j):=by
 have fin:Ok (bo [tM_ ms,.lst (rgW ms t j),.int (most:Int),.str word]) λv=>v=A8 ms t most word j:=by
  have a1:=wv ms t j;have l1:=jS ms t j;have hB:=Y1 (ms:=ms) ht j;have hnum:(((j+1:Nat):Int))-1=(j:Int):=by omega
  have ee:fEq false (.int (j:Int)) (.int (most:Int))=.ok (.bl (decide ((j:Int)=(most:Int)))):=lx false _ _;have n1:m5 ((Bk ms t j).map tI)=true:=fq _;exists Ba,kR,a1,l1,hnum;refine n9 (W4 (λh=>?_) (λh=>?_))
  ·exists rp18;unfold A8;rw[qA4 h]
  have hle:(Bk ms t j).length<=most:=by have:=of_decide_eq_false h;omega
  have k1:=xq h6 hm hB.len hml (by omega);exists k1;refine W4 (λh2=>?_) (λh2=>?_)
  ·exists rp18;unfold A8;rw[qA6 (by rw[h];exact qA5),qA4 h2]
  exists ee;refine W4 (λh3=>?_) (λh3=>?_)
  ·exists rp18;unfold A8;rw[qA6 (by rw[h];exact qA5),qA6 (by rw[h2];exact qA5),qA4 h3]
  ·exists rp18;unfold A8;rw[qA6 (by rw[h];exact qA5),qA6 (by rw[h2];exact qA5),qA6 (by rw[h3];exact qA5)]
 obtain ⟨v,e,rfl⟩:=fin;exact e
theorem AL {a b c x:Sl}{R:List W}{w:W}:dZ 4 [3] w [a,b,c,.own R,x] = [a,b,c,if noL w=true then .own R else .val (.lst R),.val w]:=by
 unfold dZ
 split <;> rfl
theorem Bi {n:Nat}{ms:List Mv}{t:List Int}{most j:Nat}{word:String}(hml:ms.length<=5) (hmo:most<=8) (h:A8 ms t most word j=.non):(Bk ms t j).length<=100/\(Bk ms t j).length+ms.length*(Bk ms t j).length<64:=by
 have h:=(end_non.mp h).1
 have:=Nat.mul_le_mul hml (show (Bk ms t j).length<=8 by omega)
 omega
theorem Eo (ws:List W) (w:W):N4 (ws ++ [w]) none (some (-1))=ws:=by
 unfold N4;rw[HT.sIx_none]
 have:HT.sIx (ws ++ [w]).length (ws ++ [w]).length (some (-1))=ws.length:=by
  show (if (-1:Int)<0 then ((-1:Int)+(((ws ++ [w]).length:Nat):Int)).toNat else min (-1:Int).toNat (ws ++ [w]).length)=_;rw[qA4 (by omega),qC3,qD9];omega
 rw[this];simp
theorem EW {n:Nat}{s:List Int}{m:Mv}(hs:s.length=n):(List.range n).map (λk=>s.getD k 0+(m.2.getD k 0-m.1.getD k 0))=v8 s m:=by
 unfold v8;rw[hs];refine qJ6 λk _=>?_;omega
theorem sY {n:Nat}{s:List Int}{m:Mv}(h6:n<=6) (h:okM n m) (hs:s.length=n) (hc:j2 s m.1=true):aF [tI s,mW m]=.ok (tI (v8 s m)):=by
 rw[sX h6 h hs hc,EW hs]
def P0 (ms:List Mv)(B:List (List Int))(s:List Int):List Nat:=(List.range ms.length).filter λk=>A2 B s (ms.getD k ([],[]))
theorem zC (ms:List Mv):((ms.map mW).mapIdx λi x=>W.tup [.int (i:Int),x])=(List.range ms.length).map λ(k:Nat)=>W.tup [.int (k:Int),mW (ms.getD k ([],[]))]:=by
 apply qH6
 ·simp
 ·intro i h1 h2;have hi:i<ms.length:=by simpa using h1
  simp [hi]
theorem yZ {n:Nat}{ms:List Mv}{B:List (List Int)}{s:List Int}(h6:n<=6) (hm:∀m∈ms,okM n m) (hml:ms.length<=8) (hB:∀x∈B,x.length=n) (hs:s.length=n):X5 [tI s,tM_ ms,lS B]=.ok (lI ((P0 ms B s).map λ(k:Nat)=>(k:Int))):=by
 have he:bp [tM_ ms]=.ok ((List.range ms.length).map λ(k:Nat)=>W.tup [.int (k:Int),mW (ms.getD k ([],[]))]):=congrArg R.ok (zC ms);have e:∀N mg mc me ρ,(∀k:Nat,k<ms.length->∃ρ1,mg (.tup [.int (k:Int),mW (ms.getD k ([],[]))]) (ρ++List.replicate (N-ρ.length) Sl.un)=some ρ1/\mc ρ1=.ok (A2 B s (ms.getD k ([],[])))/\me ρ1=.ok (.int (k:Int))) ->
   l6 N mg mc me ((List.range ms.length).map λ(k:Nat)=>W.tup [.int (k:Int),mW (ms.getD k ([],[]))]) ρ=.ok (lI ((P0 ms B s).map λ(k:Nat)=>(k:Int))):=λN mg mc me ρ h=>by
  have:=K2 (N':=N) (mg:=mg) (mc:=mc) (me:=me) (λk:Nat=>W.int (k:Int)) (λk:Nat=>W.tup [.int (k:Int),mW (ms.getD k ([],[]))]) (λk=>A2 B s (ms.getD k ([],[]))) (List.range ms.length) ρ (by simp;omega) λk hk=>by
   obtain ⟨ρ1,e1,e2,e3⟩:=h k (by simpa using hk);exact ⟨ρ1,e1,e2,λ_=>e3⟩
  rw[this];unfold lI P0;rw[qC7];rfl
 exists rpB,cy,he;rw[e]
 ·exists rp18
 intro k hk;have hmm:ms.getD k ([],[])∈ms:=by rw[qA0];simp [hk]
 have hok:=hm _ hmm;generalize ms.getD k ([],[])=m at hok
 have k1:=nL (s:=s) (m:=m) (by rw[hs];exact hok.1);refine ⟨_,rfl,?_⟩;cases q:j2 s m.1 with
 | false=>
  have a0:∀r:R Bool,TP.rAnd (.ok false) r=.ok false:=λr=>rfl;have st:A2 B s m=false:=by unfold A2;rw[q];rfl
  rw[q]at k1;exists k1,a0,st
 | true=>
  have k2:=sY h6 hok hs q;have k3:=Z3 (s:=v8 s m) (ss:=B) λx hx=>by rw[hB x hx,F2,hs]
  have st:A2 B s m=h9 (v8 s m) B:=by unfold A2;rw[q];rfl
  rw[q]at k1;exists k1,k2,k3,st
def O2 (ms:List Mv) (t:List Int):Nat->List Int->List Int
 |0,_=>[]
 |k+1,s=>(((P0 ms (Bk ms t k) s).getD 0 0:Nat):Int)::O2 ms t k (v8 s (ms.getD ((P0 ms (Bk ms t k) s).getD 0 0) ([],[])))
theorem iP {n:Nat}{ms:List Mv}{t s:List Int}{k:Nat}(ht:t.length=n) (hs:s.length=n) (h1:h9 s (Bk ms t (k+1))=true) (h0:h9 s (Bk ms t k)=false):∃r tl,P0 ms (Bk ms t k) s=r::tl/\r<ms.length/\A2 (Bk ms t k) s (ms.getD r ([],[]))=true:=by
 rw[bb ht k hs,h0,Bool.false_or]at h1;obtain ⟨m,hm,hq⟩:=qD3.mp h1;obtain ⟨i,hi,e⟩:=qE6.mp hm;have hin:i∈P0 ms (Bk ms t k) s:=qH2.mpr ⟨qE7.mpr hi,by
  rw[qA0,qA3 hi]
  show A2 _ s ms[i]=true;rw[e];exact hq⟩
 cases q:P0 ms (Bk ms t k) s with
 |nil=>rw[q]at hin;cases hin
 | cons r tl=>
  have hr:r∈P0 ms (Bk ms t k) s:=by rw[q];exact qB1
  obtain ⟨g1,g2⟩:=qH2.mp hr;exact ⟨r,tl,rfl,qE7.mp g1,g2⟩
theorem Bq {f:Nat->W}{j i:Nat}{w:W}(h:((List.range j).map f).reverse[i]?=some w):i<j/\w=f (j-1-i):=by
 have hi:i<j:=by have:=(qB0.mp h).1;simpa using this
 rw[List.getElem?_reverse (by simpa using hi)]at h;simp at h;obtain ⟨a,ha,e⟩:=h;rw[qE1 (by omega)]at ha;cases ha;exact ⟨hi,e.symm⟩
theorem Bh {n:Nat}{ms:List Mv}{b t:List Int}{j:Nat}(h6:n<=6) (hm:∀m∈ms,okM n m) (hml:ms.length<=8) (hb:b.length=n) (ht:t.length=n) (hj:j<=100) (hl:h9 b (Bk ms t j)=true) (hn:∀i,i<j->h9 b (Bk ms t i)=false):P3 [.tup [tI b,tM_ ms],.lst (rgW ms t j)]=.ok (lI (O2 ms t j b)):=by
 have fin:Ok (P3 [.tup [tI b,tM_ ms],.lst (rgW ms t j)]) λw=>w=lI (O2 ms t j b):=by
  have a0:L2.atI [tI b,tM_ ms] 0=some (tI b):=rfl;have a1:L2.atI [tI b,tM_ ms] 1=some (tM_ ms):=rfl;have cut:N4 (rgW ms t j) none (some (-1))=(List.range j).map λi=>lS (Bk ms t i):=by
   have:rgW ms t j=((List.range j).map λi=>lS (Bk ms t i)) ++ [lS (Bk ms t j)]:=by
    unfold rgW;rw[List.range_succ,qC6];rfl
   rw[this,Eo]
  exists Bb,cx,a0,cut;refine n9 (p8 (λi ρ=>∃(R s:List Int) (a4 a5:Sl),ρ = [.val (.tup [tI b,tM_ ms]),.val (.lst (rgW ms t j)),.own (R.map W.int),.val (tI s),a4,a5]/\R.length=i/\i<=j/\O2 ms t j b=R++O2 ms t (j-i) s/\s.length=n/\h9 s (Bk ms t (j-i))=true/\(i<j->h9 s (Bk ms t (j-1-i))=false)) ⟨[],b,_,_,rfl,rfl,qD1 _,rfl,hb,hl,λh=>hn _ (by omega)⟩ ?_ ?_)
  ·rintro i w ρ hw ⟨R,s,a4,a5,rfl,hR,hij,hrow,hs,hl1,hl0⟩;obtain ⟨hi,rfl⟩:=Bq hw;obtain ⟨k,hk⟩:∃k,j-i=k+1:=⟨j-i-1,by omega⟩;have hk2:j-1-i=k:=by omega
   have hk3:j-(i+1)=k:=by omega
   have hl0:=hl0 hi;rw[hk]at hrow hl1;rw[hk2]at hl0;obtain ⟨r,tl,er,hr,hst⟩:=iP ht hs hl1 hl0;have k1:=yZ h6 hm hml (Y1 (ms:=ms) ht k).len hs;rw[er]at k1;have b0:L2.atI ((((r::tl).map λ(k:Nat)=>(k:Int))).map W.int) 0=some (.int (r:Int)):=Y0 W.int (as:=(r::tl).map λ(k:Nat)=>(k:Int)) (d:=0) (i:=0) ⟨by omega,by simp⟩;have b1:L2.atI (ms.map mW) (r:Int)=some (mW (ms.getD r ([],[]))):=by
    have:=Y0 mW (as:=ms) (d:=([],[])) (i:=(r:Int)) (by omega)
    rw[qF8]at this;exact this
   have hok:=hm (ms.getD r ([],[])) (by rw[qA0];simp [hr]);have hr2:O2 ms t (k+1) s=(r:Int)::O2 ms t k (v8 s (ms.getD r ([],[]))):=by
    show (((P0 ms (Bk ms t k) s).getD 0 0:Nat):Int)::_=_;rw[er];rfl
   have hmem:ms.getD r ([],[])∈ms:=by rw[qA0];simp [hr]
   generalize ms.getD r ([],[])=m at hst b1 hok hr2 hmem
   have hst':=hst;unfold A2 at hst;rw[qG7]at hst;have k2:=sY h6 hok hs hst.1;refine ⟨_,rfl,?_⟩;rw[hk2];generalize ((r::tl).map λ(k:Nat)=>(k:Int))=ql at k1 b0
   exists a1,k1,b0,b1,k2;refine ⟨R ++ [(r:Int)],v8 s m,_,_,by rw[qC6],by simp [hR],hi,?_,by rw[F2];exact hs,by rw[hk3];exact hst.2,λh=>?_⟩
   ·rw[hk3,hrow,hr2,qI3];rfl
   ·obtain ⟨k',hk'⟩:∃k',k=k'+1:=⟨k-1,by omega⟩;rw[show j-1-(i+1)=k' by omega];cases q:h9 (v8 s m) (Bk ms t k') with
    |false=>rfl
    | true=>
     exfalso
     have:A2 (Bk ms t k') s m=true:=by unfold A2;rw[hst.1,q];rfl
     have l2:h9 s (Bk ms t (k'+1))=true:=by
      rw[bb ht k' hs,qD3.mpr ⟨m,hmem,this⟩,qK5]
     rw[hk']at hl0;rw[l2]at hl0;cases hl0
  ·rintro ρ ⟨R,s,a4,a5,rfl,hR,hij,hrow,hs,hl1,hl0⟩;rw[qB2,qA1,qE8]at hrow;exists rp18;rw[hrow,Nat.sub_self]
   show lI R=lI (R ++ []);rw[qF3]
 obtain ⟨v,e,rfl⟩:=fin;exact e
theorem vT {n:Nat}{ms:List Mv}{b t:List Int}{most:Nat}(h1:1<=n) (h6:n<=6) (hm:∀m∈ms,okM n m) (hml:ms.length<=5) (hb:b.length=n) (ht:t.length=n) (hmo:most<=8):Ok (hV [.tup [tI b,tM_ ms],tI t,.int (most:Int)]) λw=>∃j,(∀i,i<j->h9 b (Bk ms t i)=false/\A8 ms t most "wall" i=.non)/\((h9 b (Bk ms t j)=true/\w=.tup [.str "row",lI (O2 ms t j b)])\/(h9 b (Bk ms t j)=false/\A8 ms t most "wall" j≠.non/\w=A8 ms t most "wall" j)):=by
 have isn:∀w:W,isN w=true↔w=.non:=λw=>by cases w <;> simp [isN]
 have a0:L2.atI [tI b,tM_ ms] 0=some (tI b):=rfl;have a1:L2.atI [tI b,tM_ ms] 1=some (tM_ ms):=rfl;have cm:chk (tM_ ms)=.ok (tM_ ms):=v5 (kE ms);have ct:=v5 (O7 t);have cb:chk (.tup [tI b,tM_ ms])=.ok (.tup [tI b,tM_ ms]):=v5 (by
  show m5 [tI b,tM_ ms]=true;simp only [m5,O7,Bool.true_and,Bool.and_true];exact kE ms)
 exists rpB,mZ,ct;refine n9 (av ?_);refine eH (λk ρ=>∃(j:Nat) (x:Sl),ρ = [.par (.tup [tI b,tM_ ms]),.par (tI t),.par (.int (most:Int)),.own (rgW ms t j),x]/\k=most-j/\j<=most/\∀i,i<j->h9 b (Bk ms t i)=false/\A8 ms t most "wall" i=.non) ?_ most _ ⟨0,_,rfl,rfl,qD1 _,λi hi=>absurd hi (qF7 _)⟩;rintro k ρ ⟨j,x,rfl,hk,hjm,hall⟩;have r0:=wv ms t j;have l1:=jS ms t j;have hB:=Y1 (ms:=ms) ht j;have k1:=Z3 (s:=b) (ss:=Bk ms t j) λy hy=>by rw[hB.len y hy,hb]
 cases q:h9 b (Bk ms t j) with
 | true=>
  rw[q]at k1;have k2:=Bh h6 hm (by omega) hb ht (by omega) q λi hi=>(hall i hi).1;refine ⟨false,?_,?_⟩
  ·exists a0,r0,k1
  rw[qA6 qA5];exists cb,k2;exact ⟨j,hall,.inl ⟨q,rfl⟩⟩
 | false=>
  rw[q]at k1;refine ⟨true,?_,?_⟩
  ·exists a0,r0,k1
  rw[qA4 rfl];have e1:=rV (most:=most) (j:=j) (word := "wall") h6 hm (by omega) ht (by omega);exists AX,rR,vH,Fh,a1,cm,e1,AL;by_cases hw:A8 ms t most "wall" j=.non
  ·have rm:=Bi (n:=n) hml hmo hw;have hj:=(end_non.mp hw).2.2;have k3:=xn h1 h6 hm hB.len (by omega) rm.1 rm.2;have k3':R8 [tM_ ms,lS (Bk ms t j)]=.ok (lS (Bk ms t (j+1))):=k3;have r1:=Bp ms t j;have nn0:noL W.non=true:=rfl;rw[hw];exists nn0,a1,r0,k3';refine ⟨most-(j+1),by omega,j+1,_,by rw[<- r1],rfl,by omega,λi hi=>?_⟩;by_cases e:i=j
   ·rw[e];exact ⟨q,hw⟩
   ·exact hall i (by omega)
  ·have hbn:isN (A8 ms t most "wall" j)=false:=by
    cases q:isN (A8 ms t most "wall" j) with
    |false=>rfl
    |true=>exact absurd ((isn _).mp q) hw
   generalize hE:A8 ms t most "wall" j=w at hw hbn
   exists hbn;exact ⟨j,hall,.inr ⟨q,by rw[hE];exact hw,hE.symm⟩⟩
theorem rW (ms:List Mv) (t:List Int) (most:Nat) (word:String) (j:Nat):A8 ms t most word j=.non\/A8 ms t most word j=.tup [.str "open",.int (j:Int)]\/(A8 ms t most word j=.tup [.str word,lS (Bk ms t j)]/\(Bk ms t j).length<=most/\O1 ms (Bk ms t j)=true):=by
 unfold A8
 split
 ·exact .inr (.inl rfl)
 ·rename_i h1
  split
  ·rename_i h2
   exact .inr (.inr ⟨rfl,by simp at h1;omega,h2⟩)
  ·split
   ·exact .inr (.inl rfl)
   ·exact .inl rfl
def covP (ms:List Mv)(b t:List Int)(most:Nat)(w:W):Prop:=∃j,(∀i,i<j->h9 b (Bk ms t i)=false/\A8 ms t most "wall" i=.non)/\((h9 b (Bk ms t j)=true/\w=.tup [.str "row",lI (O2 ms t j b)])\/(h9 b (Bk ms t j)=false/\A8 ms t most "wall" j≠.non/\w=A8 ms t most "wall" j))
def R6 (ms:List Mv):List Int->List Int->Option (List Int)
 | [],s=>some s
 |r::rs,s=>if j2 s (ms.getD r.toNat ([],[])).1=true then R6 ms rs (v8 s (ms.getD r.toNat ([],[]))) else none
theorem jR {n:Nat}{ms:List Mv}{t:List Int}(ht:t.length=n):∀(k:Nat) (s:List Int),s.length=n->h9 s (Bk ms t k)=true->(∀i,i<k->h9 s (Bk ms t i)=false)->(∃s',R6 ms (O2 ms t k s) s=some s'/\s'.length=n/\j2 s' t=true)/\∀r∈O2 ms t k s,0<=r/\r<(ms.length:Int)
 |0,s,hs,hl,_=>⟨⟨s,rfl,hs,by rw[show Bk ms t 0 = [t] from rfl,wJ]at hl;exact hl⟩,λr h=>nomatch h⟩
 | k+1,s,hs,hl,hn=>by
  obtain ⟨r,tl,er,hr,hst⟩:=iP ht hs hl (hn k (by omega));have hr2:O2 ms t (k+1) s=(r:Int)::O2 ms t k (v8 s (ms.getD r ([],[]))):=by
   show (((P0 ms (Bk ms t k) s).getD 0 0:Nat):Int)::_=_;rw[er];rfl
  have hmem:ms.getD r ([],[])∈ms:=by rw[qA0];simp [hr]
  have hst2:=hst;unfold A2 at hst2;rw[qG7]at hst2;have ih:=jR ht k (v8 s (ms.getD r ([],[]))) (by rw[F2];exact hs) hst2.2 λi hi=>by
   cases q:h9 (v8 s (ms.getD r ([],[]))) (Bk ms t i) with
   |false=>rfl
   | true=>
    exfalso
    have:A2 (Bk ms t i) s (ms.getD r ([],[]))=true:=by unfold A2;rw[hst2.1,q];rfl
    have l2:h9 s (Bk ms t (i+1))=true:=by
     rw[bb ht i hs,qD3.mpr ⟨_,hmem,this⟩,qK5]
    rw[hn (i+1) (by omega)]at l2;cases l2
  rw[hr2];refine ⟨?_,λx hx=>?_⟩
  ·obtain ⟨s',e,h1,h2⟩:=ih.1;refine ⟨s',?_,h1,h2⟩;unfold R6;rw[qF8,qA4 hst2.1];exact e
  ·rcases qB3.mp hx with rfl|hx
   ·omega
   ·exact ih.2 x hx
theorem vf {n:Nat}{ms:List Mv}{ss:List (List Int)}(hs:∀x∈ss,x.length=n) (hsh:O1 ms ss=true){s:List Int}{m:Mv}(hm:m∈ms) (hl:s.length=n) (hc:j2 s m.1=true) (h0:h9 s ss=false):h9 (v8 s m) ss=false:=by
 cases q:h9 (v8 s m) ss with
 |false=>rfl
 | true=>
  exfalso;unfold h9 at q;obtain ⟨b,hb,cb⟩:=qD3.mp q;have c1:=(ga (m:=m) hl (hs b hb)).mpr ⟨hc,cb⟩;have hin:srcL b m.1 m.2∈y8 ms ss:=List.mem_flatMap.mpr ⟨m,hm,qB6.mpr ⟨b,hb,rfl⟩⟩;unfold O1 at hsh;have c2:=qE5.mp hsh _ hin;unfold h9 at c2;obtain ⟨d,hd,cd⟩:=qD3.mp c2
  have:h9 s ss=true:=qD3.mpr ⟨d,hd,iT (by rw[hl];exact (dY hs _ hin).symm) c1 cd⟩
  rw[this]at h0;cases h0
inductive Rch (ms:List Mv) (b:List Int):List Int->Prop where
 |beg:Rch ms b b
 |go {s:List Int}{m:Mv}:Rch ms b s->m∈ms->j2 s m.1=true->Rch ms b (v8 s m)
theorem Rch.len {ms:List Mv}{b s:List Int}(h:Rch ms b s):s.length=b.length:=by
 induction h with
 |beg=>rfl
 |go _ _ _ ih=>rw[F2];exact ih
theorem Rch.out {n:Nat}{ms:List Mv}{b s:List Int}{ss:List (List Int)}(hs:∀x∈ss,x.length=n) (hsh:O1 ms ss=true) (hb:b.length=n) (h0:h9 b ss=false) (h:Rch ms b s):h9 s ss=false:=by
 induction h with
 |beg=>exact h0
 |go r hm hc ih=>exact vf hs hsh hm (by rw[r.len];exact hb) hc ih
def nn (xs:List Int):Prop:=∀x∈xs,0<=x
def okN (n:Nat)(m:Mv):Prop:=m.1.length=n/\m.2.length=n/\nn m.1/\nn m.2
theorem df {xs:List Int}(h:nn xs) (k:Nat):0<=xs.getD k 0:=by
 by_cases hk:k<xs.length
 ·exact memD h hk
 ·rw[qA0];simp [hk]
theorem atM {ms:List Mv}{r:Int}(h0:0<=r) (h1:r<ms.length):L2.atI (ms.map mW) r=some (mW (ms.getD r.toNat ([],[]))):=by
 unfold L2.atI;rw[aE h0 (by rw[qA1];exact h1)]
 show (ms.map mW)[r.toNat]?=_;have hi:r.toNat<ms.length:=by omega
 rw[qA8,qA0];simp [hi]
theorem getM {n:Nat}{ms:List Mv}{i:Nat}(hm:∀m∈ms,okN n m) (h1:i<ms.length):okN n (ms.getD i ([],[])):=by
 refine hm _ ?_;rw[qA0];simp [h1]
def D0 (a b:Option Int):Bool:=match b with
 |none=>true
 | some y=>match a with
  |none=>false
  |some x=>decide (x<=y)
def g9 (cs ds:List (Option Int)):Bool:=(List.range cs.length).all λk=>D0 (cs.getD k none) (ds.getD k none)
abbrev tC (cs:List (Option Int)):W:=.tup (cs.map oW)
abbrev lC (cs:List (Option Int)):W:=.lst (cs.map oW)
theorem Fm {cs ds:List (Option Int)}{i:Nat}(hi:i<cs.length) (h:D0 (cs.getD i none) (ds.getD i none)=false):g9 cs ds=false:=by
 unfold g9;rw[List.all_eq_false];exact ⟨i,by simpa using hi,by rw[h];exact qA5⟩
theorem cX {cs ds:List (Option Int)}(h:∀k,k<cs.length->D0 (cs.getD k none) (ds.getD k none)=true):g9 cs ds=true:=by
 unfold g9;rw[qE5];exact λk hk=>h k (by simpa using hk)
theorem dS {cs ds:List (Option Int)}(hl:ds.length=cs.length):V3 [tC cs,tC ds]=.ok (.bl (g9 cs ds)):=by
 have fin:Ok (V3 [tC cs,tC ds]) λv=>v=.bl (g9 cs ds):=by
  have hz:=L9 (tC cs) (tC ds) _ _ rfl rfl;rw[fY oW oW hl none none]at hz;exists rpB,mX,hz;refine n9 (p8 (λi ρ=>∃a b,ρ = [.par (tC cs),.par (tC ds),a,b]/\∀k,k<i->D0 (cs.getD k none) (ds.getD k none)=true) ⟨_,_,rfl,λk hk=>absurd hk (qF7 _)⟩ ?_ ?_)
  ·rintro i u ρ hu ⟨a,b,rfl,hall⟩;obtain ⟨hi,rfl⟩:=jU hu;refine ⟨_,rfl,?_⟩;have key:D0 (cs.getD i none) (ds.getD i none)=true->∀k,k<i+1->D0 (cs.getD k none) (ds.getD k none)=true:=λh k hk=>by
    by_cases e:k=i
    ·subst e;exact h
    ·exact hall k (by omega)
   have bad:=Fm (ds:=ds) hi
   revert key bad
   cases hd:ds.getD i none with
   | none=>
    intro key bad;exists rp18;exact ⟨_,_,rfl,key rfl⟩
   | some y=>
    cases hc:cs.getD i none with
    | none=>
     intro key bad;exists rp18;rw[bad rfl]
    | some x=>
     intro key bad;exists rp18;refine R4 (λh=>?_) (λh=>?_)
     ·exists rp18;rw[bad (by show decide (x<=y)=false;simp only [decide_eq_true_eq]at h;exact decide_eq_false (by omega))]
     ·exists rp18;exact ⟨_,_,rfl,key (by show decide (x<=y)=true;simp only [decide_eq_false_iff_not]at h;exact decide_eq_true (by omega))⟩
  ·rintro ρ ⟨a,b,rfl,hall⟩;rw[qA1,qE8]at hall;exists rp18;rw[cX hall]
 obtain ⟨v,e,rfl⟩:=fin;exact e
def O4 (c e:Option Int):Option Int:=if c=e then c else none
def i0 (cs es:List (Option Int)):List (Option Int):=if g9 es cs=true then (List.range cs.length).map λk=>O4 (cs.getD k none) (es.getD k none) else cs
theorem K0 (cs es:List (Option Int)):(i0 cs es).length=cs.length:=by unfold i0;split <;> simp
theorem iB {cs es:List (Option Int)}(hl:es.length=cs.length) (h6:cs.length<=6):X4 [tC cs,tC es]=.ok (tC (i0 cs es)):=by
 have hu:=dS (cs:=es) (ds:=cs) hl.symm;have fin:Ok (X4 [tC cs,tC es]) λv=>v=tC (i0 cs es):=by
  have hz:=L9 (tC cs) (tC es) _ _ rfl rfl;rw[fY oW oW hl none none]at hz;exists rpB,kM,hu;refine n9 (W4 (λh=>?_) (λh=>?_))
  ·exists v5 (show noL (tC cs)=true from B3 cs);unfold i0;rw[qA6 (by simpa using h)]
  ·exists hz;refine Cj (kA (wG ?_));refine ⟨lC (i0 cs es),?_,?_⟩
   ·rw [m8 (λk=>oW (O4 (cs.getD k none) (es.getD k none))) _ _ _ (by simpa using (by omega:cs.length<=1000))]
    ·unfold i0;rw[qA4 (by simpa using h)];exact congrArg (λl=>R.ok (W.lst l)) (by rw[qC7];rfl)
    ·intro k hk;refine ⟨_,rfl,?_⟩;have hk:k<cs.length:=by simpa using hk
     cases hc:cs.getD k none with
     | none=>
      cases he:es.getD k none with
      | none=>
       exists rp18;rfl
      | some y=>
       exists rp18;rfl
     | some x=>
      cases he:es.getD k none with
      | none=>
       exists rp18;rfl
      | some y=>
       exists rp18;unfold O4;by_cases e:x=y
       ·subst e;simp;rfl
       ·simp [e];rfl
   ·exact ⟨_,by rw[lw,sx],rfl⟩
 obtain ⟨v,e,rfl⟩:=fin;exact e
theorem iW {n:Nat}{m:Mv}(h6:n<=6) (h:okN n m):Q4 [mW m]=.ok (tI ((List.range n).map λk=>m.2.getD k 0-m.1.getD k 0)):=by
 have a0:L2.atI [tI m.1,tI m.2] 0=some (tI m.1):=rfl;have a1:L2.atI [tI m.1,tI m.2] 1=some (tI m.2):=rfl;have hz:=L9 (tI m.1) (tI m.2) _ _ rfl rfl;rw[P8 (by rw[h.1,h.2.1]),h.1]at hz;exists rpB,eN,a0,a1,hz;have e:∀N mg me ρ (h:∀k,k<n->∃ρ1,mg (.tup [.int (m.1.getD k 0),.int (m.2.getD k 0)]) (ρ++List.replicate (N-ρ.length) Sl.un)=some ρ1/\me ρ1=.ok (.int (m.2.getD k 0-m.1.getD k 0))),l6 N mg yes me ((List.range n).map λk=>W.tup [.int (m.1.getD k 0),.int (m.2.getD k 0)]) ρ=.ok (lI ((List.range n).map λk=>m.2.getD k 0-m.1.getD k 0)):=λN mg me ρ h=>by
  rw[m8 (λk=>.int (m.2.getD k 0-m.1.getD k 0)) _ _ ρ (by simpa using (by omega:n<=1000)) (λk hk=>h k (by simpa using hk)),eM]
 rw[e]
 ·exists rp18
 ·intro k hk;refine ⟨_,rfl,?_⟩;exists rp18
abbrev Cap:=List (Option Int)
abbrev GEnt:=Cap×Nat×Nat
abbrev gW (e:GEnt):W:=.tup [tC e.1,.int (e.2.1:Int),.int (e.2.2:Int)]
abbrev g0 (c:Cap):W:=.tup [tC c,.non,.non]
abbrev g8 (c:Cap)(es:List GEnt):List W:=g0 c::es.map gW
def stC (c:Cap)(es:List GEnt):List Cap:=c::es.map (·.1)
def sC (c:Cap)(es:List GEnt)(a:Nat):Cap:=(stC c es).getD a []
def mvN (ms:List Mv)(k:Nat):Mv:=ms.getD k ([],[])
def cdG (e:GEnt):Nat:=e.2.1*8+e.2.2
theorem V2 (c:Cap)(es:List GEnt):(stC c es).length=es.length+1:=by simp [stC]
theorem gj {c:Cap}{es:List GEnt}{e:GEnt}{a:Nat}(h:a<=es.length):sC c (es ++ [e]) a=sC c es a:=by
 unfold sC stC;rw[qC6,<- qK8,qA0,qA0,qE0 (by simp;omega)]
theorem fc {c:Cap}{es:List GEnt}{i:Nat}{e:GEnt}(h:es[i]?=some e):sC c es (i+1)=e.1:=by
 unfold sC stC;rw[qA0,List.getElem?_cons_succ,qA8,h];rfl
theorem bX {c:Cap}{es:List GEnt}{a:Nat}(h:a<=es.length):sC c es a∈stC c es:=by
 unfold sC;rw[qA0,qA3 (by rw[V2];omega)];exact qF0 _
theorem wq (b:List Int):tI b=tC (b.map some):=congrArg W.tup (by rw[qC7];rfl)
def dR (es:List GEnt):Nat->Nat->List Nat
 |_,0=>[0]
 |0,n+1=>[n+1]
 |f+1,i+1=>(i+1)::dR es f (es.getD i ([],0,0)).2.1
def i5 (es:List GEnt)(n:Nat):List Nat:=dR es n n
def E4 (es:List GEnt):Prop:=∀(i:Nat)(e:GEnt),es[i]?=some e->e.2.1<=i
theorem C4 (es:List GEnt):i5 es 0 = [0]:=rfl
theorem getD_at {es:List GEnt}{i:Nat}{e:GEnt}(h:es[i]?=some e):es.getD i ([],0,0)=e:=by rw[qA0,h];rfl
theorem pI {es:List GEnt}(hp:E4 es):∀n f,n<=f->n<=es.length->dR es f n=dR es n n:=by
 intro n
 induction n using Nat.strongRecOn with
 | _ n ih=>
  intro f hf hn;cases n with
  |zero=>cases f <;> rfl
  | succ i=>
   obtain ⟨f,rfl⟩:∃g,f=g+1:=⟨f-1,by omega⟩;have he:es[i]?=some es[i]:=qA3 (by omega);have hq:=hp i _ he
   show (i+1)::dR es f (es.getD i ([],0,0)).2.1=(i+1)::dR es i (es.getD i ([],0,0)).2.1;rw[getD_at he,ih es[i].2.1 (by omega) f (by omega) (by omega),ih es[i].2.1 (by omega) i (by omega) (by omega)]
theorem k9 {es:List GEnt}(hp:E4 es){i:Nat}{e:GEnt}(h:es[i]?=some e):i5 es (i+1)=(i+1)::i5 es e.2.1:=by
 have hi:=(qB0.mp h).1;have hq:=hp i e h
 show (i+1)::dR es i (es.getD i ([],0,0)).2.1=_;rw[getD_at h,pI hp e.2.1 i hq (by omega)];rfl
theorem D4 {es:List GEnt}(hp:E4 es):∀n,n<=es.length->(∀q∈i5 es n,q<=n)/\(i5 es n).length<=n+1:=by
 intro n
 induction n using Nat.strongRecOn with
 | _ n ih=>
  intro hn;cases n with
  |zero=>rw[C4];exact ⟨by simp,by simp⟩
  | succ i=>
   have he:es[i]?=some es[i]:=qA3 (by omega);have hq:=hp i _ he;obtain ⟨h1,h2⟩:=ih es[i].2.1 (by omega) (by omega);rw[k9 hp he];refine ⟨λq hq'=>?_,by rw[qC1];omega⟩;rcases qB3.mp hq' with rfl|h
   ·exact qB9 _
   ·have:=h1 q h;omega
theorem pJ {es:List GEnt}{x:GEnt}(hp:E4 es) (hx:x.2.1<=es.length):∀n,n<=es.length->i5 (es ++ [x]) n=i5 es n:=by
 have hp':E4 (es ++ [x]):=λi e he=>by
  by_cases hi:i<es.length
  ·rw[qE0 hi]at he;exact hp i e he
  ·have hi':=(qB0.mp he).1;rw[qC3,qD9]at hi'
   have:i=es.length:=by omega
   subst this;rw[qG3 (qB9 _),Nat.sub_self]at he;cases he;exact hx
 intro n
 induction n using Nat.strongRecOn with
 | _ n ih=>
  intro hn;cases n with
  |zero=>rfl
  | succ i=>
   have he:es[i]?=some es[i]:=qA3 (by omega);have he':(es ++ [x])[i]?=some es[i]:=by rw[qE0 (by omega)];exact he
   have hq:=hp i _ he;rw[k9 hp he,k9 hp' he',ih es[i].2.1 (by omega) (by omega)]
def L7 (c:Cap)(m:Mv):Bool:=g9 (m.1.map some) c
def o6 (c:Cap)(m:Mv):Cap:=(List.range c.length).map λk=>(c.getD k none).map λx=>x+(m.2.getD k 0-m.1.getD k 0)
theorem F4 (c:Cap)(m:Mv):(o6 c m).length=c.length:=by simp [o6]
theorem fP {c:Cap}{m:Mv}(hm:okN c.length m):V1 [tC c,mW m]=.ok (.bl (L7 c m)):=by
 have a0:L2.atI [tI m.1,tI m.2] 0=some (tI m.1):=rfl;have k:=dS (cs:=m.1.map some) (ds:=c) (by rw[qA1,hm.1]);rw[<- wq]at k;exists rpB,fy,a0,k;rfl
theorem dP {c:Cap}{m:Mv}(h6:c.length<=6) (hm:okN c.length m) (ha:L7 c m=true):R9 [tC c,mW m]=.ok (tC (o6 c m)):=by
 have k1:=fP hm;rw[ha]at k1;have k2:=iW h6 hm;have hz:=L9 (tC c) (tI ((List.range c.length).map λk=>m.2.getD k 0-m.1.getD k 0)) _ _ rfl rfl;rw[fY oW W.int (by simp) none 0]at hz;exists rpB,dI,k1,k2,hz;have e:∀N mg me ρ (h:∀k,k<c.length->∃ρ1,mg (.tup [oW (c.getD k none),.int (((List.range c.length).map λk=>m.2.getD k 0-m.1.getD k 0).getD k 0)]) (ρ++List.replicate (N-ρ.length) Sl.un)=some ρ1/\me ρ1=.ok (oW ((c.getD k none).map λx=>x+(m.2.getD k 0-m.1.getD k 0)))),l6 N mg yes me ((List.range c.length).map λk=>W.tup [oW (c.getD k none),.int (((List.range c.length).map λk=>m.2.getD k 0-m.1.getD k 0).getD k 0)]) ρ=.ok (lC (o6 c m)):=λN mg me ρ h=>by
  rw[m8 (λk=>oW ((c.getD k none).map λx=>x+(m.2.getD k 0-m.1.getD k 0))) _ _ ρ (by simp;omega) (λk hk=>h k (by simpa using hk))];unfold o6;exact congrArg (λl=>R.ok (W.lst l)) (by rw[qC7];rfl)
 rw[e]
 ·exists rp18
 ·intro k hk;refine ⟨_,rfl,?_⟩;have hg:((List.range c.length).map λk=>m.2.getD k 0-m.1.getD k 0).getD k 0=m.2.getD k 0-m.1.getD k 0:=by rw[qA0,qA8,qE1 hk];rfl
  rw[hg];cases c.getD k none with
  | none=>
   exists rp18;rfl
  | some x=>
   exists rp18;rfl
def F3 (cs:List Cap)(x:Cap):Bool:=cs.any λd=>g9 x d
theorem dz {cs:List Cap}{x:Cap}(hl:∀d∈cs,d.length=x.length):M1 [tC x,.lst (cs.map tC)]=.ok (.bl (F3 cs x)):=by
 have fin:Ok (M1 [tC x,.lst (cs.map tC)]) λv=>v=.bl (F3 cs x):=by
  exists rpB,dF;refine n9 (p8 (λi ρ=>∃a2,ρ = [.par (tC x),.par (.lst (cs.map tC)),a2]/\∀k (hk:k<cs.length),k<i->g9 x cs[k]=false) ⟨_,rfl,λk _ hk=>absurd hk (qF7 _)⟩ ?_ ?_)
  ·rintro i u ρ hu ⟨a2,rfl,hall⟩;rw[qA8]at hu;obtain ⟨d,hd,rfl⟩:=qE3.mp hu;obtain ⟨hi,ed⟩:=qB0.mp hd;have hdm:=qC8 hd;have k:=dS (cs:=x) (ds:=d) (hl d hdm);refine ⟨_,rfl,?_⟩;exists k;refine R4 (λh=>?_) (λh=>?_)
   ·exists rp18
    have:F3 cs x=true:=qD3.mpr ⟨d,hdm,h⟩
    rw[this]
   ·exists rp18;refine ⟨_,rfl,λk hk hki=>?_⟩;by_cases e:k=i
    ·subst e;rw[ed];exact h
    ·exact hall k hk (by omega)
  ·rintro ρ ⟨a2,rfl,hall⟩;exists rp18
   have:F3 cs x=false:=by
    unfold F3;rw[qH1];intro d hd;obtain ⟨k,hk,e⟩:=qE6.mp hd
    have:=hall k hk (by rw[qA1];exact hk)
    rw[e]at this;rw[this];decide
   rw[this]
 obtain ⟨v,e,rfl⟩:=fin;exact e
theorem db {c:Cap}{es:List GEnt}{i:Nat}{e:GEnt}(h:es[i]?=some e):L2.atI (g8 c es) ((i+1:Nat):Int)=some (gW e):=aK (k:=i+1) (by show (es.map gW)[i]?=_;rw[qA8,h];rfl)
theorem Q0 {c:Cap}{es:List GEnt}{a:Nat}(h:a<=es.length):∃x y:W,L2.atI (g8 c es) (a:Int)=some (.tup [tC (sC c es a),x,y]):=by
 cases a with
 |zero=>exact ⟨.non,.non,aK (k:=0) rfl⟩
 | succ a=>
  have he:es[a]?=some es[a]:=qA3 (by omega);rw[fc he];exact ⟨_,_,db he⟩
theorem aM {c:Cap}{es:List GEnt}{n:Nat}(hp:E4 es) (hl:es.length<=100) (hn:n<=es.length):A6 [.lst (g8 c es),.int (n:Int)]=.ok (lI ((i5 es n).map λ(k:Nat)=>(k:Int))):=by
 have fin:Ok (A6 [.lst (g8 c es),.int (n:Int)]) λv=>v=lI ((i5 es n).map λ(k:Nat)=>(k:Int)):=by
  have hwl:=(D4 hp n hn).2;exists rpB,fu;refine n9 (av ?_);refine eH (λm ρ=>∃(xs l':List Nat) (w:W) (a3:Sl),ρ = [.par (.lst (g8 c es)),.par (.int (n:Int)),.own ((xs.map λ(k:Nat)=>(k:Int)).map W.int),a3]/\(a3=.val w\/a3=.par w)/\xs++l'=i5 es n/\((w=.non/\l' = [])\/∃(n':Nat),w=.int (n':Int)/\l'=i5 es n'/\n'<m/\n'<=es.length)) ?_ (n+1) _ ⟨[],i5 es n,.int (n:Int),.val (.int (n:Int)),rfl,.inl rfl,rfl,.inr ⟨n,rfl,rfl,qJ4 n,hn⟩⟩;rintro m ρ ⟨xs,l',w,a3,rfl,ha,hx,hc⟩;rcases hc with ⟨rfl,rfl⟩|⟨n',rfl,rfl,hm,hn'⟩
  ·refine ⟨false,?_,?_⟩
   ·rcases ha with rfl|rfl
    ·exists rp18
    ·exists rp18
   ·rw [qA6 qA5]
    rw[qF3]at hx;subst hx;exists rp18
  ·refine ⟨true,?_,?_⟩
   ·rcases ha with rfl|rfl
    ·exists rp18
    ·exists rp18
   ·rw [qA4 rfl]
    have hxl:xs.length<=(i5 es n).length:=by rw[<- hx,qC3];omega
    cases n' with
    | zero=>
     have r00:L2.atI (g8 c es) (((0:Nat)):Int)=some (g0 c):=aK (k:=0) rfl;have r01:L2.atI (g8 c es) 0=some (g0 c):=r00;have b1:L2.atI [tC c,W.non,W.non] 1=some W.non:=rfl;have hx2:(xs ++ [0]) ++ []=i5 es n:=by rw[<- hx,qF3];rfl
     rcases ha with rfl|rfl
     ·exists r00,r01,b1;exact ⟨0,by omega,xs ++ [0],[],.non,_,by simp only [qC6,qC4,qI0];rfl,.inr rfl,hx2,.inl ⟨rfl,rfl⟩⟩
     ·exists r00,r01,b1;exact ⟨0,by omega,xs ++ [0],[],.non,_,by simp only [qC6,qC4,qI0];rfl,.inr rfl,hx2,.inl ⟨rfl,rfl⟩⟩
    | succ i=>
     have h:es[i]?=some es[i]:=qA3 (by omega);generalize es[i]=e at h
     have r1:=db (c:=c) h;have b1:L2.atI [tC e.1,.int (e.2.1:Int),.int (e.2.2:Int)] 1=some (.int (e.2.1:Int)):=rfl;have hpi:=hp i e h;have hx2:(xs ++ [i+1])++i5 es e.2.1=i5 es n:=by rw[<- hx,k9 hp h,qI3];rfl
     rcases ha with rfl|rfl
     ·exists r1,b1;exact ⟨i+1,by omega,xs ++ [i+1],i5 es e.2.1,.int (e.2.1:Int),_,by simp only [qC6,qC4,qI0],.inr rfl,hx2,.inr ⟨e.2.1,rfl,rfl,by omega,by omega⟩⟩
     ·exists r1,b1;exact ⟨i+1,by omega,xs ++ [i+1],i5 es e.2.1,.int (e.2.1:Int),_,by simp only [qC6,qC4,qI0],.inr rfl,hx2,.inr ⟨e.2.1,rfl,rfl,by omega,by omega⟩⟩
 obtain ⟨v,e,rfl⟩:=fin;exact e
def upC (c:Cap)(es:List GEnt)(l:List Nat)(x:Cap):Cap:=l.foldl (λy q=>i0 y (sC c es q)) x
def p9 (c:Cap)(ms:List Mv)(es:List GEnt)(a k:Nat):Cap:=upC c es (i5 es a) (o6 (sC c es a) (mvN ms k))
theorem am (c:Cap) (es:List GEnt):∀(l:List Nat) (x:Cap),(upC c es l x).length=x.length
 | [],_=>rfl
 | q::l,x=>by
  show (upC c es l (i0 x (sC c es q))).length=_;rw[am c es l,K0]
theorem Z8 (c:Cap)(ms:List Mv)(es:List GEnt)(a k:Nat):(p9 c ms es a k).length=(sC c es a).length:=by unfold p9;rw[am,F4]
theorem jx {c:Cap}{es:List GEnt}{e:GEnt}:∀(l:List Nat) (x:Cap),(∀q∈l,q<=es.length)->upC c (es ++ [e]) l x=upC c es l x
 | [],_,_=>rfl
 | q::l,x,h=>by
  show upC c (es ++ [e]) l (i0 x (sC c (es ++ [e]) q))=upC c es l (i0 x (sC c es q));rw[gj (h q qB1),jx l _ λq' hq'=>h q' (qA7 _ hq')]
theorem pb {c:Cap}{ms:List Mv}{es:List GEnt}{e:GEnt}{a k:Nat}(hp:E4 es) (hx:e.2.1<=es.length) (ha:a<=es.length):p9 c ms (es ++ [e]) a k=p9 c ms es a k:=by
 unfold p9;rw[pJ hp hx a ha,gj ha,jx];intro q hq
 have:=(D4 hp a ha).1 q hq
 omega
def K6 (c:Cap)(ms:List Mv)(es:List GEnt)(a k:Nat):List GEnt:=if (L7 (sC c es a) (mvN ms k)&&!F3 (stC c es) (p9 c ms es a k))=true then es ++ [(p9 c ms es a k,a,k)] else es
def bu (c:Cap):Option GEnt->Cap
 |none=>c
 |some e=>e.1
def Y6 (c:Cap):Option GEnt->W
 |none=>g0 c
 |some e=>gW e
theorem gm (c:Cap)(es:List GEnt):g8 c es=(none::es.map some).map (Y6 c):=by rw[qC4,qC7];rfl
theorem wu (c:Cap)(es:List GEnt):(none::es.map some).map (bu c)=stC c es:=by rw[qC4,qC7];rfl
theorem oC (c:Cap) (es:List GEnt):m5 (g8 c es)=true:=by
 rw[gm];refine X1 (Y6 c) (λo=>?_) _;cases o with
 |none=>show (m5 (c.map oW)&&(true&&(true&&true)))=true;rw[B3];rfl
 |some e=>show (m5 (e.1.map oW)&&(true&&(true&&true)))=true;rw[B3];rfl
theorem C7 {c:Cap}{es:List GEnt}(hl:∀e∈es,e.1.length=c.length){a:Nat}(ha:a<=es.length):(sC c es a).length=c.length:=by
 have:=bX (c:=c) ha
 unfold stC at this;rcases qB3.mp this with e|e
 ·rw[e]
 ·obtain ⟨z,hz,ez⟩:=qB6.mp e;rw[<- ez];exact hl z hz
theorem zb {b:List Int}{ms:List Mv}{es:List GEnt}{a k:Nat}(h6:b.length<=6) (hm:∀m∈ms,okN b.length m) (hp:E4 es) (hl:∀e∈es,e.1.length=b.length) (h100:es.length<=90) (ha:a<=es.length) (hk:k<ms.length):fG (.tup [tI b,tM_ ms]) (g8 (b.map some) es) [.int (a:Int),.int (k:Int)]=.ok (g8 (b.map some) (K6 (b.map some) ms es a k)):=by
 obtain ⟨c,hc⟩:∃c:Cap,c=b.map some:=⟨_,rfl⟩;have hcl:c.length=b.length:=by rw[hc,qA1]
 rw[<- hc];refine qz λp=>?_;have hl':∀e∈es,e.1.length=c.length:=λe he=>by rw[hcl];exact hl e he
 have hsl:=C7 hl' ha;have hmk:okN (sC c es a).length (mvN ms k):=by rw[hsl,hcl];exact getM hm hk
 have a1:L2.atI [tI b,tM_ ms] 1=some (tM_ ms):=rfl;have ej:L2.atI (ms.map mW) (k:Int)=some (mW (mvN ms k)):=by
  have:=atM (ms:=ms) (r:=(k:Int)) (by omega) (by omega)
  rw[qF8]at this;exact this
 obtain ⟨x,y,er⟩:=Q0 (c:=c) (es:=es) ha;have b0:L2.atI [tC (sC c es a),x,y] 0=some (tC (sC c es a)):=rfl;have k1:=fP (c:=sC c es a) hmk;have hnl:=oC c es;unfold Y5;rw[qA4 ⟨rfl,hnl⟩];obtain ⟨rw_,hrw⟩:∃rw_,rw_=g8 c es:=⟨_,rfl⟩;rw[<- hrw]at er;cases hab:L7 (sC c es a) (mvN ms k) with
 | false=>
  rw[hab]at k1;have e:S9 p [.par (.tup [tI b,tM_ ms]),.iop p rw_,.par (.int (a:Int)),.par (.int (k:Int)),.un,.un,.un]=.ok (.bk [.par (.tup [tI b,tM_ ms]),.iop p rw_,.par (.int (a:Int)),.par (.int (k:Int)),.par (mW (mvN ms k)),.un,.un]):=by
   exists rpB,S9,a1,ej,er,b0,k1
  rw[hrw]at e
  show (match S9 p [.par (.tup [tI b,tM_ ms]),.iop p (g8 c es),.par (.int (a:Int)),.par (.int (k:Int)),.un,.un,.un]with | .ok (.nx ρ)=>ioR p ρ | .ok (.bk ρ)=>ioR p ρ|_=>.stuck)=_;rw[e]
  show (if p=p then R.ok (g8 c es) else .stuck)=_;rw[qA4 rfl];unfold K6;rw[hab];rfl
 | true=>
  rw[hab]at k1;have h6':(sC c es a).length<=6:=by omega
  have k2:=dP h6' hmk hab;have kw:=aM (c:=c) hp (by omega) ha;have hwl:=D4 hp a ha;have hal:(o6 (sC c es a) (mvN ms k)).length=c.length:=by rw[F4,hsl]
  have kU:=dz (cs:=stC c es) (x:=p9 c ms es a k) (λd hd=>by
   rw[Z8,hsl];unfold stC at hd;rcases qB3.mp hd with q|q
   ·rw[q]
   ·obtain ⟨z,hz,ez⟩:=qB6.mp q;rw[<- ez];exact hl' z hz)
  have ekn:∀N mg me ρ (h:∀o∈(none::es.map some:List (Option GEnt)),∃ρ1,mg (Y6 c o) (ρ++List.replicate (N-ρ.length) Sl.un)=some ρ1/\me ρ1=.ok (tC (bu c o))),l6 N mg yes me rw_ ρ=.ok (.lst ((stC c es).map tC)):=λN mg me ρ h=>by
   rw[hrw,gm,m8 (λo=>tC (bu c o)) _ _ ρ (by simp;omega) h];rw[<- wu];refine congrArg (λl=>R.ok (W.lst l)) ?_;rw[qC7];rfl
  have hrl:rw_.length=es.length+1:=by rw[hrw];simp
  have hsel:∀q,q<=es.length->∃x y:W,L2.atI rw_ (q:Int)=some (.tup [tC (sC c es q),x,y]):=λq hq=>by rw[hrw];exact Q0 hq
  rw[<- hrw]at kw;have po:Po (S9 p [.par (.tup [tI b,tM_ ms]),.iop p rw_,.par (.int (a:Int)),.par (.int (k:Int)),.un,.un,.un]) (λρ=>ρ[1]?=some (.iop p (g8 c (K6 c ms es a k)))) (λ_=>False):=by
   exists rpB,S9,a1,ej,er,b0,k1,k2,kw;refine W6 (λρ=>∃a6,ρ = [.par (.tup [tI b,tM_ ms]),.iop p rw_,.par (.int (a:Int)),.par (.int (k:Int)),.par (mW (mvN ms k)),.val (tC (p9 c ms es a k)),a6]) (FF ?_) ?_
   ·refine W5 (λi ρ=>∃a6,ρ = [.par (.tup [tI b,tM_ ms]),.iop p rw_,.par (.int (a:Int)),.par (.int (k:Int)),.par (mW (mvN ms k)),.val (tC (upC c es ((i5 es a).take i) (o6 (sC c es a) (mvN ms k)))),a6]) ⟨_,rfl⟩ ?_ ?_
    ·rintro i u ρ hu ⟨a6,rfl⟩;rw[qC7,qA8]at hu;obtain ⟨q,hq,rfl⟩:=qE3.mp hu;have hqn:=hwl.1 q (qC8 hq);obtain ⟨x2,y2,er2⟩:=hsel q (by omega);have b2:L2.atI [tC (sC c es q),x2,y2] 0=some (tC (sC c es q)):=rfl;have kr:=iB (cs:=upC c es ((i5 es a).take i) (o6 (sC c es a) (mvN ms k))) (es:=sC c es q) (by rw[am,hal];exact C7 hl' (by omega)) (by rw[am,hal];omega);have hst:i0 (upC c es ((i5 es a).take i) (o6 (sC c es a) (mvN ms k))) (sC c es q)=upC c es ((i5 es a).take (i+1)) (o6 (sC c es a) (mvN ms k)):=by
      rw[qM2,hq];unfold upC;rw[List.foldl_append];rfl
     rw[hst]at kr;refine ⟨_,rfl,?_⟩;have hcq:(W.int∘λ(k:Nat)=>(k:Int)) q=.int (q:Int):=rfl;exists hcq,er2,b2,kr;exact ⟨_,rfl⟩
    ·rintro ρ ⟨a6,rfl⟩;rw[qA1,qA1,qG2];exact ⟨_,rfl⟩
   ·rintro ρ ⟨a6,rfl⟩;exists rp18;rw[ekn];rotate_left
    ·intro o ho;refine ⟨_,rfl,?_⟩;cases o with
     | none=>
      have b0:L2.atI [tC c,W.non,W.non] 0=some (tC c):=rfl;have b1:Y6 c none=.tup [tC c,.non,.non]:=rfl;have b2:bu c none=c:=rfl;exists b1,b0,b2,v5 (show noL (tC c)=true from B3 c)
     | some e=>
      have b0:L2.atI [tC e.1,.int (e.2.1:Int),.int (e.2.2:Int)] 0=some (tC e.1):=rfl;have b1:Y6 c (some e)=.tup [tC e.1,.int (e.2.1:Int),.int (e.2.2:Int)]:=rfl;have b2:bu c (some e)=e.1:=rfl;exists b1,b0,b2,v5 (show noL (tC e.1)=true from B3 e.1)
    exists kU;cases hU:F3 (stC c es) (p9 c ms es a k) with
    | true=>
     exists rp18;unfold K6;rw[hab,hU,hrw];rfl
    | false=>
     exists rp18;rw[uY (ws:=rw_) (w:=gW (p9 c ms es a k,a,k)) rfl ?_ (by omega)]
     ·show ((List.map clI _).set 1 _)[1]?=_;rw[qF2 (by simp)];unfold K6;rw[hab,hU,hrw]
      show some (Sl.iop p (g0 c::es.map gW ++ [_]))=some (Sl.iop p (g0 c::(es ++ [_]).map gW));rw[qC6];rfl
     ·exists rp18
  rw[hrw]at po
  show (match S9 p [.par (.tup [tI b,tM_ ms]),.iop p (g8 c es),.par (.int (a:Int)),.par (.int (k:Int)),.un,.un,.un]with | .ok (.nx ρ)=>ioR p ρ | .ok (.bk ρ)=>ioR p ρ|_=>.stuck)=_
  revert po
  cases S9 p [.par (.tup [tI b,tM_ ms]),.iop p (g8 c es),.par (.int (a:Int)),.par (.int (k:Int)),.un,.un,.un] with
  |stuck=>exact λh=>h.elim
  |ex e=>exact λh=>h.elim
  | ok f=>
   cases f with
   | nx ρ=>
    intro h;have h:ρ[1]?=some (.iop p (g8 c (K6 c ms es a k))):=h
    show ioR p ρ=_;unfold ioR;rw[h];exact qA4 rfl
   |rt w=>exact λh=>h.elim
   |bk ρ=>exact λh=>h.elim
   |ct ρ=>exact λh=>h.elim
structure GK (c:Cap) (ms:List Mv) (es:List GEnt) (A kk:Nat):Prop where
 len:∀e∈es,e.1.length=c.length
 k8:∀e∈es,e.2.2<ms.length
 lt:∀e∈es,e.2.1<A\/(e.2.1=A/\e.2.2<kk)
 inc:es.Pairwise λx y=>cdG x<cdG y
 par:E4 es
 beh:∀(i:Nat) (e:GEnt),es[i]?=some e->L7 (sC c es e.2.1) (mvN ms e.2.2)=true/\e.1=p9 c ms es e.2.1 e.2.2/\∀j,j<=i->g9 e.1 (sC c es j)=false
 set:∀a k,(a<A\/(a=A/\k<kk))->k<ms.length->L7 (sC c es a) (mvN ms k)=true->(∃e∈es,e.2=(a,k))\/∃j,j<=es.length/\(∀(i:Nat) (e:GEnt),j=i+1->es[i]?=some e->cdG e<a*8+k)/\g9 (p9 c ms es a k) (sC c es j)=true
theorem GK.start (c:Cap) (ms:List Mv):GK c ms [] 0 0 where
 len:=by simp
 k8:=by simp
 lt:=by simp
 inc:=List.Pairwise.nil
 par:=λi e h=>by simp at h
 beh:=λi e h=>by simp at h
 set:=λa k h=>by omega
section
variable {c:Cap}{ms:List Mv}{es:List GEnt}{A kk:Nat}
theorem GK.below (h:GK c ms es A kk) (h8:ms.length<=8):∀e∈es,cdG e<A*8+kk:=λe he=>by
 have:=h.k8 e he
 unfold cdG;rcases h.lt e he with q|⟨q,q'⟩
 ·omega
 ·omega
theorem GK.stay (h:GK c ms es A kk) (h8:ms.length<=8) (hno:L7 (sC c es A) (mvN ms kk)=true->F3 (stC c es) (p9 c ms es A kk)=true):GK c ms es A (kk+1) where
 len:=h.len
 k8:=h.k8
 lt:=λe he=>by
  rcases h.lt e he with q|⟨q,q'⟩
  ·exact .inl q
  ·exact .inr ⟨q,by omega⟩
 inc:=h.inc
 par:=h.par
 beh:=h.beh
 set:=λa k hj hk hab=>by
  by_cases e:a=A/\k=kk
  ·obtain ⟨rfl,rfl⟩:=e;obtain ⟨d,hd,hu⟩:=qD3.mp (hno hab);obtain ⟨j,hj,ej⟩:=qE6.mp hd;rw[V2]at hj;refine .inr ⟨j,by omega,λi e _ he=>h.below h8 e (qC8 he),?_⟩
   have:sC c es j=d:=by unfold sC;rw[qA0,qA3 (by rw[V2];exact hj),ej];rfl
   rw[this];exact hu
  ·exact h.set a k (by omega) hk hab
theorem GK.snoc (h:GK c ms es A kk) (h8:ms.length<=8) (hA:A<=es.length) (hk:kk<ms.length) (hab:L7 (sC c es A) (mvN ms kk)=true) (hno:F3 (stC c es) (p9 c ms es A kk)=false):GK c ms (es ++ [(p9 c ms es A kk,A,kk)]) A (kk+1):=by
 have hS:∀a,a<=es.length->sC c (es ++ [(p9 c ms es A kk,A,kk)]) a=sC c es a:=λa ha=>gj ha;have hC:∀a k,a<=es.length->p9 c ms (es ++ [(p9 c ms es A kk,A,kk)]) a k=p9 c ms es a k:=λa k ha=>pb h.par hA ha;have hpar:∀(i:Nat) (e:GEnt),es[i]?=some e->e.2.1<=es.length:=λi e he=>by
  have:=h.par i e he
  have:=(qB0.mp he).1
  omega
 have cases_:∀(i:Nat) (e:GEnt),(es ++ [(p9 c ms es A kk,A,kk)])[i]?=some e->(es[i]?=some e/\i<es.length)\/(i=es.length/\e=(p9 c ms es A kk,A,kk)):=λi e he=>by
  by_cases hi:i<es.length
  ·rw[qE0 hi]at he;exact .inl ⟨he,hi⟩
  ·have hi':=(qB0.mp he).1;rw[qC3,qD9]at hi'
   have:i=es.length:=by omega
   subst this;rw[qG3 (qB9 _),Nat.sub_self]at he;cases he;exact .inr ⟨rfl,rfl⟩
 refine ⟨λe he=>?_,λe he=>?_,λe he=>?_,?_,λi e he=>?_,λi e he=>?_,λa k hj hkm hab'=>?_⟩
 ·rcases qE4.mp he with q|q
  ·exact h.len e q
  ·rw [qD0.mp q]
   show (p9 c ms es A kk).length=_;rw[Z8];exact C7 h.len hA
 ·rcases qE4.mp he with q|q
  ·exact h.k8 e q
  ·rw[qD0.mp q];exact hk
 ·rcases qE4.mp he with q|q
  ·rcases h.lt e q with q1|⟨q1,q2⟩
   ·exact .inl q1
   ·exact .inr ⟨q1,by omega⟩
  ·rw[qD0.mp q];exact .inr ⟨rfl,qJ4 kk⟩
 ·refine List.pairwise_append.mpr ⟨h.inc,qI7 _ _,λx hx y hy=>?_⟩;rw[qD0.mp hy];exact h.below h8 x hx
 ·rcases cases_ i e he with ⟨q,_⟩|⟨rfl,rfl⟩
  ·exact h.par i e q
  ·exact hA
 ·rcases cases_ i e he with ⟨q,hi⟩|⟨rfl,rfl⟩
  ·obtain ⟨p1,p2,p3⟩:=h.beh i e q;have hp:=hpar i e q;rw[hS _ hp,hC _ _ hp];exact ⟨p1,p2,λj hj=>by rw[hS j (by omega)];exact p3 j hj⟩
  ·refine ⟨by rw[hS _ hA];exact hab,by rw[hC _ _ hA],λj hj=>?_⟩;rw[hS j hj];unfold F3 at hno;rw[qH1]at hno
   have:=hno _ (bX hj)
   simpa using this
 ·have ha:a<=es.length:=by omega
  rw[hS a ha]at hab';rw[hC a k ha];by_cases e:a=A/\k=kk
  ·obtain ⟨rfl,rfl⟩:=e;exact .inl ⟨_,qC9 _ (List.mem_singleton_self _),rfl⟩
  ·rcases h.set a k (by omega) hkm hab' with ⟨e,he,q⟩|⟨j,hj,h1,h2⟩
   ·exact .inl ⟨e,qG1 _ he,q⟩
   ·refine .inr ⟨j,by rw[qC3,qD9];omega,λi e hji he=>?_,by rw[hS j hj];exact h2⟩;rcases cases_ i e he with ⟨q,_⟩|⟨rfl,_⟩
    ·exact h1 i e hji q
    ·omega
theorem GK.step (h:GK c ms es A kk) (h8:ms.length<=8) (hA:A<=es.length) (hk:kk<ms.length):GK c ms (K6 c ms es A kk) A (kk+1):=by
 unfold K6;cases hab:L7 (sC c es A) (mvN ms kk) with
 | false=>
  rw[qA6 (by simp)];exact h.stay h8 λq=>by rw[hab]at q;cases q
 | true=>
  cases hU:F3 (stC c es) (p9 c ms es A kk) with
  | true=>
   rw[qA6 (by simp)];exact h.stay h8 λ_=>hU
  | false=>
   rw[qA4 (by simp)];exact h.snoc h8 hA hk hab hU
theorem GK.next (h:GK c ms es A ms.length):GK c ms es (A+1) 0 where
 len:=h.len
 k8:=h.k8
 lt:=λe he=>by
  have:=h.k8 e he
  rcases h.lt e he with q|⟨q,q'⟩
  ·exact .inl (by omega)
  ·exact .inl (by omega)
 inc:=h.inc
 par:=h.par
 beh:=h.beh
 set:=λa k hj hk hab=>h.set a k (by omega) hk hab
theorem qc (c:Cap) (ms:List Mv) (es:List GEnt) (a k:Nat):es.length<=(K6 c ms es a k).length/\(K6 c ms es a k).length<=es.length+1:=by
 unfold K6
 split
 ·rw[qC3,qD9];omega
 ·omega
end
theorem oO {b:List Int}{ms:List Mv}{most:Nat}(h6:b.length<=6) (hm:∀m∈ms,okN b.length m) (h8:ms.length<=8) (h1:1<=most) (h30:most<=30):Ok (N2 [.tup [tI b,tM_ ms],.int (most:Int)]) λw=>(w=.non/\∃es A,GK (b.map some) ms es A 0/\most<es.length+1)\/∃es,w=.lst (g8 (b.map some) es)/\es.length+1<=most/\GK (b.map some) ms es (es.length+1) 0:=by
 have hcl:(b.map some).length=b.length:=qA1 ..;have a0:L2.atI [tI b,tM_ ms] 0=some (tI b):=rfl;have a1:L2.atI [tI b,tM_ ms] 1=some (tM_ ms):=rfl;have gr:∀(es:List GEnt) (A k:Nat),GK (b.map some) ms es A k->A<=es.length->k<ms.length->es.length<=90->fG (.tup [tI b,tM_ ms]) (g8 (b.map some) es) [.int (A:Int),.int (k:Int)]=.ok (g8 (b.map some) (K6 (b.map some) ms es A k)):=λes A k hK hA hk hl=>zb h6 hm hK.par (λe he=>by rw[<- hcl];exact hK.len e he) hl hA hk;have hb0:(.lst [.tup [tI b,.non,.non]]:W)=.lst (g8 (b.map some) []):=by rw[wq];rfl
 generalize hc:b.map some=c at *
 exists rpB,kQ,a0,v5 (O7 b);refine n9 (av ?_);refine eH (λm ρ=>∃(es:List GEnt) (at_:Nat) (a4:Sl),ρ = [.par (.tup [tI b,tM_ ms]),.par (.int (most:Int)),.own (g8 c es),.val (.int (at_:Int)),a4]/\GK c ms es at_ 0/\at_<=es.length+1/\es.length+1<=most/\m+at_=102) ?_ 102 _ ⟨[],0,_,by rw[show g8 c [] = [.tup [tI b,.non,.non]] from by injection hb0 with h;exact h.symm];rfl,GK.start c ms,by simp,by simpa using h1,rfl⟩;rintro m ρ ⟨es,at_,a4,rfl,hK,hat,hmost,hmm⟩;have hrl:(g8 c es).length=es.length+1:=by simp
 by_cases hlt:at_<es.length+1
 ·refine ⟨true,?_,?_⟩
  ·have d1:decide ((at_:Int)<((es.length+1:Nat):Int))=true:=decide_eq_true (by omega);exists hrl,d1
  ·rw [qA4 rfl]
   exists a1;refine W6 (λρ=>∃(es:List GEnt) (a4:Sl),ρ = [.par (.tup [tI b,tM_ ms]),.par (.int (most:Int)),.own (g8 c es),.val (.int (at_:Int)),a4]/\GK c ms es at_ ms.length/\at_<=es.length/\es.length<=60) ?_ ?_
   ·refine W5 (λi ρ=>∃(es:List GEnt) (a4:Sl),ρ = [.par (.tup [tI b,tM_ ms]),.par (.int (most:Int)),.own (g8 c es),.val (.int (at_:Int)),a4]/\GK c ms es at_ i/\at_<=es.length/\es.length<=30+i) ⟨es,_,rfl,hK,by omega,by omega⟩ ?_ ?_
    ·rintro i u ρ hu ⟨es,a4,rfl,hK,hA,hl⟩;obtain ⟨hi,rfl⟩:=W1 hu;have kg:=gr es at_ i hK hA hi (by omega);have hsl:=qc c ms es at_ i;refine ⟨_,rfl,?_⟩;obtain ⟨rw_,hrw⟩:∃rw_,rw_=g8 c es:=⟨_,rfl⟩;rw[<- hrw]at kg ⊢;exists kg;exact ⟨K6 c ms es at_ i,_,rfl,hK.step h8 hA hi,by omega,by omega⟩
    ·rintro ρ ⟨es,a4,rfl,hK,hA,hl⟩;simp only [qA1,qE8]at hK hl;exact ⟨es,_,rfl,hK,hA,by omega⟩
   ·rintro ρ ⟨es,a4,rfl,hK,hA,hl⟩;have hrl:(g8 c es).length=es.length+1:=by simp
    exists hrl;refine W4 (λh=>?_) (λh=>?_)
    ·have h:=of_decide_eq_true h;exists rp18;exact .inl ⟨es,at_+1,hK.next,by omega⟩
    ·have h:=of_decide_eq_false h;exists rp18;exact ⟨101-at_,by omega,es,at_+1,_,by rw[show ((at_+1:Nat):Int)=(at_:Int)+1 by omega],hK.next,by omega,by omega,by omega⟩
 ·refine ⟨false,?_,?_⟩
  ·have d1:decide ((at_:Int)<((es.length+1:Nat):Int))=false:=decide_eq_false (by omega);exists hrl,d1
  ·rw [qA6 qA5]
   exists rp18
   have:at_=es.length+1:=by omega
   subst this;exact .inr ⟨es,rfl,hmost,hK⟩
theorem rP {b:List Int}{ms:List Mv}{most:Nat}(h6:b.length<=6) (hm:∀m∈ms,okN b.length m) (h8:ms.length<=8) (h1:1<=most) (h30:most<=30):Ok (N2 [.tup [tI b,tM_ ms],.int (most:Int)]) λw=>w=.non\/∃es,w=.lst (g8 (b.map some) es)/\es.length+1<=most/\GK (b.map some) ms es (es.length+1) 0:=by
 obtain ⟨w,e,h⟩:=oO h6 hm h8 h1 h30;refine ⟨w,e,?_⟩;rcases h with ⟨h,_⟩|h
 ·exact .inl h
 ·exact .inr h
def kO:Option Int->List Int
 |none=>[1,0]
 |some n=>[0,n]
def o7 (c:Cap):List (List Int):=c.map kO
theorem CT {x y:Option Int}(h:kO x=kO y):x=y:=by
 cases x with
 | none=>
  cases y with
  |none=>rfl
  |some m=>simp [kO]at h
 | some n=>
  cases y with
  |none=>simp [kO]at h
  |some m=>simp [kO]at h;rw[h]
theorem eP:∀{a b:Cap},o7 a=o7 b->a=b
 | [],[],_=>rfl
 | [],_::_,h=>by simp [o7]at h
 |_::_,[],h=>by simp [o7]at h
 | x::a,y::b,h=>by
  have h:kO x::o7 a=kO y::o7 b:=h;injection h with h1 h2
  rw[CT h1,eP h2]
theorem ip (x y:Option Int) (a b:Cap):g9 (x::a) (y::b)=(D0 x y&&g9 a b):=by
 unfold g9;rw[qC1,List.range_succ_eq_map,List.all_cons,List.all_map];rfl
theorem tG {x y:Option Int}(h:D0 x y=true) (hn:kO y≠kO x):lexLt (kO y) (kO x)=false:=by
 cases y with
 | none=>
  cases x with
  |none=>exact absurd rfl hn
  |some n=>simp [kO,TP.lexLt]
 | some m=>
  cases x with
  |none=>cases h
  | some n=>
   have h:n<=m:=of_decide_eq_true h;simp [kO,TP.lexLt];omega
theorem mz:∀{a b:Cap},a.length=b.length->g9 a b=true->t8 (o7 b) (o7 a)=false
 | [],[],_,_=>rfl
 | [],_::_,h,_=>by simp at h
 |_::_,[],h,_=>by simp at h
 | x::a,y::b,hl,h=>by
  rw[ip,qG7]at h
  show (if kO y=kO x then t8 (o7 b) (o7 a) else lexLt (kO y) (kO x))=false;by_cases e:kO y=kO x
  ·rw[qA4 e];exact mz (by simpa using hl) h.2
  ·rw[qA6 e];exact tG h.1 e
theorem P9 (a:Cap):g9 a a=true:=cX λk _=>by
 cases a.getD k none with
 |none=>rfl
 |some x=>exact decide_eq_true (qG5 x)
theorem As {a b:Cap}(hl:a.length=b.length)(h1:t8 (o7 a) (o7 b)=false)(h2:g9 a b=true):a=b:=eP (bc _ _ h1 (mz hl h2))
theorem nT {c:Cap}(h6:c.length<=6):L4 [tC c]=.ok (kW (o7 c)):=by
 have e:∀N mg me ρ (h:∀z:Option Int,∃ρ1,mg (oW z) (ρ++List.replicate (N-ρ.length) Sl.un)=some ρ1/\me ρ1=.ok (.tup ((kO z).map W.int))),l6 N mg yes me (c.map oW) ρ=.ok (.lst (eV (o7 c))):=λN mg me ρ h=>by
  rw[m8 (λz=>.tup ((kO z).map W.int)) oW c ρ (by omega) (λz _=>h z)];unfold eV o7;exact congrArg (λl=>R.ok (W.lst l)) (by rw[qC7];rfl)
 exists rpB,fw;rw[e]
 ·have hn:m5 (eV (o7 c))=true:=eL (o7 c);exists du hn;rfl
 ·intro z;refine ⟨_,rfl,?_⟩;cases z with
  | none=>
   exists rp18;rfl
  | some n=>
   exists rp18;rfl
theorem rC {c:Cap}(h1:1<=c.length):keyOf (.ok (kW (o7 c)))=some (o7 c):=by
 have ht:N9 (eV (o7 c))=some (o7 c):=dW _;unfold keyOf kW;dsimp only;rw[ht];cases c with
 |nil=>simp at h1
 |cons a c=>rfl
theorem iN:∀{cs:List Cap},(∀c∈cs,1<=c.length/\c.length<=6)->F0 L4 (cs.map tC)=some (cs.map o7)
 | [],_=>rfl
 | c::cs,h=>by
  have hc:=h c qB1;rw[qC4];unfold F0;rw[nT hc.2,rC hc.1,iN λd hd=>h d (qA7 _ hd)];rfl
theorem uK {α β:Type}(f:α->β){ks:List (List (List Int))}{d:α}{e:β}{vs:List α}(hl:vs.length=ks.length):x4 ks e (vs.map f)=(x4 ks d vs).map f:=by
 unfold x4;rw[qG8,qC7];refine congrArg List.reverse (qJ6 λi hi=>?_);have hi':i<vs.reverse.length:=by
  have:=(N7 ks.reverse).mem_iff.mp hi
  rw[qE7,qB2]at this;rw[qB2];omega
 rw[<- qG8,qA0,qA8,qA3 hi']
 show _=f (vs.reverse.getD i d);rw[qA0,qA3 hi'];rfl
def srt (cs:List Cap):List Cap:=x4 (cs.map o7) [] cs
theorem tV (cs:List Cap):(srt cs).Perm cs:=qN (by simp)
theorem tW (cs:List Cap):(srt cs).Pairwise λa b=>t8 (o7 a) (o7 b)=false:=by
 unfold srt x4;rw[List.pairwise_reverse,qI4];have hm:∀i∈Q2 (cs.map o7).reverse,i<cs.reverse.length:=λi hi=>by
  have:=(N7 (cs.map o7).reverse).mem_iff.mp hi
  rw[qE7,qB2,qA1]at this;rw[qB2];exact this
 have hk:∀i,i<cs.reverse.length->(cs.map o7).reverse.getD i []=o7 (cs.reverse.getD i []):=λi hi=>by
  rw[<- qG8,qA0,qA8,qA3 hi,qA0,qA3 hi];rfl
 refine List.Pairwise.imp_of_mem (λ{i j} hi hj h=>?_) (yg (cs.map o7).reverse);rw[hk i (hm i hi),hk j (hm j hj)]at h;exact h
theorem qY (cs:List Cap):m5 (cs.map tC)=true:=X1 tC (λc=>B3 c) cs
theorem nV {cs:List Cap}{c:Bool}(hl:∀c∈cs,1<=c.length/\c.length<=6) (h64:cs.length<64):cK c L4 [.lst (cs.map tC)]=.ok (.lst ((srt cs).map tC)):=by
 show (match F0 L4 (cs.map tC) with|some ks=>if (cs.map tC).length<64 then chks c (x4 ks W.non (cs.map tC)) else .stuck|none=>.stuck)=_;rw[iN hl];dsimp only;rw[qA4 (by rw[qA1];exact h64),uK tC (d:=[]) (by simp),dr (qY _)];rfl
theorem xk {cs:List Cap}{n:Nat}(hl:∀c∈cs,c.length=n) (h1:1<=n) (h6:n<=6) (h64:cs.length<64):Ok (lu [.lst (cs.map tC)]) λw=>∃ts:List Cap,w=.lst (ts.map tC)/\(∀t∈ts,t∈cs)/\ts.length<=cs.length/\(ts.Pairwise λa b=>t8 (o7 a) (o7 b)=true/\g9 a b=false/\g9 b a=false)/\∀c∈cs,∃t∈ts,g9 c t=true:=by
 have hs:=nV (cs:=cs) (c:=false) (λc hc=>by rw[hl c hc];exact ⟨h1,h6⟩) h64;have hp:=tV cs;have hd:=tW cs;have hsl:(srt cs).length=cs.length:=hp.length_eq;have hln:∀c∈srt cs,c.length=n:=λc hc=>hl c (hp.mem_iff.mp hc);generalize srt cs=ss at *
 exists rpB,rp,hs;refine n9 (p8 (λi ρ=>∃(fs:List Cap) (a2:Sl),ρ = [.par (.lst (cs.map tC)),.own (fs.map tC),a2]/\(∀t∈fs,t∈ss.take i)/\fs.length<=i/\(fs.Pairwise λa b=>t8 (o7 a) (o7 b)=false/\g9 b a=false)/\∀c∈ss.take i,∃t∈fs,g9 c t=true) ⟨[],_,rfl,by simp,by simp,List.Pairwise.nil,by simp⟩ ?_ ?_)
 ·rintro i u ρ hu ⟨fs,a2,rfl,hfm,hfl,hfp,hfc⟩;rw[qA8]at hu;obtain ⟨x,hx,rfl⟩:=qE3.mp hu;obtain ⟨hi,ex⟩:=qB0.mp hx;have hxm:=qC8 hx;have ht:ss.take (i+1)=ss.take i ++ [x]:=by rw[qM2,hx];rfl
  have hfn:∀t∈fs,t.length=x.length:=λt htm=>by rw[hln t (List.mem_of_mem_take (hfm t htm)),hln x hxm]
  have ku:=dz (cs:=fs) (x:=x) hfn;have hf64:fs.length<64:=by omega
  refine ⟨_,rfl,?_⟩;exists ku;cases hU:F3 fs x with
  | true=>
   exists rp18;refine ⟨fs,_,rfl,λt q=>by rw[ht];exact qG1 _ (hfm t q),by omega,hfp,λc hc=>?_⟩;rw[ht]at hc;rcases qE4.mp hc with q|q
   ·exact hfc c q
   ·rw [qD0.mp q]
    obtain ⟨t,h1,h2⟩:=qD3.mp hU;exact ⟨t,h1,h2⟩
  | false=>
   exists v5 (show noL (tC x)=true from B3 x);refine ⟨fs ++ [x],_,by rw[qC6];rfl,λt q=>?_,by rw[qC3,qD9];omega,?_,λc hc=>?_⟩
   ·rw [ht]
    rcases qE4.mp q with q|q
    ·exact qG1 _ (hfm t q)
    ·exact qC9 _ q
   ·refine List.pairwise_append.mpr ⟨hfp,qI7 _ _,λt htm y hy=>?_⟩;rw[qD0.mp hy];refine ⟨?_,?_⟩
    ·obtain ⟨j,hj,ej⟩:=qE6.mp (hfm t htm);rw[qM3]at hj;rw[List.getElem_take]at ej
     have:=List.pairwise_iff_getElem.mp hd j i (by omega) hi (by omega)
     rw[ej,ex]at this;exact this
    ·unfold F3 at hU;rw[qH1]at hU
     have:=hU t htm
     simpa using this
   ·rw [ht]at hc
    rcases qE4.mp hc with q|q
    ·obtain ⟨t,h1,h2⟩:=hfc c q;exact ⟨t,qG1 _ h1,h2⟩
    ·rw [qD0.mp q]
     exact ⟨x,qC9 _ (List.mem_singleton_self _),P9 x⟩
 ·rintro ρ ⟨fs,a2,rfl,hfm,hfl,hfp,hfc⟩;rw[qA1]at hfl;rw[qA1,qG2]at hfm hfc;exists rp18;refine ⟨fs.reverse,by rw[qG8],λt q=>hp.mem_iff.mp (hfm t (qK9.mp q)),by rw[qB2];omega,?_,λc hc=>?_⟩
  ·rw [List.pairwise_reverse]
   refine List.Pairwise.imp_of_mem (λ{b a} hb ha h=>?_) hfp;have hbl:=hln b (hfm b hb);have hal:=hln a (hfm a ha);have key:g9 b a=false:=by
    cases hq:g9 b a with
    |false=>rfl
    | true=>
     have:=As (by omega) h.1 hq
     subst this;rw[P9]at hq;have h2:=h.2;rw[P9]at h2;cases h2
   refine ⟨?_,h.2,key⟩;cases hq:t8 (o7 a) (o7 b) with
   |true=>rfl
   | false=>
    have:=eP (bc _ _ h.1 hq)
    subst this;rw[P9]at key;cases key
  ·obtain ⟨t,q1,q2⟩:=hfc c (hp.mem_iff.mpr hc);exact ⟨t,qK9.mpr q1,q2⟩
theorem nN {x y z:Option Int}(h1:D0 x y=true) (h2:D0 y z=true):D0 x z=true:=by
 cases z with
 |none=>rfl
 | some c=>
  cases y with
  |none=>cases h2
  | some b=>
   cases x with
   |none=>cases h1
   | some a=>
    have h1:a<=b:=of_decide_eq_true h1;have h2:b<=c:=of_decide_eq_true h2;exact decide_eq_true (by omega)
theorem J5:∀{a b c:Cap},a.length=b.length->b.length=c.length->g9 a b=true->g9 b c=true->g9 a c=true
 | [],[],[],_,_,_,_=>rfl
 | [],_::_,_,h,_,_,_=>by simp at h
 |_::_,[],_,h,_,_,_=>by simp at h
 |_,[],_::_,_,h,_,_=>by simp at h
 |_,_::_,[],_,h,_,_=>by simp at h
 | x::a,y::b,z::c,h1,h2,h3,h4=>by
  rw[ip,qG7]at h3 h4 ⊢;exact ⟨nN h3.1 h4.1,J5 (by simpa using h1) (by simpa using h2) h3.2 h4.2⟩
theorem vS {b:List Int}{ms:List Mv}{most:Nat}(h1:1<=b.length) (h6:b.length<=6) (hm:∀m∈ms,okN b.length m) (h8:ms.length<=8) (hm1:1<=most) (h30:most<=30):∃w u:W,N2 [.tup [tI b,tM_ ms],.int (most:Int)]=.ok w/\dj [.tup [tI b,tM_ ms],.int (most:Int)]=.ok u/\((w=.non/\u=.non)\/∃(es:List GEnt) (ts:List Cap),w=.lst (g8 (b.map some) es)/\es.length+1<=most/\GK (b.map some) ms es (es.length+1) 0/\u=.lst (ts.map tC)/\(∀t∈ts,t∈stC (b.map some) es)/\ts.length<=es.length+1/\(ts.Pairwise λa b=>t8 (o7 a) (o7 b)=true/\g9 a b=false/\g9 b a=false)/\∀c∈stC (b.map some) es,∃t∈ts,g9 c t=true):=by
 obtain ⟨w,eg,hw⟩:=rP (most:=most) h6 hm h8 hm1 h30;have hcl:(b.map some).length=b.length:=qA1 ..;rcases hw with rfl|⟨es,rfl,hes,hK⟩
 ·refine ⟨_,.non,eg,?_,.inl ⟨rfl,rfl⟩⟩;exists rpB,gG,eg
 ·generalize hc:b.map some=c at *
  have hsn:∀d∈stC c es,d.length=b.length:=λd hd=>by
   unfold stC at hd;rcases qB3.mp hd with q|q
   ·rw[q,hcl]
   ·obtain ⟨z,hz,ez⟩:=qB6.mp q;rw[<- ez,hK.len z hz,hcl]
  obtain ⟨u,et,ts,rfl,q1,q2,q3,q4⟩:=xk (cs:=stC c es) (n:=b.length) hsn h1 h6 (by rw[V2];omega);rw[V2]at q2;refine ⟨_,.lst (ts.map tC),eg,?_,.inr ⟨es,ts,rfl,hes,hK,rfl,q1,q2,q3,q4⟩⟩;have ekn:∀N mg me ρ (h:∀o∈(none::es.map some:List (Option GEnt)),∃ρ1,mg (Y6 c o) (ρ++List.replicate (N-ρ.length) Sl.un)=some ρ1/\me ρ1=.ok (tC (bu c o))),l6 N mg yes me (g8 c es) ρ=.ok (.lst ((stC c es).map tC)):=λN mg me ρ h=>by
   rw[gm,m8 (λo=>tC (bu c o)) _ _ ρ (by simp;omega) h];rw[<- wu];refine congrArg (λl=>R.ok (W.lst l)) ?_;rw[qC7];rfl
  obtain ⟨rw_,hrw⟩:∃rw_,rw_=g8 c es:=⟨_,rfl⟩;rw[<- hrw]at eg ekn;exists rpB,gG,eg;rw[ekn]
  ·exists et
  ·intro o ho;refine ⟨_,rfl,?_⟩;cases o with
   | none=>
    have b0:L2.atI [tC c,W.non,W.non] 0=some (tC c):=rfl;have b1:Y6 c none=.tup [tC c,.non,.non]:=rfl;have b2:bu c none=c:=rfl;exists b1,b0,b2,v5 (show noL (tC c)=true from B3 c)
   | some e=>
    have b0:L2.atI [tC e.1,.int (e.2.1:Int),.int (e.2.2:Int)] 0=some (tC e.1):=rfl;have b1:Y6 c (some e)=.tup [tC e.1,.int (e.2.1:Int),.int (e.2.2:Int)]:=rfl;have b2:bu c (some e)=e.1:=rfl;exists b1,b0,b2,v5 (show noL (tC e.1)=true from B3 e.1)
theorem J7 {l:List Int}{k:Nat}(h:k<l.length):(l.map some).getD k none=some (l.getD k 0):=by
 rw[qA0,qA8,qA3 h,qA0,qA3 h];rfl
theorem dU {cs ds:Cap}(h:g9 cs ds=true){k:Nat}(hk:k<cs.length):D0 (cs.getD k none) (ds.getD k none)=true:=by
 unfold g9 at h;exact qE5.mp h k (by simpa using hk)
theorem pT (x:Option Int):D0 x x=true:=by
 cases x with
 |none=>rfl
 |some a=>exact decide_eq_true (qG5 a)
theorem eB {α:Type}(n k:Nat) (f:Nat->α) (d:α) (h:k<n):((List.range n).map f).getD k d=f k:=by
 rw[qA0,qA8,qE1 h];rfl
theorem xj (x e:Cap):g9 x (i0 x e)=true:=by
 unfold i0;by_cases h:g9 e x=true
 ·rw [qA4 h]
  refine cX λk hk=>?_;rw[eB _ _ _ _ hk];unfold O4;by_cases q:x.getD k none=e.getD k none
  ·rw[qA4 q];exact pT _
  ·rw[qA6 q];rfl
 ·rw[qA6 h];exact P9 x
theorem pR (c:Cap) (es:List GEnt):∀(l:List Nat) (x:Cap),g9 x (upC c es l x)=true
 | [],x=>P9 x
 |q::l,x=>J5 (K0 x (sC c es q)).symm (am c es l (i0 x (sC c es q))).symm (xj x (sC c es q)) (pR c es l (i0 x (sC c es q)))
def pC (st:List Int)(m:Mv):Bool:=(List.range st.length).all λk=>decide (m.1.getD k 0<=st.getD k 0)
def bhS (st:List Int)(m:Mv):List Int:=(List.range st.length).map λk=>st.getD k 0-m.1.getD k 0+m.2.getD k 0
theorem dw (st:List Int)(m:Mv):(bhS st m).length=st.length:=by simp [bhS]
theorem Ad {st:List Int}{m:Mv}(h:pC st m=true){k:Nat}(hk:k<st.length):m.1.getD k 0<=st.getD k 0:=by
 unfold pC at h;exact of_decide_eq_true (qE5.mp h k (by simpa using hk))
theorem Ac {st:List Int}{m:Mv}{t:Cap}(hm:okN st.length m) (hl:st.length=t.length) (h:pC st m=true) (hu:g9 (st.map some) t=true):L7 t m=true:=by
 refine J5 (b:=st.map some) (by rw[qA1,qA1,hm.1]) (by rw[qA1];exact hl) (cX λk hk=>?_) hu;rw[qA1,hm.1]at hk;rw[J7 (by rw[hm.1];exact hk),J7 hk];exact decide_eq_true (Ad h hk)
theorem EV {st:List Int}{m:Mv}{t:Cap}(hl:st.length=t.length) (hu:g9 (st.map some) t=true):g9 ((bhS st m).map some) (o6 t m)=true:=by
 refine cX λk hk=>?_;rw[qA1,dw]at hk;have hu:=dU hu (k:=k) (by rw[qA1];exact hk);rw[J7 hk]at hu;rw[J7 (by rw[dw];exact hk)];unfold bhS o6;rw[eB _ _ _ _ hk,eB _ _ _ _ (by omega)];cases hy:t.getD k none with
 |none=>rfl
 | some y=>
  rw[hy]at hu;have hu:st.getD k 0<=y:=of_decide_eq_true hu;exact decide_eq_true (show st.getD k 0-m.1.getD k 0+m.2.getD k 0<=y+(m.2.getD k 0-m.1.getD k 0) by omega)
theorem eX {c:Cap}{es:List GEnt}{t:Cap}(h:t∈stC c es):∃a,a<=es.length/\t=sC c es a:=by
 obtain ⟨a,ha,ea⟩:=qE6.mp h;refine ⟨a,by rw[V2]at ha;omega,?_⟩;unfold sC;rw[qA0,qA3 ha,ea];rfl
theorem FQ {ms:List Mv}{m:Mv}(h:m∈ms):∃k,k<ms.length/\m=mvN ms k:=by
 obtain ⟨k,hk,ek⟩:=qE6.mp h;refine ⟨k,hk,?_⟩;unfold mvN;rw[qA0,qA3 hk,ek];rfl
theorem tN {c:Cap}{ms:List Mv}{es:List GEnt}{t:Cap}{m:Mv}(hK:GK c ms es (es.length+1) 0) (ht:t∈stC c es) (hm:m∈ms) (hab:L7 t m=true):∃d∈stC c es,g9 (o6 t m) d=true:=by
 obtain ⟨a,ha,rfl⟩:=eX ht;obtain ⟨k,hk,rfl⟩:=FQ hm;have hl:=C7 hK.len ha;have h1:g9 (o6 (sC c es a) (mvN ms k)) (p9 c ms es a k)=true:=pR c es (i5 es a) _;rcases hK.set a k (by omega) hk hab with ⟨e,he,q⟩|⟨j,hj,_,h2⟩
 ·obtain ⟨i,hi,ei⟩:=qE6.mp he
  have:=(hK.beh i e (by rw[qA3 hi,ei])).2.1
  rw[q]at this;refine ⟨e.1,qA7 _ (qB6.mpr ⟨e,he,rfl⟩),?_⟩;rw[this];exact h1
 ·exact ⟨_,bX hj,J5 (by rw[F4,Z8]) (by rw[Z8,hl];exact (C7 hK.len hj).symm) h1 h2⟩
theorem aP {c:Cap}{ms:List Mv}{es:List GEnt}{A kk:Nat}(hK:GK c ms es A kk):∀d∈stC c es,d.length=c.length:=λd hd=>by
 obtain ⟨a,ha,rfl⟩:=eX hd;exact C7 hK.len ha
theorem sj {c:Cap}{ms:List Mv}{es:List GEnt}{ts:List Cap}{st:List Int}{m:Mv}(hK:GK c ms es (es.length+1) 0) (hms:∀m∈ms,okN c.length m) (q1:∀t∈ts,t∈stC c es) (q4:∀d∈stC c es,∃t∈ts,g9 d t=true)
  (hl:st.length=c.length) (hm:m∈ms) (hab:pC st m=true) (hu:∃t∈ts,g9 (st.map some) t=true):∃t∈ts,g9 ((bhS st m).map some) t=true:=by
 obtain ⟨t,ht,hu⟩:=hu;have hlen:=aP hK;have lt:=hlen t (q1 t ht);have hb:=EV (m:=m) (by omega) hu;obtain ⟨d,hd,h2⟩:=tN hK (q1 t ht) hm (Ac (by rw[hl];exact hms m hm) (by omega) hab hu);obtain ⟨t',ht',h3⟩:=q4 d hd;have ld:=hlen d hd;have lt':=hlen t' (q1 t' ht');exact ⟨t',ht',J5 (by rw[qA1,dw];omega) (by omega) (J5 (by rw[qA1,dw,F4];omega) (by rw[F4];omega) hb h2) h3⟩
def pz (l:List Nat):List Int:=l.map λ(k:Nat)=>(k:Int)
theorem W3 (l:List Nat):(pz l).length=l.length:=by unfold pz;rw[qA1]
theorem gA (l:List Nat):(pz l).map W.int=l.map λ(q:Nat)=>W.int (q:Int):=by unfold pz;rw[qC7];rfl
def plc (x h:Cap):List Nat:=(List.range x.length).filter λk=>decide (h.getD k none≠x.getD k none)
def lfs (c:Cap) (es:List GEnt):List Nat->Cap->List (Nat×List Nat)
 | [],_=>[]
 |q::l,x=>(if plc x (i0 x (sC c es q)) = [] then [] else [(q,plc x (i0 x (sC c es q)))])++lfs c es l (i0 x (sC c es q))
abbrev lfT (p:Nat×List Nat):W:=.tup [.int (p.1:Int),tI (pz p.2)]
theorem mO (x h:Cap):(plc x h).length<=x.length:=by
 unfold plc
 have:=List.length_filter_le (λk=>decide (h.getD k none≠x.getD k none)) (List.range x.length)
 rwa [qE8]at this
theorem Ea (a b:Option Int):fEq true (oW a) (oW b)=.ok (.bl (decide (a≠b))):=by
 cases a with
 | none=>
  cases b with
  |none=>rfl
  |some y=>rw[show oW none=W.non from rfl,show oW (some y)=W.int y from rfl,rS];rfl
 | some x=>
  cases b with
  |none=>rw[show oW none=W.non from rfl,show oW (some x)=W.int x from rfl,rT];rfl
  | some y=>
   rw[show oW (some x)=W.int x from rfl,show oW (some y)=W.int y from rfl,lx];by_cases h:x=y <;> simp [h]
theorem atO {cs:List (Option Int)}{k:Nat}(h:k<cs.length):L2.atI (cs.map oW) (k:Int)=some (oW (cs.getD k none)):=aK (by rw[qA8,qA0,qA3 h];rfl)
theorem pQ {b:List Int}{ms:List Mv}{c:Cap}{es:List GEnt}{A kk i:Nat}{e:GEnt}(hK:GK c ms es A kk) (h6:c.length<=6) (hm:∀m∈ms,okN c.length m) (he:es[i]?=some e):P2 [.tup [tI b,tM_ ms],.lst (g8 c es),.int ((i+1:Nat):Int)]=.ok (tC (o6 (sC c es e.2.1) (mvN ms e.2.2))):=by
 have hi:=(qB0.mp he).1;have hem:=qC8 he;have hp:=hK.par i e he;have hk:=hK.k8 e hem;have hs:=C7 hK.len (a:=e.2.1) (by omega);obtain ⟨hab,_,_⟩:=hK.beh i e he;have r1:=db (c:=c) he;obtain ⟨x,y,er⟩:=Q0 (c:=c) (es:=es) (a:=e.2.1) (by omega);have a0:L2.atI [tC (sC c es e.2.1),x,y] 0=some (tC (sC c es e.2.1)):=rfl;have a1:L2.atI [tI b,tM_ ms] 1=some (tM_ ms):=rfl;have b1:L2.atI [tC e.1,.int (e.2.1:Int),.int (e.2.2:Int)] 1=some (.int (e.2.1:Int)):=rfl;have b2:L2.atI [tC e.1,.int (e.2.1:Int),.int (e.2.2:Int)] 2=some (.int (e.2.2:Int)):=rfl;have ej:L2.atI (ms.map mW) (e.2.2:Int)=some (mW (mvN ms e.2.2)):=by
  have:=atM (ms:=ms) (r:=(e.2.2:Int)) (by omega) (by omega)
  rw[qF8]at this;exact this
 have k:=dP (c:=sC c es e.2.1) (m:=mvN ms e.2.2) (by omega) (by rw[hs];exact getM hm hk) hab;obtain ⟨rw_,hrw⟩:∃rw_,rw_=g8 c es:=⟨_,rfl⟩;rw[<- hrw]at r1 er;rw[<- hrw];exists rpB,fv,r1,b1,er,a0,a1,b2,ej,k
theorem cut1 (l:List Nat) (q:Nat):cR (pz (q::l)) (some 1) none=pz l:=by
 unfold cR;rw[show (1:Int)=((1:Nat):Int) from rfl,HT.sIx_nat,HT.sIx_none]
 have:min 1 (pz (q::l)).length=1:=by rw[W3,qC1];omega
 rw[this]
 show (pz l).take _=_;exact List.take_of_length_le (by rw[W3,W3,qC1];omega)
theorem oM {b:List Int}{ms:List Mv}{c:Cap}{es:List GEnt}{A kk i:Nat}{e:GEnt}(hK:GK c ms es A kk) (h6:c.length<=6) (hm:∀m∈ms,okN c.length m) (h100:es.length<=90) (he:es[i]?=some e):P4 [.tup [tI b,tM_ ms],.lst (g8 c es),.int ((i+1:Nat):Int)]=.ok (.lst ((lfs c es (i5 es e.2.1) (o6 (sC c es e.2.1) (mvN ms e.2.2))).map lfT)):=by
 have fin:Ok (P4 [.tup [tI b,tM_ ms],.lst (g8 c es),.int ((i+1:Nat):Int)]) λv=>v=.lst ((lfs c es (i5 es e.2.1) (o6 (sC c es e.2.1) (mvN ms e.2.2))).map lfT):=by
  have hi:=(qB0.mp he).1;have hp:=hK.par i e he;have ku:=pQ (b:=b) hK h6 hm he;have kw:=aM (c:=c) (n:=i+1) hK.par (by omega) (by omega);have hws:=k9 hK.par he;have hcut:=cut1 (i5 es e.2.1) (i+1);have hwl:=D4 hK.par e.2.1 (by omega);have hs:=C7 hK.len (a:=e.2.1) (by omega);have kw:A6 [.lst (g8 c es),.int ((i+1:Nat):Int)]=.ok (lI (pz ((i+1)::i5 es e.2.1))):=by rw[hws]at kw;exact kw
  have z0:decide (((i+1:Nat):Int)=0)=false:=decide_eq_false (by omega);have hsel:∀q,q<=es.length->∃x y:W,L2.atI (g8 c es) (q:Int)=some (.tup [tC (sC c es q),x,y]):=λq hq=>Q0 hq;have hx0:(o6 (sC c es e.2.1) (mvN ms e.2.2)).length=c.length:=by rw[F4,hs]
  generalize o6 (sC c es e.2.1) (mvN ms e.2.2)=x0 at *
  generalize hl0:i5 es e.2.1=l0 at *
  obtain ⟨rw_,hrw⟩:∃rw_,rw_=g8 c es:=⟨_,rfl⟩;rw[<- hrw]at ku kw hsel;rw[<- hrw];obtain ⟨wl,hwl_⟩:∃wl,wl=pz ((i+1)::l0):=⟨_,rfl⟩;rw[<- hwl_]at kw hcut;exists rpB,fx,z0,ku,kw,hcut;refine n9 (p8 (λj ρ=>∃(fs:List (Nat×List Nat)) (x:Cap) (a5 a6 a7:Sl),ρ = [.par (.tup [tI b,tM_ ms]),.par (.lst rw_),.par (.int ((i+1:Nat):Int)),.own (fs.map lfT),.val (tC x),a5,a6,a7]/\lfs c es l0 x0=fs++lfs c es (l0.drop j) x/\x.length=c.length/\fs.length<=j) ⟨[],x0,_,_,_,rfl,rfl,hx0,qB9 _⟩ ?_ ?_)
  ·rintro j u ρ hu ⟨fs,x,a5,a6,a7,rfl,hf,hx,hfl⟩;rw[gA,qA8]at hu;obtain ⟨q,hq,rfl⟩:=qE3.mp hu;obtain ⟨hj,eq⟩:=qB0.mp hq;have hqn:=hwl.1 q (qC8 hq);obtain ⟨p1,p2,er⟩:=hsel q (by omega);have a0:L2.atI [tC (sC c es q),p1,p2] 0=some (tC (sC c es q)):=rfl;have kr:=iB (cs:=x) (es:=sC c es q) (by rw[hx];exact C7 hK.len (by omega)) (by omega);have hd:l0.drop j=q::l0.drop (j+1):=by rw[List.drop_eq_getElem_cons hj,eq]
   rw[hd]at hf;have hf:lfs c es l0 x0=fs++((if plc x (i0 x (sC c es q)) = [] then [] else [(q,plc x (i0 x (sC c es q)))])++lfs c es (l0.drop (j+1)) (i0 x (sC c es q))):=hf;have hhl:(i0 x (sC c es q)).length=x.length:=K0 x _;generalize i0 x (sC c es q)=h at *
   have ek:∀N mg mc me ρ (hh:∀k∈List.range x.length,∃ρ1,mg (.int (k:Nat)) (ρ++List.replicate (N-ρ.length) Sl.un)=some ρ1/\mc ρ1=.ok (decide (h.getD k none≠x.getD k none))/\(decide (h.getD k none≠x.getD k none)=true->me ρ1=.ok (.int (k:Nat)))),l6 N mg mc me ((List.range x.length).map λk=>W.int (k:Nat)) ρ=.ok (lI (pz (plc x h))):=λN mg mc me ρ hh=>by
    rw[K2 (λk=>.int (k:Nat)) (λk=>W.int (k:Nat)) (λk=>decide (h.getD k none≠x.getD k none)) _ ρ (by simp;omega) hh];exact congrArg (λl=>R.ok (W.lst l)) (gA _).symm
   have hpl:=mO x h;have hzl:=W3 (plc x h);have hfl2:(fs.map lfT).length<=100:=by rw[qA1];omega
   refine ⟨_,rfl,?_⟩;exists er,a0,kr;rw[ek];rotate_left
   ·intro k hk;have hk:k<x.length:=by simpa using hk
    have y1:=atO hk;have y2:=atO (cs:=h) (k:=k) (by omega);refine ⟨_,rfl,?_,λ_=>?_⟩
    ·exists y1,y2,Ea
    ·exists rp18
   exists hzl;by_cases hemp:plc x h = []
   ·have z1:decide ((0:Int)<((plc x h).length:Int))=false:=by rw[hemp];rfl
    rw[qA4 hemp]at hf;exists z1;exact ⟨fs,h,_,_,_,rfl,hf,by omega,by omega⟩
   ·have z1:decide ((0:Int)<((plc x h).length:Int))=true:=decide_eq_true (by have:=List.length_pos_iff.mpr hemp;omega);rw[qA6 hemp,<- qI3]at hf;exists z1;exact ⟨fs ++ [(q,plc x h)],h,_,_,_,by rw[qC6];rfl,hf,by omega,by rw[qC3,qD9];omega⟩
  ·rintro ρ ⟨fs,x,a5,a6,a7,rfl,hf,hx,hfl⟩;rw[qA1,W3,List.drop_length]at hf;exists rp18;rw[hf]
   show W.lst (fs.map lfT)=W.lst ((fs ++ []).map lfT);rw[qF3]
 obtain ⟨v,e,rfl⟩:=fin;exact e
def mvD (m:Mv)(p:Nat):Int:=m.2.getD p 0-m.1.getD p 0
def dsp (ms:List Mv):List Nat->Nat->Int
 | [],_=>0
 |k::r,p=>mvD (mvN ms k) p+dsp ms r p
def gos (n:Nat) (ms:List Mv):List Nat->(Nat->Int)->Prop
 | [],_=>True
 |k::r,s=>k<ms.length/\(∀p,p<n->(mvN ms k).1.getD p 0<=s p)/\gos n ms r λp=>s p+mvD (mvN ms k) p
section
variable {n:Nat}{ms:List Mv}
theorem K3:∀(r:List Nat) (s t:Nat->Int),(∀p,p<n->s p<=t p)->gos n ms r s->gos n ms r t
 | [],_,_,_,_=>trivial
 |k::r,s,t,h,⟨h1,h2,h3⟩=>⟨h1,λp hp=>qJ5 (h2 p hp) (h p hp),K3 r _ _ (λp hp=>by have:=h p hp;show s p+_<=t p+_;omega) h3⟩
theorem V4 (q:List Nat) (p:Nat):∀r:List Nat,dsp ms (r++q) p=dsp ms r p+dsp ms q p
 | []=>by show dsp ms q p=0+dsp ms q p;omega
 | k::r=>by
  show mvD (mvN ms k) p+dsp ms (r++q) p=mvD (mvN ms k) p+dsp ms r p+dsp ms q p;rw[V4 q p r];omega
theorem dh (q:List Nat):∀(r:List Nat) (s:Nat->Int),gos n ms r s->gos n ms q (λp=>s p+dsp ms r p)->gos n ms (r++q) s
 | [],s,_,h=>K3 q _ s (λp _=>by show s p+0<=s p;omega) h
 |k::r,s,⟨h1,h2,h3⟩,h=>⟨h1,h2,dh q r _ h3 (K3 q _ _ (λp _=>by show s p+(mvD (mvN ms k) p+dsp ms r p)<=s p+mvD (mvN ms k) p+dsp ms r p;omega) h)⟩
def ce (r:List Nat):Nat->List Nat
 |0=>[]
 |k+1=>r++ce r k
theorem nF (r:List Nat) (p:Nat):∀k:Nat,dsp ms (ce r k) p=(k:Int)*dsp ms r p
 |0=>by show (0:Int)=((0:Nat):Int)*_;simp
 | k+1=>by
  show dsp ms (r++ce r k) p=_;rw[V4,nF r p k];push_cast;rw[Int.add_mul];omega
theorem nv (r:List Nat):∀(k:Nat) (s:Nat->Int),(∀j:Nat,j<k->gos n ms r λp=>s p+(j:Int)*dsp ms r p)->gos n ms (ce r k) s
 |0,_,_=>trivial
 | k+1,s,h=>by
  refine dh _ r s (K3 r _ s (λp _=>by simp) (h 0 (by omega))) (nv r k _ λj hj=>K3 r _ _ (λp _=>?_) (h (j+1) (by omega)));push_cast;rw[Int.add_mul];omega
end
theorem bnd (g:Nat->Int):∀n:Nat,∃B:Int,0<=B/\∀p,p<n->g p<=B
 |0=>⟨0,qG5 0,λp hp=>absurd hp (qF7 _)⟩
 | n+1=>by
  obtain ⟨B,h0,hB⟩:=bnd g n;refine ⟨max B (g n),by omega,λp hp=>?_⟩;by_cases e:p=n
  ·subst e;omega
  ·have:=hB p (by omega);omega
def q0 (c:Cap) (N:Int)(p:Nat):Int:=(c.getD p none).getD N
def Fx (n:Nat) (N:Int)(c:Cap)(s:Nat->Int):Prop:=∀p,p<n->(∀v,c.getD p none=some v->s p=v)/\(c.getD p none=none->N<=s p)
def Rz (n:Nat)(ms:List Mv)(x c:Cap):Prop:=∀N:Int,∃(N0:Int)(r:List Nat),gos n ms r (q0 x N0)/\Fx n N c λp=>q0 x N0 p+dsp ms r p
section
variable {n:Nat}{ms:List Mv}{x c e:Cap}
theorem Rz.refl (c:Cap):Rz n ms c c:=λN=>⟨N,[],trivial,λp _=>⟨λv h=>by show q0 c N p+0=v;unfold q0;rw[h];simp,λh=>by show N<=q0 c N p+0;unfold q0;rw[h];simp⟩⟩
theorem bO {a b:Cap}(h:g9 a b=true){p:Nat}(hp:p<a.length):D0 (a.getD p none) (b.getD p none)=true:=by
 unfold g9 at h;rw[qE5]at h;exact h p (by simpa using hp)
theorem Rz.aft {k:Nat}(h:Rz n ms x c) (hk:k<ms.length) (hl:c.length=n) (hm:(mvN ms k).1.length=n) (ha:L7 c (mvN ms k)=true):Rz n ms x (o6 c (mvN ms k)):=λN=>by
 obtain ⟨B1,b1,hB1⟩:=bnd (λp=>(mvN ms k).1.getD p 0) n;obtain ⟨B2,b2,hB2⟩:=bnd (λp =>-mvD (mvN ms k) p) n;obtain ⟨MN,n0,n1⟩:∃x:Int,0<=x/\N<=x:=⟨max N 0,Int.le_max_right _ _,Int.le_max_left _ _⟩;obtain ⟨N0,r,hg,hr⟩:=h (MN+B1+B2);refine ⟨N0,r ++ [k],dh _ r _ hg ⟨hk,λp hp=>?_,trivial⟩,λp hp=>?_⟩
 ·obtain ⟨h1,h2⟩:(∀v,c.getD p none=some v->q0 x N0 p+dsp ms r p=v)/\(c.getD p none=none->MN+B1+B2<=q0 x N0 p+dsp ms r p):=hr p hp;have hu:=bO ha (p:=p) (by rw[qA1,hm];exact hp);have e1:((mvN ms k).1.map some).getD p none=some ((mvN ms k).1.getD p 0):=by
   rw[qA0,qA8,qA0,qA3 (by omega)];rfl
  rw[e1]at hu
  show (mvN ms k).1.getD p 0<=q0 x N0 p+dsp ms r p;cases q:c.getD p none with
  | some v=>
   rw[q]at hu;have hu:(mvN ms k).1.getD p 0<=v:=of_decide_eq_true hu;rw[h1 v q];exact hu
  | none=>
   have:=h2 q
   have:(mvN ms k).1.getD p 0<=B1:=hB1 p hp
   omega
 ·obtain ⟨h1,h2⟩:(∀v,c.getD p none=some v->q0 x N0 p+dsp ms r p=v)/\(c.getD p none=none->MN+B1+B2<=q0 x N0 p+dsp ms r p):=hr p hp
  show (∀v,(o6 c (mvN ms k)).getD p none=some v->q0 x N0 p+dsp ms (r ++ [k]) p=v)/\((o6 c (mvN ms k)).getD p none=none->N<=q0 x N0 p+dsp ms (r ++ [k]) p);have ed:dsp ms (r ++ [k]) p=dsp ms r p+mvD (mvN ms k) p:=by
   rw[V4]
   show _+(mvD (mvN ms k) p+0)=_;omega
  have ea:(o6 c (mvN ms k)).getD p none=(c.getD p none).map λx=>x+mvD (mvN ms k) p:=by
   unfold o6 mvD;rw[qA0,qA8,qE1 (by omega)];rfl
  rw[ea,ed];refine ⟨λv hv=>?_,λhv=>?_⟩
  ·cases q:c.getD p none with
   |none=>rw[q]at hv;cases hv
   | some u=>
    rw[q]at hv
    have:=h1 u q
    have hv:u+mvD (mvN ms k) p=v:=Option.some.inj hv;omega
  ·cases q:c.getD p none with
   |some u=>rw[q]at hv;cases hv
   | none=>
    have h2:=h2 q;have :-mvD (mvN ms k) p<=B2:=hB2 p hp;omega
theorem Rz.rai (h:Rz n ms x c) (he:Rz n ms e c) (hl:c.length=n) (hel:e.length=n):Rz n ms x (i0 c e):=by
 by_cases hu:¬ g9 e c=true
 ·unfold i0;rw[qA6 hu];exact h
 have hu:g9 e c=true:=by simpa using hu
 intro N;obtain ⟨L1,l1,hL1⟩:=bnd (λp=>(e.getD p none).getD 0) n;obtain ⟨U,u0,hU⟩:=bnd (λp =>-(c.getD p none).getD 0) n;obtain ⟨Ne,rl,hgl,hrl⟩:=he (L1+1);obtain ⟨D,d0,hD⟩:=bnd (λp =>-dsp ms rl p) n;obtain ⟨MN,n0,n1⟩:∃x:Int,0<=x/\N<=x:=⟨max N 0,Int.le_max_right _ _,Int.le_max_left _ _⟩;obtain ⟨ME,e0,e1⟩:∃x:Int,0<=x/\Ne<=x:=⟨max Ne 0,Int.le_max_right _ _,Int.le_max_left _ _⟩;obtain ⟨k,hk⟩:∃k:Nat,(k:Int)=MN+U:=⟨(MN+U).toNat,Int.toNat_of_nonneg (Int.add_nonneg n0 u0)⟩;have kD:0<=(k:Int)*D:=qH8 (by omega) d0;obtain ⟨Nx,r1,hg1,hr1⟩:=h (MN+ME+L1+1+(k:Int)*D)
 -- how the loop moves each place
 have mv:∀p,p<n->(∃v u,e.getD p none=some v/\c.getD p none=some u/\v<=u/\v+dsp ms rl p=u)\/(∃v,e.getD p none=some v/\c.getD p none=none/\1<=dsp ms rl p/\v<=L1)\/(e.getD p none=none/\c.getD p none=none):=λp hp=>by
  have hup:=bO hu (p:=p) (by omega);obtain ⟨g1,g2⟩:(∀v,c.getD p none=some v->q0 e Ne p+dsp ms rl p=v)/\(c.getD p none=none->L1+1<=q0 e Ne p+dsp ms rl p):=hrl p hp;cases q:e.getD p none with
  | none=>
   cases q2:c.getD p none with
   |none=>exact .inr (.inr ⟨rfl,rfl⟩)
   |some u=>rw[q,q2]at hup;cases hup
  | some v=>
   have hc0:q0 e Ne p=v:=by unfold q0;rw[q];rfl
   have hL:(e.getD p none).getD 0<=L1:=hL1 p hp;rw[q]at hL;have hL:v<=L1:=hL;cases q2:c.getD p none with
   | none=>
    have g2:=g2 q2;rw[hc0]at g2;exact .inr (.inl ⟨v,rfl,rfl,by omega,hL⟩)
   | some u=>
    have g1:=g1 u q2;rw[hc0]at g1;rw[q,q2]at hup;exact .inl ⟨v,u,rfl,rfl,of_decide_eq_true hup,g1⟩
 refine ⟨Nx,r1++ce rl k,dh _ r1 _ hg1 (nv rl k _ λj hj=>K3 rl _ _ (λp hp=>?_) hgl),λp hp=>?_⟩
 ·obtain ⟨g1,g2⟩:(∀v,c.getD p none=some v->q0 x Nx p+dsp ms r1 p=v)/\(c.getD p none=none->MN+ME+L1+1+(k:Int)*D<=q0 x Nx p+dsp ms r1 p):=hr1 p hp;have hDp :-dsp ms rl p<=D:=hD p hp
  show q0 e Ne p<=q0 x Nx p+dsp ms r1 p+(j:Int)*dsp ms rl p;have j0:(0:Int)<=(j:Int):=by omega
  have jk:(j:Int)*D<=(k:Int)*D:=Int.mul_le_mul_of_nonneg_right (by omega) d0;rcases mv p hp with ⟨v,u,q1,q2,h1,h2⟩|⟨v,q1,q2,h1,h2⟩|⟨q1,q2⟩
  ·have:=g1 u q2
   have hj:=qH8 j0 (show 0<=dsp ms rl p by omega);have hc0:q0 e Ne p=v:=by unfold q0;rw[q1];rfl
   rw[hc0];omega
  ·have:=g2 q2
   have hj:=qH8 j0 (show 0<=dsp ms rl p by omega);have hc0:q0 e Ne p=v:=by unfold q0;rw[q1];rfl
   rw[hc0];omega
  ·have:=g2 q2
   have hj:(j:Int)*(-D)<=(j:Int)*dsp ms rl p:=Int.mul_le_mul_of_nonneg_left (by omega) j0;rw[Int.mul_neg]at hj;have hc0:q0 e Ne p=Ne:=by unfold q0;rw[q1];rfl
   rw[hc0];omega
 ·obtain ⟨g1,g2⟩:(∀v,c.getD p none=some v->q0 x Nx p+dsp ms r1 p=v)/\(c.getD p none=none->MN+ME+L1+1+(k:Int)*D<=q0 x Nx p+dsp ms r1 p):=hr1 p hp;have hDp :-dsp ms rl p<=D:=hD p hp;have hUp :-(c.getD p none).getD 0<=U:=hU p hp
  show (∀v,(i0 c e).getD p none=some v->q0 x Nx p+dsp ms (r1++ce rl k) p=v)/\((i0 c e).getD p none=none->N<=q0 x Nx p+dsp ms (r1++ce rl k) p);have k0:(0:Int)<=(k:Int):=by omega
  have ed:dsp ms (r1++ce rl k) p=dsp ms r1 p+(k:Int)*dsp ms rl p:=by rw[V4,nF]
  have er:(i0 c e).getD p none=O4 (c.getD p none) (e.getD p none):=by
   unfold i0;rw[qA4 hu,qA0,qA8,qE1 (by omega)];rfl
  rw[er,ed];rcases mv p hp with ⟨v,u,q1,q2,h1,h2⟩|⟨v,q1,q2,h1,h2⟩|⟨q1,q2⟩
  ·have g1:=g1 u q2;rw[q1,q2];unfold O4;by_cases euv:u=v
   ·subst euv;have hz:dsp ms rl p=0:=by omega
    rw[qA4 rfl,hz];exact ⟨(λw hw=>by have hw:=Option.some.inj hw;omega),(λhw=>by cases hw)⟩
   ·rw [qA6 (λz=>euv (Option.some.inj z))]
    refine ⟨(λw hw=>by cases hw),λ_=>?_⟩;have hj:(k:Int)*1<=(k:Int)*dsp ms rl p:=Int.mul_le_mul_of_nonneg_left (by omega) k0;rw[q2]at hUp;have hUp:-u<=U:=hUp;omega
  ·have g2:=g2 q2;rw[q1,q2];unfold O4;rw[qA6 (λz=>by cases z)];refine ⟨(λw hw=>by cases hw),λ_=>?_⟩;have hj:=qH8 k0 (show 0<=dsp ms rl p by omega);omega
  ·have g2:=g2 q2;rw[q1,q2];unfold O4;rw[qA4 rfl];refine ⟨(λw hw=>by cases hw),λ_=>?_⟩;have hj:(k:Int)*(-D)<=(k:Int)*dsp ms rl p:=Int.mul_le_mul_of_nonneg_left (by omega) k0;rw[Int.mul_neg]at hj;omega
end
section
variable {c:Cap}{ms:List Mv}{es:List GEnt}{A kk:Nat}
theorem pP {n:Nat}{S:List Nat}:∀(l:List Nat) (x:Cap),(∀q∈l,q∈S)->(∀q∈S,(sC c es q).length=n)->x.length=n->(∀q∈S,Rz n ms (sC c es q) x)->∀q∈S,Rz n ms (sC c es q) (upC c es l x)
 | [],_,_,_,_,h=>h
 | a::l,x,hl,hn,hx,h=>by
  show ∀q∈S,Rz n ms (sC c es q) (upC c es l (i0 x (sC c es a)));have ha:=hl a qB1;exact pP l _ (λq hq=>hl q (qA7 _ hq)) hn (by rw[K0];exact hx) λq hq=>(h q hq).rai (h a ha) hx (hn a ha)
theorem GK.rz (h:GK c ms es A kk) (hm:∀m∈ms,m.1.length=c.length):∀j,j<=es.length->∀i∈i5 es j,Rz c.length ms (sC c es i) (sC c es j):=by
 intro j
 induction j using Nat.strongRecOn with
 | _ j ih=>
  intro hj i hi;cases j with
  |zero=>rw[C4]at hi;rw[qD0.mp hi];exact .refl _
  | succ j=>
   have he:es[j]?=some es[j]:=qA3 (by omega);have hp:=h.par j _ he;rw[k9 h.par he]at hi;rcases qB3.mp hi with rfl|hi
   ·exact .refl _
   obtain ⟨hab,hbe,_⟩:=h.beh j _ he;have hk:=h.k8 _ (qC8 he);have hle:=(D4 h.par es[j].2.1 (by omega)).1;have hlen:∀q∈i5 es es[j].2.1,(sC c es q).length=c.length:=λq hq=>C7 h.len (by have:=hle q hq;omega);have hmm:(mvN ms es[j].2.2).1.length=c.length:=hm _ (by unfold mvN;rw[qA0,qA3 hk];exact qF0 _);have hla:=C7 h.len (a:=es[j].2.1) (by omega);rw[fc he,hbe];unfold p9;exact pP _ _ (λq hq=>hq) hlen (by rw[F4];exact hla) (λq hq=>(ih es[j].2.1 (by omega) (by omega) q hq).aft hk hla hmm hab) i hi
theorem jv (hp:E4 es):∀j,j<=es.length->0∈i5 es j:=by
 intro j
 induction j using Nat.strongRecOn with
 | _ j ih=>
  intro hj;cases j with
  |zero=>rw[C4];exact qD0.mpr rfl
  | succ j=>
   have he:es[j]?=some es[j]:=qA3 (by omega)
   have:=hp j _ he
   rw[k9 hp he];exact qA7 _ (ih es[j].2.1 (by omega) (by omega))
end
def nnC (d:Cap):Prop:=∀k x,d.getD k none=some x->0<=x
theorem yu {x e:Cap}(h:nnC x):nnC (i0 x e):=λk z hz=>by
 unfold i0 at hz;by_cases q:g9 e x=true
 ·rw [qA4 q]at hz
  by_cases hk:k<x.length
  ·rw [qA0,qA8,qE1 hk]at hz
   have hz:O4 (x.getD k none) (e.getD k none)=some z:=hz;unfold O4 at hz;by_cases q2:x.getD k none=e.getD k none
   ·rw[qA4 q2]at hz;exact h k z hz
   ·rw[qA6 q2]at hz;cases hz
  ·rw[qA0,qE9 (by simpa using qM5 hk)]at hz;cases hz
 ·rw[qA6 q]at hz;exact h k z hz
theorem re {c:Cap}{es:List GEnt}:∀(l:List Nat) (x:Cap),nnC x->nnC (upC c es l x)
 | [],_,h=>h
 |q::l,x,h=>re l (i0 x (sC c es q)) (yu h)
theorem yw {t:Cap}{m:Mv}(hm:okN t.length m) (hab:L7 t m=true):nnC (o6 t m):=λk z hz=>by
 unfold o6 at hz;by_cases hk:k<t.length
 ·rw [qA0,qA8,qE1 hk]at hz
  have hz:(t.getD k none).map (λx=>x+(m.2.getD k 0-m.1.getD k 0))=some z:=hz;cases hy:t.getD k none with
  |none=>rw[hy]at hz;cases hz
  | some y=>
   rw[hy]at hz;cases hz;have h1:D0 ((m.1.map some).getD k none) (t.getD k none)=true:=by
    unfold L7 g9 at hab;exact qE5.mp hab k (by rw[qE7,qA1,hm.1];exact hk)
   have hkm:k<m.1.length:=by rw[hm.1];exact hk
   have e1:(m.1.map some).getD k none=some (m.1.getD k 0):=by
    rw[qA0,qA8,qA3 hkm,qA0,qA3 hkm];rfl
   rw[e1,hy]at h1;have h1:m.1.getD k 0<=y:=of_decide_eq_true h1;have h2:=df hm.2.2.2 k
   show 0<=y+(m.2.getD k 0-m.1.getD k 0);omega
 ·rw[qA0,qE9 (by simpa using qM5 hk)]at hz;cases hz
theorem GK.nng {c:Cap}{ms:List Mv}{es:List GEnt}{A kk:Nat}(hK:GK c ms es A kk) (hms:∀m∈ms,okN c.length m) (hc:nnC c):∀d∈stC c es,nnC d:=λd hd=>by
 unfold stC at hd;rcases qB3.mp hd with rfl|hd
 ·exact hc
 ·obtain ⟨e,he,rfl⟩:=qB6.mp hd;obtain ⟨i,hi,ei⟩:=qE6.mp he;have hq:es[i]?=some e:=by rw[qA3 hi,ei]
  obtain ⟨hab,hb,_⟩:=hK.beh i e hq;have hp:=hK.par i e hq;rw[hb];exact re _ _ (yw (by rw[C7 hK.len (by omega)];exact getM hms (hK.k8 e he)) hab)
theorem uS {b:List Int}(h:nn b):nnC (b.map some):=λk x hx=>by
 by_cases hk:k<b.length
 ·rw [qA0,qA8,qA3 hk]at hx
  cases hx;exact h _ (qF0 _)
 ·rw[qA0,qE9 (by simpa using qM5 hk)]at hx;cases hx
def hur (ms:List Mv):List Nat->Nat->Int
 | [],_=>0
 |k::r,p=>max ((mvN ms k).1.getD p 0) (hur ms r p-mvD (mvN ms k) p)
theorem pq {a b u:Int}(h:a<=u)(hb:0<=b):0-(b-a)<=u:=by omega
theorem pp {h x y s:Int}(h2:h+x<=s)(e:y =-x):h<=s+y:=by omega
theorem nt {ms:List Mv}{q:List Nat}{p:Nat}:∀{r:List Nat}{u:Int},hur ms r p<=u->hur ms q p<=u+dsp ms r p->hur ms (r++q) p<=u:=by
 intro r
 induction r with
 | nil=>
  intro u _ h;have h:hur ms q p<=u+0:=h;rw[qK6]at h;exact h
 | cons k r ih=>
  intro u h1 h2;have h1:=Int.max_le.mp (show max ((mvN ms k).1.getD p 0) (hur ms r p-mvD (mvN ms k) p)<=u from h1);have h2:hur ms q p<=u+(mvD (mvN ms k) p+dsp ms r p):=h2;rw[<- Int.add_assoc]at h2;exact Int.max_le.mpr ⟨h1.1,Int.sub_right_le_of_le_add (ih (Int.le_add_of_sub_right_le h1.2) h2)⟩
abbrev Blk:=List Nat×Int
def okB (n:Nat)(ms:List Mv)(s:Nat->Int)(b:Blk):Prop:=1<=b.2/\(∀k∈b.1,k<ms.length)/\b.1.length<=30/\∀p,p<n->hur ms b.1 p<=s p/\hur ms b.1 p<=s p+(b.2-1)*dsp ms b.1 p
def lO (ms:List Mv)(s:Nat->Int)(b:Blk):Nat->Int:=λp=>s p+b.2*dsp ms b.1 p
def goB (n:Nat) (ms:List Mv):List Blk->(Nat->Int)->Prop
 | [],_=>True
 |b::bs,s=>okB n ms s b/\goB n ms bs (lO ms s b)
def w4 (ms:List Mv):List Blk->(Nat->Int)->Nat->Int
 | [],s=>s
 |b::bs,s=>w4 ms bs (lO ms s b)
def vI (n:Nat)(x:Cap)(w s:Nat->Int):Prop:=∀p,p<n->(∀v,x.getD p none=some v->s p=v)/\(x.getD p none=none->w p<=s p)
def ldB (n:Nat)(ms:List Mv)(x:Cap)(w:Nat->Int)(bs:List Blk)(y:Cap)(u:Nat->Int):Prop:=∀s,vI n x w s->goB n ms bs s/\vI n y u (w4 ms bs s)
theorem ldB.cons {n:Nat}{ms:List Mv}{x y z:Cap}{w u v:Nat->Int}{b:Blk}{bs:List Blk}(h1:ldB n ms x w [b] y u) (h2:ldB n ms y u bs z v):ldB n ms x w (b::bs) z v:=λs hs=>by
 obtain ⟨⟨g1,_⟩,f1⟩:=h1 s hs;obtain ⟨g2,f2⟩:=h2 _ f1;exact ⟨⟨g1,g2⟩,f2⟩
theorem ldB.skip {n:Nat}{ms:List Mv}{x y z:Cap}{w u v:Nat->Int}{bs:List Blk}(h1:ldB n ms x w [] y u)(h2:ldB n ms y u bs z v):ldB n ms x w bs z v:=λs hs=>h2 _ (h1 s hs).2
theorem ldB.refl {n:Nat}{ms:List Mv}(x:Cap)(w:Nat->Int):ldB n ms x w [] x w:=λ_ hs=>⟨trivial,hs⟩
def ahW (ms:List Mv)(r:List Nat) (t:Int)(w:Nat->Int)(p:Nat):Int:=max (max (hur ms r p) (hur ms r p+(1-t)*dsp ms r p)) (w p+(-t)*dsp ms r p)
theorem jV {x e:Cap}{p:Nat}(hu:g9 e x=true) (hp:p<x.length):(i0 x e).getD p none=O4 (x.getD p none) (e.getD p none):=by
 unfold i0;rw[qA4 hu,qA0,qA8,qE1 hp];rfl
theorem J9 {x e:Cap}{p:Nat}{v:Int}(h:(i0 x e).getD p none=some v):x.getD p none=some v:=by
 by_cases hu:g9 e x=true
 ·by_cases hp:p<x.length
  ·rw [jV hu hp]at h
   unfold O4 at h;by_cases q:x.getD p none=e.getD p none
   ·rw[qA4 q]at h;exact h
   ·rw[qA6 q]at h;cases h
  ·rw[qA0,qE9 (by rw[K0];omega)]at h;cases h
 ·unfold i0 at h;rw[qA6 hu]at h;exact h
theorem mw {c:Cap}{es:List GEnt}{p:Nat}{v:Int}:∀(l:List Nat) (x:Cap),(upC c es l x).getD p none=some v->x.getD p none=some v
 | [],_,h=>h
 |q::l,x,h=>J9 (mw l (i0 x (sC c es q)) h)
theorem yT {n:Nat}{ms:List Mv}{x e:Cap}{r:List Nat}{t:Int}{w:Nat->Int}(hx:x.length=n) (he:e.length=n) (hu:g9 e x=true) (hr:∀k∈r,k<ms.length) (hl:r.length<=30)
  (hrow:∀p,p<n->∀v,x.getD p none=some v->∃u,e.getD p none=some u/\u+dsp ms r p=v/\hur ms r p<=u) (ht:1<=t) (hw:∀p,p<n->∀v,x.getD p none=some v->(i0 x e).getD p none=none->w p<=v+t*dsp ms r p):ldB n ms x (ahW ms r t w) [(r,t)] (i0 x e) w:=λs hs=>by
 have hup:∀p,p<n->∀v,x.getD p none=some v->∀u,e.getD p none=some u->u<=v:=λp hp v hv u hu'=>by
  have:=bO hu (p:=p) (by omega)
  rw[hv,hu']at this;exact of_decide_eq_true this
 refine ⟨⟨⟨ht,hr,hl,λp hp=>?_⟩,trivial⟩,λp hp=>?_⟩
 ·obtain ⟨h1,h2⟩:=hs p hp
  show hur ms r p<=s p/\hur ms r p<=s p+(t-1)*dsp ms r p;cases q:x.getD p none with
  | some v=>
   obtain ⟨u,eu,ed,eh⟩:=hrow p hp v q
   have:=hup p hp v q u eu
   have e1:=h1 v q
   have:=qH8 (show 0<=t-1 by omega) (show 0<=dsp ms r p by omega)
   omega
  | none=>
   have h2:=h2 q;unfold ahW at h2;have e1:(t-1)*dsp ms r p =-((1-t)*dsp ms r p):=by rw[<- Int.neg_mul,Int.neg_sub]
   have h2:=Int.max_le.mp (Int.max_le.mp h2).1;exact ⟨h2.1,pp h2.2 e1⟩
 ·obtain ⟨h1,h2⟩:=hs p hp;have hsh:w4 ms [(r,t)] s p=s p+t*dsp ms r p:=rfl;rw[hsh];refine ⟨λv hv=>?_,λhv=>?_⟩
  ·have hxv:=J9 hv;obtain ⟨u,eu,ed,eh⟩:=hrow p hp v hxv;rw[jV hu (by omega),hxv,eu]at hv;unfold O4 at hv;by_cases q:v=u
   ·have:dsp ms r p=0:=by omega
    rw[h1 v hxv,this,Int.mul_zero,qK6]
   ·rw[qA6 (λz=>q (Option.some.inj z))]at hv;cases hv
  ·cases q:x.getD p none with
   | some v=>
    rw[h1 v q];exact hw p hp v q hv
   | none=>
    have h2:=h2 q;unfold ahW at h2;exact pp (Int.max_le.mp h2).2 (by rw[Int.neg_mul,Int.neg_neg])
theorem uZ {n:Nat}{ms:List Mv}{x e:Cap}{w:Nat->Int}(hw:∀p,p<n->∀v,x.getD p none=some v->(i0 x e).getD p none=none->w p<=v) (hn:∀p,p<n->x.getD p none=none->(i0 x e).getD p none=none):ldB n ms x w [] (i0 x e) w:=λs hs=>⟨trivial,λp hp=>by
 obtain ⟨h1,h2⟩:=hs p hp
 show (∀v,(i0 x e).getD p none=some v->s p=v)/\((i0 x e).getD p none=none->w p<=s p);refine ⟨λv hv=>h1 v (J9 hv),λhv=>?_⟩;cases q:x.getD p none with
 |some v=>rw[h1 v q];exact hw p hp v q hv
 |none=>exact h2 q⟩
theorem fV {c:Cap}{m:Mv}{p:Nat}(hp:p<c.length):(o6 c m).getD p none=(c.getD p none).map λx=>x+mvD m p:=by
 unfold o6 mvD;rw[qA0,qA8,qE1 hp];rfl
theorem lP {c:Cap}{m:Mv}{p:Nat}{v:Int}(hm:okN c.length m) (ha:L7 c m=true) (hp:p<c.length) (hv:c.getD p none=some v):m.1.getD p 0<=v:=by
 have hu:=bO ha (p:=p) (by rw[qA1,hm.1];exact hp);have e1:(m.1.map some).getD p none=some (m.1.getD p 0):=by
  rw[qA0,qA8,qA0,qA3 (by rw[hm.1];exact hp)];rfl
 rw[e1,hv]at hu;exact of_decide_eq_true hu
theorem yz {n:Nat}{ms:List Mv}{c:Cap}{k:Nat}{w:Nat->Int}(hc:c.length=n) (hk:k<ms.length) (hm:okN n (mvN ms k)) (ha:L7 c (mvN ms k)=true):ldB n ms c (ahW ms [k] 1 w) [([k],1)] (o6 c (mvN ms k)) w:=λs hs=>by
 have hh:∀p,hur ms [k] p=max ((mvN ms k).1.getD p 0) (0-mvD (mvN ms k) p):=λp=>rfl;have hd:∀p,dsp ms [k] p=mvD (mvN ms k) p+0:=λp=>rfl;refine ⟨⟨⟨qG5 1,by simpa using hk,by simp,λp hp=>?_⟩,trivial⟩,λp hp=>?_⟩
 ·obtain ⟨h1,h2⟩:=hs p hp
  show hur ms [k] p<=s p/\hur ms [k] p<=s p+(1-1)*dsp ms [k] p;rw[show (1:Int)-1=0 from rfl,Int.zero_mul,qK6]
  suffices hur ms [k] p<=s p from ⟨this,this⟩
  cases q:c.getD p none with
  | some v=>
   have h3:=lP (by rw[hc];exact hm) ha (by omega) q;have h4:=df hm.2.2.2 p;rw[h1 v q,hh];exact Int.max_le.mpr ⟨h3,pq h3 h4⟩
  | none=>
   have h2:=h2 q;unfold ahW at h2;exact (Int.max_le.mp (Int.max_le.mp h2).1).1
 ·obtain ⟨h1,h2⟩:=hs p hp;have hsh:w4 ms [([k],1)] s p=s p+1*dsp ms [k] p:=rfl;rw[hsh,fV (by omega),hd];cases q:c.getD p none with
  | some v=>
   refine ⟨λu hu=>?_,λhu=>by cases hu⟩;have hu:v+mvD (mvN ms k) p=u:=Option.some.inj hu;rw[h1 v q,Int.one_mul,qK6];exact hu
  | none=>
   refine ⟨λu hu=>(by cases hu),λ_=>?_⟩;have h2:=h2 q;unfold ahW at h2;rw[hd]at h2;exact pp (Int.max_le.mp h2).2 (by rw[Int.neg_mul,Int.neg_neg])
def ad (es:List GEnt)(a:Nat):Nat:=(es.getD (a-1) ([],0,0)).2.2
def G7 (es:List GEnt)(q j:Nat):List Nat:=((i5 es j).takeWhile λa=>decide (a≠q)).reverse
def u7 (es:List GEnt)(q j:Nat):List Nat:=(G7 es q j).map (ad es)
theorem cu {es:List GEnt}(hp:E4 es){q:Nat}(hq:q<=es.length):G7 es q q = []:=by
 unfold G7;cases q with
 |zero=>rw[C4];rfl
 | succ i=>
  rw[k9 hp (qA3 (show i<es.length by omega)),qL4];simp
theorem iF {es:List GEnt}(hp:E4 es){q i:Nat}{e:GEnt}(he:es[i]?=some e) (hq:q≠i+1):G7 es q (i+1)=G7 es q e.2.1 ++ [i+1]:=by
 unfold G7;rw[k9 hp he,qL4,qA4 (by simpa using λh=>hq h.symm),qG9]
theorem gF {es:List GEnt}{i:Nat}{e:GEnt}(he:es[i]?=some e):ad es (i+1)=e.2.2:=by
 unfold ad;rw[Nat.add_sub_cancel,getD_at he]
theorem bY {es:List GEnt}(hp:E4 es){q i:Nat}{e:GEnt}(he:es[i]?=some e) (hq:q≠i+1):u7 es q (i+1)=u7 es q e.2.1 ++ [e.2.2]:=by
 unfold u7;rw[iF hp he hq,qC6,List.map_singleton,gF he]
theorem uj {es:List GEnt}(hp:E4 es){q j:Nat}(hj:j<=es.length):(u7 es q j).length<=j+1:=by
 unfold u7 G7;rw[qA1,qB2];have h1:=(List.takeWhile_sublist (λa=>decide (a≠q)) (l:=i5 es j)).length_le;have h2:=(D4 hp j hj).2;omega
section
variable {c:Cap}{ms:List Mv}{es:List GEnt}{A kk:Nat}
theorem xA (h:GK c ms es A kk){q:Nat}:∀j,j<=es.length->q∈i5 es j->∀k∈u7 es q j,k<ms.length:=by
 intro j
 induction j using Nat.strongRecOn with
 | _ j ih=>
  intro hj hq;by_cases e:q=j
  ·subst e;unfold u7;rw[cu h.par hj];intro k hk;cases hk
  ·cases j with
   |zero=>rw[C4]at hq;exact absurd (qD0.mp hq) e
   | succ i=>
    have he:es[i]?=some es[i]:=qA3 (by omega);have hp:=h.par i _ he;rw[k9 h.par he]at hq;have hq:q∈i5 es es[i].2.1:=by
     rcases qB3.mp hq with q' |q'
     ·exact absurd q' e
     ·exact q'
    rw[bY h.par he e];intro k hk;rcases qE4.mp hk with k' |k'
    ·exact ih es[i].2.1 (by omega) (by omega) hq k k'
    ·rw[qD0.mp k'];exact h.k8 _ (qC8 he)
theorem yf (h:GK c ms es A kk) (hm:∀m∈ms,okN c.length m) (hc:nnC c){q p:Nat}(hp:p<c.length):∀j,j<=es.length->q∈i5 es j->∀v,(sC c es j).getD p none=some v->∃u,(sC c es q).getD p none=some u/\u+dsp ms (u7 es q j) p=v/\hur ms (u7 es q j) p<=u:=by
 intro j
 induction j using Nat.strongRecOn with
 | _ j ih=>
  intro hj hq v hv;by_cases e:q=j
  ·subst e;refine ⟨v,hv,?_⟩
   have:u7 es q q = []:=by unfold u7;rw[cu h.par hj];rfl
   rw[this];have h0:=h.nng hm hc _ (bX hj) p v hv;exact ⟨qK6 v,h0⟩
  ·cases j with
   |zero=>rw[C4]at hq;exact absurd (qD0.mp hq) e
   | succ i=>
    have he:es[i]?=some es[i]:=qA3 (by omega);have hpa:=h.par i _ he;have hk:=h.k8 _ (qC8 he);rw[k9 h.par he]at hq;have hq:q∈i5 es es[i].2.1:=by
     rcases qB3.mp hq with q' |q'
     ·exact absurd q' e
     ·exact q'
    obtain ⟨hab,hbe,_⟩:=h.beh i _ he;rw[fc he,hbe]at hv;unfold p9 at hv;have hv:=mw _ _ hv;have hsl:=C7 h.len (a:=es[i].2.1) (by omega);rw[fV (by omega)]at hv;cases hu:(sC c es es[i].2.1).getD p none with
    |none=>rw[hu]at hv;cases hv
    | some u'=>
     rw[hu]at hv;have hv:u'+mvD (mvN ms es[i].2.2) p=v:=Option.some.inj hv;obtain ⟨u,eu,ed,eh⟩:=ih es[i].2.1 (by omega) (by omega) hq u' hu;have hok:okN (sC c es es[i].2.1).length (mvN ms es[i].2.2):=by rw[hsl];exact getM hm hk
     have h3:=lP hok hab (by omega) hu;have h4:=df hok.2.2.2 p;have ed1:mvD (mvN ms es[i].2.2) p=(mvN ms es[i].2.2).2.getD p 0-(mvN ms es[i].2.2).1.getD p 0:=rfl;have hh:hur ms [es[i].2.2] p=max ((mvN ms es[i].2.2).1.getD p 0) (0-mvD (mvN ms es[i].2.2) p):=rfl;have hd:dsp ms [es[i].2.2] p=mvD (mvN ms es[i].2.2) p+0:=rfl;rw[bY h.par he e];exact ⟨u,eu,by rw[V4,hd,qK6,<- Int.add_assoc,ed];exact hv,nt eh (by rw[hh,ed];exact Int.max_le.mpr ⟨h3,by rw[ed1];exact pq h3 h4⟩)⟩
end
theorem zn {z:W}{k:Int}(h:1<=k/\k<=1000):fRepT (.tup [z]) (.int k)=.ok (.tup (List.replicate k.toNat [z]).flatten):=by
 show (if _ then _ else _)=_;rw[qA4 ⟨List.cons_ne_nil _ _,by simp;omega,h.1,h.2⟩]
def tp (ms:List Mv)(k:Nat) (r:Int):Int×Int:=((ms.getD r.toNat ([],[])).1.getD k 0,(ms.getD r.toNat ([],[])).2.getD k 0)
def col (ms:List Mv)(k:Nat)(rs:List Int):List (Int×Int):=rs.map (tp ms k)
def ln:List (Int×Int)->Int
 | []=>0
 |a::r=>max a.1 (ln r-a.2+a.1)
def V8:List (Int×Int)->Int
 | []=>0
 |a::r=>a.2-a.1+V8 r
theorem jE:∀(a b:List (Int×Int)),V8 (a++b)=V8 a+V8 b
 | [],b=>by simp [V8]
 |x::a,b=>by simp only [qK8,V8,jE a b];omega
def ag (n:Nat)(ms:List Mv)(rs:List Int):List Int:=(List.range n).map λk=>ln (col ms k rs)
def V7 (n:Nat)(ms:List Mv)(rs:List Int):List Int:=(List.range n).map λk=>V8 (col ms k rs)
theorem bh (n:Nat)(ms:List Mv)(rs:List Int):(ag n ms rs).length=n:=by simp [ag]
theorem jD (n:Nat)(ms:List Mv)(rs:List Int):(V7 n ms rs).length=n:=by simp [V7]
theorem zeros (n:Nat) (f:Nat->Int) (h:∀k,f k=0):List.replicate n (0:Int)=(List.range n).map f:=by
 apply qH6
 ·simp
 ·intro i h1 h2;simp [h]
theorem fo {b:List Int}{w:W}(h1:1<=b.length) (h6:b.length<=6):Z4 [.tup [tI b,w]]=.ok (tI (List.replicate b.length 0)):=by
 have a0:L2.atI [tI b,w] 0=some (tI b):=rfl;exists rpB,iK,a0,zn
abbrev okR (ms:List Mv)(rs:List Int):Prop:=∀r∈rs,0<=r/\r<(ms.length:Int)
theorem rN {b:List Int}{ms:List Mv}{rs:List Int}(h1:1<=b.length) (h6:b.length<=6) (hm:∀m∈ms,okN b.length m) (hr:okR ms rs):Q3 [.tup [tI b,tM_ ms],lI rs]=.ok (tI (ag b.length ms rs)):=by
 have fin:Ok (Q3 [.tup [tI b,tM_ ms],lI rs]) λv=>v=tI (ag b.length ms rs):=by
  have k0:=fo (b:=b) (w:=tM_ ms) h1 h6;have a1:L2.atI [tI b,tM_ ms] 1=some (tM_ ms):=rfl;exists rpB,kP,k0;rw[<- qG8];refine n9 (p8 (λi ρ=>∃(a:Sl),ρ = [.par (.tup [tI b,tM_ ms]),.par (lI rs),.val (tI (ag b.length ms (rs.reverse.take i).reverse)),a]) ⟨.un,by rw[zeros b.length (λk=>ln (col ms k [])) (λ_=>rfl)];rfl⟩ ?_ ?_)
  ·rintro i w ρ hw ⟨a,rfl⟩;obtain ⟨hi,rfl⟩:=kI hw;have hri:0<=rs.reverse.getD i 0/\rs.reverse.getD i 0<(ms.length:Int):=memD (P:=λr=>0<=r/\r<(ms.length:Int)) (λr h=>hr r (qK9.mp h)) hi;have e1:=atM hri.1 hri.2;have hk:=getM hm (show (rs.reverse.getD i 0).toNat<ms.length by omega);have e2:=iu (g:=ag b.length ms (rs.reverse.take i).reverse) (t:=(ms.getD (rs.reverse.getD i 0).toNat ([],[])).1) (p:=(ms.getD (rs.reverse.getD i 0).toNat ([],[])).2) (by rw[bh,hk.1]) (by rw[bh,hk.2.1]) (by rw[bh];exact h6);refine ⟨_,rfl,?_⟩;exists a1,e1,e2;refine ⟨.par (.int (rs.reverse.getD i 0)),?_⟩
   have:srcL (ag b.length ms (rs.reverse.take i).reverse) (ms.getD (rs.reverse.getD i 0).toNat ([],[])).1 (ms.getD (rs.reverse.getD i 0).toNat ([],[])).2=ag b.length ms (rs.reverse.take (i+1)).reverse:=by
    have q:(rs.reverse.take (i+1)).reverse=rs.reverse.getD i 0::(rs.reverse.take i).reverse:=by
     rw[qM1,qL5,qA0];simp only [qA3 hi];rfl
    rw[q];unfold srcL;rw[bh];refine qJ6 λk hk=>?_;rw[show (ag b.length ms (rs.reverse.take i).reverse).getD k 0=_ from t9 (by simpa using hk)];rfl
   rw[this]
  ·rintro ρ ⟨a,rfl⟩;rw[qA1,qG2,List.reverse_reverse];exists rp18
 obtain ⟨v,e,rfl⟩:=fin;exact e
theorem nW {g d:List Int}{z:Int}(hl:d.length=g.length) (h6:g.length<=1000) (hz:-1000000<=z/\z<=1000000):E5 [tI g,tI d,.int z]=.ok (tI ((List.range g.length).map λk=>g.getD k 0+z*d.getD k 0)):=by
 have hzz:=L9 (tI g) (tI d) _ _ rfl rfl;rw[P8 hl]at hzz;exists rpB,cv,hzz;have e:∀N mg me ρ (h:∀k,k<g.length->∃ρ1,mg (.tup [.int (g.getD k 0),.int (d.getD k 0)]) (ρ++List.replicate (N-ρ.length) Sl.un)=some ρ1/\me ρ1=.ok (.int (g.getD k 0+z*d.getD k 0))),l6 N mg yes me ((List.range g.length).map λk=>W.tup [.int (g.getD k 0),.int (d.getD k 0)]) ρ=.ok (lI ((List.range g.length).map λk=>g.getD k 0+z*d.getD k 0)):=λN mg me ρ h=>by
  rw[m8 (λk=>.int (g.getD k 0+z*d.getD k 0)) _ _ ρ (by simpa using h6) (λk hk=>h k (by simpa using hk)),eM]
 rw[e]
 ·exists rp18
 ·intro k hk;refine ⟨_,rfl,?_⟩;exists rp18
theorem vV {ms:List Mv}{k i:Nat}{rs:List Int}(h:i<rs.length):col ms k (rs.take (i+1))=col ms k (rs.take i) ++ [tp ms k (rs.getD i 0)]:=by
 unfold col;rw[qM1,qC6,qA0];simp only [qA3 h];rfl
theorem AJ {b:List Int}{ms:List Mv}{rs:List Int}(h1:1<=b.length) (h6:b.length<=6) (hm:∀m∈ms,okN b.length m) (hr:okR ms rs):D3 [.tup [tI b,tM_ ms],lI rs]=.ok (tI (V7 b.length ms rs)):=by
 have fin:Ok (D3 [.tup [tI b,tM_ ms],lI rs]) λv=>v=tI (V7 b.length ms rs):=by
  have k0:=fo (b:=b) (w:=tM_ ms) h1 h6;have a1:L2.atI [tI b,tM_ ms] 1=some (tM_ ms):=rfl;exists rpB,kJ,k0;refine n9 (p8 (λi ρ=>∃(a:Sl),ρ = [.par (.tup [tI b,tM_ ms]),.par (lI rs),.val (tI (V7 b.length ms (rs.take i))),a]) ⟨.un,by rw[zeros b.length (λk=>V8 (col ms k [])) (λ_=>rfl)];rfl⟩ ?_ ?_)
  ·rintro i w ρ hw ⟨a,rfl⟩;obtain ⟨hi,rfl⟩:=kI hw;have hri:0<=rs.getD i 0/\rs.getD i 0<(ms.length:Int):=memD (P:=λr=>0<=r/\r<(ms.length:Int)) hr hi;have e1:=atM hri.1 hri.2;have hk:=getM hm (show (rs.getD i 0).toNat<ms.length by omega);have e2:=iW h6 hk;have e3:=nW (g:=V7 b.length ms (rs.take i)) (d:=(List.range b.length).map λk=>(ms.getD (rs.getD i 0).toNat ([],[])).2.getD k 0-(ms.getD (rs.getD i 0).toNat ([],[])).1.getD k 0) (z:=1) (by simp [V7]) (by rw[jD];omega) (by omega);refine ⟨_,rfl,?_⟩;exists a1,e1,e2,e3;refine ⟨.par (.int (rs.getD i 0)),?_⟩;rw[jD]
   have:((List.range b.length).map λk=>(V7 b.length ms (rs.take i)).getD k 0+1*((List.range b.length).map λk=>(ms.getD (rs.getD i 0).toNat ([],[])).2.getD k 0-(ms.getD (rs.getD i 0).toNat ([],[])).1.getD k 0).getD k 0)=V7 b.length ms (rs.take (i+1)):=by
    refine qJ6 λk hk=>?_;have hk:k<b.length:=by simpa using hk
    rw[t9 hk,show (V7 b.length ms (rs.take i)).getD k 0=_ from t9 hk,vV hi,jE,Int.one_mul];simp only [V8,tp];omega
   rw[this]
  ·rintro ρ ⟨a,rfl⟩;rw[qA1,qG2];exists rp18
 obtain ⟨v,e,rfl⟩:=fin;exact e
abbrev vF (n:Nat)(f:Nat->Int):List Int:=(List.range n).map f
theorem C5 (n:Nat)(f:Nat->Int):(vF n f).length=n:=by simp
theorem Av (ms:List Mv) (p k:Nat):tp ms p (k:Int)=((mvN ms k).1.getD p 0,(mvN ms k).2.getD p 0):=by
 unfold tp mvN;rw[qF8]
theorem nr (ms:List Mv) (p:Nat):∀r:List Nat,ln (col ms p (pz r))=hur ms r p
 | []=>rfl
 | k::r=>by
  show max (tp ms p (k:Int)).1 (ln (col ms p (pz r))-(tp ms p (k:Int)).2+(tp ms p (k:Int)).1)=max ((mvN ms k).1.getD p 0) (hur ms r p-mvD (mvN ms k) p);rw[nr ms p r,Av];unfold mvD;congr 1;omega
theorem mB (ms:List Mv) (p:Nat):∀r:List Nat,V8 (col ms p (pz r))=dsp ms r p
 | []=>rfl
 | k::r=>by
  show (tp ms p (k:Int)).2-(tp ms p (k:Int)).1+V8 (col ms p (pz r))=mvD (mvN ms k) p+dsp ms r p;rw[mB ms p r,Av];rfl
theorem qT {ms:List Mv}{r:List Nat}(h:∀k∈r,k<ms.length):okR ms (pz r):=λx hx=>by
 obtain ⟨k,hk,rfl⟩:=qB6.mp hx
 have:=h k hk
 omega
theorem nu {b:List Int}{ms:List Mv}{r:List Nat}(h1:1<=b.length) (h6:b.length<=6) (hm:∀m∈ms,okN b.length m) (hr:∀k∈r,k<ms.length):Q3 [.tup [tI b,tM_ ms],lI (pz r)]=.ok (tI (vF b.length (hur ms r))):=by
 rw[rN h1 h6 hm (qT hr)];unfold ag;simp only [nr]
theorem cZ {b:List Int}{ms:List Mv}{r:List Nat}(h1:1<=b.length) (h6:b.length<=6) (hm:∀m∈ms,okN b.length m) (hr:∀k∈r,k<ms.length):D3 [.tup [tI b,tM_ ms],lI (pz r)]=.ok (tI (vF b.length (dsp ms r))):=by
 rw[AJ h1 h6 hm (qT hr)];unfold V7;simp only [mB]
theorem Y3 {n:Nat}{g d:Nat->Int}{z:Int}(h6:n<=6) (hd:∀p,p<n->-18446744073709551616<d p/\d p<18446744073709551616):E5 [tI (vF n g),tI (vF n d),.int z]=.ok (tI (vF n λp=>g p+z*d p)):=by
 have hzz:=L9 (tI (vF n g)) (tI (vF n d)) _ _ rfl rfl;rw[P8 (by rw[C5,C5]),C5]at hzz;exists rpB,cv,hzz;have e:∀N mg me ρ (h:∀k,k<n->∃ρ1,mg (.tup [.int ((vF n g).getD k 0),.int ((vF n d).getD k 0)]) (ρ++List.replicate (N-ρ.length) Sl.un)=some ρ1/\me ρ1=.ok (.int (g k+z*d k))),l6 N mg yes me ((List.range n).map λk=>W.tup [.int ((vF n g).getD k 0),.int ((vF n d).getD k 0)]) ρ=.ok (lI (vF n λp=>g p+z*d p)):=λN mg me ρ h=>by
  rw[m8 (λk=>.int (g k+z*d k)) _ _ ρ (by simp;omega) (λk hk=>h k (by simpa using hk)),eM]
 rw[e]
 ·exists rp18
 ·intro k hk;have q:=kG (i:=z) (hd k hk);refine ⟨_,rfl,?_⟩;rw[t9 hk,t9 hk];exists q
theorem ka {n:Nat}{g d:Nat->Int}(h6:n<=6):P5 [tI (vF n g),tI (vF n d)]=.ok (tI (vF n λp=>max (g p) (d p))):=by
 have hzz:=L9 (tI (vF n g)) (tI (vF n d)) _ _ rfl rfl;rw[P8 (by rw[C5,C5]),C5]at hzz;exists rpB,cz,hzz;have e:∀N mg me ρ (h:∀k,k<n->∃ρ1,mg (.tup [.int ((vF n g).getD k 0),.int ((vF n d).getD k 0)]) (ρ++List.replicate (N-ρ.length) Sl.un)=some ρ1/\me ρ1=.ok (.int (max (g k) (d k)))),l6 N mg yes me ((List.range n).map λk=>W.tup [.int ((vF n g).getD k 0),.int ((vF n d).getD k 0)]) ρ=.ok (lI (vF n λp=>max (g p) (d p))):=λN mg me ρ h=>by
  rw[m8 (λk=>.int (max (g k) (d k))) _ _ ρ (by simp;omega) (λk hk=>h k (by simpa using hk)),eM]
 rw[e]
 ·exists rp18
 ·intro k hk;refine ⟨_,rfl,?_⟩;rw[t9 hk,t9 hk];exists rp18
def O0 (ms:List Mv):Prop:=∀m∈ms,∀p,-10000000000<=mvD m p/\mvD m p<=10000000000
theorem Z6 {ms:List Mv}(h:O0 ms) (p:Nat):∀r:List Nat,(∀k∈r,k<ms.length)->-((r.length:Int)*10000000000)<=dsp ms r p/\dsp ms r p<=(r.length:Int)*10000000000
 | [],_=>by show -(((0:Nat):Int)*_)<=0/\0<=((0:Nat):Int)*_;omega
 | k::r,hr=>by
  have hk:=hr k qB1;have h1:=h (mvN ms k) (by unfold mvN;rw[qA0,qA3 hk];exact qF0 _) p;have h2:=Z6 h p r λq hq=>hr q (qA7 _ hq);have e:dsp ms (k::r) p=mvD (mvN ms k) p+dsp ms r p:=rfl;rw[e,qC1];omega
theorem Am {b:List Int}{ms:List Mv}{r:List Nat}{t:Int}{w:Nat->Int}(h1:1<=b.length) (h6:b.length<=6) (hm:∀m∈ms,okN b.length m) (hs:O0 ms) (hr:∀k∈r,k<ms.length) (hl:r.length<=100):B4 [.tup [tI b,tM_ ms],lI (pz r),.int t,tI (vF b.length w)]=.ok (tI (vF b.length (ahW ms r t w))):=by
 have k1:=nu h1 h6 hm hr;have k2:=cZ h1 h6 hm hr;have hd:∀p,p<b.length->-18446744073709551616<dsp ms r p/\dsp ms r p<18446744073709551616:=λp _=>by
  have:=Z6 hs p r hr
  omega
 have k3:=Y3 (n:=b.length) (g:=hur ms r) (d:=dsp ms r) (z:=1-t) h6 hd;have k4:=ka (n:=b.length) (g:=hur ms r) (d:=λp=>hur ms r p+(1-t)*dsp ms r p) h6;have k5:=Y3 (n:=b.length) (g:=w) (d:=dsp ms r) (z:=-t) h6 hd;have k6:=ka (n:=b.length) (g:=λp=>max (hur ms r p) (hur ms r p+(1-t)*dsp ms r p)) (d:=λp=>w p+(-t)*dsp ms r p) h6;have e7:vF b.length (ahW ms r t w)=vF b.length λp=>max (max (hur ms r p) (hur ms r p+(1-t)*dsp ms r p)) (w p+(-t)*dsp ms r p):=rfl;rw[e7];generalize vF b.length (hur ms r)=g1 at *
 generalize vF b.length (dsp ms r)=g2 at *
 generalize (vF b.length λp=>hur ms r p+(1-t)*dsp ms r p)=g3 at *
 generalize (vF b.length λp=>max (hur ms r p) (hur ms r p+(1-t)*dsp ms r p))=g4 at *
 generalize (vF b.length λp=>w p+(-t)*dsp ms r p)=g5 at *
 generalize (vF b.length λp=>max (max (hur ms r p) (hur ms r p+(1-t)*dsp ms r p)) (w p+(-t)*dsp ms r p))=g6 at *
 generalize vF b.length w=g7 at *
 exists rpB,aA,k1,k2,k3,k4,k5,k6
def Z9 (x:Cap)(st:Nat->Int)(P:List Nat)(w:Nat->Int):Int:=L6 (0::P.map λp=>-(((x.getD p none).getD 0-w p)/st p))
theorem Ay (x:Cap) (st:Nat->Int) (P:List Nat) (w:Nat->Int):0<=Z9 x st P w:=by
 have:=gS (ns:=0::P.map λp=>-(((x.getD p none).getD 0-w p)/st p)) 0 (by simp)
 exact this
theorem Az {x:Cap}{st:Nat->Int}{P:List Nat}{w:Nat->Int}{p:Nat}{v:Int}(hp:p∈P) (hv:x.getD p none=some v) (hs:0<st p):w p<=v+Z9 x st P w*st p:=by
 have hm:-(((x.getD p none).getD 0-w p)/st p)∈0::P.map λp=>-(((x.getD p none).getD 0-w p)/st p):=qA7 _ (qB6.mpr ⟨p,hp,rfl⟩);obtain ⟨k,hk,ek⟩:=qE6.mp hm
 have:=gS (ns:=0::P.map λp=>-(((x.getD p none).getD 0-w p)/st p)) k hk
 rw[qA0,qA3 hk,ek]at this;rw[hv]at this;have this:-((v-w p)/st p)<=Z9 x st P w:=this;have h2:=Int.mul_le_mul_of_nonneg_right (show -(Z9 x st P w)<=(v-w p)/st p by omega) (show 0<=st p by omega);have h3:=Int.ediv_mul_le (v-w p) (show st p≠0 by omega);rw[Int.neg_mul]at h2;omega
theorem tP {n:Nat}{x:Cap}{st w:Nat->Int}{P:List Nat}(h6:n<=6) (hx:x.length=n) (hP:∀p∈P,p<n/\(∃v,x.getD p none=some v)/\0<st p/\st p<=1000000000000000000000) (hl:P.length<=6):R7 [tC x,tI (vF n st),tI (pz P),tI (vF n w)]=.ok (.int (Z9 x st P w)):=by
 have e:∀N mg me ρ (h:∀k∈P,∃ρ1,mg (.int (k:Nat)) (ρ++List.replicate (N-ρ.length) Sl.un)=some ρ1/\me ρ1=.ok (.int (-(((x.getD k none).getD 0-w k)/st k)))),l6 N mg yes me ((pz P).map W.int) ρ=.ok (lI (P.map λp=>-(((x.getD p none).getD 0-w p)/st p))):=λN mg me ρ h=>by
  rw[gA,m8 (λk=>.int (-(((x.getD k none).getD 0-w k)/st k))) (λk=>W.int (k:Nat)) _ ρ (by omega) h];exact congrArg (λl=>R.ok (W.lst l)) (by rw[qC7];rfl)
 have hc:hZ true (.lst [.int 0]) (lI (P.map λp=>-(((x.getD p none).getD 0-w p)/st p)))=.ok (lI (0::P.map λp=>-(((x.getD p none).getD 0-w p)/st p))):=by
  have:(W.lst [W.int 0])=.lst (([0]:List Int).map W.int):=rfl
  rw[this,ly (by simp;omega),<- qC6];rfl
 have hb:Z5 L6 [lI (0::P.map λp=>-(((x.getD p none).getD 0-w p)/st p))]=.ok (.int (Z9 x st P w)):=nC (by simp);obtain ⟨ls,hls⟩:∃ls,ls=lI (P.map λp=>-(((x.getD p none).getD 0-w p)/st p)):=⟨_,rfl⟩;obtain ⟨ls2,hls2⟩:∃ls,ls=lI (0::P.map λp=>-(((x.getD p none).getD 0-w p)/st p)):=⟨_,rfl⟩;rw[<- hls2]at hb hc;rw[<- hls]at e hc;exists rpB,dG;rw[e];rotate_left
 ·intro p hp;obtain ⟨h1,⟨v,hv⟩,h3,h4⟩:=hP p hp;have q1:=atO (cs:=x) (k:=p) (by omega);rw[hv]at q1;have q2:L2.atI ((vF n w).map W.int) (p:Int)=some (.int (w p)):=aK (by rw[qA8,qA8,qE1 h1];rfl);have q3:L2.atI ((vF n st).map W.int) (p:Int)=some (.int (st p)):=aK (by rw[qA8,qA8,qE1 h1];rfl);have q4:=zG (i:=v-w p) h3 h4;refine ⟨_,rfl,?_⟩;rw[hv];exists q1,q2,q3,q4;rfl
 exists hc,hb
theorem pH {es:List GEnt}(hp:E4 es){q:Nat}:∀n,n<=es.length->q∈i5 es n->∃R,i5 es n=((i5 es n).takeWhile λa=>decide (a≠q))++q::R/\q∉R:=by
 intro n
 induction n using Nat.strongRecOn with
 | _ n ih=>
  intro hn hq;by_cases e:q=n
  ·subst e;cases q with
   |zero=>exact ⟨[],by rw[C4];rfl,by simp⟩
   | succ i=>
    have he:es[i]?=some es[i]:=qA3 (by omega);have hpa:=hp i _ he;refine ⟨i5 es es[i].2.1,?_,λh=>?_⟩
    ·rw[k9 hp he,qL4,qA6 (by simp)];rfl
    ·have:=(D4 hp es[i].2.1 (by omega)).1 _ h
     omega
  ·cases n with
   |zero=>rw[C4]at hq;exact absurd (qD0.mp hq) e
   | succ i=>
    have he:es[i]?=some es[i]:=qA3 (by omega);have hpa:=hp i _ he;rw[k9 hp he]at hq ⊢;have hq:q∈i5 es es[i].2.1:=by
     rcases qB3.mp hq with q' |q'
     ·exact absurd q' e
     ·exact q'
    obtain ⟨R,h1,h2⟩:=ih es[i].2.1 (by omega) (by omega) hq;refine ⟨R,?_,h2⟩;rw[qL4,qA4 (by simpa using λh=>e h.symm),qK8,<- h1]
def aW (es:List GEnt)(n:Nat):List Nat:=(i5 es n).reverse
theorem ou {es:List GEnt}(hp:E4 es){q n:Nat}(hn:n<=es.length) (hq:q∈i5 es n):∃A,aW es n=A++q::G7 es q n/\q∉A:=by
 obtain ⟨R,h1,h2⟩:=pH hp n hn hq;refine ⟨R.reverse,?_,λh=>h2 (qK9.mp h)⟩;unfold aW G7
 conv=>lhs;rw[h1]
 rw[qL5,qG9,qI3];rfl
theorem Al {c:Cap}{es:List GEnt}{n:Nat}(hp:E4 es) (hl:es.length<=100) (hn:n<=es.length):oR [.lst (g8 c es),.int (n:Int)]=.ok (lI (pz (aW es n))):=by
 have k:=aM (c:=c) hp hl hn;have e:lI (pz (aW es n))=.lst (((i5 es n).map λ(k:Nat)=>(k:Int)).reverse.map W.int):=by unfold pz aW;rw[qG8]
 rw[e];exists rpB,wH,k
theorem DE (p:Int):∀qs:List Int,gX (.int p) (qs.map W.int)=qs.findIdx? λq=>decide (q=p)
 | []=>rfl
 | q::qs=>by
  have g:=DE p qs;have e:PyData.eqv (pd (.int q)) (pd (.int p))=decide (q=p):=by
   have:=eqI [q] [p]
   simpa [pds,PyData.eqvAll]using this
  unfold gX at g ⊢;rw[qC4,pds,List.findIdx?_cons,List.findIdx?_cons,g,e]
theorem vp {A B:List Nat}{q:Nat}(hq:q∉A) (hl:(A++q::B).length<=500):lm ((pz (A++q::B)).map W.int) (.int (q:Int))=.ok (.int (A.length:Int)):=by
 have e:(pz (A++q::B)).findIdx? (λx=>decide (x=(q:Int)))=some A.length:=by
  rw[List.findIdx?_eq_some_iff_getElem];refine ⟨by rw[W3,qC3,qC1];omega,?_,λj hj=>?_⟩
  ·unfold pz;simp
  ·unfold pz;have hjA:A[j]'hj≠q:=λh=>hq (h ▸ qF0 _);rw[List.getElem_map,List.getElem_append_left hj];simp only [decide_eq_true_eq];omega
 unfold lm;rw[ao,jI,qL0,qA4 rfl,DE,e];exact qA4 (by rw[qC3,qC1]at hl;omega)
theorem vP (l:List Nat) (j:Nat):cR (pz l) (some ((j:Int)+1)) none=pz (l.drop (j+1)):=by
 unfold cR;rw[show ((j:Int)+1)=((j+1:Nat):Int) by omega,HT.sIx_nat,HT.sIx_none];have e:pz (l.drop (j+1))=(pz l).drop (j+1):=by unfold pz;rw[List.map_drop]
 rw[e];by_cases h:j+1<=(pz l).length
 ·rw [Nat.min_eq_left h]
  exact List.take_of_length_le (by rw[qM4];omega)
 ·rw[Nat.min_eq_right (by omega),Nat.sub_self,List.take_zero,List.drop_eq_nil_of_le (by omega)]
theorem mH {c:Cap}{es:List GEnt}{q:Nat}(h0:0<q) (h:q<=es.length):∃x y:W,L2.atI (g8 c es) (q:Int)=some (.tup [x,y,.int (ad es q:Int)]):=by
 obtain ⟨i,rfl⟩:∃i,q=i+1:=⟨q-1,by omega⟩;have he:es[i]?=some es[i]:=qA3 (by omega);refine ⟨tC es[i].1,.int (es[i].2.1:Int),(db he).trans ?_⟩;rw[gF he]
theorem uQ {es:List GEnt}(hp:E4 es){q:Nat}:∀n,n<=es.length->q∈i5 es n->∀a∈G7 es q n,0<a/\a<=es.length:=by
 intro n
 induction n using Nat.strongRecOn with
 | _ n ih=>
  intro hn hq a ha;by_cases e:q=n
  ·subst e;rw[cu hp hn]at ha;cases ha
  ·cases n with
   |zero=>rw[C4]at hq;exact absurd (qD0.mp hq) e
   | succ i=>
    have he:es[i]?=some es[i]:=qA3 (by omega);have hpa:=hp i _ he;rw[k9 hp he]at hq;have hq:q∈i5 es es[i].2.1:=by
     rcases qB3.mp hq with q' |q'
     ·exact absurd q' e
     ·exact q'
    rw[iF hp he e]at ha;rcases qE4.mp ha with k' |k'
    ·exact ih es[i].2.1 (by omega) (by omega) hq a k'
    ·rw[qD0.mp k'];omega
theorem xz {c:Cap}{es:List GEnt}{n q:Nat}(hp:E4 es) (hl:es.length<=90) (hn:n<=es.length) (hq:q∈i5 es n):M3 [.lst (g8 c es),.int (q:Int),.int (n:Int)]=.ok (lI (pz (u7 es q n))):=by
 have kw:=Al (c:=c) hp (by omega) hn;obtain ⟨A,hA,hqA⟩:=ou hp hn hq;have hwl:=(D4 hp n hn).2;have hpl:(aW es n).length<=n+1:=by unfold aW;rw[qB2];exact hwl
 rw[hA]at kw hpl;have hj:=vp (B:=G7 es q n) hqA (by omega);have hcut:=vP (A++q::G7 es q n) A.length;have hdr:(A++q::G7 es q n).drop (A.length+1)=G7 es q n:=by
  rw[List.drop_append,List.drop_eq_nil_of_le (by omega)];simp
 rw[hdr]at hcut;rw[qC3,qC1]at hpl;have e:∀N mg me ρ (h:∀a∈G7 es q n,∃ρ1,mg (.int (a:Nat)) (ρ++List.replicate (N-ρ.length) Sl.un)=some ρ1/\me ρ1=.ok (.int (ad es a:Int))),l6 N mg yes me ((pz (G7 es q n)).map W.int) ρ=.ok (lI (pz (u7 es q n))):=λN mg me ρ h=>by
  rw[gA,m8 (λa=>.int (ad es a:Int)) (λ(a:Nat)=>W.int (a:Int)) _ ρ (by omega) h];refine congrArg (λl=>R.ok (W.lst l)) ?_;unfold u7;rw[gA,qC7];rfl
 have hnp:=uQ hp n hn hq;have hsel:∀a,0<a->a<=es.length->∃x y:W,L2.atI (g8 c es) (a:Int)=some (.tup [x,y,.int (ad es a:Int)]):=λa h0 h=>mH h0 h;generalize pz (u7 es q n)=g1 at *
 generalize hg2:pz (G7 es q n)=g2 at *
 generalize pz (A++q::G7 es q n)=g3 at *
 obtain ⟨rw_,hrw⟩:∃rw_,rw_=g8 c es:=⟨_,rfl⟩;rw[<- hrw]at kw hsel;rw[<- hrw];exists rpB,bG,kw,hj,hcut;rw[e]
 ·exists rp18
 ·intro a ha;obtain ⟨h0,h1⟩:=hnp a ha;obtain ⟨x,y,er⟩:=hsel a h0 h1;have b2:L2.atI [x,y,.int (ad es a:Int)] 2=some (.int (ad es a:Int)):=rfl;refine ⟨_,rfl,?_⟩;exists er,b2
def chn (c:Cap) (es:List GEnt):Cap->List (Nat×List Nat)->Cap->Prop
 |x,[],y=>x=y
 |x,f::L,y=>(f.2=plc x (i0 x (sC c es f.1))/\f.2 ≠ [])/\chn c es (i0 x (sC c es f.1)) L y
theorem xZ {x h:Cap}(hl:h.length=x.length) (hp:plc x h = []):h=x:=by
 refine qI5 λk=>?_;by_cases hk:k<x.length
 ·have:¬ (h.getD k none≠x.getD k none):=λq=>by
   have:k∈plc x h:=qH2.mpr ⟨qE7.mpr hk,decide_eq_true q⟩
   rw[hp]at this;cases this
  have this:h.getD k none=x.getD k none:=by
   by_cases q:h.getD k none=x.getD k none
   ·exact q
   ·exact absurd q this
  rw[qA0,qA0,qA3 hk,qA3 (by omega)]at this;rw[qA3 hk,qA3 (by omega)];exact congrArg some this
 ·rw[qE9 (by omega),qE9 (by omega)]
theorem gO {c:Cap}{es:List GEnt}:∀(l:List Nat) (x:Cap),chn c es x (lfs c es l x) (upC c es l x)
 | [],_=>rfl
 | q::l,x=>by
  show chn c es x ((if plc x (i0 x (sC c es q)) = [] then [] else [(q,plc x (i0 x (sC c es q)))])++lfs c es l (i0 x (sC c es q))) (upC c es l (i0 x (sC c es q)));by_cases h:plc x (i0 x (sC c es q)) = []
  ·rw [qA4 h,xZ (K0 _ _) h]
   exact gO l x
  ·rw [qA6 h]
   exact ⟨⟨rfl,h⟩,gO l _⟩
theorem nj {c:Cap}{es:List GEnt}:∀(l:List Nat) (x:Cap),∀f∈lfs c es l x,f.1∈l
 | [],_,f,hf=>by cases hf
 | q::l,x,f,hf=>by
  rcases qE4.mp hf with h|h
  ·by_cases e:plc x (i0 x (sC c es q)) = []
   ·rw[qA4 e]at h;cases h
   ·rw [qA6 e]at h
    rw[qD0.mp h];exact qB1
  ·exact qA7 _ (nj l _ f h)
theorem lF {c:Cap}{es:List GEnt}{f:Nat×List Nat}{y:Cap}:∀{L:List (Nat×List Nat)}{x:Cap},chn c es x (L ++ [f]) y->∃z,chn c es x L z/\f.2=plc z y/\f.2 ≠ []/\y=i0 z (sC c es f.1)
 | [],x,⟨⟨h1,h2⟩,h3⟩=>⟨x,rfl,by have h3:i0 x (sC c es f.1)=y:=h3;rw[<- h3];exact h1,h2,h3.symm⟩
 | g::L,x,⟨h1,h2⟩=>by
  obtain ⟨z,hz,r⟩:=lF (L:=L) h2;exact ⟨z,⟨h1,hz⟩,r⟩
theorem lE {c:Cap}{es:List GEnt}{y:Cap}:∀{L:List (Nat×List Nat)}{x:Cap},chn c es x L y->y.length=x.length/\∀p v,y.getD p none=some v->x.getD p none=some v
 | [],x,h=>by have h:x=y:=h;subst h;exact ⟨rfl,λ_ _ h=>h⟩
 | g::L,x,⟨_,h2⟩=>by
  obtain ⟨h3,h4⟩:=lE (L:=L) h2;exact ⟨by rw[h3,K0],λp v hv=>J9 (h4 p v hv)⟩
def M9 (x:Cap):Nat:=(List.range x.length).countP λk=>(x.getD k none).isSome
theorem hJ (x:Cap):M9 x<=x.length:=by
 unfold M9
 have:=List.countP_le_length (p:=λk=>(x.getD k none).isSome) (l:=List.range x.length)
 rwa [qE8]at this
theorem iU {α:Type}{p q:α->Bool}:∀{l:List α},(∀a∈l,p a=true->q a=true)->(∃a∈l,p a=false/\q a=true)->l.countP p<l.countP q
 | [],_,⟨a,ha,_⟩=>by cases ha
 | b::l,h,⟨a,ha,h1,h2⟩=>by
  rw[qM8,qM8];rcases qB3.mp ha with rfl|ha
  ·have:=qK4 (l:=l) (p:=p) (q:=q) λx hx=>h x (qA7 _ hx)
   rw[h1,h2];simp;omega
  ·have:=iU (l:=l) (p:=p) (q:=q) (λx hx=>h x (qA7 _ hx)) ⟨a,ha,h1,h2⟩
   have hb:=h b qB1;cases hp:p b
   ·simp;split <;> omega
   ·rw[hb hp];simp;omega
theorem zj {z y:Cap}{p:Nat}{v:Int}(hl:y.length=z.length) (hs:∀p v,y.getD p none=some v->z.getD p none=some v) (hp:p<z.length) (h1:z.getD p none=some v) (h2:y.getD p none=none):M9 y<M9 z:=by
 unfold M9;rw[hl];refine iU (λk _ hk=>?_) ⟨p,qE7.mpr hp,by rw[h2];rfl,by rw[h1];rfl⟩;cases q:y.getD k none with
 |none=>rw[q]at hk;cases hk
 |some u=>rw[hs k u q];rfl
theorem vJ {c:Cap}{m:Mv}:M9 (o6 c m)=M9 c:=by
 unfold M9;rw[F4];refine List.countP_congr λk hk=>?_;rw[fV (qE7.mp hk)];cases c.getD k none <;> simp
theorem jw {es:List GEnt}(hp:E4 es):∀n,n<=es.length->∀j a,(i5 es n)[j]?=some a->(i5 es n).drop j=i5 es a:=by
 intro n
 induction n using Nat.strongRecOn with
 | _ n ih=>
  intro hn j a ha;cases n with
  | zero=>
   rw[C4]at ha ⊢;cases j with
   |zero=>cases ha;exact (C4 es).symm
   |succ j=>cases ha
  | succ i=>
   have he:es[i]?=some es[i]:=qA3 (by omega);have hpa:=hp i _ he;cases j with
   | zero=>
    rw[k9 hp he]at ha;cases ha;rfl
   | succ j=>
    rw[k9 hp he]at ha ⊢;exact ih es[i].2.1 (by omega) (by omega) j a ha
theorem vO (l:List Nat):cR (pz l) none (some (-1))=pz l.dropLast:=by
 have e:pz l.dropLast=(pz l).dropLast:=by unfold pz;rw[List.map_dropLast]
 rw[e];unfold cR;rw[HT.sIx_none,List.drop_zero,List.dropLast_eq_take];congr 1;unfold HT.sIx;simp;omega
abbrev blW (b:Blk):W:=.tup [lI (pz b.1),.int b.2]
theorem mN {x e:Cap}{p:Nat}(h:p∈plc x (i0 x e)):p<x.length/\(∃v,x.getD p none=some v)/\(i0 x e).getD p none=none:=by
 unfold plc at h;obtain ⟨h1,h2⟩:=qH2.mp h;have h1:=qE7.mp h1;have h2:(i0 x e).getD p none≠x.getD p none:=of_decide_eq_true h2;refine ⟨h1,?_,?_⟩
 ·cases q:x.getD p none with
  |some v=>exact ⟨v,rfl⟩
  | none=>
   exfalso;refine h2 ?_;rw[q];cases q2:(i0 x e).getD p none with
   |none=>rfl
   |some v=>rw[J9 q2]at q;cases q
 ·cases q2:(i0 x e).getD p none with
  |none=>rfl
  |some v=>exact absurd (by rw[q2,J9 q2]) h2
theorem ux {x e:Cap}{p:Nat}(h:x.getD p none=none):(i0 x e).getD p none=none:=by
 cases q:(i0 x e).getD p none with
 |none=>rfl
 |some v=>rw[J9 q]at h;cases h
theorem xY {x e:Cap}(h:plc x (i0 x e) ≠ []):g9 e x=true:=by
 cases q:g9 e x with
 |true=>rfl
 | false=>
  exfalso;refine h ?_
  have:i0 x e=x:=by unfold i0;rw[qA6 (by rw[q];simp)]
  rw[this];unfold plc;rw[List.filter_eq_nil_iff];intro a _;simp
theorem ldB.weak {n:Nat}{ms:List Mv}{x y:Cap}{w w' u u':Nat->Int}{bs:List Blk}(h:ldB n ms x w bs y u) (hw:∀p,p<n->x.getD p none=none->w p<=w' p) (hu:∀p,p<n->y.getD p none=none->u' p<=u p):ldB n ms x w' bs y u':=λs hs=>by
 obtain ⟨h1,h2⟩:=h s λp hp=>⟨(hs p hp).1,λq=>qJ5 (hw p hp q) ((hs p hp).2 q)⟩;exact ⟨h1,λp hp=>⟨(h2 p hp).1,λq=>qJ5 (hu p hp q) ((h2 p hp).2 q)⟩⟩
theorem vW {b:List Int}{ms:List Mv}{es:List GEnt}{A kk n:Nat}{hh:Int}(hK:GK (b.map some) ms es A kk) (h1:1<=b.length) (h6:b.length<=6) (hbn:nn b) (hm:∀m∈ms,okN b.length m) (hs:O0 ms) (h29:es.length<=29) (hn:n<=es.length) :
  Ok (dl [.tup [tI b,tM_ ms],.lst (g8 (b.map some) es),.int (n:Int),.int hh]) λw=>∃bs:List Blk,w=.lst (bs.map blW)/\bs.length<=40/\ldB b.length ms (b.map some) (λ_=>0) bs (sC (b.map some) es n) (λ_=>hh):=by
 have hcl:(b.map some).length=b.length:=qA1 ..;have hcn:nnC (b.map some):=uS hbn;obtain ⟨c,hc⟩:∃c:Cap,c=b.map some:=⟨_,rfl⟩;rw[<- hc]at hK hcl hcn ⊢;rw[<- hcl]at h1 h6 hm;have hlen:∀a,a<=es.length->(sC c es a).length=c.length:=λa ha=>C7 hK.len ha;have kw:=aM (c:=c) (n:=n) hK.par (by omega) hn;have kw:A6 [.lst (g8 c es),.int (n:Int)]=.ok (lI (pz (i5 es n))):=kw;have hwl:=D4 hK.par n hn;have hcut:=vO (i5 es n);have hwy30:(i5 es n).length<=30:=qB8 hwl.2 (qH5 (qB8 hn h29));obtain ⟨x0,y0,er⟩:=Q0 (c:=c) (es:=es) hn;have a0:L2.atI [tC (sC c es n),x0,y0] 0=some (tC (sC c es n)):=rfl;obtain ⟨w0,hw0⟩:∃w0:Nat->Int,w0=λp=>((sC c es n).getD p none).getD hh:=⟨_,rfl⟩;have ew:∀N mg me ρ (h:∀o∈sC c es n,∃ρ1,mg (oW o) (ρ++List.replicate (N-ρ.length) Sl.un)=some ρ1/\me ρ1=.ok (.int (o.getD hh))),l6 N mg yes me ((sC c es n).map oW) ρ=.ok (lI (vF c.length w0)):=λN mg me ρ h=>by
  have hl:=hlen n hn;rw[m8 (λo=>.int (o.getD hh)) _ _ ρ (by omega) h];refine congrArg (λl=>R.ok (W.lst l)) ?_;rw[qC7];apply qI5;intro k;rw[qA8,qA8];by_cases hk:k<c.length
  ·rw [qE1 hk,qA3 (by omega)]
   show some (W.int _)=some (W.int (w0 k));rw[hw0]
   show _=some (W.int (((sC c es n).getD k none).getD hh));rw[qA0,qA3 (by omega)];rfl
  ·rw[qE9 (by omega),qE9 (by simp;omega)];rfl
 have hu:∀i e,es[i]?=some e->P2 [.tup [tI b,tM_ ms],.lst (g8 c es),.int ((i+1:Nat):Int)]=.ok (tC (o6 (sC c es e.2.1) (mvN ms e.2.2))):=λi e he=>pQ hK h6 hm he;have hli:∀i e,es[i]?=some e->P4 [.tup [tI b,tM_ ms],.lst (g8 c es),.int ((i+1:Nat):Int)]=.ok (.lst ((lfs c es (i5 es e.2.1) (o6 (sC c es e.2.1) (mvN ms e.2.2))).map lfT)):=λi e he=>oM hK h6 hm (by omega) he;have hrb:∀a q,a<=es.length->q∈i5 es a->M3 [.lst (g8 c es),.int (q:Int),.int (a:Int)]=.ok (lI (pz (u7 es q a))):=λa q ha hq=>xz hK.par (by omega) ha hq;have hr2:∀a,0<a->a<=es.length->∃x y:W,L2.atI (g8 c es) (a:Int)=some (.tup [x,y,.int (ad es a:Int)]):=λa h0 h=>mH h0 h;have hsu:∀r:List Nat,(∀k∈r,k<ms.length)->D3 [.tup [tI b,tM_ ms],lI (pz r)]=.ok (tI (vF c.length (dsp ms r))):=λr hr=>by rw[hcl];exact cZ (by omega) (by omega) (by rw[<- hcl];exact hm) hr
 have hwa:∀(r:List Nat) (t:Int) (w:Nat->Int),(∀k∈r,k<ms.length)->r.length<=100->B4 [.tup [tI b,tM_ ms],lI (pz r),.int t,tI (vF c.length w)]=.ok (tI (vF c.length (ahW ms r t w))):=λr t w hr hl=>by rw[hcl];exact Am (by omega) (by omega) (by rw[<- hcl];exact hm) hs hr hl
 have hti:∀(x:Cap) (st w:Nat->Int) (P:List Nat),x.length=c.length->(∀p∈P,p<c.length/\(∃v,x.getD p none=some v)/\0<st p/\st p<=1000000000000000000000)->P.length<=6->R7 [tC x,tI (vF c.length st),tI (pz P),tI (vF c.length w)]=.ok (.int (Z9 x st P w)):=λx st w P hx hP hl=>tP h6 hx hP hl;rw[<- hcl];obtain ⟨mo,hmo⟩:∃mo,mo=W.tup [tI b,tM_ ms]:=⟨_,rfl⟩;rw[<- hmo]at hu hli hsu hwa ⊢;obtain ⟨rw_,hrw⟩:∃rw_,rw_=g8 c es:=⟨_,rfl⟩;rw[<- hrw]at kw er hu hli hrb hr2 ⊢;obtain ⟨wy,hwy⟩:∃wy,wy=i5 es n:=⟨_,rfl⟩;rw[<- hwy]at kw hwl hcut hwy30;obtain ⟨vv,hvv⟩:∃vv:(Nat->Int)->List Int,vv=vF c.length:=⟨_,rfl⟩;rw[<- hvv]at ew hwa hsu hti;exists rpB,nc,er,a0;rw[ew];rotate_left
 ·intro o ho;refine ⟨_,rfl,?_⟩;cases o with
  | none=>
   exists rp18;rfl
  | some v=>
   exists rp18;rfl
 exists kw,hcut;refine n9 (W6 (λρ=>∃(bs:List Blk) (w:Nat->Int) (a6 a7 a8 a9 a10 a11:Sl),ρ = [.par mo,.par (.lst rw_),.par (.int (n:Int)),.par (.int hh),.val (tI (vv w)),.own (bs.map blW),a6,a7,a8,a9,a10,a11]/\bs.length<=36/\ldB c.length ms c w bs.reverse (sC c es n) w0) ?_ ?_)
 ·refine W5 (λj ρ=>∃(bs:List Blk) (w:Nat->Int) (a6 a7 a8 a9 a10 a11:Sl) (a:Nat),ρ = [.par mo,.par (.lst rw_),.par (.int (n:Int)),.par (.int hh),.val (tI (vv w)),.own (bs.map blW),a6,a7,a8,a9,a10,a11]/\wy[j]?=some a/\bs.length<=j+M9 (sC c es a)/\ldB c.length ms (sC c es a) w bs.reverse (sC c es n) w0) ?_ ?_ ?_
  ·have:wy[0]?=some n:=by
    rw[hwy];cases n with
    |zero=>rw[C4];rfl
    |succ i=>rw[k9 hK.par (qA3 (show i<es.length by omega))];rfl
   exact ⟨[],w0,_,_,_,_,_,_,n,rfl,this,by simp,.refl _ _⟩
  ·rintro j u ρ hj ⟨bs,w,a6,a7,a8,a9,a10,a11,a,rfl,haj,hbl,hld⟩;rw[gA,qA8]at hj;obtain ⟨a',ha',rfl⟩:=qE3.mp hj;have hjl:j<wy.dropLast.length:=(qB0.mp ha').1;have hjl2:j+1<wy.length:=by rw[List.length_dropLast]at hjl;omega
   have haa:a'=a:=by
    rw[List.getElem?_dropLast,qA4 (by omega),haj]at ha';exact (Option.some.inj ha').symm
   subst haa;have hdr:=jw hK.par n hn j a' (by rw[<- hwy];exact haj);rw[<- hwy]at hdr;have han:a'<=n:=hwl.1 a' (qC8 haj);cases a' with
   | zero=>
    exfalso
    have:=congrArg List.length hdr
    rw[qM4,C4]at this;simp at this;omega
   | succ i=>
    have he:es[i]?=some es[i]:=qA3 (by omega);obtain ⟨e,hee⟩:∃e,e=es[i]:=⟨_,rfl⟩;rw[<- hee]at he;have hpa:=hK.par i e he;have hk8:=hK.k8 e (qC8 he);have hi1:i+1<=es.length:=qB8 han hn;have he1:e.2.1<=es.length:=qB8 hpa (qH0 hi1);have ile:i<es.length:=hi1;obtain ⟨hab,hbe,_⟩:=hK.beh i e he;have ku:=hu i e he;have kl:=hli i e he;have hnx:wy[j+1]?=some e.2.1:=by
     rw[k9 hK.par he]at hdr
     have:(wy.drop j)[1]?=(i5 es e.2.1)[0]?:=by rw[hdr];rfl
     rw[List.getElem?_drop]at this;rw[this];cases q:e.2.1 with
     |zero=>rw[C4];rfl
     |succ i'=>rw[k9 hK.par (qA3 (show i'<es.length by omega))];rfl
    have hsp:=hlen e.2.1 he1;have hx0l:(o6 (sC c es e.2.1) (mvN ms e.2.2)).length=c.length:=by rw[F4];exact hsp
    rw[fc he,hbe]at hbl hld;obtain ⟨z1,z2,er2⟩:=hr2 (i+1) (Nat.succ_pos i) hi1;rw[gF he]at er2;have b2:L2.atI [z1,z2,W.int (e.2.2:Int)] 2=some (.int (e.2.2:Int)):=rfl;have hpath:∀q∈i5 es e.2.1,∀p,p<c.length->∀v,(o6 (sC c es e.2.1) (mvN ms e.2.2)).getD p none=some v->∃u,(sC c es q).getD p none=some u/\u+dsp ms (u7 es q (i+1)) p=v/\hur ms (u7 es q (i+1)) p<=u:=λq hq p hp v hv=>by
     have hqi:q≠i+1:=by
      have:=(D4 hK.par e.2.1 he1).1 q hq
      omega
     rw[fV (hsp.symm ▸ hp)]at hv;cases hu':(sC c es e.2.1).getD p none with
     |none=>rw[hu']at hv;cases hv
     | some u'=>
      rw[hu']at hv;have hv:u'+mvD (mvN ms e.2.2) p=v:=Option.some.inj hv;obtain ⟨u,eu,ed,eh⟩:=yf hK hm hcn hp e.2.1 he1 hq u' hu';have hok:okN (sC c es e.2.1).length (mvN ms e.2.2):=by rw[hsp];exact getM hm hk8
      have h3:=lP hok hab (hsp.symm ▸ hp) hu';have h4:=df hok.2.2.2 p;have ed1:mvD (mvN ms e.2.2) p=(mvN ms e.2.2).2.getD p 0-(mvN ms e.2.2).1.getD p 0:=rfl;have hh:hur ms [e.2.2] p=max ((mvN ms e.2.2).1.getD p 0) (0-mvD (mvN ms e.2.2) p):=rfl;have hd:dsp ms [e.2.2] p=mvD (mvN ms e.2.2) p+0:=rfl;rw[bY hK.par he hqi];exact ⟨u,eu,by rw[V4,hd,qK6,<- Int.add_assoc,ed];exact hv,nt eh (by rw[hh,ed];exact Int.max_le.mpr ⟨h3,by rw[ed1];exact pq h3 h4⟩)⟩
    unfold p9 at hbl hld;have hch:=gO (c:=c) (es:=es) (i5 es e.2.1) (o6 (sC c es e.2.1) (mvN ms e.2.2));have hlm:=nj (c:=c) (es:=es) (i5 es e.2.1) (o6 (sC c es e.2.1) (mvN ms e.2.2));have hmv:=λw=>yz (n:=c.length) (w:=w) hsp hk8 (getM hm hk8) hab;have hfa:M9 (o6 (sC c es e.2.1) (mvN ms e.2.2))=M9 (sC c es e.2.1):=vJ;have hwm:∀w,B4 [mo,.lst [.int (e.2.2:Int)],.int 1,tI (vv w)]=.ok (tI (vv (ahW ms [e.2.2] 1 w))):=λw=>hwa [e.2.2] 1 w (by simpa using hk8) (by simp);generalize hX0:o6 (sC c es e.2.1) (mvN ms e.2.2)=X0 at *
    obtain ⟨Lf,hLf⟩:∃Lf,Lf=lfs c es (i5 es e.2.1) X0:=⟨_,rfl⟩;rw[<- hLf]at kl hch hlm;refine ⟨_,rfl,?_⟩;exists ku,kl;refine W6 (λρ=>∃(bs:List Blk) (w:Nat->Int) (a8 a9 a10 a11:Sl),ρ = [.par mo,.par (.lst rw_),.par (.int (n:Int)),.par (.int hh),.val (tI (vv w)),.own (bs.map blW),.par (.int ((i+1:Nat):Int)),.val (tC X0),a8,a9,a10,a11]/\bs.length<=j+M9 X0/\ldB c.length ms X0 w bs.reverse (sC c es n) w0) ?_ ?_
    ·rw [<- qG8]
     refine W5 (λm ρ=>∃(bs:List Blk) (w:Nat->Int) (a8 a9 a10 a11:Sl) (X:Cap),ρ = [.par mo,.par (.lst rw_),.par (.int (n:Int)),.par (.int hh),.val (tI (vv w)),.own (bs.map blW),.par (.int ((i+1:Nat):Int)),.val (tC X0),a8,a9,a10,a11]/\bs.length<=j+M9 X/\ldB c.length ms X w bs.reverse (sC c es n) w0/\chn c es X0 (Lf.take (Lf.length-m)) X) ⟨bs,w,_,_,_,_,_,rfl,hbl,hld,by rw[Nat.sub_zero,qG2];exact hch⟩ ?_ ?_
     ·rintro m u ρ hmu ⟨bs,w,a8,a9,a10,a11,X,rfl,hbl,hld,hchm⟩;rw[qA8]at hmu;obtain ⟨f,hf,rfl⟩:=qE3.mp hmu;have hmL:m<Lf.length:=by
       have:=(qB0.mp hf).1
       rwa [qB2]at this
      have hfm:f∈Lf:=qK9.mp (qC8 hf);rw[List.getElem?_reverse hmL]at hf;have htk:Lf.take (Lf.length-m)=Lf.take (Lf.length-(m+1)) ++ [f]:=by
       rw[show Lf.length-m=(Lf.length-(m+1))+1 from (Nat.succ_pred_eq_of_pos (Nat.sub_pos_of_lt hmL)).symm,qM2,show Lf.length-(m+1)=Lf.length-1-m by rw[Nat.sub_sub,Nat.add_comm 1 m],hf];rfl
      rw[htk]at hchm;obtain ⟨z,hz,hP,hP0,hX⟩:=lF hchm;obtain ⟨hzl,hzs⟩:=lE hz;have hq:=hlm f hfm;have hql:=(D4 hK.par e.2.1 he1).1 _ hq;have hqw:f.1∈i5 es (i+1):=by rw[k9 hK.par he];exact qA7 _ hq
      have krb:=hrb (i+1) f.1 hi1 hqw;have hrl:=xA hK (i+1) hi1 hqw;have hrn:(u7 es f.1 (i+1)).length<=30:=qB8 (uj (q:=f.1) hK.par hi1) (qH5 (qB8 hi1 h29));have hzc:z.length=c.length:=hzl.trans hx0l;have ksu:=hsu _ hrl;have hund:g9 (sC c es f.1) z=true:=xY (by rw[<- hX,<- hP];exact hP0);have hqlen:=hlen f.1 (qB8 hql he1);have hrow:∀p,p<c.length->∀v,z.getD p none=some v->∃u,(sC c es f.1).getD p none=some u/\u+dsp ms (u7 es f.1 (i+1)) p=v/\hur ms (u7 es f.1 (i+1)) p<=u:=λp hp v hv=>hpath f.1 hq p hp v (hzs p v hv);have hpl:∀p∈f.2,p<c.length/\(∃v,X0.getD p none=some v)/\0<dsp ms (u7 es f.1 (i+1)) p/\dsp ms (u7 es f.1 (i+1)) p<=1000000000000000000000:=λp hp=>by
       rw[hP,hX]at hp;obtain ⟨p1,⟨v,p2⟩,p3⟩:=mN hp;have hpc:p<c.length:=hzc ▸ p1;obtain ⟨u,eu,ed,_⟩:=hrow p hpc v p2;have hle:u<=v:=by
        have:=bO hund (p:=p) (hqlen.symm ▸ hpc)
        rw[eu,p2]at this;exact of_decide_eq_true this
       have hne:v≠u:=λq=>by
        rw[jV hund p1,p2,eu,q]at p3;unfold O4 at p3;rw[qA4 rfl]at p3;cases p3
       have:=Z6 hs p _ hrl
       exact ⟨hpc,⟨v,hzs p v p2⟩,by omega,by omega⟩
      have hpl6:f.2.length<=6:=by
       rw[hP];exact qB8 (mO z X) (hzc.symm ▸ h6)
      have kti:=hti X0 (dsp ms (u7 es f.1 (i+1))) w f.2 hx0l hpl hpl6;have htn:=Ay X0 (dsp ms (u7 es f.1 (i+1))) f.2 w;have hge:∀p,p<c.length->∀v,z.getD p none=some v->X.getD p none=none->w p<=v+Z9 X0 (dsp ms (u7 es f.1 (i+1))) f.2 w*dsp ms (u7 es f.1 (i+1)) p:=λp hp v hv hn'=>by
       have hpm:p∈f.2:=by
        rw[hP];unfold plc;exact qH2.mpr ⟨qE7.mpr (hzc.symm ▸ hp),decide_eq_true (by rw[hn',hv];simp)⟩
       exact Az hpm (hzs p v hv) (hpl p hpm).2.2.1
      have gY:M9 X<M9 z:=by
       obtain ⟨p,hp⟩:=List.exists_mem_of_ne_nil _ hP0;rw[hP,hX]at hp;obtain ⟨p1,⟨v,p2⟩,p3⟩:=mN hp;rw[hX];exact zj (K0 _ _) (λp v h=>J9 h) p1 p2 p3
      have kwa:=hwa (u7 es f.1 (i+1)) (Z9 X0 (dsp ms (u7 es f.1 (i+1))) f.2 w) w hrl (qB8 hrn (by decide));have hfz:=hJ z;have hjn:j<=30:=qB8 (qH9 (qK1 hjl2)) hwy30;have hb1000:bs.length<1000:=qG0 hbl (qG0 (Nat.add_le_add hjn (qB8 (qH9 gY) (qB8 hfz (hzc.symm ▸ h6)))) (by decide));generalize Z9 X0 (dsp ms (u7 es f.1 (i+1))) f.2 w=t at *
      obtain ⟨r,hr⟩:∃r,r=u7 es f.1 (i+1):=⟨_,rfl⟩;rw[<- hr]at krb hrl hrn ksu hrow hge kwa kti;obtain ⟨rz,hrz⟩:∃rz,rz=pz r:=⟨_,rfl⟩;rw[<- hrz]at krb ksu kwa;refine ⟨_,rfl,?_⟩;exists krb,ksu,kti;refine R4 (λht=>?_) (λht=>?_)
      ·have ht:0<t:=by simpa using ht
       have hL:=yT (ms:=ms) (t:=t) (w:=w) hzc hqlen hund hrl hrn hrow ht (by rw[<- hX];exact hge);rw[<- hX]at hL;exists kwa;refine ⟨bs ++ [(r,t)],_,_,_,_,_,z,by rw[qC6,hrz];rfl,by rw[qC3,qD9];exact Nat.succ_le_of_lt (qG0 hbl (Nat.add_lt_add_left gY j)),by rw[qL5];exact hL.cons hld,hz⟩
      ·have ht:t=0:=by
        have:¬ 0<t:=by simpa using ht
        omega
       rw[ht]at hge;have hL:=uZ (ms:=ms) (n:=c.length) (x:=z) (e:=sC c es f.1) (w:=w) (by rw[<- hX];intro p hp v hv hn';have:=hge p hp v hv hn';omega) (λp _ h=>ux h);rw[<- hX]at hL;exists rp18;exact ⟨bs,w,_,_,_,_,z,rfl,qB8 hbl (Nat.add_le_add_left (qH9 gY) j),hL.skip hld,hz⟩
     ·rintro ρ ⟨bs,w,a8,a9,a10,a11,X,rfl,hbl,hld,hchm⟩;rw[qA1,qB2,Nat.sub_self,List.take_zero]at hchm;have hchm:X0=X:=hchm;subst hchm;exact ⟨bs,w,_,_,_,_,rfl,hbl,hld⟩
    ·rintro ρ ⟨bs,w,a8,a9,a10,a11,rfl,hbl,hld⟩;have hfl:=hJ X0;have hwm:=hwm w;have hb1000:bs.length<1000:=qG0 hbl (qG0 (Nat.add_le_add (qB8 (qH9 (qK1 hjl2)) hwy30) (qB8 hfl (hx0l.symm ▸ h6))) (by decide));exists er2,b2,hwm;exact ⟨bs ++ [([e.2.2],1)],_,_,_,_,_,_,_,e.2.1,by rw[qC6];rfl,hnx,by rw[qC3,qD9,<- hfa,Nat.add_right_comm];exact qH5 hbl,by rw[qL5];exact (hmv w).cons hld⟩
  ·rintro ρ ⟨bs,w,a6,a7,a8,a9,a10,a11,a,rfl,haj,hbl,hld⟩;rw[qA1,W3]at haj hbl;have hdr:=jw hK.par n hn _ a (by rw[<- hwy];exact haj);rw[<- hwy]at hdr;have han:a<=n:=hwl.1 a (qC8 haj);have ha0:a=0:=by
    cases a with
    |zero=>rfl
    | succ i=>
     exfalso;have he:es[i]?=some es[i]:=qA3 (by omega);have hpa:=hK.par i _ he;have hr:=jv hK.par es[i].2.1 (by omega)
     have:=congrArg List.length hdr
     rw[k9 hK.par he,qM4,qC1,List.length_dropLast]at this;have h1:wy.length-(wy.length-1)<=1:=Nat.sub_le_of_le_add (by rw[Nat.add_comm];exact Nat.le_add_of_sub_le (qB9 _));rw[this]at h1;exact absurd (List.length_pos_of_mem hr) (qM7 (qG4 h1))
   subst ha0;have h0:sC c es 0=c:=rfl;rw[h0]at hbl hld
   have:=hJ c
   rw[List.length_dropLast]at hbl;exact ⟨bs,w,_,_,_,_,_,_,rfl,qB8 hbl (qB8 (Nat.add_le_add (Nat.sub_le_sub_right hwy30 1) (qB8 this h6)) (by decide)),hld⟩
 ·rintro ρ ⟨bs,w,a6,a7,a8,a9,a10,a11,rfl,hb,hld⟩;exists rp18;refine ⟨bs.reverse,by rw[qG8],by rw[qB2];omega,hld.weak (λp hp q=>?_) (λp hp q=>?_)⟩
  ·rw [hc,qA0,qA8,qA3 (by omega)]at q
   cases q
  ·rw [hw0]
   show hh<=((sC c es n).getD p none).getD hh;rw[q];exact qG5 _
def ub (xs:List Int):Prop:=∀x∈xs,x<=10000000000
theorem wk {xs:List Int}(h:ub xs) (k:Nat):xs.getD k 0<=10000000000:=by
 by_cases hk:k<xs.length
 ·exact memD h hk
 ·rw[qA0];simp [hk]
theorem tZ {n:Nat}{ms:List Mv}(hm:∀m∈ms,okN n m) (hu:∀m∈ms,ub m.1/\ub m.2):O0 ms:=λm h p=>by
 have h1:=hm m h;have h2:=hu m h;have a1:=df h1.2.2.1 p;have a2:=df h1.2.2.2 p;have b1:=wk h2.1 p;have b2:=wk h2.2 p;unfold mvD;omega
theorem Fn (b:List Int):b=vF b.length λp=>b.getD p 0:=by
 apply qI5;intro k;rw[qA8];by_cases hk:k<b.length
 ·rw [qE1 hk,qA3 hk]
  show _=some (b.getD k 0);rw[qA0,qA3 hk];rfl
 ·rw[qE9 (by omega),qE9 (by simp;omega)];rfl
theorem nz {n:Nat}{ms:List Mv}:∀(bs:List Blk) (s:Nat->Int) (j:Nat) (bl:Blk),goB n ms bs s->bs[j]?=some bl->okB n ms (w4 ms (bs.take j) s) bl/\w4 ms (bs.take (j+1)) s=lO ms (w4 ms (bs.take j) s) bl
 | [],_,_,_,_,h=>by cases h
 |b::bs,s,0,bl,hg,h=>by cases h;exact ⟨hg.1,rfl⟩
 |b::bs,s,j+1,bl,hg,h=>nz bs (lO ms s b) j bl hg.2 h
theorem ny {n:Nat}{ms:List Mv}{b:List Int}:∀(r:List Nat) (s0:List Int),Rch ms b s0->s0.length=n->gos n ms r (λp=>s0.getD p 0)->∃s,Rch ms b s/\s.length=n/\∀p,p<n->s.getD p 0=s0.getD p 0+dsp ms r p
 | [],s0,h,hl,_=>⟨s0,h,hl,λp _=>by show s0.getD p 0=s0.getD p 0+0;omega⟩
 | k::r,s0,h,hl,⟨h1,h2,h3⟩=>by
  have hmem:mvN ms k∈ms:=by unfold mvN;rw[qA0,qA3 h1];exact qF0 _
  have hc:j2 s0 (mvN ms k).1=true:=cov_iff.mpr λp hp=>h2 p (by omega);have hb:∀p,p<n->(v8 s0 (mvN ms k)).getD p 0=s0.getD p 0+mvD (mvN ms k) p:=λp hp=>by
   rw[show (v8 s0 (mvN ms k)).getD p 0=_ from t9 (by omega)];unfold mvD;omega
  obtain ⟨s,g1,g2,g3⟩:=ny r (v8 s0 (mvN ms k)) (.go h hmem hc) (by rw[F2];exact hl) (K3 r _ _ (λp hp=>by rw[hb p hp];exact qG5 _) h3);refine ⟨s,g1,g2,λp hp=>?_⟩;rw[g3 p hp,hb p hp]
  show _=s0.getD p 0+(mvD (mvN ms k) p+dsp ms r p);omega
theorem sA {b:List Int}{ms:List Mv}{es:List GEnt}{A kk:Nat}(hK:GK (b.map some) ms es A kk) (hm:∀m∈ms,m.1.length=b.length){d:Cap}(hd:d∈stC (b.map some) es) (N:Int):∃s,Rch ms b s/\s.length=b.length/\∀p,p<b.length->(∀v,d.getD p none=some v->s.getD p 0=v)/\(d.getD p none=none->N<=s.getD p 0):=by
 obtain ⟨j,hj,rfl⟩:=eX hd;have hcl:(b.map some).length=b.length:=qA1 ..;obtain ⟨N0,r,hg,hr⟩:=hK.rz (by rw[hcl];exact hm) j hj 0 (jv hK.par j hj) N;rw[hcl]at hg hr;have h0:sC (b.map some) es 0=b.map some:=rfl;have hc:∀p,p<b.length->q0 (sC (b.map some) es 0) N0 p=b.getD p 0:=λp hp=>by unfold q0;rw[h0,J7 hp];rfl
 obtain ⟨s,g1,g2,g3⟩:=ny (b:=b) r b .beg rfl (K3 r _ _ (λp hp=>by rw[hc p hp];exact qG5 _) hg);refine ⟨s,g1,g2,λp hp=>?_⟩;obtain ⟨r1,r2⟩:(∀v,(sC (b.map some) es j).getD p none=some v->q0 (sC (b.map some) es 0) N0 p+dsp ms r p=v)/\((sC (b.map some) es j).getD p none=none->N<=q0 (sC (b.map some) es 0) N0 p+dsp ms r p):=hr p hp;rw[hc p hp]at r1 r2;rw[g3 p hp];exact ⟨r1,r2⟩
theorem all_congr {l:List Nat}{f g:Nat->Bool}(h:∀k∈l,f k=g k):l.all f=l.all g:=by
 induction l with
 |nil=>rfl
 |cons a l ih=>rw[List.all_cons,List.all_cons,h a qB1,ih λk hk=>h k (qA7 _ hk)]
theorem xE {b:List Int}{ms:List Mv}{es:List GEnt}{ts:List Cap}{s:List Int}(hK:GK (b.map some) ms es (es.length+1) 0) (hms:∀m∈ms,okN b.length m) (q1:∀t∈ts,t∈stC (b.map some) es) (q4:∀d∈stC (b.map some) es,∃t∈ts,g9 d t=true) (h:Rch ms b s):∃t∈ts,g9 (s.map some) t=true:=by
 induction h with
 |beg=>exact q4 _ qB1
 | @go s m r hm hc ih=>exact sj (st:=s) hK (by rw[qA1];exact hms) q1 q4 (by rw[qA1];exact r.len) hm hc ih
theorem zI {s t:List Int}{d:Cap}(hl:t.length=s.length) (hd:d.length=s.length) (hc:j2 s t=true) (hu:g9 (s.map some) d=true):g9 (t.map some) d=true:=by
 refine J5 (b:=s.map some) (by simp [hl]) (by simp [hd]) (cX λk hk=>?_) hu;rw[qA1]at hk;rw[J7 hk,J7 (by omega)];exact decide_eq_true (cov_iff.mp hc k (by omega))
theorem lq {ms:List Mv}{b:List Int}:∀(rs s0 s':List Int),(∀r∈rs,0<=r/\r<(ms.length:Int))->Rch ms b s0->R6 ms rs s0=some s'->Rch ms b s'
 | [],s0,s',_,h,e=>by unfold R6 at e;cases e;exact h
 | r::rs,s0,s',hr,h,e=>by
  unfold R6 at e;have hr0:=hr r qB1;have hmem:ms.getD r.toNat ([],[])∈ms:=by rw[qA0];simp [show r.toNat<ms.length by omega]
  cases hc:j2 s0 (ms.getD r.toNat ([],[])).1 with
  |false=>rw[hc,qA6 qA5]at e;cases e
  | true=>
   rw[hc,qA4 rfl]at e;exact lq rs _ s' (λx hx=>hr x (qA7 _ hx)) (.go h hmem hc) e
theorem Fo {k:Int}(h0:0<=k)(h1:k<=1000):0<=k*k/\k*k<=1000000:=⟨qH8 h0 h0,qJ5 (Int.mul_le_mul h1 h1 h0 (by omega)) (by omega)⟩
theorem small {z:Int}(h:-18446744073709551616<z/\z<18446744073709551616):Builtin.Int.intBits z<=64:=intBits_le_64 (by omega) (by omega)
theorem w8 {ns:List Int}(hb:∀x∈ns,Builtin.Int.intBits x<=1048576){k:Int}(h0:0<=k) (h1:k<=1000):Ok (j5 [.scr (ns.map W.int),.int k]) λw=>∃z:Int,w=.int z:=by
 have hk2:=Fo h0 h1;by_cases h:k<(ns.length:Int)
 ·exists rpB,R5,decide_eq_true h;exact ⟨_,rfl,_,rfl⟩
 ·by_cases hl:0<(ns.length:Int)
  ·have m0:0<=k*43%(ns.length:Int):=Int.emod_nonneg _ (by omega);have m1:k*43%(ns.length:Int)<(ns.length:Int):=qM0 _ hl;have hz:=memD (P:=λx=>Builtin.Int.intBits x<=1048576) hb (i:=(k*43%(ns.length:Int)).toNat) (by omega);exists rpB,R5,decide_eq_false h,decide_eq_true hl;generalize ns.getD (k*43%(ns.length:Int)).toNat 0=z at *
   have b1:=intBits_mul_le hz (small (z:=16807) (by omega));have b2:Builtin.Int.intBits (k*k*5003)<=64:=small (by omega);have b3:=intBits_add_le b1 b2;have b4:=intBits_add_le b3 (small (z:=11) (by omega));have b5:Builtin.Int.intBits (z*16807+k*k*5003+11)+Builtin.Int.intBits (z*16807+k*k*5003+11)<=134217728:=by omega
   exists rp18;exact ⟨_,rfl,_,rfl⟩
  ·exists rpB,R5,decide_eq_false h,decide_eq_false hl;exact ⟨_,rfl,_,rfl⟩
theorem m6 {d:Int}(h0:0<=d) (h:d<6):∃z:Int,L2.atI [W.int 0,W.int 1,W.int 0,W.int 0,W.int 1,W.int 2] d=some (.int z)/\0<=z/\z<=2:=by
 have:d=0\/d=1\/d=2\/d=3\/d=4\/d=5:=by omega
 rcases this with rfl|rfl|rfl|rfl|rfl|rfl
 all_goals exact ⟨_,rfl,by omega⟩
theorem m7 {d:Int}(h0:0<=d) (h:d<7):∃z:Int,L2.atI [W.int 0,W.int 1,W.int 0,W.int 1,W.int 0,W.int 2,W.int 0] d=some (.int z)/\0<=z/\z<=2:=by
 have:d=0\/d=1\/d=2\/d=3\/d=4\/d=5\/d=6:=by omega
 rcases this with rfl|rfl|rfl|rfl|rfl|rfl|rfl
 all_goals exact ⟨_,rfl,by omega⟩
theorem oS (b:Bool):∃z:Int,fInt [.bl b]=.ok (.int z)/\0<=z/\z<=1:=by
 cases b
 ·exact ⟨0,rfl,by omega⟩
 ·exact ⟨1,rfl,by omega⟩
abbrev bd (z:Int):Prop:=0<=z/\z<=10000000000
def bdL (xs:List Int):Prop:=∀x∈xs,bd x
theorem nJ {xs:List Int}{z:Int}(h:bdL xs) (hz:bd z):bdL (xs ++ [z]):=λx hx=>by
 rcases qE4.mp hx with q|q
 ·exact h x q
 ·rw[qD0.mp q];exact hz
theorem pbd {f:Nat->Int->Prop}{n:Nat}{zs:List Int}(h:Paired f (List.range n) zs) (hp:∀k z,f k z->bd z):bdL zs/\zs.length=n:=by
 refine ⟨λz hz=>?_,by have:=Paired.length h;simpa using this.symm⟩
 have:∀(l:List Nat) (zs:List Int),Paired f l zs->∀z∈zs,bd z:=λl zs q=>by
  induction q with
  |nil=>intro z hz;cases hz
  | cons r _ ih=>
   intro z hz;rcases qB3.mp hz with rfl|hz
   ·exact hp _ _ r
   ·exact ih z hz
 exact this _ _ h z hz
theorem fR {z f:Int}(h0:0<=z)(h1:z<=2)(hf:0<=f/\f<=100000001):bd (z*f):=⟨qH8 h0 hf.1,qJ5 (Int.mul_le_mul h1 hf.2 hf.1 (by omega)) (by omega)⟩
theorem Cu (a b:Bool):eE (.ok (.bl a)) (.ok (.bl b))=.ok (.bl (a||b)):=by cases a <;> rfl
theorem Aa (a b:Bool):aV (.ok (.bl a)) (.ok (.bl b))=.ok (.bl (a&&b)):=by cases a <;> rfl
theorem yy {ns:List Int}(hb:∀x∈ns,Builtin.Int.intBits x<=1048576){a f:Int}{n:Nat}{pl:Bool}(h1:1<=n) (h6:n<=6) (a0:0<=a) (a1:a<=200) (hf:0<=f/\f<=100000001):Ok (ah [.scr (ns.map W.int),.int a,.int (n:Int),.bl pl,.int f]) λw=>∃m:Mv,w=mW m/\okN n m/\ub m.1/\ub m.2:=by
 exists rpB,dJ;refine n9 (p8 (λi ρ=>∃(xs ys:List Int) (a7 a8:Sl),ρ = [.par (.scr (ns.map W.int)),.par (.int a),.par (.int (n:Int)),.par (.bl pl),.par (.int f),.own (xs.map W.int),.own (ys.map W.int),a7,a8,.un,.un]/\xs.length=i/\ys.length=i/\bdL xs/\bdL ys) ⟨[],[],_,_,rfl,rfl,rfl,λx h=>(nomatch h),λx h=>(nomatch h)⟩ ?_ ?_)
 ·rintro i u ρ hu ⟨xs,ys,a7,a8,rfl,hxl,hyl,hx,hy⟩;obtain ⟨hi,rfl⟩:=W1 hu;obtain ⟨_,e1,c,rfl⟩:=w8 hb (k:=a+(i:Int)) (by omega) (by omega);obtain ⟨z6,e6,z60,z61⟩:=m6 (d:=c%6) (by omega) (by omega);obtain ⟨z7,e7,z70,z71⟩:=m7 (d:=c/6%7) (by omega) (by omega);refine ⟨_,rfl,?_⟩;exists e1,e6,e7;exact ⟨xs ++ [z6*f],ys ++ [z7*f],_,_,by rw[qC6,qC6],by simp [hxl],by simp [hyl],nJ hx (fR z60 z61 hf),nJ hy (fR z70 z71 hf)⟩
 ·rintro ρ ⟨xs,ys,a7,a8,rfl,hxl,hyl,hx,hy⟩;rw[qA1,qE8]at hxl hyl;refine W6 (λρ=>∃(xs ys:List Int) (a7 a8 a9 b1:Sl),ρ = [.par (.scr (ns.map W.int)),.par (.int a),.par (.int (n:Int)),.par (.bl pl),.par (.int f),.own (xs.map W.int),.own (ys.map W.int),a7,a8,a9,b1]/\xs.length=n/\ys.length=n/\bdL xs/\bdL ys) ?_ ?_
  ·cases pl
   ·exists rp18;exact ⟨xs,ys,_,_,_,_,rfl,hxl,hyl,hx,hy⟩
   ·obtain ⟨_,e1,c,rfl⟩:=w8 hb (k:=a) (by omega) (by omega);obtain ⟨_,e2,d,rfl⟩:=w8 hb (k:=a+1) (by omega) (by omega);exists e1,e2;refine mL ?_;refine gC (λ_ z=>bd z) (by simp;omega) ?_ ?_
    ·intro j hj;obtain ⟨z,ez,z0,z1⟩:=oS (decide ((j:Int)=c/42%(n:Int)));refine ⟨_,rfl,?_⟩;exists ez;exact ⟨_,rfl,_,rfl,fR z0 (by omega) hf⟩
    intro us hu;obtain ⟨hu0,hul⟩:=pbd hu λ_ _ h=>h;exists rp18;refine qI ?_;refine gC (λ_ z=>bd z) (by simp;omega) ?_ ?_
    ·intro j hj;obtain ⟨z,ez,z0,z1⟩:=oS (decide ((j:Int)=d/42%(n:Int))||(decide ((j:Int)=(d/42%(n:Int)+1)%(n:Int))&&decide (c/42%(n:Int)%2=0)));refine ⟨_,rfl,?_⟩;exists Cu,Aa,ez;exact ⟨_,rfl,_,rfl,fR z0 (by omega) hf⟩
    intro vs hv;obtain ⟨hv0,hvl⟩:=pbd hv λ_ _ h=>h;exists rp18;exact ⟨us,vs,_,_,_,_,rfl,hul,hvl,hu0,hv0⟩
  rintro ρ ⟨xs,ys,a7,a8,a9,b1,rfl,hxl,hyl,hx,hy⟩;exists rp18;exact ⟨(xs,ys),rfl,⟨hxl,hyl,λx h=>(hx x h).1,λx h=>(hy x h).1⟩,λx h=>(hx x h).2,λx h=>(hy x h).2⟩
theorem aD {a b:List Int}(h6:a.length<=6) (hl:b.length=a.length):w9 [tI a,tI b]=.ok (.bl (j2 a b)):=by
 have fin:Ok (w9 [tI a,tI b]) λv=>v=.bl (j2 a b):=by
  exists rpB,bK;refine n9 (p8 (λi ρ=>∃x,ρ = [.par (tI a),.par (tI b),x]/\∀k,k<i->b.getD k 0<=a.getD k 0) ⟨_,rfl,λk hk=>absurd hk (qF7 _)⟩ ?_ ?_)
  ·rintro i u ρ hu ⟨x,rfl,hall⟩;obtain ⟨hi,rfl⟩:=W1 hu;refine ⟨_,rfl,?_⟩;exists rp18;refine R4 (λh=>?_) (λh=>?_)
   ·have h:=of_decide_eq_true h;exists wQ hi h
   ·have h:=of_decide_eq_false h;exists rp18;refine ⟨_,rfl,λk hk=>?_⟩;by_cases e:k=i
    ·subst e;omega
    ·exact hall k (by omega)
  ·rintro ρ ⟨x,rfl,hall⟩;rw[qA1,qE8]at hall;exists oV hall
 obtain ⟨v,e,rfl⟩:=fin;exact e
theorem fC {s:List Int}{m:Mv}(h6:s.length<=6) (hm:okM s.length m):M4 [tI s,mW m]=.ok (tI (v8 s m)):=by
 have a0:L2.atI [tI m.1,tI m.2] 0=some (tI m.1):=rfl;have a1:L2.atI [tI m.1,tI m.2] 1=some (tI m.2):=rfl;have e1:=hm.1;have e2:=hm.2;have e:∀N mg me ρ (h:∀k∈List.range s.length,∃ρ1,mg (.int (k:Nat)) (ρ++List.replicate (N-ρ.length) Sl.un)=some ρ1/\me ρ1=.ok (.int (s.getD k 0-m.1.getD k 0+m.2.getD k 0))),l6 N mg yes me ((List.range s.length).map λk=>W.int (k:Nat)) ρ=.ok (lI (v8 s m)):=λN mg me ρ h=>by
  rw[m8 (λk=>W.int (s.getD k 0-m.1.getD k 0+m.2.getD k 0)) _ _ ρ (by simp;omega) h];unfold lI v8;rw[qC7];rfl
 exists rpB,bM;rw[e]
 ·exists rp18
 ·intro k hk;have hk:k<s.length:=by simpa using hk
  refine ⟨_,rfl,?_⟩;exists a0,a1
theorem AK (k:Nat) (m:Mv):shp (k+2) (mW m)=true:=by
 show (shp (k+1) (tI m.1)&&(shp (k+1) (tI m.2)&&true))=true;rw[bU,bU];rfl
theorem ne_nil (g:Mv) (gs:List Mv):fEq true (.lst ((g::gs).map mW)) (.lst [])=.ok (.bl true):=by
 have h:shp 8 (.lst ((g::gs).map mW))=true:=aR mW 7 (AK 5) (g::gs);unfold fEq;rw[h];rfl
theorem gond (ms:List Mv)(s:List Int):∀m∈ms.filter (λm=>j2 s m.1),m∈ms:=λm h=>(qH2.mp h).1
theorem vN {ns:List Int}(hb:∀x∈ns,Builtin.Int.intBits x<=1048576){n:Nat}{b:List Int}{ms:List Mv}(h6:n<=6) (hm:∀m∈ms,okN n m) (h8:ms.length<=8) (hbl:b.length=n):Ok (X6 [.scr (ns.map W.int),tI b,.lst (ms.map mW)]) λw=>∃t:List Int,w=tI t/\t.length=n:=by
 obtain ⟨_,e3,c,rfl⟩:=w8 hb (k:=6) (by omega) (by omega);obtain ⟨q,hq⟩:∃q:Nat,c/8%13=(q:Int):=⟨(c/8%13).toNat,by omega⟩;have ct:=v5 (O7 b);exists rpB,cC,e3,hq,ct;refine n9 (p8 (λi ρ=>∃(s:List Int) (v x y:Sl),ρ = [.par (.scr (ns.map W.int)),.par (tI b),.par (.lst (ms.map mW)),v,x,y]/\v=.val (tI s)/\s.length=n) ⟨b,_,_,_,rfl,rfl,hbl⟩ ?_ ?_)
 ·rintro i u ρ hu ⟨s,v,x,y,rfl,rfl,hs⟩;obtain ⟨hi,rfl⟩:=W1 hu;obtain ⟨_,e4,d,rfl⟩:=w8 hb (k:=30+(i:Int)) (by omega) (by omega);refine ⟨_,rfl,?_⟩;exists rp18;rw[K2 mW mW (λm=>j2 s m.1) ms _ (by omega) λm hmm=>?_]
  ·have hg:=gond ms s;have hgl:(ms.filter λm=>j2 s m.1).length<=8:=qB8 (List.length_filter_le _ _) h8;generalize ms.filter (λm=>j2 s m.1)=gs at hg hgl
   exists rp18;cases gs with
   | nil=>
    exists rp18;exact ⟨s,_,_,_,rfl,rfl,hs⟩
   | cons g gs=>
    have hgl:gs.length+1<=8:=hgl;have ne:=ne_nil g gs;have hL:(((g::gs).map mW).length:Int)=((gs.length+1:Nat):Int):=by simp
    have g0:=Int.emod_nonneg (d/3) (show ((gs.length+1:Nat):Int)≠0 by omega);have g1:=qM0 (d/3) (show (0:Int)<((gs.length+1:Nat):Int) by omega);have ea:=Y0 mW (as:=g::gs) (d:=([],[])) (i:=d/3%((gs.length+1:Nat):Int)) ⟨g0,g1⟩;have hk:=hg ((g::gs).getD (d/3%((gs.length+1:Nat):Int)).toNat ([],[])) (by rw[qA0,qA3 (show (d/3%((gs.length+1:Nat):Int)).toNat<(g::gs).length by rw[qC1];omega)];exact qF0 _);generalize (g::gs).getD (d/3%((gs.length+1:Nat):Int)).toNat ([],[])=m at ea hk
    have k2:=fC (s:=s) (m:=m) (by omega) (by rw[hs];exact ⟨(hm m hk).1,(hm m hk).2.1⟩);obtain ⟨gw,hgw⟩:∃gw,gw=(g::gs).map mW:=⟨_,rfl⟩;rw[<- hgw]at ne hL ea ⊢;exists ne,e4,hL,ea,k2;exact ⟨v8 s m,_,_,_,rfl,rfl,by rw[F2];exact hs⟩
  ·have a0:L2.atI [tI m.1,tI m.2] 0=some (tI m.1):=rfl;have k1:=aD (a:=s) (b:=m.1) (by omega) (by rw[hs];exact (hm m hmm).1);have cm:=v5 (rd m);refine ⟨_,rfl,?_,λ_=>?_⟩
   ·exists a0,k1
   ·exists cm
 ·rintro ρ ⟨s,v,x,y,rfl,rfl,hs⟩;exists rp18;exact ⟨s,rfl,hs⟩
theorem zl {f g:Nat->Bool}{n:Nat}(h:∀k,k<n->f k=!g k):decide ((((List.range n).filter f).length:Int)=0)=(List.range n).all g:=by
 cases c:(List.range n).all g with
 | true=>
  apply decide_eq_true
  have:(List.range n).filter f = []:=by
   rw[List.filter_eq_nil_iff];intro k hk;have q:=qE5.mp c k hk;rw[h k (by simpa using hk),q];decide
  rw[this];rfl
 | false=>
  apply decide_eq_false;intro z;have z2:=List.eq_nil_of_length_eq_zero (show ((List.range n).filter f).length=0 by omega);rw[List.filter_eq_nil_iff]at z2
  have:(List.range n).all g=true:=qE5.mpr λk hk=>by
   have q:=z2 k hk;rw[h k (by simpa using hk)]at q;cases hg:g k with
   |true=>rfl
   |false=>rw[hg]at q;exact absurd rfl q
  rw[this]at c;cases c
theorem zk {α:Type}{f:α->Bool}{l:List α}:decide (0<((l.filter f).length:Int))=l.any f:=by
 cases c:l.any f with
 | true=>
  obtain ⟨x,hx,h⟩:=qD3.mp c
  have:=List.length_pos_of_mem (qH2.mpr ⟨hx,h⟩)
  exact decide_eq_true (by omega)
 | false=>
  have:l.filter f = []:=List.filter_eq_nil_iff.mpr λx hx=>qH1.mp c x hx
  rw[this];rfl
theorem lb {t:List Int}{d:Cap}(h6:d.length<=6) (hl:t.length=d.length):K4 [tI t,tC d]=.ok (.bl (g9 (t.map some) d)):=by
 have e:∀N mg mc me ρ,(∀k,k<d.length->∃ρ1,mg (.int (k:Nat)) (ρ++List.replicate (N-ρ.length) Sl.un)=some ρ1/\mc ρ1=.ok (!D0 (some (t.getD k 0)) (d.getD k none))/\me ρ1=.ok (.int (k:Nat))) ->
   l6 N mg mc me ((List.range d.length).map λk=>W.int (k:Nat)) ρ=.ok (.lst (((List.range d.length).filter λk=>!D0 (some (t.getD k 0)) (d.getD k none)).map λk=>W.int (k:Nat))):=λN mg mc me ρ h=>by
  refine K2 (λk=>W.int (k:Nat)) _ (λk=>!D0 (some (t.getD k 0)) (d.getD k none)) _ ρ (by simp;omega) λk hk=>?_;obtain ⟨ρ1,e1,e2,e3⟩:=h k (by simpa using hk);exact ⟨ρ1,e1,e2,λ_=>e3⟩
 have this:=zl (n:=d.length) (f:=λk=>!D0 (some (t.getD k 0)) (d.getD k none)) (g:=λk=>D0 (some (t.getD k 0)) (d.getD k none)) λ_ _=>rfl;have eu:g9 (t.map some) d=(List.range d.length).all λk=>D0 (some (t.getD k 0)) (d.getD k none):=by
  unfold g9;rw[qA1,hl];refine all_congr λk hk=>?_;rw[J7 (by have:=qE7.mp hk;omega)]
 exists rpB,cA;rw[e]
 ·exists rp18;rw[this,eu]
 ·intro k hk;have d1:=atO (cs:=d) (k:=k) hk;refine ⟨_,rfl,?_⟩
  revert d1
  cases hd:d.getD k none with
  | none=>
   intro d1;exists d1;rfl
  | some y=>
   intro d1;exists d1
   show _=R.ok (!decide (t.getD k 0<=y));by_cases q:t.getD k 0<=y
   ·rw[decide_eq_true q,decide_eq_false (by omega)];rfl
   ·rw[decide_eq_false q,decide_eq_true (by omega)];rfl
theorem gL {s:List Int}{B:List (List Int)}(h6:s.length<=6) (hl:∀x∈B,x.length=s.length):C3 [tI s,lS B]=.ok (.bl (h9 s B)):=by
 have fin:Ok (C3 [tI s,lS B]) λv=>v=.bl (h9 s B):=by
  exists rpB,bJ;refine n9 (p8 (λi ρ=>∃x,ρ = [.par (tI s),.par (lS B),x]/\∀x∈B.take i,j2 s x=false) ⟨_,rfl,λx hx=>(nomatch hx)⟩ ?_ ?_)
  ·rintro i u ρ hu ⟨x,rfl,hall⟩;rw[qA8]at hu;obtain ⟨y,hy,rfl⟩:=qE3.mp hu;have hym:=qC8 hy;have k1:=aD (a:=s) (b:=y) h6 (hl y hym);have etk:B.take (i+1)=B.take i ++ [y]:=by rw[qM1,hy];rfl
   refine ⟨_,rfl,?_⟩;exists k1;refine R4 (λh=>?_) (λh=>?_)
   ·exists rp18
    have:h9 s B=true:=qD3.mpr ⟨y,hym,h⟩
    rw[this]
   ·exists rp18;refine ⟨_,rfl,λx hx=>?_⟩;rw[etk]at hx;rcases qE4.mp hx with z|z
    ·exact hall x z
    ·rw[qD0.mp z];exact h
  ·rintro ρ ⟨x,rfl,hall⟩;rw[qA1,qG2]at hall;exists rp18
   have:h9 s B=false:=by
    unfold h9;rw[qH1];intro d hd;rw[hall d hd];decide
   rw[this]
 obtain ⟨v,e,rfl⟩:=fin;exact e
theorem yS {n:Nat}{ms:List Mv}{b s' rs t:List Int}(h6:n<=6) (hm:∀m∈ms,okM n m) (hb:b.length=n) (ht:t.length=n) (hr:∀r∈rs,0<=r/\r<(ms.length:Int)) (hg:R6 ms rs b=some s') (hc:j2 s' t=true):P6 [lI rs,tI b,.lst (ms.map mW),tI t]=.ok (.bl true):=by
 have fin:Ok (P6 [lI rs,tI b,.lst (ms.map mW),tI t]) λv=>v=.bl true:=by
  exists rpB,fA,v5 (O7 b);refine n9 (p8 (λi ρ=>∃(s:List Int) (v a:Sl),ρ = [.par (lI rs),.par (tI b),.par (.lst (ms.map mW)),.par (tI t),v,a]/\v=.val (tI s)/\s.length=n/\R6 ms (rs.drop i) s=some s') ⟨b,_,_,rfl,rfl,hb,hg⟩ ?_ ?_)
  ·rintro i w ρ hw ⟨s,v,a,rfl,rfl,hs,hgo⟩;obtain ⟨hi,rfl⟩:=kI hw;have hri:=hr _ (mem_getD (P:=λx=>x∈rs) (λx h=>h) hi);have hd:rs.drop i=rs.getD i 0::rs.drop (i+1):=by
    rw[List.drop_eq_getElem_cons hi,qA0];simp [hi]
   rw[hd]at hgo;generalize rs.getD i 0=r at hri hgo ⊢
   unfold R6 at hgo;have b1:=Y0 mW (as:=ms) (d:=([],[])) (i:=r) hri;have hok:=hm (ms.getD r.toNat ([],[])) (by rw[qA0];simp [show r.toNat<ms.length by omega]);generalize ms.getD r.toNat ([],[])=m at hgo b1 hok
   have a0:L2.atI [tI m.1,tI m.2] 0=some (tI m.1):=rfl;cases hc:j2 s m.1 with
   |false=>rw[hc,qA6 qA5]at hgo;cases hgo
   | true=>
    rw[hc,qA4 rfl]at hgo;have k1:=aD (a:=s) (b:=m.1) (by omega) (by rw[hs];exact hok.1);rw[hc]at k1;have k2:=fC (s:=s) (m:=m) (by omega) (by rw[hs];exact hok);refine ⟨_,rfl,?_⟩;exists b1,a0,k1,k2;exact ⟨v8 s m,_,_,rfl,rfl,by rw[F2];exact hs,hgo⟩
  ·rintro ρ ⟨s,v,a,rfl,rfl,hs,hgo⟩;rw[qA1,List.drop_length]at hgo;have e:s=s':=by unfold R6 at hgo;cases hgo;rfl
   subst e;have k1:=aD (a:=s) (b:=t) (by omega) (by omega);rw[hc]at k1;exists k1
 obtain ⟨v,e,rfl⟩:=fin;exact e
theorem ni {x:List Int}{m:Mv}:((List.range x.length).map λk=>m.1.getD k 0+max 0 (x.getD k 0-m.2.getD k 0))=srcL x m.1 m.2:=by
 unfold srcL;refine qJ6 λk _=>?_;omega
theorem vK {n:Nat}{ms:List Mv}{b t:List Int}{L:List (List Int)}(h6:n<=6) (hm:∀m∈ms,okM n m) (hb:b.length=n) (ht:t.length=n) (hL:∀x∈L,x.length=n) (h0:h9 b L=false) (h1:h9 t L=true) (hsh:O1 ms L=true):K5 [lS L,tI b,.lst (ms.map mW),tI t]=.ok (.bl true):=by
 have k0:=gL (s:=b) (B:=L) (by omega) λx hx=>by rw[hL x hx,hb]
 have k1:=gL (s:=t) (B:=L) (by omega) λx hx=>by rw[hL x hx,ht]
 rw[h0]at k0;rw[h1]at k1;have fin:Ok (K5 [lS L,tI b,.lst (ms.map mW),tI t]) λv=>v=.bl true:=by
  exists rpB,cB,k0,k1;refine n9 (p8 (λi ρ=>∃x y:Sl,ρ = [.par (lS L),.par (tI b),.par (.lst (ms.map mW)),.par (tI t),x,y]) ⟨_,_,rfl⟩ ?_ ?_)
  ·rintro i u ρ hu ⟨x,y,rfl⟩;rw[qA8]at hu;obtain ⟨o,ho,rfl⟩:=qE3.mp hu;have hom:=qC8 ho;have hol:=hL o hom;refine ⟨_,rfl,?_⟩;exists rp18;refine W5 (λi ρ=>∃y:Sl,ρ = [.par (lS L),.par (tI b),.par (.lst (ms.map mW)),.par (tI t),.par (tI o),y]) ⟨_,rfl⟩ ?_ ?_
   ·rintro j u ρ hu ⟨y,rfl⟩;rw[qA8]at hu;obtain ⟨m,hmj,rfl⟩:=qE3.mp hu;have hmm:=qC8 hmj;have hok:=hm m hmm;have p1:=hok.1;have p2:=hok.2;have a0:L2.atI [tI m.1,tI m.2] 0=some (tI m.1):=rfl;have a1:L2.atI [tI m.1,tI m.2] 1=some (tI m.2):=rfl;have e:∀N mg me ρ (h:∀k,k<o.length->∃ρ1,mg (.int (k:Nat)) (ρ++List.replicate (N-ρ.length) Sl.un)=some ρ1/\me ρ1=.ok (.int (m.1.getD k 0+max 0 (o.getD k 0-m.2.getD k 0)))),l6 N mg yes me ((List.range o.length).map λk=>W.int (k:Nat)) ρ=.ok (lI (srcL o m.1 m.2)):=λN mg me ρ h=>by
     rw[m8 (λk=>W.int (m.1.getD k 0+max 0 (o.getD k 0-m.2.getD k 0))) _ _ ρ (by simp;omega) λk hk=>h k (by simpa using hk)];rw[<- ni];unfold lI;rw[qC7];rfl
    have hin:srcL o m.1 m.2∈y8 ms L:=List.mem_flatMap.mpr ⟨m,hmm,qB6.mpr ⟨o,hom,rfl⟩⟩;have hlif:=qE5.mp hsh _ hin;have hsl:(srcL o m.1 m.2).length=n:=by rw[<- ni];simp [hol]
    have k2:=gL (s:=srcL o m.1 m.2) (B:=L) (by omega) λx hx=>by rw[hL x hx,hsl]
    rw[hlif]at k2;generalize srcL o m.1 m.2=sr at e k2
    refine ⟨_,rfl,?_⟩;exists rp18;rw[e]
    ·exists k2;exact ⟨_,rfl⟩
    ·intro k hk;refine ⟨_,rfl,?_⟩;exists a0,a1
   ·rintro ρ ⟨y,rfl⟩;exact ⟨_,_,rfl⟩
  ·rintro ρ ⟨x,y,rfl⟩;exists rp18
 obtain ⟨v,e,rfl⟩:=fin;exact e
theorem Es {n:Nat}{f g:Nat->Int}(h:∀p,p<n->g p<=f p):j2 (vF n f) (vF n g)=true:=cov_iff.mpr λp hp=>by
 rw[C5]at hp;rw[t9 hp,t9 hp];exact h p hp
theorem rX {ms:List Mv}{r:List Nat}(hs:O0 ms) (hr:∀k∈r,k<ms.length) (hl:r.length<=30) (p:Nat):-18446744073709551616<dsp ms r p/\dsp ms r p<18446744073709551616:=by
 have:=Z6 hs p r hr
 omega
theorem zc {b:List Int}{ms:List Mv}{s:Nat->Int}{r:List Nat}{t:Int}(h1:1<=b.length) (h6:b.length<=6) (hm:∀m∈ms,okN b.length m) (hs:O0 ms) (h:okB b.length ms s (r,t)):lv [.tup [tI b,tM_ ms],tI (vF b.length s),lI (pz r),.int t]=.ok (.bl true):=by
 obtain ⟨ht,hr,hl,hh⟩:=h;have ht:1<=t:=ht;have hr:∀k∈r,k<ms.length:=hr;have hl:r.length<=30:=hl;have k1:=nu h1 h6 hm hr;have k2:=cZ h1 h6 hm hr;have k3:=Y3 (n:=b.length) (g:=s) (d:=dsp ms r) (z:=t-1) h6 λp _=>rX hs hr hl p;have k4:=Z7 (a:=vF b.length s) (b:=vF b.length (hur ms r)) (by rw[C5,C5]);have k5:=Z7 (a:=vF b.length λp=>s p+(t-1)*dsp ms r p) (b:=vF b.length (hur ms r)) (by rw[C5,C5]);rw[Es λp hp=>(hh p hp).1]at k4;rw[Es λp hp=>(hh p hp).2]at k5;have d0:decide (t=0)=false:=decide_eq_false (by omega);generalize vF b.length (hur ms r)=N at *
 generalize vF b.length (λp=>s p+(t-1)*dsp ms r p)=L at *
 generalize vF b.length (dsp ms r)=T at *
 generalize vF b.length s=V at *
 exists rpB,rq,d0,k1,k2,k3,k4,k5
theorem zD {bs:List Blk}{i:Nat}{w:W}(h:((bs.map blW).mapIdx λi x=>W.tup [.int (i:Int),x])[i]?=some w):∃bl,bs[i]?=some bl/\w=.tup [.int (i:Int),blW bl]:=by
 rw[List.getElem?_mapIdx,qA8]at h;cases q:bs[i]? with
 |none=>rw[q]at h;cases h
 |some m=>rw[q]at h;cases h;exact ⟨m,rfl,rfl⟩
theorem pZ {b:List Int}{ms:List Mv}{bs:List Blk}(h1:1<=b.length) (h6:b.length<=6) (hm:∀m∈ms,okN b.length m) (hs:O0 ms) (hg:goB b.length ms bs λp=>b.getD p 0):X3 [.tup [tI b,tM_ ms],tI b,.lst (bs.map blW)]=.ok (tI (vF b.length (w4 ms bs λp=>b.getD p 0))):=by
 have fin:Ok (X3 [.tup [tI b,tM_ ms],tI b,.lst (bs.map blW)]) λv=>v=tI (vF b.length (w4 ms bs λp=>b.getD p 0)):=by
  have he:bp [.lst (bs.map blW)]=.ok ((bs.map blW).mapIdx λi x=>W.tup [.int (i:Int),x]):=rfl;exists rpB,kK,he,v5 (O7 b);refine n9 (p8 (λj ρ=>∃(v a4 a5 a6 a7:Sl),ρ = [.par (.tup [tI b,tM_ ms]),.par (tI b),.par (.lst (bs.map blW)),v,a4,a5,a6,a7]/\v=.val (tI (vF b.length (w4 ms (bs.take j) λp=>b.getD p 0)))) ⟨_,_,_,_,_,rfl,by rw[List.take_zero];show _=Sl.val (tI (vF b.length λp=>b.getD p 0));rw[<- Fn b]⟩ ?_ ?_)
  ·rintro j u ρ hu ⟨v,a4,a5,a6,a7,rfl,rfl⟩;obtain ⟨⟨r,t⟩,hbl,rfl⟩:=zD hu;obtain ⟨ho,he⟩:=nz bs _ j (r,t) hg hbl;rw[he];generalize w4 ms (bs.take j) (λp=>b.getD p 0)=s at *
   have k1:=zc h1 h6 hm hs ho;have k2:=cZ h1 h6 hm ho.2.1;have k3:=Y3 (n:=b.length) (g:=s) (d:=dsp ms r) (z:=t) h6 λp _=>rX hs ho.2.1 ho.2.2.1 p;have ea:lO ms s (r,t)=λp=>s p+t*dsp ms r p:=rfl;have a0:L2.atI [lI (pz r),W.int t] 0=some (lI (pz r)):=rfl;have a1:L2.atI [lI (pz r),W.int t] 1=some (.int t):=rfl;have k2:D3 [.tup [tI b,tM_ ms],lI (pz r)]=.ok (tI (vF b.length (dsp ms r))):=k2;rw[ea];generalize vF b.length (λp=>s p+t*dsp ms r p)=L at *
   generalize vF b.length (dsp ms r)=T at *
   generalize vF b.length s=V at *
   refine ⟨_,rfl,?_⟩;exists a0,a1,k1,k2,k3;exact ⟨_,_,_,_,_,rfl,rfl⟩
  ·rintro ρ ⟨v,a4,a5,a6,a7,rfl,rfl⟩;rw[List.length_mapIdx,qA1,qG2];exists rp18
 obtain ⟨v,e,rfl⟩:=fin;exact e
theorem max_le {t:List Int}{p:Nat}(h:p<t.length):t.getD p 0<=L6 t:=gS (ns:=t) p h
theorem sw {b t:List Int}{ms:List Mv}{es:List GEnt}(h1:1<=b.length) (h6:b.length<=6) (hbn:nn b) (hm:∀m∈ms,okN b.length m) (hs:O0 ms) (h29:es.length<=29) (hK:GK (b.map some) ms es (es.length+1) 0) (ht:t.length=b.length) (hex:∃n,n<=es.length/\g9 (t.map some) (sC (b.map some) es n)=true) :
  F9 [.tup [tI b,tM_ ms],.lst (g8 (b.map some) es),tI t]=.ok (.bl true):=by
 have hcl:(b.map some).length=b.length:=qA1 ..;have hlen:=aP hK;have hsl:∀k,k<es.length+1->(sC (b.map some) es k).length=b.length:=λk hk=>by rw[hlen _ (bX (by omega)),hcl]
 have hrl:(g8 (b.map some) es).length=es.length+1:=by simp
 have hsel:∀k,k<es.length+1->∃x y:W,L2.atI (g8 (b.map some) es) (k:Int)=some (.tup [tC (sC (b.map some) es k),x,y]):=λk hk=>Q0 (by omega);have kc:∀n:Nat,n<=es.length->Ok (dl [.tup [tI b,tM_ ms],.lst (g8 (b.map some) es),.int (n:Int),.int (L6 t)]) λw=>∃bs:List Blk,w=.lst (bs.map blW)/\bs.length<=40/\ldB b.length ms (b.map some) (λ_=>0) bs (sC (b.map some) es n) (λ_=>L6 t):=λn hn=>vW hK h1 h6 hbn hm hs h29 hn;have ks:∀bs:List Blk,goB b.length ms bs (λp=>b.getD p 0)->X3 [.tup [tI b,tM_ ms],tI b,.lst (bs.map blW)]=.ok (tI (vF b.length (w4 ms bs λp=>b.getD p 0))):=λbs hg=>pZ h1 h6 hm hs hg;have hfit:vI b.length (b.map some) (λ_=>0) λp=>b.getD p 0:=λq hq=>by
  rw[J7 hq];exact ⟨λv hv=>Option.some.inj hv,λh=>by cases h⟩
 have kb:Z5 L6 [tI t]=.ok (.int (L6 t)):=nB (by omega);obtain ⟨mo,hmo⟩:∃mo,mo=W.tup [tI b,tM_ ms]:=⟨_,rfl⟩;have am0:fIx mo (.int 0)=.ok (tI b):=by rw[hmo];rfl
 rw[<- hmo]at kc ks ⊢;obtain ⟨c,hc⟩:∃c:Cap,c=b.map some:=⟨_,rfl⟩;rw[<- hc]at hK hex hcl hlen hsl hrl hsel kc hfit ⊢;obtain ⟨rw_,hrw⟩:∃rw_,rw_=g8 c es:=⟨_,rfl⟩;rw[<- hrw]at kc hrl hsel ⊢;have fin:Ok (F9 [mo,.lst rw_,tI t]) λv=>v=.bl true:=by
  exists rpB,bL,hrl;refine n9 (p8 (λi ρ=>∃a3 a4:Sl,ρ = [.par mo,.par (.lst rw_),.par (tI t),a3,a4]/\∀k,k<i->g9 (t.map some) (sC c es k)=false) ⟨_,_,rfl,λk hk=>absurd hk (qF7 _)⟩ ?_ ?_)
  ·rintro i u ρ hu ⟨a3,a4,rfl,hno⟩;obtain ⟨hi,rfl⟩:=W1 hu;obtain ⟨x,y,er⟩:=hsel i hi;have b0:L2.atI [tC (sC c es i),x,y] 0=some (tC (sC c es i)):=rfl;have hl:=hsl i hi;have ku:=lb (t:=t) (d:=sC c es i) (by omega) (by omega);refine ⟨_,rfl,?_⟩;exists er,b0,ku;refine R4 (λh=>?_) (λh=>?_)
   ·obtain ⟨_,ec,bs,rfl,hbs,hld⟩:=kc i (by omega);obtain ⟨hgo,hfit2⟩:=hld _ hfit;have k2:=ks bs hgo;have hcv:j2 (vF b.length (w4 ms bs λp=>b.getD p 0)) t=true:=cov_iff.mpr λp hp=>by
     rw[C5]at hp;rw[t9 hp];obtain ⟨f1,f2⟩:=hfit2 p hp;have hu:=dU h (k:=p) (by rw[qA1];omega);rw[J7 (by omega)]at hu;cases q:(sC c es i).getD p none with
     | none=>
      have:L6 t<=w4 ms bs (λp=>b.getD p 0) p:=f2 q
      have:=max_le (t:=t) (p:=p) (by omega)
      omega
     | some v=>
      rw[q]at hu;have hu:t.getD p 0<=v:=of_decide_eq_true hu;rw[f1 v q];exact hu
    have k3:=aD (a:=vF b.length (w4 ms bs λp=>b.getD p 0)) (b:=t) (by rw[C5];omega) (by rw[C5];exact ht);rw[hcv]at k3;obtain ⟨bw,hbw⟩:∃bw,bw=bs.map blW:=⟨_,rfl⟩;rw[<- hbw]at ec k2;generalize vF b.length (w4 ms bs λp=>b.getD p 0)=V at *
    exists kb,ec,am0,k2,k3
   ·exists rp18;refine ⟨_,_,rfl,λk hk=>?_⟩;by_cases e:k=i
    ·rw[e];exact h
    ·exact hno k (by omega)
  ·rintro ρ ⟨a3,a4,rfl,hno⟩;rw[qA1,qE8]at hno;obtain ⟨n,hn,hu⟩:=hex;rw[hno n (by omega)]at hu;cases hu
 obtain ⟨v,e,rfl⟩:=fin;exact e
theorem pX {ns:List Int}(hb:∀x∈ns,Builtin.Int.intBits x<=1048576){b:List Int}{ms:List Mv}{cw:W}{f:Int}(h1:1<=b.length) (h6:b.length<=6) (hm:∀m∈ms,okN b.length m) (h8:ms.length<=8) (hf:1<=f/\f<=100000001) (hcw:cw=.non\/∃ts:List Cap,cw=.lst (ts.map tC)/\0<ts.length/\ts.length<=100/\∀d∈ts,d.length=b.length):Ok (U3 [.scr (ns.map W.int),tI b,.lst (ms.map mW),cw,.int f]) λw=>∃t:List Int,w=tI t/\t.length=b.length:=by
 obtain ⟨_,e5,c,rfl⟩:=w8 hb (k:=5) (by omega) (by omega);have m0:=Int.emod_nonneg (c/4) (show (b.length:Int)≠0 by omega);have m1:=qM0 (c/4) (show (0:Int)<(b.length:Int) by omega);obtain ⟨pl,hpl⟩:∃pl:Nat,c/4%(b.length:Int)=(pl:Int):=⟨(c/4%(b.length:Int)).toNat,by omega⟩;have hpl2:pl<b.length:=by omega
 obtain ⟨_,kd,t1,rfl,ht1⟩:=vN hb (n:=b.length) (b:=b) (ms:=ms) (by omega) hm h8 rfl;exists rpB,bH,e5,hpl;refine n9 (W4 (λh=>?_) (λh=>?_))
 ·exists rp18;refine mM (cq (n:=b.length) (λ_ _=>True) (by omega) (λk hk=>?_) λt0 htl0 _=>?_)
  ·obtain ⟨_,ek,z,rfl⟩:=w8 hb (k:=7+(k:Int)) (by omega) (by omega);refine ⟨_,rfl,?_⟩;exists ek;exact ⟨_,rfl,_,rfl⟩
  exact ⟨t0,rfl,htl0⟩
 exists rp18;refine W4 (λh=>?_) (λh=>?_)
 ·exists rp18;refine mM (cq (n:=b.length) (λ_ _=>True) (by omega) (λk hk=>?_) λt0 htl0 _=>?_)
  ·obtain ⟨_,ek,z,rfl⟩:=w8 hb (k:=7+(k:Int)) (by omega) (by omega);obtain ⟨y,ey,y0,y1⟩:=oS (decide ((k:Int)=(pl:Int)));refine ⟨_,rfl,?_⟩;exists ek,ey;exact ⟨_,rfl,_,rfl⟩
  exact ⟨t0,rfl,htl0⟩
 exists kd;refine W6 (λρ=>∃(t:List Int) (a8 a9:Sl),ρ = [.par (.scr (ns.map W.int)),.par (tI b),.par (.lst (ms.map mW)),.par cw,.par (.int f),.val (.int c),.val (.int (pl:Int)),.own (t.map W.int),a8,a9]/\t.length=b.length) ?_ ?_
 ·rcases hcw with rfl|⟨ts,rfl,ht0,ht100,hts⟩
  ·have n1:F1 true .non .non=.ok (.bl false):=rfl;exists n1;exact ⟨t1,_,_,rfl,ht1⟩
  ·have n1:F1 true (.lst (ts.map tC)) .non=.ok (.bl true):=rfl;have j0:=Int.emod_nonneg (c/16) (show (ts.length:Int)≠0 by omega);have j1:=qM0 (c/16) (show (0:Int)<(ts.length:Int) by omega);have ac:=Y0 tC (as:=ts) (d:=[]) (i:=c/16%(ts.length:Int)) ⟨j0,j1⟩;have hcl:=hts (ts.getD (c/16%(ts.length:Int)).toNat []) (by rw[qA0];simp [show (c/16%(ts.length:Int)).toNat<ts.length by omega]);generalize ts.getD (c/16%(ts.length:Int)).toNat []=cap at ac hcl
   obtain ⟨tw,htw⟩:∃tw,tw=ts.map tC:=⟨_,rfl⟩;have htl:tw.length=ts.length:=by rw[htw,qA1]
   rw[<- htw]at n1 ac ⊢;exists n1;cases q:decide (c%4=3) with
   | false=>
    exists rp18;exact ⟨t1,_,_,rfl,ht1⟩
   | true=>
    exists htl,ac;refine W5 (λi ρ=>∃(t:List Int) (a9:Sl),ρ = [.par (.scr (ns.map W.int)),.par (tI b),.par (.lst (ms.map mW)),.par (.lst tw),.par (.int f),.val (.int c),.val (.int (pl:Int)),.own (t.map W.int),.par (tC cap),a9]/\t.length=b.length) ⟨t1,_,rfl,ht1⟩ ?_ ?_
    ·rintro i w ρ hw ⟨t,a,rfl,htl⟩;obtain ⟨hi,rfl⟩:=W1 hw;have d1:=atO (cs:=cap) (k:=i) (by omega);obtain ⟨_,ek,z,rfl⟩:=w8 hb (k:=7+(i:Int)) (by omega) (by omega);refine ⟨_,rfl,?_⟩
     revert d1
     cases cap.getD i none with
     | none=>
      intro d1;have d1:L2.atI (cap.map oW) (i:Int)=some .non:=d1;exists d1,ek;exact ⟨t.set i (z/3%(4*f)),.par (.int (i:Int)),by simp,by rw[qD7];exact htl⟩
     | some y=>
      intro d1;have d1:L2.atI (cap.map oW) (i:Int)=some (.int y):=d1;exists d1;exact ⟨t.set i y,.par (.int (i:Int)),by simp,by rw[qD7];exact htl⟩
    ·rintro ρ ⟨t,a,rfl,htl⟩;exact ⟨t,_,_,rfl,htl⟩
 rintro ρ ⟨t,a8,a9,rfl,htl⟩;exists rp18;exact ⟨t.set pl (t.getD pl 0+c/64%2),by simp,by rw[qD7];exact htl⟩
theorem oX {n:Nat}{ms:List Mv}{b t:List Int}{most:Nat}{w:W}(ht:t.length=n) (h:covP ms b t most w):(∃j,w=.tup [.str "row",lI (O2 ms t j b)]/\h9 b (Bk ms t j)=true/\∀i,i<j->h9 b (Bk ms t i)=false)\/(∃j,w=.tup [.str "wall",lS (Bk ms t j)]/\h9 b (Bk ms t j)=false/\O1 ms (Bk ms t j)=true)\/∃z,w=.tup [.str "open",.int z]:=by
 obtain ⟨j,a,⟨l,rfl⟩|⟨l,ne,rfl⟩⟩:=h
 ·exact .inl ⟨j,rfl,l,λi hi=>(a i hi).1⟩
 ·rcases rW ms t most "wall" j with q|q|⟨q,_,hsh⟩
  ·exact absurd q ne
  ·exact .inr (.inr ⟨_,q⟩)
  ·exact .inr (.inl ⟨j,q,l,hsh⟩)
theorem tu {n:Nat}{ms:List Mv}{b t s:List Int}{j:Nat}(hb:b.length=n) (ht:t.length=n) (l:h9 b (Bk ms t j)=false) (hsh:O1 ms (Bk ms t j)=true) (hs:Rch ms b s):j2 s t=false:=by
 have:=hs.out (Y1 (ms:=ms) ht j).len hsh hb l
 cases c:j2 s t with
 |false=>rfl
 | true=>
  rw[gM ht j (by rw[hs.len];exact hb) c]at this;cases this
theorem law_pure (ns:List Int) (h:ns.length<=63) (hb:∀x∈ns,Builtin.Int.intBits x<=1048576):jr [.scr (ns.map W.int)]=.ok (.bl true):=by
 have fin:Ok (jr [.scr (ns.map W.int)]) λv=>v=.bl true:=by
  obtain ⟨_,e0,c0,rfl⟩:=w8 hb (k:=0) (by omega) (by omega);obtain ⟨_,e1,c1,rfl⟩:=w8 hb (k:=1) (by omega) (by omega);obtain ⟨_,e2,c2,rfl⟩:=w8 hb (k:=2) (by omega) (by omega);obtain ⟨_,e3,c3,rfl⟩:=w8 hb (k:=3) (by omega) (by omega);obtain ⟨_,e4,c4,rfl⟩:=w8 hb (k:=4) (by omega) (by omega);obtain ⟨_,e6,c6,rfl⟩:=w8 hb (k:=6) (by omega) (by omega);obtain ⟨n,hn⟩:∃m:Nat,2+c0%3=(m:Int):=⟨(2+c0%3).toNat,by omega⟩;obtain ⟨most,hmo⟩:∃m:Nat,1+c1%16=(m:Int):=⟨(1+c1%16).toNat,by omega⟩;obtain ⟨M,hM⟩:∃m:Nat,1+c4%5=(m:Int):=⟨(1+c4%5).toNat,by omega⟩;obtain ⟨mo2,hmo2⟩:∃m:Nat,1+c6%8=(m:Int):=⟨(1+c6%8).toNat,by omega⟩;have h1:1<=n:=by omega
  have h4:n<=4:=by omega
  exists rpB,wI,e0,e1,e2,hn,hmo,e3;refine n9 (W6 (λρ=>∃f:Int,ρ = [.par (.scr (ns.map W.int)),.val (.int (n:Int)),.val (.int (most:Int)),.val (.bl (decide (c2%3=1))),.val (.int f),.un,.un,.un,.un,.un,.un,.un,.un]/\1<=f/\f<=100000001) ?_ ?_)
  ·refine R4 (λh=>?_) (λh=>?_)
   ·exists e3;exact ⟨1+c3/4%100000000,rfl,by omega⟩
   ·exists rp18;exact ⟨1,rfl,by omega⟩
  rintro ρ ⟨f,rfl,hf⟩;exists e4,hM;refine p8 (λi ρ=>∃(ms:List Mv) (x:Sl),ρ = [.par (.scr (ns.map W.int)),.val (.int (n:Int)),.val (.int (most:Int)),.val (.bl (decide (c2%3=1))),.val (.int f),.own (ms.map mW),x,.un,.un,.un,.un,.un,.un]/\(∀m∈ms,okN n m/\ub m.1/\ub m.2)/\ms.length=i) ⟨[],_,rfl,by simp,rfl⟩ ?_ ?_
  ·rintro i w ρ hw ⟨ms,x,rfl,hms,hml⟩;obtain ⟨hi,rfl⟩:=W1 hw;have hni:0<=(n:Int)*(i:Int)/\(n:Int)*(i:Int)<=4*5:=⟨qH8 (by omega) (by omega),Int.mul_le_mul (by omega) (by omega) (by omega) (by omega)⟩;obtain ⟨_,em,m,rfl,hm⟩:=yy hb (a:=15+(n:Int)*(i:Int)) (f:=f) (n:=n) (pl:=decide (c2%3=1)) h1 (by omega) (by omega) (by omega) (by omega);refine ⟨_,rfl,?_⟩;exists em;refine ⟨ms ++ [m],_,by rw[qC6];rfl,λm' hm'=>?_,by simp [hml]⟩;rcases qE4.mp hm' with q|q
   ·exact hms m' q
   ·rw[qD0.mp q];exact hm
  rintro ρ ⟨ms,x,rfl,hms,hml⟩;rw[qA1,qE8]at hml;have h5:ms.length<=5:=by omega
  have hmN:∀m∈ms,okN n m:=λm h=>(hms m h).1;have hmM:∀m∈ms,okM n m:=λm h=>⟨(hmN m h).1,(hmN m h).2.1⟩;have hsm:O0 ms:=tZ hmN λm h=>(hms m h).2;exists rp18;refine mL (cq (λ_ z=>0<=z) (by omega) (λk hk=>?_) λb hbl hb0=>?_)
  ·obtain ⟨_,ek,z,rfl⟩:=w8 hb (k:=11+(k:Int)) (by omega) (by omega);refine ⟨_,rfl,?_⟩;exists ek;exact ⟨_,rfl,_,rfl,qH8 (by omega) (by omega)⟩
  have hbn:nn b:=λx hx=>by
   obtain ⟨k,hk,rfl⟩:=qE6.mp hx
   have:=hb0 k (by omega)
   rw[qA0,qA3 hk]at this;exact this
  subst hbl;have ct:=v5 (O7 b);have cm:chk (tM_ ms)=.ok (tM_ ms):=v5 (kE ms);obtain ⟨w,u,eg,ec,hw⟩:=vS (b:=b) (most:=most) h1 (by omega) hmN (by omega) (by omega) (by omega);have eg:N2 [.tup [tI b,tM_ ms],.int (most:Int)]=.ok w:=eg;have ec:dj [.tup [tI b,tM_ ms],.int (most:Int)]=.ok u:=ec;have hcl:(b.map some).length=b.length:=qA1 ..;have hcw:u=.non\/∃ts:List Cap,u=.lst (ts.map tC)/\0<ts.length/\ts.length<=100/\∀d∈ts,d.length=b.length:=by
   rcases hw with ⟨rfl,rfl⟩|⟨es,ts,rfl,hes,hK,rfl,q1,q2,q3,q4⟩
   ·exact .inl rfl
   ·refine .inr ⟨ts,rfl,?_,by omega,λd hd=>by rw[aP hK d (q1 d hd)];exact hcl⟩;obtain ⟨t,ht,_⟩:=q4 _ (qB1 (a:=b.map some) (l:=es.map (·.1)));exact List.length_pos_of_mem ht
  obtain ⟨_,kt,t,rfl,ht⟩:=pX hb (b:=b) (ms:=ms) (cw:=u) (f:=f) h1 (by omega) hmN (by omega) hf hcw;obtain ⟨w0,kc,pc⟩:=vT (b:=b) (t:=t) (most:=mo2) h1 (by omega) hmM h5 rfl ht (by omega);have a0:∀x y:W,L2.atI [x,y] 0=some x:=λ_ _=>rfl;have a1:∀x y:W,L2.atI [x,y] 1=some y:=λ_ _=>rfl;have s1:o8 false (W.str "row") (W.str "row")=.ok (.bl true):=rfl;have s1t:o8 true (W.str "row") (W.str "row")=.ok (.bl false):=rfl;have s2:o8 false (W.str "wall") (W.str "row")=.ok (.bl false):=rfl;have s2t:o8 true (W.str "wall") (W.str "row")=.ok (.bl true):=rfl;have s2o:o8 true (W.str "wall") (W.str "open")=.ok (.bl true):=rfl;have s2w:o8 true (W.str "wall") (W.str "wall")=.ok (.bl false):=rfl;have s2f:o8 false (W.str "wall") (W.str "wall")=.ok (.bl true):=rfl;have s1f:o8 false (W.str "row") (W.str "wall")=.ok (.bl false):=rfl;have s3:o8 false (W.str "open") (W.str "row")=.ok (.bl false):=rfl;have s3t:o8 true (W.str "open") (W.str "row")=.ok (.bl true):=rfl;have s3o:o8 true (W.str "open") (W.str "open")=.ok (.bl false):=rfl;have s3f:o8 false (W.str "open") (W.str "wall")=.ok (.bl false):=rfl;have g0:∀r:R Bool,TP.rAnd (.ok false) r=.ok false:=λr=>rfl;have g1:∀r:R Bool,TP.rOr (.ok true) r=.ok true:=λr=>rfl;have n1:∀x:List W,F1 false (.lst x) .non=.ok (.bl false):=λ_=>rfl;have n2:F1 false .non .non=.ok (.bl true):=rfl
  -- what is found is right
  have found:(∃rs,w0=.tup [.str "row",lI rs]/\P6 [lI rs,tI b,.lst (ms.map mW),tI t]=.ok (.bl true)/\∃s,Rch ms b s/\j2 s t=true)\/(∃L,w0=.tup [.str "wall",lS L]/\K5 [lS L,tI b,.lst (ms.map mW),tI t]=.ok (.bl true)/\∀s,Rch ms b s->j2 s t=false)\/∃z,w0=.tup [.str "open",.int z]:=by
   rcases oX ht pc with ⟨j,rfl,hl,hmin⟩|⟨j,rfl,l,hsh⟩|⟨z,rfl⟩
   ·obtain ⟨⟨s',hg,hs',hc'⟩,hr⟩:=jR ht j b rfl hl hmin;exact .inl ⟨_,rfl,yS (by omega) hmM rfl ht hr hg hc',s',lq _ b s' hr .beg hg,hc'⟩
   ·exact .inr (.inl ⟨_,rfl,vK (by omega) hmM rfl ht (Y1 (ms:=ms) ht j).len l (gM ht j ht (cov_iff.mpr λp _=>qG5 _)) hsh,λs hs=>tu rfl ht l hsh hs⟩)
   ·exact .inr (.inr ⟨z,rfl⟩)
  rcases hw with ⟨rfl,rfl⟩|⟨es,ts,rfl,hes,hK,rfl,q1,q2,q3,q4⟩
  ·rcases found with ⟨rs,rfl,kr,_⟩|⟨L,rfl,kf,_⟩|⟨z,rfl⟩
   ·exists ct,cm,ec,kt,e6,hmo2,kc,a0,a1,s1,s1t,kr,g0,n2
   ·exists ct,cm,ec,kt,e6,hmo2,kc,a0,a1,s2,s2t,s2o,s2w,kf,g0,n2
   ·exists ct,cm,ec,kt,e6,hmo2,kc,a0,a1,s3,s3t,s3o,g0,n2
  have hlen:∀d∈ts,d.length=b.length:=λd hd=>by rw[aP hK d (q1 d hd)];exact hcl
  have hany:∀s,Rch ms b s->j2 s t=true->F3 ts (t.map some)=true:=λs hR hc=>by
   obtain ⟨d,hd,hu⟩:=xE hK hmN q1 q4 hR;have hsl:=hR.len;exact qD3.mpr ⟨d,hd,zI (by omega) (by rw[hlen d hd];omega) hc hu⟩
  have hno:(∀s,Rch ms b s->j2 s t=false)->F3 ts (t.map some)=false:=λho=>by
   unfold F3;rw[qH1];intro d hd hu;obtain ⟨N,_,hN⟩:=bnd (λp=>t.getD p 0) b.length;obtain ⟨s,g1,g2,g3⟩:=sA hK (λm h=>(hmN m h).1) (q1 d hd) N;have hc:j2 s t=true:=cov_iff.mpr λp hp=>by
    have hp':p<b.length:=by omega
    obtain ⟨r1,r2⟩:=g3 p hp';have hup:=dU hu (k:=p) (by rw[qA1];omega);rw[J7 (by omega)]at hup;cases q:d.getD p none with
    | none=>
     have:=r2 q
     have:t.getD p 0<=N:=hN p hp'
     omega
    | some v=>
     rw[q]at hup;have hup:t.getD p 0<=v:=of_decide_eq_true hup;rw[r1 v q];exact hup
   rw[ho s g1]at hc;cases hc
  have kcl:F3 ts (t.map some)=true->F9 [.tup [tI b,tM_ ms],.lst (g8 (b.map some) es),tI t]=.ok (.bl true):=λha=>by
   obtain ⟨d,hd,hu⟩:=qD3.mp ha;obtain ⟨a,ha,ea⟩:=eX (q1 d hd);exact sw h1 (by omega) hbn hmN hsm (by omega) hK ht ⟨a,ha,by rw[<- ea];exact hu⟩
  have ecv:∀N mg mc me ρ (h:∀d∈ts,∃ρ1,mg (tC d) (ρ++List.replicate (N-ρ.length) Sl.un)=some ρ1/\mc ρ1=.ok (g9 (t.map some) d)/\(g9 (t.map some) d=true->me ρ1=.ok (tC d))),l6 N mg mc me (ts.map tC) ρ=.ok (.lst ((ts.filter (g9 (t.map some))).map tC)):=λN mg mc me ρ h=>K2 tC tC (g9 (t.map some)) ts ρ (by omega) h;have hfp:=zk (f:=g9 (t.map some)) (l:=ts);have hfa:ts.any (g9 (t.map some))=F3 ts (t.map some):=rfl;rw[hfa]at hfp;obtain ⟨tw,htw⟩:∃tw,tw=ts.map tC:=⟨_,rfl⟩;obtain ⟨rw_,hrw⟩:∃rw_,rw_=g8 (b.map some) es:=⟨_,rfl⟩;rw[<- hrw]at eg kcl;have turn:∀d∈ts,K4 [tI t,tC d]=.ok (.bl (g9 (t.map some) d))/\chk (tC d)=.ok (tC d):=λd hd=>⟨lb (t:=t) (d:=d) (by rw[hlen d hd];omega) (by rw[hlen d hd];exact ht),v5 (show noL (tC d)=true from B3 d)⟩;rcases found with ⟨rs,rfl,kr,s,hR,hc⟩|⟨L,rfl,kf,ho⟩|⟨z,rfl⟩
  ·have hA:=hany s hR hc;rw[hA]at hfp;exists ct,cm,ec,kt,e6,hmo2,kc,a0,a1,s1,s1t,kr,g0,n1;rw[ecv]
   ·exists a0,hfp,s1,s1f,g0,eg,kcl hA
   ·intro d hd;obtain ⟨k1,cd⟩:=turn d hd;refine ⟨_,rfl,?_,λ_=>?_⟩
    ·exists k1
    ·exists cd
  ·have hA:=hno ho;rw[hA]at hfp;exists ct,cm,ec,kt,e6,hmo2,kc,a0,a1,s2,s2t,s2o,s2w,kf,g0,n1;rw[ecv]
   ·exists a0,hfp,s2,s2f,g0
   ·intro d hd;obtain ⟨k1,cd⟩:=turn d hd;refine ⟨_,rfl,?_,λ_=>?_⟩
    ·exists k1
    ·exists cd
  ·exists ct,cm,ec,kt,e6,hmo2,kc,a0,a1,s3,s3t,s3o,g0,n1;rw[ecv]
   ·cases hA:F3 ts (t.map some) with
    | true=>
     rw[hA]at hfp;exists a0,hfp,s3,s3f,g0,eg,kcl hA
    | false=>
     rw[hA]at hfp;exists a0,hfp,s3,s3f,g0
   ·intro d hd;obtain ⟨k1,cd⟩:=turn d hd;refine ⟨_,rfl,?_,λ_=>?_⟩
    ·exists k1
    ·exists cd
 obtain ⟨v,e,rfl⟩:=fin;exact e
end K94
set_option maxHeartbeats 4000000
open PySem L2 TP
namespace K94
def y6 {K:Frag}{d:Mode}:=(jp (K:=K) (d:=d) (g:=x6) (λ_ _=>rfl) (λ_ _ _=>.int))
def bN {K:Frag}{d:Mode}:=(jp (K:=K) (d:=d) (g:=gSub) (λ_ _=>rfl) (λ_ _ _=>.int))
def xLt {K:Frag}{d:Mode}:=(jp (K:=K) (d:=d) (g:=gLt) (λ_ _=>rfl) (λ_ _ _=>.bl))
def xGt {K:Frag}{d:Mode}:=(jp (K:=K) (d:=d) (g:=gGt) (λ_ _=>rfl) (λ_ _ _=>.bl))
local macro_rules | `(tactic| trivial)=>`(tactic| first | exact Or.inl rfl | exact Or.inr rfl | exact Or.inr (Or.inl rfl) | exact Or.inr (Or.inr rfl) | assumption | exact ⟨rfl,rfl,rfl,by decide +kernel,rfl,by decide +kernel,by decide +kernel⟩ | exact Room.mono (by assumption) (by decide) | exact ⟨rfl,by decide +kernel,by decide +kernel,by decide +kernel,by decide +kernel,by decide,by decide +kernel,by decide +kernel⟩)
abbrev hk (w:World):Frag:=rM w.params
structure Blt (mg:Str->Option Value):Prop where
 all_:mg "all" = none
 enumerate_:mg "enumerate" = none
 int_:mg "int" = none
 len_:mg "len" = none
 list_:mg "list" = none
 max_:mg "max" = none
 range_:mg "range" = none
 reversed_:mg "reversed" = none
 sorted_:mg "sorted" = none
 tuple_:mg "tuple" = none
 zip_:mg "zip" = none
def En (w:World)(mg:Str->Option Value):Prop:=∃h:Heap,(hk w).In h/\h.Ns mainGlobals mg
theorem bn {w:World}{mg:Str->Option Value}(Y:En w mg){x:Str}(e:PySem.W.nsIn (hk w) mainGlobals x=some none):mg x=none:=Y.elim λ_ q=>PySem.W.mg_none_of q.1 q.2 e
theorem bl {w:World}{mg:Str->Option Value}(Y:En w mg):Blt mg:=⟨bn Y (by kernel_rfl),bn Y (by kernel_rfl),bn Y (by kernel_rfl),bn Y (by kernel_rfl),bn Y (by kernel_rfl),bn Y (by kernel_rfl),bn Y (by kernel_rfl),bn Y (by kernel_rfl),bn Y (by kernel_rfl),bn Y (by kernel_rfl),bn Y (by kernel_rfl)⟩
abbrev FD (nm:String)(i:Nat)(pm:Value)(c:Nat):FuncData:=PySem.W.fnOf nm nm (Q6 (top i)) (E1 (top i)) (b9 (top i)) .none .none .none pm none (.ref c) .none
theorem dk {w:World}{mg:Str->Option Value}(Y:En w mg){nm:String}{i c:Nat}{f:Addr}{pm:Value}{ps:List Str}
  (e:(PySem.W.nsIn (hk w) mainGlobals nm,(hk w).lookup f,PySem.W.codeIn (hk w) (.ref c) nm,PySem.W.keepIn (hk w) (.ref f))=(some (some (.ref f)),some (hxG nm i pm c),true,true))
  (hb:∀(kV doc pm:Value) (an:Option Addr) (cdv ct:Value) (us:List Value),us.length=ps.length->bindArgs (PySem.W.fnOf nm nm (Q6 (top i)) (E1 (top i)) (b9 (top i)) .none kV doc pm an cdv ct) ⟨us,[]⟩=pure (ps.zip us)):Def (hk w) mg nm (top i) ps f (FD nm i pm c):=by
 obtain ⟨h,X,G⟩:=Y;injection e with a e
 injection e with l e
 injection e with c k
 have F:=DM (st:=top i) l c k;exact ⟨F,PySem.W.mg_of X G a,F.binds hb⟩
theorem okF {P:Program}{w:World}{K:Frag}{mg:Str->Option Value}{base:Heap}{x:Str}{st:Stmt}{ps:List Str}{f:Addr}{fd:FuncData}(D:Def K mg x st ps f fd){N:List Str}{k n l:Nat}{d:Mode}{m:Rho->R Fl}(S:d7 N ps (b9 st)) (hd:d=.F\/d=.V) (hn:ps.length=n) (hl:N.length=l) (b:∀{cdv:Value}{A:Around}{outer:List Env}{s:Shared}{H:Hp}{E:XK},Room k (A.deeper (PyProof.Rows.envOfC x (b9 st) s.heap.objs.size f cdv))->PSs (bt CX0 P w K mg base N x (b9 st) f cdv A outer s H E).nox (E1 st) (tSt K (λ_ _=>False) d m)):FnOk P w K mg base CX0 (k+1) f fd ps (spM K n d (f9 n l m)):=by
 subst hn hl;exact D.F.ok S (λ_ _ _ _ h=>h.1) λcdv A outer s H vs Q E hr h=>⟨_,b hr,EQ hd h⟩
theorem okI {P:Program}{w:World}{K:Frag}{mg:Str->Option Value}{base:Heap}{x:Str}{st:Stmt}{ps:List Str}{f:Addr}{fd:FuncData}(D:Def K mg x st ps f fd){N:List Str}{k n l:Nat}{m:Addr->Rho->R Fl}(S:d7 N ps (b9 st)) (hn:ps.length=n) (hl:N.length=l) (b:∀(p:Addr){cdv:Value}{A:Around}{outer:List Env}{s:Shared}{H:Hp}{E:XK},Room k (A.deeper (PyProof.Rows.envOfC x (b9 st) s.heap.objs.size f cdv))->PSs (bt CX0 P w K mg base N x (b9 st) f cdv A outer s H E).nox (E1 st) (tStI K (λ_ _=>False) p (m p))):FnOk P w K mg base CX0 (k+1) f fd ps (gc K n (F6 n l m)):=by
 subst hn hl;exact D.F.ok S (λ_ _ _ _ h=>h.1) λcdv A outer s H vs Q E hr h=>(zT h).elim λp q=>⟨_,b p hr,q⟩
theorem okX {P:Program}{w:World}{K:Frag}{mg:Str->Option Value}{base:Heap}{x:Str}{st:Stmt}{ps:List Str}{f:Addr}{fd:FuncData}(D:Def K mg x st ps f fd){N:List Str}{k n l:Nat}{m:Rho->R Fl}(S:d7 N ps (b9 st))  (hn:ps.length=n) (hl:N.length=l) (b:∀{cdv:Value}{A:Around}{outer:List Env}{s:Shared}{H:Hp}{E:XK},Room k (A.deeper (PyProof.Rows.envOfC x (b9 st) s.heap.objs.size f cdv))->PSs (bt CX0 P w K mg base N x (b9 st) f cdv A outer s H E).nox (E1 st) (tSt K (λ_ _=>False) .V m)):FnOk P w K mg base CX0 (k+1) f fd ps (spX K n (M6 n l m)):=by
 subst hn hl;exact D.F.ok S (λ_ _ _ _ h=>h.1) λcdv A outer s H vs Q E hr h=>⟨_,b hr,zS h⟩
theorem qcD {X:Cx}{K:Frag}{d:Mode}{e:Expr}{es:List Expr}{pos:Pos}{mr:Rho->R (List W)}{k:Nat}{f:Addr}{fd:FuncData}{ps:List Str}{x:Str}{st:Stmt}{p:Pos}{n N:Nat}{m:Rho->R Fl}(F:FnOk X.prog X.w X.K X.mg X.base CX0 k f fd ps (spM K n d (f9 n N m))) (D:Def X.K X.mg x st ps f fd)
  (ha:PA X (e::es) (tA K (λ_ _=>False) .B mr)) (hd:d=.F\/d=.V:=by first|exact .inl rfl|exact .inr rfl) (hr:Room k X.A:=by exact Room.mono (by assumption) (by decide)) (hg:Gl X x:=by rfl) (hdb:(x == ("__debug__" : Str))=false:=by decide) (he:starEach (e::es) X.env=(false,eval e X.env)::starEach es X.env:=by rfl) (hpl:(backTo pos (starEach es X.env)).any (·.1)=false:=by rfl) :
  PE X (.Call (.Name x p) (e::es) [] pos) (tM K (λ_ _=>False) d (bA (f9 n N m) mr)):=BZ F hd hr hg D.m D.F.kp D.b ha hdb he hpl
theorem m9 {X:Cx}{K:Frag}{EX:EXT}{cs:Scope}{N':List Str}{n:Nat}{tg iter elt:Expr}{ifs:List Expr}{dd:Mode}{g:TG}{mg:W->Rho->Option Rho}{mi:Rho->R (List W)}{ta:Rho->R Bool}{ma:Rho->R W}{pos:Pos}(S:f7 X.env.scope cs X.N N') (hc:X.calm=true) (hi:PI X tg iter (tIt K EX false dd mi))
  (hg:∀cl ex s H,PG (j6 X cs cl N' ex s H) tg g) (hgt:Gt K dd g mg) (hk:S1 X.N.length g) (ht:∀cl ex s H,PIf (j6 X cs cl N' ex s H) ifs (tT K EX ta)) (he:∀cl ex s H,PE (j6 X cs cl N' ex s H) elt (tM K EX .V ma))
  (hn:N'.length=n:=by rfl) (hs:∀x,foldedSetIterable iter X.env x=pure x:=by intro _;rfl):PE X (.ListComp elt [⟨tg,iter,ifs,0⟩] cs pos) (tM K EX .F (n5 n mi mg ta ma)):=by
 subst hn;exact BX S hc hi hg hgt hk ht he hs
theorem gu {X:Cx}{K:Frag}{EX:EXT}{d:Mode}{i n:Nat}{y:Str}{py:Pos}{cs:Scope}{N':List Str}{tg iter elt:Expr}{ifs:List Expr}{dd:Mode}{g:TG}{mg:W->Rho->Option Rho}{mi:Rho->R (List W)}{ta:Rho->R Bool}{ma:Rho->R W}{cpos pos:Pos}(S:f7 X.env.scope cs X.N N') (hc:X.calm=true) (hi:PI X tg iter (tIt K EX false dd mi))
  (hg:∀cl ex s H,PG (j6 X cs cl N' ex s H) tg g) (hgt:Gt K dd g mg) (hk:S1 X.N.length g) (ht:∀cl ex s H,PIf (j6 X cs cl N' ex s H) ifs (tT K EX ta)) (he:∀cl ex s H,PE (j6 X cs cl N' ex s H) elt (tM K EX .V ma))
  (hN:X.N.Nodup) (hy:X.N[i]?=some y) (hl:Loc X.env.scope y)
  (hn:N'.length=n:=by rfl) (hsw:swapsWith (.ListComp elt [⟨tg,iter,ifs,0⟩] cs cpos) (some (.Name y py)) pos.line X.env=pure true:=by rfl) (hf:X.fn y=true\/X.env.scope.names.lookup y=some .local:=by first|exact .inl rfl|exact .inr rfl|assumption)
  (hs:∀x,foldedSetIterable iter X.env x=pure x:=by intro _;rfl):PS X (.Assign [.Name y py] (.ListComp elt [⟨tg,iter,ifs,0⟩] cs cpos) pos) (tSt K EX d (sF i (n5 n mi mg ta ma))):=by
 subst hn;exact BO S hc hi hg hgt hk ht he hN hy hl hsw hf hs
theorem us0 {P:List Value->Prop}(h:P []):∀us:List Value,us.length=0->P us:=λus e=>by
 rw[List.length_eq_zero_iff.mp e];exact h
theorem us1 {P:List Value->Prop}(h:∀a0,P [a0]):∀us:List Value,us.length=1->P us:=λus e=>by
 cases us with
 |nil=>cases e
 |cons a us=>exact us0 (P:=λus=>P (a::us)) (h a) us (Nat.succ.inj e)
theorem us2 {P:List Value->Prop}(h:∀a0 a1,P [a0,a1]):∀us:List Value,us.length=2->P us:=λus e=>by
 cases us with
 |nil=>cases e
 |cons a us=>exact us1 (P:=λus=>P (a::us)) (λa1=>h a a1) us (Nat.succ.inj e)
theorem us3 {P:List Value->Prop}(h:∀a0 a1 a2,P [a0,a1,a2]):∀us:List Value,us.length=3->P us:=λus e=>by
 cases us with
 |nil=>cases e
 |cons a us=>exact us2 (P:=λus=>P (a::us)) (λa1 a2=>h a a1 a2) us (Nat.succ.inj e)
theorem us4 {P:List Value->Prop}(h:∀a0 a1 a2 a3,P [a0,a1,a2,a3]):∀us:List Value,us.length=4->P us:=λus e=>by
 cases us with
 |nil=>cases e
 |cons a us=>exact us3 (P:=λus=>P (a::us)) (λa1 a2 a3=>h a a1 a2 a3) us (Nat.succ.inj e)
theorem us5 {P:List Value->Prop}(h:∀a0 a1 a2 a3 a4,P [a0,a1,a2,a3,a4]):∀us:List Value,us.length=5->P us:=λus e=>by
 cases us with
 |nil=>cases e
 |cons a us=>exact us4 (P:=λus=>P (a::us)) (λa1 a2 a3 a4=>h a a1 a2 a3 a4) us (Nat.succ.inj e)
theorem eA:d7 ["stand","other","number","wanted"] ["stand","other"] (b9 (top 4)):=by trivial
theorem AU:d7 ["stand","move"] ["stand","move"] (b9 (top 5)):=by trivial
theorem uf:d7 ["move"] ["move"] (b9 (top 7)):=by trivial
theorem xu:d7 ["stand","move"] ["stand","move"] (b9 (top 6)):=by trivial
theorem jL:d7 ["stand","basis","low"] ["stand","basis"] (b9 (top 10)):=by trivial
theorem ge:d7 ["stands","found","stand"] ["stands"] (b9 (top 9)):=by trivial
theorem ud:d7 ["stand","move"] ["stand","move"] (b9 (top 11)):=by trivial
theorem bV:d7 ["moves","basis","found","move"] ["moves","basis"] (b9 (top 12)):=by trivial
theorem lX:d7 ["moves","basis"] ["moves","basis"] (b9 (top 13)):=by trivial
theorem qu:d7 ["moves","basis"] ["moves","basis"] (b9 (top 14)):=by trivial
theorem jM:d7 ["stand","other"] ["stand","other"] (b9 (top 15)):=by trivial
theorem ef:d7 ["moves","rings","most","word","ring","number"] ["moves","rings","most","word"] (b9 (top 18)):=by trivial
theorem jK:d7 ["stand","moves","ring"] ["stand","moves","ring"] (b9 (top 20)):=by trivial
theorem D5:d7 ["moor","rings","row","here","ring","number"] ["moor","rings"] (b9 (top 19)):=by trivial
theorem gf:d7 ["moor","target","most","rings","told"] ["moor","target","most"] (b9 (top 17)):=by trivial
theorem gd:d7 ["cap","other","number","bound"] ["cap","other"] (b9 (top 22)):=by trivial
theorem dA:d7 ["cap","caps","other"] ["cap","caps"] (b9 (top 23)):=by trivial
theorem nY:d7 ["cap","move"] ["cap","move"] (b9 (top 24)):=by trivial
theorem lY:d7 ["cap","move"] ["cap","move"] (b9 (top 25)):=by trivial
theorem ue:d7 ["cap","elder"] ["cap","elder"] (b9 (top 26)):=by trivial
theorem nX:d7 ["cap"] ["cap"] (b9 (top 28)):=by trivial
theorem jJ:d7 ["caps","found","cap"] ["caps"] (b9 (top 27)):=by trivial
theorem U7:d7 ["tree","number","numbers","at"] ["tree","number"] (b9 (top 31)):=by trivial
theorem bW:d7 ["moor","tree","at","number","move","cap","elder"] ["moor","tree","at","number"] (b9 (top 30)):=by trivial
theorem V9:d7 ["moor","most","tree","at","number"] ["moor","most"] (b9 (top 29)):=by trivial
theorem mE:d7 ["moor","most","tree"] ["moor","most"] (b9 (top 32)):=by trivial
theorem qt:d7 ["moor"] ["moor"] (b9 (top 39)):=by trivial
theorem aU:d7 ["moor","row","needed","number"] ["moor","row"] (b9 (top 34)):=by trivial
theorem qq:d7 ["stand","step","times"] ["stand","step","times"] (b9 (top 38)):=by trivial
theorem aT:d7 ["moor","row","total","number"] ["moor","row"] (b9 (top 35)):=by trivial
theorem jN:d7 ["moor","stand","row","times","needed","last"] ["moor","stand","row","times"] (b9 (top 37)):=by trivial
theorem M5:d7 ["moor","stand","blocks","here","at","block","row","times"] ["moor","stand","blocks"] (b9 (top 36)):=by trivial
theorem Fp:d7 ["tree","number"] ["tree","number"] (b9 (top 41)):=by trivial
theorem bC:d7 ["tree","elder","number","path"] ["tree","elder","number"] (b9 (top 42)):=by trivial
theorem eZ:d7 ["moor","tree","number","row"] ["moor","tree","number"] (b9 (top 44)):=by trivial
theorem E7:d7 ["moor","tree","number","found","cap","elder","higher","places"] ["moor","tree","number"] (b9 (top 43)):=by trivial
theorem K7:d7 ["moor","row","times","wanted","needed","step","first_and_last"] ["moor","row","times","wanted"] (b9 (top 47)):=by trivial
theorem lW:d7 ["cap","step","places","wanted"] ["cap","step","places","wanted"] (b9 (top 46)):=by trivial
theorem D6:d7 ["moor","tree","number","height","wanted","blocks","at","cap","elder","places","row","times"] ["moor","tree","number","height"] (b9 (top 45)):=by trivial
theorem aa:d7 ["_law_script","_law_k","_law_number"] ["_law_script","_law_k"] (b9 (top 49)):=by trivial
theorem x9:d7 ["_law_script","_law_at","_law_many","_law_plain","_law_times","_law_take","_law_put","_law_p","_law_cell_here","_law_one","_law_other"] ["_law_script","_law_at","_law_many","_law_plain","_law_times"] (b9 (top 50)):=by trivial
theorem bE:d7 ["_law_stand","_law_other","_law_p"] ["_law_stand","_law_other"] (b9 (top 51)):=by trivial
theorem jb:d7 ["_law_stand","_law_move_here"] ["_law_stand","_law_move_here"] (b9 (top 52)):=by trivial
theorem J8:d7 ["_law_script","_law_begin","_law_moves","_law_stand","_law_k","_law_goers"] ["_law_script","_law_begin","_law_moves"] (b9 (top 53)):=by trivial
theorem B8:d7 ["_law_script","_law_begin","_law_moves","_law_caps","_law_times","_law_cell_here","_law_place","_law_some","_law_cap","_law_p"] ["_law_script","_law_begin","_law_moves","_law_caps","_law_times"] (b9 (top 54)):=by trivial
theorem jP:d7 ["_law_stand","_law_cap"] ["_law_stand","_law_cap"] (b9 (top 55)):=by trivial
theorem U8:d7 ["_law_row_here","_law_begin","_law_moves","_law_target_here","_law_stand","_law_k"] ["_law_row_here","_law_begin","_law_moves","_law_target_here"] (b9 (top 56)):=by trivial
theorem bD:d7 ["_law_stand","_law_basis","_law_one"] ["_law_stand","_law_basis"] (b9 (top 57)):=by trivial
theorem W0:d7 ["_law_basis","_law_begin","_law_moves","_law_target_here","_law_one","_law_move_here"] ["_law_basis","_law_begin","_law_moves","_law_target_here"] (b9 (top 58)):=by trivial
theorem T9:d7 ["_law_land","_law_tree","_law_target_here","_law_number","_law_blocks"] ["_law_land","_law_tree","_law_target_here"] (b9 (top 59)):=by trivial
theorem J1:d7 ["_law_script","_law_many","_law_most","_law_plain","_law_times","_law_moves","_law_k","_law_begin","_law_land","_law_caps","_law_target_here","_law_found","_law_covered"] ["_law_script"] (b9 (top 60)):=by trivial
section
variable {P:Program}{w:World}{mg:Str->Option Value}{base:Heap}(Y:En w mg)
include Y
theorem aJ:Def (hk w) mg "covers" (top 4) ["stand","other"] 53 (FD "covers" 4 U1 52):=dk Y (by kernel_rfl) λ_ _ _ _ _ _=>us2 λ_ _=>rfl
theorem ba:FnOk P w (hk w) mg base CX0 1 53 (FD "covers" 4 U1 52) ["stand","other"] (spM (hk w) 2 .F N3):=
 okF (aJ Y) eA (.inl rfl) rfl rfl λhr=>(c7 (t7 qC5 rfl (qF (by rfl) (bl Y).zip_ (b6 (qv .U 0) (b6 (qv .U 1) b8))) (@C0 _ (hk w) _ _ _ _ 2 rfl (j8 (@d6 _ _ 2 _ eA.nd rfl (by trivial) (by trivial)) (j8 (@d6 _ _ 3 _ eA.nd rfl (by trivial) (by trivial)) B9)) (by rfl) (by rfl) (by rfl)) (F8 (.inr rfl) (j9 (.inr rfl) i2 (j9 (.inr rfl) i2 C2))) (c8 (k7 (i7 jo xLt (qv .B 2) (qv .B 3)) (c8 (f8 B6)) j7))) (c8 (f8 B6)))
theorem oU:Def (hk w) mg "able" (top 5) ["stand","move"] 60 (FD "able" 5 U1 59):=dk Y (by kernel_rfl) λ_ _ _ _ _ _=>us2 λ_ _=>rfl
theorem qS:FnOk P w (hk w) mg base CX0 2 60 (FD "able" 5 U1 59) ["stand","move"] (spM (hk w) 2 .F fH):=
 okF (oU Y) AU (.inl rfl) rfl rfl λhr=>(c8 (f8 (qcD (ba Y) (aJ Y) (b6 (qv .B 0) (b6 (f6 (d5 (qv .B 1) c9)) b8)))))
theorem dq:Def (hk w) mg "change" (top 7) ["move"] 70 (FD "change" 7 U1 69):=dk Y (by kernel_rfl) λ_ _ _ _ _ _=>us1 λ_=>rfl
theorem eJ:FnOk P w (hk w) mg base CX0 1 70 (FD "change" 7 U1 69) ["move"] (spM (hk w) 1 .F Q4):=
 okF (dq Y) uf (.inl rfl) rfl rfl λhr=>(c8 (f8 (A5 B0 (A9 (c:=true)) (by rfl) (bl Y).tuple_ o5 (b6 (d9 (m9 (show f7 (b9 (top 7)) _ ["move"] ["move","take","put"] from by trivial) rfl (W2 (by rfl) (bl Y).zip_ (b6 (f6 (d5 (qv .B 0) c9)) (b6 (f6 (d5 (qv .B 0) c9)) b8))) (λ_ _ _ _=>(@C0 _ (hk w) _ _ _ _ 2 rfl (j8 (@d6 _ _ 1 _ (by decide +kernel:(["move","take","put"]:List Str).Nodup) rfl (Or.inl rfl) (.inr rfl)) (j8 (@d6 _ _ 2 _ (by decide +kernel:(["move","take","put"]:List Str).Nodup) rfl (Or.inl rfl) (.inr rfl)) B9)) (by rfl) (by rfl) (by rfl))) (F8 (.inr rfl) (j9 (.inr rfl) i2 (j9 (.inr rfl) i2 C2))) (T0 (v4 (show 1<=1 by decide) (v4 (show 1<=2 by decide) T4))) (λ_ _ _ _=>t5) (λ_ _ _ _=>(d8 S7 bN (qv .B 2) (qv .B 1))))) b8))))
theorem lD:Def (hk w) mg "after" (top 6) ["stand","move"] 65 (FD "after" 6 U1 64):=dk Y (by kernel_rfl) λ_ _ _ _ _ _=>us2 λ_ _=>rfl
theorem mR:FnOk P w (hk w) mg base CX0 3 65 (FD "after" 6 U1 64) ["stand","move"] (spM (hk w) 2 .F aF):=
 okF (lD Y) xu (.inl rfl) rfl rfl λhr=>(c7 (k7 (B5 (q5 (i1 (d9 (qcD (qS Y) (oU Y) (b6 (qv .B 0) (b6 (qv .B 1) b8))))))) (c8 gx) j7) (c8 (f8 (A5 B0 (A9 (c:=true)) (by rfl) (bl Y).tuple_ o5 (b6 (d9 (m9 (show f7 (b9 (top 6)) _ ["stand","move"] ["stand","move","number","step"] from by trivial) rfl (W2 (by rfl) (bl Y).zip_ (b6 (qv .B 0) (b6 (i1 (d9 (qcD (eJ Y) (dq Y) (b6 (qv .B 1) b8)))) b8))) (λ_ _ _ _=>(@C0 _ (hk w) _ _ _ _ 2 rfl (j8 (@d6 _ _ 2 _ (by decide +kernel:(["stand","move","number","step"]:List Str).Nodup) rfl (Or.inl rfl) (.inr rfl)) (j8 (@d6 _ _ 3 _ (by decide +kernel:(["stand","move","number","step"]:List Str).Nodup) rfl (Or.inl rfl) (.inr rfl)) B9)) (by rfl) (by rfl) (by rfl))) (F8 (.inr rfl) (j9 (.inr rfl) i2 (j9 (.inr rfl) i2 C2))) (T0 (v4 (show 2<=2 by decide) (v4 (show 2<=3 by decide) T4))) (λ_ _ _ _=>t5) (λ_ _ _ _=>(d8 o0 y6 (qv .B 2) (qv .B 3))))) b8)))))
theorem aI:Def (hk w) mg "lifted" (top 10) ["stand","basis"] 84 (FD "lifted" 10 D2 83):=dk Y (by kernel_rfl) λ_ _ _ _ _ _=>us2 λ_ _=>rfl
theorem aZ:FnOk P w (hk w) mg base CX0 2 84 (FD "lifted" 10 D2 83) ["stand","basis"] (spM (hk w) 2 .F N1):=
 okF (aI Y) jL (.inl rfl) rfl rfl λhr=>(c7 (t7 qC5 rfl (D7 (qv .U 1)) (@d6 _ _ 2 _ jL.nd rfl (by trivial) (by trivial)) i2 (c8 (k7 (q5 (i1 (d9 (qcD (ba Y) (aJ Y) (b6 (qv .B 0) (b6 (qv .B 2) b8)))))) (c8 (f8 B6)) j7))) (c8 (f8 B6)))
theorem sd:Def (hk w) mg "least" (top 9) ["stands"] 77 (FD "least" 9 D2 76):=dk Y (by kernel_rfl) λ_ _ _ _ _ _=>us1 λ_=>rfl
theorem yi:FnOk P w (hk w) mg base CX0 3 77 (FD "least" 9 D2 76) ["stands"] (spM (hk w) 1 .F di):=
 okF (sd Y) ge (.inl rfl) rfl rfl λhr=>(c7 (h7 (i:=1) ge.nd rfl (by trivial) (y9 b8) (by rfl) (by trivial)) (c7 (t7 qC5 rfl (D7 (eG (x8 (u8 pe (EY (c:=false)) (by rfl) (bl Y).sorted_ iY (b6 (qv .B 0) b8))))) (@d6 _ _ 2 _ ge.nd rfl (by trivial) (by trivial)) i2 (c8 (k7 (B5 (q5 (i1 (d9 (qcD (aZ Y) (aI Y) (b6 (qv .B 2) (b6 (qv .B 1) b8))))))) (c8 (@O5 _ _ _ _ _ _ _ 1 _ _ _ _ rfl (by trivial) (qv .V 2) (by decide) (by decide) (by rfl) (by rfl) (by rfl) (by rfl) (by rfl))) j7))) (c8 (@C9 _ _ _ _ _ 1 _ _ (.inl rfl) (by rfl) (by trivial) (by decide) (by decide)))))
theorem ia:Def (hk w) mg "source" (top 11) ["stand","move"] 89 (FD "source" 11 D2 88):=dk Y (by kernel_rfl) λ_ _ _ _ _ _=>us2 λ_ _=>rfl
theorem ki:FnOk P w (hk w) mg base CX0 1 89 (FD "source" 11 D2 88) ["stand","move"] (spM (hk w) 2 .F bj):=
 okF (ia Y) ud (.inl rfl) rfl rfl λhr=>(c8 (f8 (A5 B0 (A9 (c:=true)) (by rfl) (bl Y).tuple_ o5 (b6 (d9 (m9 (show f7 (b9 (top 11)) _ ["stand","move"] ["stand","move","number","take","put"] from by trivial) rfl (W2 (by rfl) (bl Y).zip_ (b6 (qv .B 0) (b6 (f6 (d5 (qv .B 1) c9)) (b6 (f6 (d5 (qv .B 1) c9)) b8)))) (λ_ _ _ _=>(@C0 _ (hk w) _ _ _ _ 3 rfl (j8 (@d6 _ _ 2 _ (by decide +kernel:(["stand","move","number","take","put"]:List Str).Nodup) rfl (Or.inl rfl) (.inr rfl)) (j8 (@d6 _ _ 3 _ (by decide +kernel:(["stand","move","number","take","put"]:List Str).Nodup) rfl (Or.inl rfl) (.inr rfl)) (j8 (@d6 _ _ 4 _ (by decide +kernel:(["stand","move","number","take","put"]:List Str).Nodup) rfl (Or.inl rfl) (.inr rfl)) B9))) (by rfl) (by rfl) (by rfl))) (F8 (.inr rfl) (j9 (.inr rfl) i2 (j9 (.inr rfl) i2 (j9 (.inr rfl) i2 C2)))) (T0 (v4 (show 2<=2 by decide) (v4 (show 2<=3 by decide) (v4 (show 2<=4 by decide) T4)))) (λ_ _ _ _=>t5) (λ_ _ _ _=>(u8 (cS rfl) (b_2 (g:=cI)) (by rfl) (bl Y).max_ cU (b6 (qv .B 3) (b6 (d8 o0 y6 (d8 S7 bN (qv .B 2) (qv .B 4)) (qv .B 3)) b8)))))) b8))))
theorem eT:Def (hk w) mg "sources" (top 12) ["moves","basis"] 94 (FD "sources" 12 D2 93):=dk Y (by kernel_rfl) λ_ _ _ _ _ _=>us2 λ_ _=>rfl
theorem iD:FnOk P w (hk w) mg base CX0 2 94 (FD "sources" 12 D2 93) ["moves","basis"] (spM (hk w) 2 .F T6):=
 okF (eT Y) bV (.inl rfl) rfl rfl λhr=>(c7 (h7 (i:=2) bV.nd rfl (by trivial) (y9 b8) (by rfl) (by trivial)) (c7 (t7 qC5 rfl (D7 (qv .U 0)) (@d6 _ _ 3 _ bV.nd rfl (by trivial) (by trivial)) i2 (c8 (@Fz _ _ _ _ _ _ _ 2 true _ _ _ _ rfl (by trivial) (d9 (m9 (show f7 (b9 (top 12)) _ ["moves","basis","found","move"] ["moves","basis","found","move","stand"] from by trivial) rfl (M0 (qv .B 1)) (λ_ _ _ _=>(@d6 _ _ 4 _ (by decide +kernel:(["moves","basis","found","move","stand"]:List Str).Nodup) rfl (Or.inl rfl) (.inr rfl))) i2 (r9 (show 4<=4 by decide)) (λ_ _ _ _=>t5) (λ_ _ _ _=>(x8 (qcD (ki Y) (ia Y) (b6 (qv .B 4) (b6 (qv .B 3) b8))))))) (by rfl) (by decide) (by decide) (by rfl) (by rfl) (by rfl) (by rfl) (by rfl) (by rfl)))) (c8 (@C9 _ _ _ _ _ 2 _ _ (.inl rfl) (by rfl) (by trivial) (by decide) (by decide)))))
theorem fM:Def (hk w) mg "step_back" (top 13) ["moves","basis"] 101 (FD "step_back" 13 D2 100):=dk Y (by kernel_rfl) λ_ _ _ _ _ _=>us2 λ_ _=>rfl
theorem mf:FnOk P w (hk w) mg base CX0 4 101 (FD "step_back" 13 D2 100) ["moves","basis"] (spM (hk w) 2 .F R8):=
 okF (fM Y) lX (.inl rfl) rfl rfl λhr=>(c8 (f8 (qcD (yi Y) (sd Y) (b6 (i1 (d9 (d8 qQ (qV (c:=true)) (d9 (A5 tj (sR (c:=false)) (by rfl) (bl Y).list_ ii (b6 (qv .B 1) b8))) (d9 (qcD (iD Y) (eT Y) (b6 (qv .B 0) (b6 (qv .B 1) b8))))))) b8))))
theorem lB:Def (hk w) mg "is_shut" (top 14) ["moves","basis"] 106 (FD "is_shut" 14 D2 105):=dk Y (by kernel_rfl) λ_ _ _ _ _ _=>us2 λ_ _=>rfl
theorem qR:FnOk P w (hk w) mg base CX0 3 106 (FD "is_shut" 14 D2 105) ["moves","basis"] (spM (hk w) 2 .F cJ):=
 okF (lB Y) qu (.inl rfl) rfl rfl λhr=>(c8 (f8 (u8 (sE rfl) (zW (g:=vB)) (by rfl) (bl Y).all_ ET (b6 (i1 (d9 (m9 (show f7 (b9 (top 14)) _ ["moves","basis"] ["moves","basis","stand"] from by trivial) rfl (M0 (i1 (d9 (qcD (iD Y) (eT Y) (b6 (qv .B 0) (b6 (qv .B 1) b8)))))) (λ_ _ _ _=>(@d6 _ _ 2 _ (by decide +kernel:(["moves","basis","stand"]:List Str).Nodup) rfl (Or.inl rfl) (.inr rfl))) i2 (r9 (show 2<=2 by decide)) (λ_ _ _ _=>t5) (λ_ _ _ _=>(x8 (qcD (aZ Y) (aI Y) (b6 (qv .B 2) (b6 (qv .B 1) b8)))))))) b8))))
theorem ai:Def (hk w) mg "least_over" (top 15) ["stand","other"] 111 (FD "least_over" 15 D2 110):=dk Y (by kernel_rfl) λ_ _ _ _ _ _=>us2 λ_ _=>rfl
theorem ck:FnOk P w (hk w) mg base CX0 1 111 (FD "least_over" 15 D2 110) ["stand","other"] (spM (hk w) 2 .F P5):=
 okF (ai Y) jM (.inl rfl) rfl rfl λhr=>(c8 (f8 (A5 B0 (A9 (c:=true)) (by rfl) (bl Y).tuple_ o5 (b6 (d9 (m9 (show f7 (b9 (top 15)) _ ["stand","other"] ["stand","other","number","wanted"] from by trivial) rfl (W2 (by rfl) (bl Y).zip_ (b6 (qv .B 0) (b6 (qv .B 1) b8))) (λ_ _ _ _=>(@C0 _ (hk w) _ _ _ _ 2 rfl (j8 (@d6 _ _ 2 _ (by decide +kernel:(["stand","other","number","wanted"]:List Str).Nodup) rfl (Or.inl rfl) (.inr rfl)) (j8 (@d6 _ _ 3 _ (by decide +kernel:(["stand","other","number","wanted"]:List Str).Nodup) rfl (Or.inl rfl) (.inr rfl)) B9)) (by rfl) (by rfl) (by rfl))) (F8 (.inr rfl) (j9 (.inr rfl) i2 (j9 (.inr rfl) i2 C2))) (T0 (v4 (show 2<=2 by decide) (v4 (show 2<=3 by decide) T4))) (λ_ _ _ _=>t5) (λ_ _ _ _=>(u8 (cS rfl) (b_2 (g:=cI)) (by rfl) (bl Y).max_ cU (b6 (qv .B 2) (b6 (qv .B 3) b8)))))) b8))))
theorem dm:Def (hk w) mg "ending" (top 18) ["moves","rings","most","word"] 125 (FD "ending" 18 U2 124):=dk Y (by kernel_rfl) λ_ _ _ _ _ _=>us4 λ_ _ _ _=>rfl
theorem uN:FnOk P w (hk w) mg base CX0 4 125 (FD "ending" 18 U2 124) ["moves","rings","most","word"] (spX (hk w) 4 bo):=
 okX (dm Y) ef rfl rfl λhr=>(c7 (t4 (i:=4) ef.nd rfl (by trivial) (oq (qv .C 1) (eF V5 (eK (g:=M8) (λ_=>rfl) (λ_ _=>.int)) c9)) (by rfl) (by trivial)) (c7 (t4 (i:=5) ef.nd rfl (by trivial) (d8 S7 bN (u8 v7 v6 (by rfl) (bl Y).len_ qD4 (b6 (qv .B 1) b8)) c9) (by rfl) (by trivial)) (c7 (k7 (i7 Y9 xGt (u8 v7 v6 (by rfl) (bl Y).len_ qD4 (b6 (qv .B 4) b8)) (qv .B 2)) (c8 (f8 (x8 (J2 (b6 R3 (b6 (qv .V 5) b8)))))) j7) (c7 (k7 (q5 (i1 (d9 (qcD (qR Y) (lB Y) (b6 (qv .B 0) (b6 (qv .B 4) b8)))))) (c8 (f8 (x8 (J2 (b6 (qv .V 3) (b6 (qv .V 4) b8)))))) j7) (c7 (k7 (i7 (cj (cH hr)) (W9 (neg:=false)) (qv .B 5) (qv .B 2)) (c8 (f8 (x8 (J2 (b6 R3 (b6 (qv .V 5) b8)))))) j7) (c8 (f8 A4)))))))
theorem dL:Def (hk w) mg "moves_into" (top 20) ["stand","moves","ring"] 137 (FD "moves_into" 20 U2 136):=dk Y (by kernel_rfl) λ_ _ _ _ _ _=>us3 λ_ _ _=>rfl
theorem kn:FnOk P w (hk w) mg base CX0 4 137 (FD "moves_into" 20 U2 136) ["stand","moves","ring"] (spM (hk w) 3 .F X5):=
 okF (dL Y) jK (.inl rfl) rfl rfl λhr=>(c8 (f8 (m9 (show f7 (b9 (top 20)) _ ["stand","moves","ring"] ["stand","moves","ring","number","move"] from by trivial) rfl (@BW _ _ _ _ _ _ _ _ _ _ (by rfl) (bl Y).enumerate_ (b6 (qv .B 1) b8) (by rfl) (by rfl)) (λ_ _ _ _=>(@C0 _ (hk w) _ _ _ _ 2 rfl (j8 (@d6 _ _ 3 _ (by decide +kernel:(["stand","moves","ring","number","move"]:List Str).Nodup) rfl (Or.inl rfl) (.inr rfl)) (j8 (@d6 _ _ 4 _ (by decide +kernel:(["stand","moves","ring","number","move"]:List Str).Nodup) rfl (Or.inl rfl) (.inr rfl)) B9)) (by rfl) (by rfl) (by rfl))) (F8 (.inr rfl) (j9 (.inr rfl) i2 (j9 (.inr rfl) i2 C2))) (T0 (v4 (show 3<=3 by decide) (v4 (show 3<=4 by decide) T4))) (λ_ _ _ _=>(cf (PW.pt (S4 (q5 (i1 (d9 (qcD (qS Y) (oU Y) (b6 (qv .B 0) (b6 (qv .B 4) b8)))))) (N6 (q5 (i1 (d9 (qcD (aZ Y) (aI Y) (b6 (i1 (d9 (qcD (mR Y) (lD Y) (b6 (qv .B 0) (b6 (qv .B 4) b8))))) (b6 (qv .B 2) b8))))))))))) (λ_ _ _ _=>(qv .V 3)))))
theorem S0:Def (hk w) mg "row_inward" (top 19) ["moor","rings"] 132 (FD "row_inward" 19 U2 131):=dk Y (by kernel_rfl) λ_ _ _ _ _ _=>us2 λ_ _=>rfl
theorem kj:FnOk P w (hk w) mg base CX0 5 132 (FD "row_inward" 19 U2 131) ["moor","rings"] (spX (hk w) 2 P3):=
 okX (S0 Y) D5 rfl rfl λhr=>(c7 (h7 (i:=2) D5.nd rfl (by trivial) (y9 b8) (by rfl) (by trivial)) (c7 (t4 (i:=3) D5.nd rfl (by trivial) (oq (qv .C 0) c9) (by rfl) (by trivial)) (c7 (t7 qC5 rfl (@om _ _ _ _ _ _ _ _ (by rfl) (bl Y).reversed_ (b6 (eG (x8 (@oh _ _ _ _ _ _ true _ _ _ _ _ (qv .C 1) oo (on (eF V5 (eK (g:=M8) (λ_=>rfl) (λ_ _=>.int)) c9)) (by rfl)))) b8) (by rfl) (by rfl)) (@d6 _ _ 4 _ D5.nd rfl (by trivial) (by trivial)) i2 (c7 (t4 (i:=5) D5.nd rfl (by trivial) (oq (d9 (qcD (kn Y) (dL Y) (b6 (qv .B 3) (b6 (f6 (d5 (qv .B 0) c9)) (b6 (qv .B 4) b8))))) c9) (by rfl) (by trivial)) (c7 (@O5 _ _ _ _ _ _ _ 2 _ _ _ _ rfl (by trivial) (qv .V 5) (by decide) (by decide) (by rfl) (by rfl) (by rfl) (by rfl) (by rfl)) (c8 (h7 (i:=3) D5.nd rfl (by trivial) (qcD (mR Y) (lD Y) (b6 (qv .B 3) (b6 (f6 (d5 (f6 (d5 (qv .B 0) c9)) (qv .B 5))) b8))) (by rfl) (by trivial)))))) (c8 (@C9 _ _ _ _ _ 2 _ _ (.inr rfl) (by rfl) (by trivial) (by decide) (by decide))))))
theorem sh:Def (hk w) mg "cover" (top 17) ["moor","target","most"] 118 (FD "cover" 17 U2 117):=dk Y (by kernel_rfl) λ_ _ _ _ _ _=>us3 λ_ _ _=>rfl
theorem yk:FnOk P w (hk w) mg base CX0 6 118 (FD "cover" 17 U2 117) ["moor","target","most"] (spM (hk w) 3 .V hV):=
 okF (sh Y) gf (.inr rfl) rfl rfl λhr=>(c7 (h7 (i:=3) gf.nd rfl (by trivial) (y9 (b6 (x8 (y9 (b6 (qv .V 1) b8))) b8)) (by rfl) (by trivial)) (c7 (gt qC5 (B5 (q5 (i1 (d9 (qcD (aZ Y) (aI Y) (b6 (f6 (d5 (qv .B 0) c9)) (b6 (f6 (d5 (qv .B 3) (eF V5 (eK (g:=M8) (λ_=>rfl) (λ_ _=>.int)) c9))) b8))))))) (c7 (@xQ _ _ _ _ _ _ _ 4 _ [3] _ _ _ _ _ _ _ _ _ _ _ gf.nd rfl (by trivial) (uN Y) (by trivial) (by rfl) (dm Y).m (dm Y).F.kp (dm Y).b (b6 (S5 (d5 (qv .B 0) c9)) (b6 (qv .V 3) (b6 (qv .V 2) (b6 R3 b8)))) (by decide) (by rfl) (by rfl) (by rfl) (by trivial)) (c7 (k7 (i7 ax az (qv .B 4) A4) (c8 (@C9 _ _ _ _ _ 4 _ _ (.inr rfl) (by rfl) (by trivial) (by decide) (by decide))) j7) (c8 (@O5 _ _ _ _ _ _ _ 3 _ _ _ _ rfl (by trivial) (x8 (qcD (mf Y) (fM Y) (b6 (f6 (d5 (qv .B 0) c9)) (b6 (f6 (d5 (qv .B 3) (eF V5 (eK (g:=M8) (λ_=>rfl) (λ_ _=>.int)) c9))) b8)))) (by decide) (by decide) (by rfl) (by rfl) (by rfl) (by rfl) (by rfl)))))) (c8 (jl (f8 (x8 (J2 (b6 R3 (b6 (@xS _ _ _ _ _ _ _ _ _ _ _ _ _ _ _ (kj Y) (by trivial) (by rfl) (S0 Y).m (S0 Y).F.kp (S0 Y).b (b6 (qv .V 0) (b6 (qv .V 3) b8)) (by decide) (by rfl) (by rfl)) b8)))))))))
theorem dunder:Def (hk w) mg "under" (top 22) ["cap","other"] 144 (FD "under" 22 t6 143):=dk Y (by kernel_rfl) λ_ _ _ _ _ _=>us2 λ_ _=>rfl
theorem gB:FnOk P w (hk w) mg base CX0 1 144 (FD "under" 22 t6 143) ["cap","other"] (spM (hk w) 2 .F V3):=
 okF (dunder Y) gd (.inl rfl) rfl rfl λhr=>(c7 (t7 qC5 rfl (qF (by rfl) (bl Y).zip_ (b6 (qv .U 0) (b6 (qv .U 1) b8))) (@C0 _ (hk w) _ _ _ _ 2 rfl (j8 (@d6 _ _ 2 _ gd.nd rfl (by trivial) (by trivial)) (j8 (@d6 _ _ 3 _ gd.nd rfl (by trivial) (by trivial)) B9)) (by rfl) (by rfl) (by rfl)) (F8 (.inr rfl) (j9 (.inr rfl) i2 (j9 (.inr rfl) i2 C2))) (c8 (k7 (PW.pt (S4 (i7 ax az (qv .B 3) A4) (N6 (PW.pt (ji (i7 W7 W8 (qv .B 2) A4) (ff (i7 Y9 xGt (qv .B 2) (qv .B 3)))))))) (c8 (f8 B6)) j7))) (c8 (f8 B6)))
theorem bq:Def (hk w) mg "under_any" (top 23) ["cap","caps"] 151 (FD "under_any" 23 t6 150):=dk Y (by kernel_rfl) λ_ _ _ _ _ _=>us2 λ_ _=>rfl
theorem dD:FnOk P w (hk w) mg base CX0 2 151 (FD "under_any" 23 t6 150) ["cap","caps"] (spM (hk w) 2 .F M1):=
 okF (bq Y) dA (.inl rfl) rfl rfl λhr=>(c7 (t7 qC5 rfl (D7 (qv .U 1)) (@d6 _ _ 2 _ dA.nd rfl (by trivial) (by trivial)) i2 (c8 (k7 (q5 (i1 (d9 (qcD (gB Y) (dunder Y) (b6 (qv .B 0) (b6 (qv .B 2) b8)))))) (c8 (f8 B6)) j7))) (c8 (f8 B6)))
theorem cO:Def (hk w) mg "cap_able" (top 24) ["cap","move"] 158 (FD "cap_able" 24 t6 157):=dk Y (by kernel_rfl) λ_ _ _ _ _ _=>us2 λ_ _=>rfl
theorem fm:FnOk P w (hk w) mg base CX0 2 158 (FD "cap_able" 24 t6 157) ["cap","move"] (spM (hk w) 2 .F V1):=
 okF (cO Y) nY (.inl rfl) rfl rfl λhr=>(c8 (f8 (qcD (gB Y) (dunder Y) (b6 (f6 (d5 (qv .B 1) c9)) (b6 (qv .B 0) b8)))))
theorem br:Def (hk w) mg "cap_after" (top 25) ["cap","move"] 163 (FD "cap_after" 25 t6 162):=dk Y (by kernel_rfl) λ_ _ _ _ _ _=>us2 λ_ _=>rfl
theorem dE:FnOk P w (hk w) mg base CX0 3 163 (FD "cap_after" 25 t6 162) ["cap","move"] (spM (hk w) 2 .F R9):=
 okF (br Y) lY (.inl rfl) rfl rfl λhr=>(c7 (k7 (B5 (q5 (i1 (d9 (qcD (fm Y) (cO Y) (b6 (qv .B 0) (b6 (qv .B 1) b8))))))) (c8 gx) j7) (c8 (f8 (A5 B0 (A9 (c:=true)) (by rfl) (bl Y).tuple_ o5 (b6 (d9 (m9 (show f7 (b9 (top 25)) _ ["cap","move"] ["cap","move","number","step"] from by trivial) rfl (W2 (by rfl) (bl Y).zip_ (b6 (qv .B 0) (b6 (i1 (d9 (qcD (eJ Y) (dq Y) (b6 (qv .B 1) b8)))) b8))) (λ_ _ _ _=>(@C0 _ (hk w) _ _ _ _ 2 rfl (j8 (@d6 _ _ 2 _ (by decide +kernel:(["cap","move","number","step"]:List Str).Nodup) rfl (Or.inl rfl) (.inr rfl)) (j8 (@d6 _ _ 3 _ (by decide +kernel:(["cap","move","number","step"]:List Str).Nodup) rfl (Or.inl rfl) (.inr rfl)) B9)) (by rfl) (by rfl) (by rfl))) (F8 (.inr rfl) (j9 (.inr rfl) i2 (j9 (.inr rfl) i2 C2))) (T0 (v4 (show 2<=2 by decide) (v4 (show 2<=3 by decide) T4))) (λ_ _ _ _=>t5) (λ_ _ _ _=>(ot (i7 W7 W8 (qv .B 2) A4) A4 (d8 o0 y6 (qv .B 2) (qv .B 3)))))) b8)))))
theorem ib:Def (hk w) mg "raised" (top 26) ["cap","elder"] 168 (FD "raised" 26 t6 167):=dk Y (by kernel_rfl) λ_ _ _ _ _ _=>us2 λ_ _=>rfl
theorem km:FnOk P w (hk w) mg base CX0 2 168 (FD "raised" 26 t6 167) ["cap","elder"] (spM (hk w) 2 .F X4):=
 okF (ib Y) ue (.inl rfl) rfl rfl λhr=>(c7 (k7 (B5 (q5 (i1 (d9 (qcD (gB Y) (dunder Y) (b6 (qv .B 1) (b6 (qv .B 0) b8))))))) (c8 (@C9 _ _ _ _ _ 0 _ _ (.inl rfl) (by rfl) (by trivial) (by decide) (by decide))) j7) (c8 (f8 (A5 B0 (A9 (c:=true)) (by rfl) (bl Y).tuple_ o5 (b6 (d9 (m9 (show f7 (b9 (top 26)) _ ["cap","elder"] ["cap","elder","number","old"] from by trivial) rfl (W2 (by rfl) (bl Y).zip_ (b6 (qv .B 0) (b6 (qv .B 1) b8))) (λ_ _ _ _=>(@C0 _ (hk w) _ _ _ _ 2 rfl (j8 (@d6 _ _ 2 _ (by decide +kernel:(["cap","elder","number","old"]:List Str).Nodup) rfl (Or.inl rfl) (.inr rfl)) (j8 (@d6 _ _ 3 _ (by decide +kernel:(["cap","elder","number","old"]:List Str).Nodup) rfl (Or.inl rfl) (.inr rfl)) B9)) (by rfl) (by rfl) (by rfl))) (F8 (.inr rfl) (j9 (.inr rfl) i2 (j9 (.inr rfl) i2 C2))) (T0 (v4 (show 2<=2 by decide) (v4 (show 2<=3 by decide) T4))) (λ_ _ _ _=>t5) (λ_ _ _ _=>(ot (i7 (cj (cH hr)) (W9 (neg:=false)) (qv .B 2) (qv .B 3)) (qv .V 2) A4)))) b8)))))
theorem cM:Def (hk w) mg "sort_key" (top 28) ["cap"] 180 (FD "sort_key" 28 t6 179):=dk Y (by kernel_rfl) λ_ _ _ _ _ _=>us1 λ_=>rfl
theorem oz:FnOk P w (hk w) mg base CX0 1 180 (FD "sort_key" 28 t6 179) ["cap"] (spM (hk w) 1 .F L4):=
 okF (cM Y) nX (.inl rfl) rfl rfl λhr=>(c8 (f8 (A5 B0 (A9 (c:=true)) (by rfl) (bl Y).tuple_ o5 (b6 (d9 (m9 (show f7 (b9 (top 28)) _ ["cap"] ["cap","number"] from by trivial) rfl (M0 (qv .B 0)) (λ_ _ _ _=>(@d6 _ _ 1 _ (by decide +kernel:(["cap","number"]:List Str).Nodup) rfl (Or.inl rfl) (.inr rfl))) i2 (r9 (show 1<=1 by decide)) (λ_ _ _ _=>t5) (λ_ _ _ _=>(ot (i7 W7 W8 (qv .B 1) A4) (x8 (J2 (l7 (l7 b8)))) (x8 (J2 (l7 (b6 (qv .V 1) b8)))))))) b8))))
theorem wO:Def (hk w) mg "tops" (top 27) ["caps"] 175 (FD "tops" 27 t6 174):=dk Y (by kernel_rfl) λ_ _ _ _ _ _=>us1 λ_=>rfl
theorem Cy:FnOk P w (hk w) mg base CX0 4 175 (FD "tops" 27 t6 174) ["caps"] (spM (hk w) 1 .F lu):=
 okF (wO Y) jJ (.inl rfl) rfl rfl λhr=>(c7 (h7 (i:=1) jJ.nd rfl (by trivial) (y9 b8) (by rfl) (by trivial)) (c7 (t7 qC5 rfl (D7 (eG (x8 (@xP _ _ _ _ _ _ _ _ _ _ _ _ _ _ _ _ _ _ _ _ false (oz Y) (by trivial) (by rfl) (cM Y).m (cM Y).b (by rfl) (bl Y).sorted_ iY (b6 (qv .B 0) b8) (by rfl) (by decide) (by decide) (by decide) (by rfl) (by rfl) (by rfl) (by rfl) (by rfl))))) (@d6 _ _ 2 _ jJ.nd rfl (by trivial) (by trivial)) i2 (c8 (k7 (B5 (q5 (i1 (d9 (qcD (dD Y) (bq Y) (b6 (qv .B 2) (b6 (qv .B 1) b8))))))) (c8 (@O5 _ _ _ _ _ _ _ 1 _ _ _ _ rfl (by trivial) (qv .V 2) (by decide) (by decide) (by rfl) (by rfl) (by rfl) (by rfl) (by rfl))) j7))) (c7 (@wz _ _ _ _ _ 1 _ _ _ _ rfl (by trivial) (by rfl) (by decide) (by decide) (by rfl) (by rfl) (by rfl)) (c8 (@C9 _ _ _ _ _ 1 _ _ (.inl rfl) (by rfl) (by trivial) (by decide) (by decide))))))
theorem T7:Def (hk w) mg "way_back" (top 31) ["tree","number"] 199 (FD "way_back" 31 t6 198):=dk Y (by kernel_rfl) λ_ _ _ _ _ _=>us2 λ_ _=>rfl
theorem U9:FnOk P w (hk w) mg base CX0 1 199 (FD "way_back" 31 t6 198) ["tree","number"] (spM (hk w) 2 .F A6):=
 okF (T7 Y) U7 (.inl rfl) rfl rfl λhr=>(c7 (h7 (i:=2) U7.nd rfl (by trivial) (y9 b8) (by rfl) (by trivial)) (c7 (t4 (i:=3) U7.nd rfl (by trivial) (qv .V 1) (by rfl) (by trivial)) (c7 (gt qC5 (i7 ax az (qv .B 3) A4) (c7 (@O5 _ _ _ _ _ _ _ 2 _ _ _ _ rfl (by trivial) (qv .V 3) (by decide) (by decide) (by rfl) (by rfl) (by rfl) (by rfl) (by rfl)) (c8 (@ar _ _ _ _ _ _ _ 3 _ _ U7.nd rfl (by trivial) (d5 (f6 (d5 (qv .B 0) (qv .B 3))) c9) (by rfl) (by trivial))))) (c8 (@C9 _ _ _ _ _ 2 _ _ (.inl rfl) (by rfl) (by trivial) (by decide) (by decide))))))
theorem jt:Def (hk w) mg "grow" (top 30) ["moor","tree","at","number"] 192 (FD "grow" 30 t6 191):=dk Y (by kernel_rfl) λ_ _ _ _ _ _=>us4 λ_ _ _ _=>rfl
theorem Cz:FnOk P w (hk w) mg base CX0 4 192 (FD "grow" 30 t6 191) ["moor","tree","at","number"] (gc (hk w) 4 fG):=
 okI (jt Y) bW rfl rfl λp=>λhr=>(dc (@q_i _ _ _ .F _ _ _ (@ar _ _ _ _ _ _ _ 4 _ _ bW.nd rfl (by trivial) (d5 (f6 (d5 (qv .B 0) c9)) (qv .B 3)) (by rfl) (by trivial))) (dc (wA (B5 (q5 (i1 (d9 (qcD (fm Y) (cO Y) (b6 (f6 (d5 (f6 (d5 (qv .B 1) (qv .B 2))) c9)) (b6 (qv .B 4) b8))))))) (gy BP) (@BU _ _ _ .F _ _ _ j7)) (dc (@q_i _ _ _ .F _ _ _ (h7 (i:=5) bW.nd rfl (by trivial) (qcD (dE Y) (br Y) (b6 (f6 (d5 (f6 (d5 (qv .B 1) (qv .B 2))) c9)) (b6 (qv .B 4) b8))) (by rfl) (by trivial))) (dc (@q_i _ _ _ .F _ _ _ (t7 qC5 rfl (D7 (eG (x8 (qcD (U9 Y) (T7 Y) (b6 (qv .B 1) (b6 (qv .B 2) b8)))))) (@d6 _ _ 6 _ bW.nd rfl (by trivial) (by trivial)) i2 (c8 (h7 (i:=5) bW.nd rfl (by trivial) (qcD (km Y) (ib Y) (b6 (qv .B 5) (b6 (f6 (d5 (f6 (d5 (qv .B 1) (qv .B 6))) c9)) b8))) (by rfl) (by trivial))))) (gy (wA (B5 (q5 (i1 (d9 (qcD (dD Y) (bq Y) (b6 (qv .B 5) (b6 (i1 (d9 (m9 (show f7 (b9 (top 30)) _ ["moor","tree","at","number","move","cap","elder"] ["moor","tree","at","number","move","cap","elder","row"] from by trivial) rfl (M0 (qv .B 1)) (λ_ _ _ _=>(@d6 _ _ 7 _ (by decide +kernel:(["moor","tree","at","number","move","cap","elder","row"]:List Str).Nodup) rfl (Or.inl rfl) (.inr rfl))) i2 (r9 (show 7<=7 by decide)) (λ_ _ _ _=>t5) (λ_ _ _ _=>(S5 (d5 (qv .B 7) c9)))))) b8))))))) (gy (@Ca _ _ _ _ _ _ _ 1 _ _ _ _ rfl (by trivial) (x8 (J2 (b6 (qv .V 5) (b6 (qv .V 2) (b6 (qv .V 3) b8))))) (by decide) (by decide) (by rfl) (by rfl) (by rfl) (by rfl) (by rfl))) (@BU _ _ _ .F _ _ _ j7)))))))
theorem ie:Def (hk w) mg "growth" (top 29) ["moor","most"] 187 (FD "growth" 29 t6 186):=dk Y (by kernel_rfl) λ_ _ _ _ _ _=>us2 λ_ _=>rfl
theorem kq:FnOk P w (hk w) mg base CX0 5 187 (FD "growth" 29 t6 186) ["moor","most"] (spM (hk w) 2 .F N2):=
 okF (ie Y) V9 (.inl rfl) rfl rfl λhr=>(c7 (h7 (i:=2) V9.nd rfl (by trivial) (y9 (b6 (x8 (J2 (b6 (S5 (d5 (qv .B 0) c9)) (b6 A4 (b6 A4 b8))))) b8)) (by rfl) (by trivial)) (c7 (t4 (i:=3) V9.nd rfl (by trivial) c9 (by rfl) (by trivial)) (c7 (gt qC5 (i7 jo xLt (qv .B 3) (u8 v7 v6 (by rfl) (bl Y).len_ qD4 (b6 (qv .B 2) b8))) (c7 (t7 qC5 rfl (A0 (by rfl) (bl Y).range_ (b6 (u8 v7 v6 (by rfl) (bl Y).len_ qD4 (b6 (f6 (d5 (qv .B 0) c9)) b8)) b8)) (@d6 _ _ 4 _ V9.nd rfl (by trivial) (by trivial)) i2 (c8 (@xT _ _ _ _ _ _ _ _ 2 _ _ _ _ _ _ _ _ _ _ _ _ rfl (by trivial) (Cz Y) (by trivial) (by rfl) (jt Y).m (jt Y).F.kp (jt Y).b (qv .B 0) (b6 (qv .B 3) (b6 (qv .B 4) b8)) (by decide) (by decide) (by decide) (by rfl) (by rfl) (by rfl) (by rfl)))) (c7 (k7 (i7 Y9 xGt (u8 v7 v6 (by rfl) (bl Y).len_ qD4 (b6 (qv .B 2) b8)) (qv .B 1)) (c8 (f8 A4)) j7) (c8 (@FA _ _ _ _ _ _ _ 3 _ _ _ _ V9.nd rfl (by trivial) c9 Dy (by trivial)))))) (c8 (@C9 _ _ _ _ _ 2 _ _ (.inl rfl) (by rfl) (by trivial) (by decide) (by decide))))))
theorem sf:Def (hk w) mg "crown" (top 32) ["moor","most"] 204 (FD "crown" 32 t6 203):=dk Y (by kernel_rfl) λ_ _ _ _ _ _=>us2 λ_ _=>rfl
theorem yj:FnOk P w (hk w) mg base CX0 6 204 (FD "crown" 32 t6 203) ["moor","most"] (spM (hk w) 2 .F dj):=
 okF (sf Y) mE (.inl rfl) rfl rfl λhr=>(c7 (h7 (i:=2) mE.nd rfl (by trivial) (qcD (kq Y) (ie Y) (b6 (qv .B 0) (b6 (qv .B 1) b8))) (by rfl) (by trivial)) (c7 (k7 (i7 W7 W8 (qv .B 2) A4) (c8 (f8 A4)) j7) (c8 (f8 (qcD (Cy Y) (wO Y) (b6 (i1 (d9 (m9 (show f7 (b9 (top 32)) _ ["moor","most","tree"] ["moor","most","tree","row"] from by trivial) rfl (M0 (qv .B 2)) (λ_ _ _ _=>(@d6 _ _ 3 _ (by decide +kernel:(["moor","most","tree","row"]:List Str).Nodup) rfl (Or.inl rfl) (.inr rfl))) i2 (r9 (show 3<=3 by decide)) (λ_ _ _ _=>t5) (λ_ _ _ _=>(S5 (d5 (qv .B 3) c9)))))) b8))))))
theorem eU:Def (hk w) mg "noughts" (top 39) ["moor"] 244 (FD "noughts" 39 G8 243):=dk Y (by kernel_rfl) λ_ _ _ _ _ _=>us1 λ_=>rfl
theorem iE:FnOk P w (hk w) mg base CX0 1 244 (FD "noughts" 39 G8 243) ["moor"] (spM (hk w) 1 .F Z4):=
 okF (eU Y) qt (.inl rfl) rfl rfl λhr=>(c8 (f8 (d8 yh yn (d9 (J2 (l7 b8))) (u8 v7 v6 (by rfl) (bl Y).len_ qD4 (b6 (f6 (d5 (qv .B 0) c9)) b8)))))
theorem ic:Def (hk w) mg "hurdle" (top 34) ["moor","row"] 211 (FD "hurdle" 34 G8 210):=dk Y (by kernel_rfl) λ_ _ _ _ _ _=>us2 λ_ _=>rfl
theorem ko:FnOk P w (hk w) mg base CX0 2 211 (FD "hurdle" 34 G8 210) ["moor","row"] (spM (hk w) 2 .F Q3):=
 okF (ic Y) aU (.inl rfl) rfl rfl λhr=>(c7 (h7 (i:=2) aU.nd rfl (by trivial) (qcD (iE Y) (eU Y) (b6 (qv .B 0) b8)) (by rfl) (by trivial)) (c7 (t7 qC5 rfl (@om _ _ _ _ _ _ _ _ (by rfl) (bl Y).reversed_ (b6 (qv .U 1) b8) (by rfl) (by rfl)) (@d6 _ _ 3 _ aU.nd rfl (by trivial) (by trivial)) i2 (c8 (h7 (i:=2) aU.nd rfl (by trivial) (qcD (ki Y) (ia Y) (b6 (qv .B 2) (b6 (f6 (d5 (f6 (d5 (qv .B 0) c9)) (qv .B 3))) b8))) (by rfl) (by trivial)))) (c8 (@C9 _ _ _ _ _ 2 _ _ (.inl rfl) (by rfl) (by trivial) (by decide) (by decide)))))
theorem Q5:Def (hk w) mg "shifted" (top 38) ["stand","step","times"] 237 (FD "shifted" 38 G8 236):=dk Y (by kernel_rfl) λ_ _ _ _ _ _=>us3 λ_ _ _=>rfl
theorem S8:FnOk P w (hk w) mg base CX0 1 237 (FD "shifted" 38 G8 236) ["stand","step","times"] (spM (hk w) 3 .F E5):=
 okF (Q5 Y) qq (.inl rfl) rfl rfl λhr=>(c8 (f8 (A5 B0 (A9 (c:=true)) (by rfl) (bl Y).tuple_ o5 (b6 (d9 (m9 (show f7 (b9 (top 38)) _ ["stand","step","times"] ["stand","step","times","number","by"] from by trivial) rfl (W2 (by rfl) (bl Y).zip_ (b6 (qv .B 0) (b6 (qv .B 1) b8))) (λ_ _ _ _=>(@C0 _ (hk w) _ _ _ _ 2 rfl (j8 (@d6 _ _ 3 _ (by decide +kernel:(["stand","step","times","number","by"]:List Str).Nodup) rfl (Or.inl rfl) (.inr rfl)) (j8 (@d6 _ _ 4 _ (by decide +kernel:(["stand","step","times","number","by"]:List Str).Nodup) rfl (Or.inl rfl) (.inr rfl)) B9)) (by rfl) (by rfl) (by rfl))) (F8 (.inr rfl) (j9 (.inr rfl) i2 (j9 (.inr rfl) i2 C2))) (T0 (v4 (show 3<=3 by decide) (v4 (show 3<=4 by decide) T4))) (λ_ _ _ _=>t5) (λ_ _ _ _=>(d8 o0 y6 (qv .B 3) (d8 w6 (i8 (C:=CMulB) (g:=p7) (λ_ _=>rfl) (λ_ _ _=>.int)) (qv .B 2) (qv .B 4)))))) b8))))
theorem aG:Def (hk w) mg "sum_of" (top 35) ["moor","row"] 218 (FD "sum_of" 35 G8 217):=dk Y (by kernel_rfl) λ_ _ _ _ _ _=>us2 λ_ _=>rfl
theorem aY:FnOk P w (hk w) mg base CX0 2 218 (FD "sum_of" 35 G8 217) ["moor","row"] (spM (hk w) 2 .F D3):=
 okF (aG Y) aT (.inl rfl) rfl rfl λhr=>(c7 (h7 (i:=2) aT.nd rfl (by trivial) (qcD (iE Y) (eU Y) (b6 (qv .B 0) b8)) (by rfl) (by trivial)) (c7 (t7 qC5 rfl (D7 (qv .U 1)) (@d6 _ _ 3 _ aT.nd rfl (by trivial) (by trivial)) i2 (c8 (h7 (i:=2) aT.nd rfl (by trivial) (qcD (S8 Y) (Q5 Y) (b6 (qv .B 2) (b6 (i1 (d9 (qcD (eJ Y) (dq Y) (b6 (f6 (d5 (f6 (d5 (qv .B 0) c9)) (qv .B 3))) b8)))) (l7 b8)))) (by rfl) (by trivial)))) (c8 (@C9 _ _ _ _ _ 2 _ _ (.inl rfl) (by rfl) (by trivial) (by decide) (by decide)))))
theorem wP:Def (hk w) mg "goes" (top 37) ["moor","stand","row","times"] 232 (FD "goes" 37 G8 231):=dk Y (by kernel_rfl) λ_ _ _ _ _ _=>us4 λ_ _ _ _=>rfl
theorem CA:FnOk P w (hk w) mg base CX0 3 232 (FD "goes" 37 G8 231) ["moor","stand","row","times"] (spM (hk w) 4 .F lv):=
 okF (wP Y) jN (.inl rfl) rfl rfl λhr=>(c7 (k7 (i7 L0 D8 (qv .B 3) c9) (c8 (f8 B6)) j7) (c7 (h7 (i:=4) jN.nd rfl (by trivial) (qcD (ko Y) (ic Y) (b6 (qv .B 0) (b6 (qv .B 2) b8))) (by rfl) (by trivial)) (c7 (h7 (i:=5) jN.nd rfl (by trivial) (qcD (S8 Y) (Q5 Y) (b6 (qv .B 1) (b6 (i1 (d9 (qcD (aY Y) (aG Y) (b6 (qv .B 0) (b6 (qv .B 2) b8))))) (b6 (d8 S7 bN (qv .B 3) c9) b8)))) (by rfl) (by trivial)) (c8 (f8 (wC (i1 (d9 (qcD (ba Y) (aJ Y) (b6 (qv .B 1) (b6 (qv .B 4) b8))))) (jj (qcD (ba Y) (aJ Y) (b6 (qv .B 5) (b6 (qv .B 4) b8))))))))))
theorem nE:Def (hk w) mg "stride" (top 36) ["moor","stand","blocks"] 225 (FD "stride" 36 G8 224):=dk Y (by kernel_rfl) λ_ _ _ _ _ _=>us3 λ_ _ _=>rfl
theorem uM:FnOk P w (hk w) mg base CX0 4 225 (FD "stride" 36 G8 224) ["moor","stand","blocks"] (spM (hk w) 3 .F X3):=
 okF (nE Y) M5 (.inl rfl) rfl rfl λhr=>(c7 (t4 (i:=3) M5.nd rfl (by trivial) (qv .V 1) (by rfl) (by trivial)) (c7 (t7 qC5 rfl (@BV _ _ _ _ _ _ _ _ _ _ (by rfl) (bl Y).enumerate_ (b6 (qv .U 2) b8) (by rfl) (by rfl)) (@C0 _ (hk w) _ _ _ _ 2 rfl (j8 (@d6 _ _ 4 _ M5.nd rfl (by trivial) (by trivial)) (j8 (@d6 _ _ 5 _ M5.nd rfl (by trivial) (by trivial)) B9)) (by rfl) (by rfl) (by rfl)) (F8 (.inr rfl) (j9 (.inr rfl) i2 (j9 (.inr rfl) i2 C2))) (c7 (@ar _ _ _ _ _ _ _ 6 _ _ M5.nd rfl (by trivial) (d5 (qv .B 5) c9) (by rfl) (by trivial)) (c7 (@ar _ _ _ _ _ _ _ 7 _ _ M5.nd rfl (by trivial) (d5 (qv .B 5) c9) (by rfl) (by trivial)) (c7 (k7 (B5 (q5 (i1 (d9 (qcD (CA Y) (wP Y) (b6 (qv .B 0) (b6 (qv .B 3) (b6 (qv .B 6) (b6 (qv .B 7) b8))))))))) (c8 gx) j7) (c8 (h7 (i:=3) M5.nd rfl (by trivial) (qcD (S8 Y) (Q5 Y) (b6 (qv .B 3) (b6 (i1 (d9 (qcD (aY Y) (aG Y) (b6 (qv .B 0) (b6 (qv .B 6) b8))))) (b6 (qv .B 7) b8)))) (by rfl) (by trivial))))))) (c8 (@C9 _ _ _ _ _ 3 _ _ (.inl rfl) (by rfl) (by trivial) (by decide) (by decide)))))
theorem El:Def (hk w) mg "way" (top 41) ["tree","number"] 251 (FD "way" 41 D1 250):=dk Y (by kernel_rfl) λ_ _ _ _ _ _=>us2 λ_ _=>rfl
theorem FN:FnOk P w (hk w) mg base CX0 2 251 (FD "way" 41 D1 250) ["tree","number"] (spM (hk w) 2 .F oR):=
 okF (El Y) Fp (.inl rfl) rfl rfl λhr=>(c8 (f8 (@BR _ _ _ _ _ _ _ _ _ rfl (by rfl) (bl Y).list_ (by rfl) (bl Y).reversed_ (b6 (i1 (d9 (qcD (U9 Y) (T7 Y) (b6 (qv .B 0) (b6 (qv .B 1) b8))))) b8) (by rfl) (by rfl) (by rfl))))
theorem cN:Def (hk w) mg "row_between" (top 42) ["tree","elder","number"] 256 (FD "row_between" 42 D1 255):=dk Y (by kernel_rfl) λ_ _ _ _ _ _=>us3 λ_ _ _=>rfl
theorem jc:FnOk P w (hk w) mg base CX0 3 256 (FD "row_between" 42 D1 255) ["tree","elder","number"] (spM (hk w) 3 .F M3):=
 okF (cN Y) bC (.inl rfl) rfl rfl λhr=>(c7 (h7 (i:=3) bC.nd rfl (by trivial) (qcD (FN Y) (El Y) (b6 (qv .B 0) (b6 (qv .B 2) b8))) (by rfl) (by trivial)) (c8 (f8 (m9 (show f7 (b9 (top 42)) _ ["tree","elder","number","path"] ["tree","elder","number","path","at"] from by trivial) rfl (M0 (i1 (d9 (@oh _ _ _ _ _ _ true _ _ _ _ _ (qv .C 3) (on (d8 o0 y6 (@xR _ _ _ _ _ _ _ _ _ _ (cH hr) (qv .B 3) (qv .B 1) (by rfl) (by rfl) (by rfl) (by rfl) (by rfl) (by rfl)) c9)) oo (by rfl))))) (λ_ _ _ _=>(@d6 _ _ 4 _ (by decide +kernel:(["tree","elder","number","path","at"]:List Str).Nodup) rfl (Or.inl rfl) (.inr rfl))) i2 (r9 (show 4<=4 by decide)) (λ_ _ _ _=>t5) (λ_ _ _ _=>(S5 (d5 (f6 (d5 (qv .B 0) (qv .B 4))) c9)))))))
theorem cL:Def (hk w) mg "unraised" (top 44) ["moor","tree","number"] 268 (FD "unraised" 44 D1 267):=dk Y (by kernel_rfl) λ_ _ _ _ _ _=>us3 λ_ _ _=>rfl
theorem fk:FnOk P w (hk w) mg base CX0 4 268 (FD "unraised" 44 D1 267) ["moor","tree","number"] (spM (hk w) 3 .F P2):=
 okF (cL Y) eZ (.inl rfl) rfl rfl λhr=>(c7 (@ar _ _ _ _ _ _ _ 3 _ _ eZ.nd rfl (by trivial) (d5 (qv .B 1) (qv .B 2)) (by rfl) (by trivial)) (c8 (f8 (qcD (dE Y) (br Y) (b6 (f6 (d5 (f6 (d5 (qv .B 1) (f6 (d5 (qv .B 3) c9)))) c9)) (b6 (f6 (d5 (f6 (d5 (qv .B 0) c9)) (f6 (d5 (qv .B 3) c9)))) b8))))))
theorem iR:Def (hk w) mg "lifts_of" (top 43) ["moor","tree","number"] 261 (FD "lifts_of" 43 D1 260):=dk Y (by kernel_rfl) λ_ _ _ _ _ _=>us3 λ_ _ _=>rfl
theorem oA:FnOk P w (hk w) mg base CX0 5 261 (FD "lifts_of" 43 D1 260) ["moor","tree","number"] (spM (hk w) 3 .F P4):=
 okF (iR Y) E7 (.inl rfl) rfl rfl λhr=>(c7 (k7 (i7 L0 D8 (qv .B 2) c9) (c8 (f8 (y9 b8))) j7) (c7 (h7 (i:=3) E7.nd rfl (by trivial) (y9 b8) (by rfl) (by trivial)) (c7 (h7 (i:=4) E7.nd rfl (by trivial) (qcD (fk Y) (cL Y) (b6 (qv .B 0) (b6 (qv .B 1) (b6 (qv .B 2) b8)))) (by rfl) (by trivial)) (c7 (t7 qC5 rfl (D7 (eG (x8 (@oh _ _ _ _ _ _ true _ _ _ _ _ (d9 (qcD (U9 Y) (T7 Y) (b6 (qv .B 1) (b6 (qv .B 2) b8)))) (on c9) oo (by rfl))))) (@d6 _ _ 5 _ E7.nd rfl (by trivial) (by trivial)) i2 (c7 (h7 (i:=6) E7.nd rfl (by trivial) (qcD (km Y) (ib Y) (b6 (qv .B 4) (b6 (f6 (d5 (f6 (d5 (qv .B 1) (qv .B 5))) c9)) b8))) (by rfl) (by trivial)) (c7 (h7 (i:=7) E7.nd rfl (by trivial) (A5 B0 (A9 (c:=true)) (by rfl) (bl Y).tuple_ o5 (b6 (d9 (m9 (show f7 (b9 (top 43)) _ ["moor","tree","number","found","cap","elder","higher","places"] ["moor","tree","number","found","cap","elder","higher","places","place"] from by trivial) rfl (A0 (by rfl) (bl Y).range_ (b6 (u8 v7 v6 (by rfl) (bl Y).len_ qD4 (b6 (qv .B 4) b8)) b8)) (λ_ _ _ _=>(@d6 _ _ 8 _ (by decide +kernel:(["moor","tree","number","found","cap","elder","higher","places","place"]:List Str).Nodup) rfl (Or.inl rfl) (.inr rfl))) i2 (r9 (show 8<=8 by decide)) (λ_ _ _ _=>(cf (i7 (qP (cH hr)) (W9 (neg:=true)) (f6 (d5 (qv .B 6) (qv .B 8))) (f6 (d5 (qv .B 4) (qv .B 8)))))) (λ_ _ _ _=>(qv .V 8)))) b8)) (by rfl) (by trivial)) (c7 (k7 (i7 Y9 xGt (u8 v7 v6 (by rfl) (bl Y).len_ qD4 (b6 (qv .B 7) b8)) c9) (c8 (@O5 _ _ _ _ _ _ _ 3 _ _ _ _ rfl (by trivial) (x8 (J2 (b6 (qv .V 5) (b6 (qv .V 7) b8)))) (by decide) (by decide) (by rfl) (by rfl) (by rfl) (by rfl) (by rfl))) j7) (c8 (jl (t4 (i:=4) E7.nd rfl (by trivial) (qv .V 6) (by rfl) (by trivial)))))))) (c8 (@C9 _ _ _ _ _ 3 _ _ (.inl rfl) (by rfl) (by trivial) (by decide) (by decide)))))))
theorem U4:Def (hk w) mg "wanted_ahead" (top 47) ["moor","row","times","wanted"] 285 (FD "wanted_ahead" 47 D1 284):=dk Y (by kernel_rfl) λ_ _ _ _ _ _=>us4 λ_ _ _ _=>rfl
theorem ay:FnOk P w (hk w) mg base CX0 3 285 (FD "wanted_ahead" 47 D1 284) ["moor","row","times","wanted"] (spM (hk w) 4 .F B4):=
 okF (U4 Y) K7 (.inl rfl) rfl rfl λhr=>(c7 (h7 (i:=4) K7.nd rfl (by trivial) (qcD (ko Y) (ic Y) (b6 (qv .B 0) (b6 (qv .B 1) b8))) (by rfl) (by trivial)) (c7 (h7 (i:=5) K7.nd rfl (by trivial) (qcD (aY Y) (aG Y) (b6 (qv .B 0) (b6 (qv .B 1) b8))) (by rfl) (by trivial)) (c7 (h7 (i:=6) K7.nd rfl (by trivial) (qcD (ck Y) (ai Y) (b6 (qv .B 4) (b6 (i1 (d9 (qcD (S8 Y) (Q5 Y) (b6 (qv .B 4) (b6 (qv .B 5) (b6 (d8 S7 bN c9 (qv .B 2)) b8)))))) b8))) (by rfl) (by trivial)) (c8 (f8 (qcD (ck Y) (ai Y) (b6 (qv .B 6) (b6 (i1 (d9 (qcD (S8 Y) (Q5 Y) (b6 (qv .B 3) (b6 (qv .B 5) (b6 (eF V5 (eK (g:=M8) (λ_=>rfl) (λ_ _=>.int)) (qv .B 2)) b8)))))) b8))))))))
theorem fL:Def (hk w) mg "times_for" (top 46) ["cap","step","places","wanted"] 278 (FD "times_for" 46 D1 277):=dk Y (by kernel_rfl) λ_ _ _ _ _ _=>us4 λ_ _ _ _=>rfl
theorem lZ:FnOk P w (hk w) mg base CX0 1 278 (FD "times_for" 46 D1 277) ["cap","step","places","wanted"] (spM (hk w) 4 .F R7):=
 okF (fL Y) lW (.inl rfl) rfl rfl λhr=>(c8 (f8 (u8 (iX rfl) (sS (g:=L6)) (by rfl) (bl Y).max_ cU (b6 (i1 (d9 (d8 qQ (qV (c:=true)) (d9 (y9 (l7 b8))) (d9 (m9 (show f7 (b9 (top 46)) _ ["cap","step","places","wanted"] ["cap","step","places","wanted","place"] from by trivial) rfl (M0 (qv .B 2)) (λ_ _ _ _=>(@d6 _ _ 4 _ (by decide +kernel:(["cap","step","places","wanted","place"]:List Str).Nodup) rfl (Or.inl rfl) (.inr rfl))) i2 (r9 (show 4<=4 by decide)) (λ_ _ _ _=>t5) (λ_ _ _ _=>(eF V5 (eK (g:=M8) (λ_=>rfl) (λ_ _=>.int)) (d8 uL (i8 (C:=bB) (g:=x5) (λ_ _=>rfl) (λ_ _ _=>.int)) (d8 S7 bN (f6 (d5 (qv .B 0) (qv .B 4))) (f6 (d5 (qv .B 3) (qv .B 4)))) (f6 (d5 (qv .B 1) (qv .B 4))))))))))) b8))))
theorem si:Def (hk w) mg "climb" (top 45) ["moor","tree","number","height"] 273 (FD "climb" 45 D1 272):=dk Y (by kernel_rfl) λ_ _ _ _ _ _=>us4 λ_ _ _ _=>rfl
theorem yl:FnOk P w (hk w) mg base CX0 6 273 (FD "climb" 45 D1 272) ["moor","tree","number","height"] (spM (hk w) 4 .F dl):=
 okF (si Y) D6 (.inl rfl) rfl rfl λhr=>(c7 (h7 (i:=4) D6.nd rfl (by trivial) (A5 B0 (A9 (c:=true)) (by rfl) (bl Y).tuple_ o5 (b6 (d9 (m9 (show f7 (b9 (top 45)) _ ["moor","tree","number","height","wanted","blocks","at","cap","elder","places","row","times"] ["moor","tree","number","height","wanted","blocks","at","cap","elder","places","row","times","bound"] from by trivial) rfl (M0 (f6 (d5 (f6 (d5 (qv .B 1) (qv .B 2))) c9))) (λ_ _ _ _=>(@d6 _ _ 12 _ (by decide +kernel:(["moor","tree","number","height","wanted","blocks","at","cap","elder","places","row","times","bound"]:List Str).Nodup) rfl (Or.inl rfl) (.inr rfl))) i2 (r9 (show 12<=12 by decide)) (λ_ _ _ _=>t5) (λ_ _ _ _=>(ot (i7 W7 W8 (qv .B 12) A4) (qv .V 3) (qv .V 12))))) b8)) (by rfl) (by trivial)) (c7 (h7 (i:=5) D6.nd rfl (by trivial) (y9 b8) (by rfl) (by trivial)) (c7 (t7 qC5 rfl (D7 (eG (x8 (@oh _ _ _ _ _ _ true _ _ _ _ _ (d9 (qcD (U9 Y) (T7 Y) (b6 (qv .B 1) (b6 (qv .B 2) b8)))) oo (on (eF V5 (eK (g:=M8) (λ_=>rfl) (λ_ _=>.int)) c9)) (by rfl))))) (@d6 _ _ 6 _ D6.nd rfl (by trivial) (by trivial)) i2 (c7 (h7 (i:=7) D6.nd rfl (by trivial) (qcD (fk Y) (cL Y) (b6 (qv .B 0) (b6 (qv .B 1) (b6 (qv .B 6) b8)))) (by rfl) (by trivial)) (c7 (t7 qC5 rfl (@om _ _ _ _ _ _ _ _ (by rfl) (bl Y).reversed_ (b6 (eG (x8 (qcD (oA Y) (iR Y) (b6 (qv .B 0) (b6 (qv .B 1) (b6 (qv .B 6) b8)))))) b8) (by rfl) (by rfl)) (@C0 _ (hk w) _ _ _ _ 2 rfl (j8 (@d6 _ _ 8 _ D6.nd rfl (by trivial) (by trivial)) (j8 (@d6 _ _ 9 _ D6.nd rfl (by trivial) (by trivial)) B9)) (by rfl) (by rfl) (by rfl)) (F8 (.inr rfl) (j9 (.inr rfl) i2 (j9 (.inr rfl) i2 C2))) (c7 (h7 (i:=10) D6.nd rfl (by trivial) (qcD (jc Y) (cN Y) (b6 (qv .B 1) (b6 (qv .B 8) (b6 (qv .B 6) b8)))) (by rfl) (by trivial)) (c7 (h7 (i:=11) D6.nd rfl (by trivial) (qcD (lZ Y) (fL Y) (b6 (qv .B 7) (b6 (i1 (d9 (qcD (aY Y) (aG Y) (b6 (qv .B 0) (b6 (qv .B 10) b8))))) (b6 (qv .B 9) (b6 (qv .B 4) b8))))) (by rfl) (by trivial)) (c8 (k7 (i7 Y9 xGt (qv .B 11) c9) (c7 (jl (jl (@O5 _ _ _ _ _ _ _ 5 _ _ _ _ rfl (by trivial) (x8 (J2 (b6 (qv .V 10) (b6 (qv .V 11) b8)))) (by decide) (by decide) (by rfl) (by rfl) (by rfl) (by rfl) (by rfl)))) (c8 (h7 (i:=4) D6.nd rfl (by trivial) (qcD (ay Y) (U4 Y) (b6 (qv .B 0) (b6 (qv .B 10) (b6 (qv .B 11) (b6 (qv .B 4) b8))))) (by rfl) (by trivial)))) j7))))) (c7 (@O5 _ _ _ _ _ _ _ 5 _ _ _ _ rfl (by trivial) (x8 (J2 (b6 (x8 (y9 (b6 (S5 (d5 (f6 (d5 (qv .B 1) (qv .B 6))) c9)) b8))) (l7 b8)))) (by decide) (by decide) (by rfl) (by rfl) (by rfl) (by rfl) (by rfl)) (c8 (h7 (i:=4) D6.nd rfl (by trivial) (qcD (ay Y) (U4 Y) (b6 (qv .B 0) (b6 (i1 (d9 (y9 (b6 (S5 (d5 (f6 (d5 (qv .B 1) (qv .B 6))) c9)) b8)))) (l7 (b6 (qv .B 4) b8))))) (by rfl) (by trivial))))))) (c7 (@wz _ _ _ _ _ 5 _ _ _ _ rfl (by trivial) (by rfl) (by decide) (by decide) (by rfl) (by rfl) (by rfl)) (c8 (@C9 _ _ _ _ _ 5 _ _ (.inl rfl) (by rfl) (by trivial) (by decide) (by decide)))))))
theorem l9:Def (hk w) mg "_law_cell" (top 49) ["_law_script","_law_k"] 292 (FD "_law_cell" 49 o9 291):=dk Y (by kernel_rfl) λ_ _ _ _ _ _=>us2 λ_ _=>rfl
theorem l4:FnOk P w (hk w) mg base CX0 1 292 (FD "_law_cell" 49 o9 291) ["_law_script","_law_k"] (spM (hk w) 2 .F j5):=
 okF (l9 Y) aa (.inl rfl) rfl rfl λhr=>(c7 (k7 (i7 jo xLt (qv .B 1) (u8 v7 v6 (by rfl) (bl Y).len_ qD4 (b6 (qv .B 0) b8))) (c8 (f8 (BY (d5 (qv .B 0) (qv .B 1))))) j7) (c7 (t4 (i:=2) aa.nd rfl (by trivial) (d8 o0 y6 (d8 w6 (i8 (C:=CMulB) (g:=p7) (λ_ _=>rfl) (λ_ _ _=>.int)) c9 (qv .B 1)) c9) (by rfl) (by trivial)) (c7 (k7 (i7 Y9 xGt (u8 v7 v6 (by rfl) (bl Y).len_ qD4 (b6 (qv .B 0) b8)) c9) (c8 (t4 (i:=2) aa.nd rfl (by trivial) (d8 o0 y6 (d8 o0 y6 (d8 w6 (i8 (C:=CMulB) (g:=p7) (λ_ _=>rfl) (λ_ _ _=>.int)) (f6 (d5 (qv .B 0) (d8 n8 (i8 (C:=j3) (g:=j4) (λ_ _=>rfl) (λ_ _ _=>.int)) (d8 w6 (i8 (C:=CMulB) (g:=p7) (λ_ _=>rfl) (λ_ _ _=>.int)) (qv .B 1) c9) (u8 v7 v6 (by rfl) (bl Y).len_ qD4 (b6 (qv .B 0) b8))))) c9) (d8 w6 (i8 (C:=CMulB) (g:=p7) (λ_ _=>rfl) (λ_ _ _=>.int)) (d8 w6 (i8 (C:=CMulB) (g:=p7) (λ_ _=>rfl) (λ_ _ _=>.int)) (qv .B 1) (qv .B 1)) c9)) c9) (by rfl) (by trivial))) j7) (c8 (f8 (d8 n8 (i8 (C:=j3) (g:=j4) (λ_ _=>rfl) (λ_ _ _=>.int)) (d8 w6 (i8 (C:=CMulB) (g:=p7) (λ_ _=>rfl) (λ_ _ _=>.int)) (qv .B 2) (qv .B 2)) c9))))))
theorem fN:Def (hk w) mg "_law_move" (top 50) ["_law_script","_law_at","_law_many","_law_plain","_law_times"] 297 (FD "_law_move" 50 o9 296):=dk Y (by kernel_rfl) λ_ _ _ _ _ _=>us5 λ_ _ _ _ _=>rfl
theorem mj:FnOk P w (hk w) mg base CX0 2 297 (FD "_law_move" 50 o9 296) ["_law_script","_law_at","_law_many","_law_plain","_law_times"] (spM (hk w) 5 .F ah):=
 okF (fN Y) x9 (.inl rfl) rfl rfl λhr=>(c7 (h7 (i:=5) x9.nd rfl (by trivial) (y9 b8) (by rfl) (by trivial)) (c7 (h7 (i:=6) x9.nd rfl (by trivial) (y9 b8) (by rfl) (by trivial)) (c7 (t7 qC5 rfl (A0 (by rfl) (bl Y).range_ (b6 (qv .B 2) b8)) (@d6 _ _ 7 _ x9.nd rfl (by trivial) (by trivial)) i2 (c7 (h7 (i:=8) x9.nd rfl (by trivial) (qcD (l4 Y) (l9 Y) (b6 (qv .B 0) (b6 (d8 o0 y6 (qv .B 1) (qv .B 7)) b8))) (by rfl) (by trivial)) (c7 (@O5 _ _ _ _ _ _ _ 5 _ _ _ _ rfl (by trivial) (d8 w6 (i8 (C:=CMulB) (g:=p7) (λ_ _=>rfl) (λ_ _ _=>.int)) (f6 (d5 (i1 (d9 BT)) (d8 n8 (i8 (C:=j3) (g:=j4) (λ_ _=>rfl) (λ_ _ _=>.int)) (qv .B 8) c9))) (qv .B 4)) (by decide) (by decide) (by rfl) (by rfl) (by rfl) (by rfl) (by rfl)) (c8 (@O5 _ _ _ _ _ _ _ 6 _ _ _ _ rfl (by trivial) (d8 w6 (i8 (C:=CMulB) (g:=p7) (λ_ _=>rfl) (λ_ _ _=>.int)) (f6 (d5 (i1 (d9 BS)) (d8 n8 (i8 (C:=j3) (g:=j4) (λ_ _=>rfl) (λ_ _ _=>.int)) (d8 C1 (i8 (C:=v9) (g:=x5) (λ_ _=>rfl) (λ_ _ _=>.int)) (qv .B 8) c9) c9))) (qv .B 4)) (by decide) (by decide) (by rfl) (by rfl) (by rfl) (by rfl) (by rfl)))))) (c7 (k7 (q5 (qv .B 3)) (c7 (t4 (i:=9) x9.nd rfl (by trivial) (d8 n8 (i8 (C:=j3) (g:=j4) (λ_ _=>rfl) (λ_ _ _=>.int)) (d8 C1 (i8 (C:=v9) (g:=x5) (λ_ _=>rfl) (λ_ _ _=>.int)) (i1 (d9 (qcD (l4 Y) (l9 Y) (b6 (qv .B 0) (b6 (qv .B 1) b8))))) c9) (qv .B 2)) (by rfl) (by trivial)) (c7 (t4 (i:=10) x9.nd rfl (by trivial) (d8 n8 (i8 (C:=j3) (g:=j4) (λ_ _=>rfl) (λ_ _ _=>.int)) (d8 C1 (i8 (C:=v9) (g:=x5) (λ_ _=>rfl) (λ_ _ _=>.int)) (i1 (d9 (qcD (l4 Y) (l9 Y) (b6 (qv .B 0) (b6 (d8 o0 y6 (qv .B 1) c9) b8))))) c9) (qv .B 2)) (by rfl) (by trivial)) (c7 (gu (i:=5) (show f7 (b9 (top 50)) _ ["_law_script","_law_at","_law_many","_law_plain","_law_times","_law_take","_law_put","_law_p","_law_cell_here","_law_one","_law_other"] ["_law_script","_law_at","_law_many","_law_plain","_law_times","_law_take","_law_put","#_law_p","_law_cell_here","_law_one","_law_other","_law_p"] from by trivial) rfl (A0 (by rfl) (bl Y).range_ (b6 (qv .B 2) b8)) (λ_ _ _ _=>(@d6 _ _ 11 _ (by decide +kernel:(["_law_script","_law_at","_law_many","_law_plain","_law_times","_law_take","_law_put","#_law_p","_law_cell_here","_law_one","_law_other","_law_p"]:List Str).Nodup) rfl (Or.inl rfl) (.inr rfl))) i2 (r9 (show 11<=11 by decide)) (λ_ _ _ _=>t5) (λ_ _ _ _=>(d8 w6 (i8 (C:=CMulB) (g:=p7) (λ_ _=>rfl) (λ_ _ _=>.int)) (A5 cT pj (by rfl) (bl Y).int_ lL (b6 (Y8 (cj (cH hr)) (W9 (neg:=false)) (qv .B 11) (qv .B 9)) b8)) (qv .B 4))) x9.nd rfl (by trivial)) (c8 (gu (i:=6) (show f7 (b9 (top 50)) _ ["_law_script","_law_at","_law_many","_law_plain","_law_times","_law_take","_law_put","_law_p","_law_cell_here","_law_one","_law_other"] ["_law_script","_law_at","_law_many","_law_plain","_law_times","_law_take","_law_put","#_law_p","_law_cell_here","_law_one","_law_other","_law_p"] from by trivial) rfl (A0 (by rfl) (bl Y).range_ (b6 (qv .B 2) b8)) (λ_ _ _ _=>(@d6 _ _ 11 _ (by decide +kernel:(["_law_script","_law_at","_law_many","_law_plain","_law_times","_law_take","_law_put","#_law_p","_law_cell_here","_law_one","_law_other","_law_p"]:List Str).Nodup) rfl (Or.inl rfl) (.inr rfl))) i2 (r9 (show 11<=11 by decide)) (λ_ _ _ _=>t5) (λ_ _ _ _=>(d8 w6 (i8 (C:=CMulB) (g:=p7) (λ_ _=>rfl) (λ_ _ _=>.int)) (A5 cT pj (by rfl) (bl Y).int_ lL (b6 (BQ (Y8 (cj (cH hr)) (W9 (neg:=false)) (qv .B 11) (qv .B 10)) (jj (wC (Y8 L0 D8 (qv .B 11) (d8 n8 (i8 (C:=j3) (g:=j4) (λ_ _=>rfl) (λ_ _ _=>.int)) (d8 o0 y6 (qv .B 10) c9) (qv .B 2))) (jj (Y8 L0 D8 (d8 n8 (i8 (C:=j3) (g:=j4) (λ_ _=>rfl) (λ_ _ _=>.int)) (qv .B 9) c9) c9))))) b8)) (qv .B 4))) x9.nd rfl (by trivial)))))) j7) (c8 (f8 (J2 (b6 (x8 (A5 B0 (A9 (c:=true)) (by rfl) (bl Y).tuple_ o5 (b6 (qv .C 5) b8))) (b6 (x8 (A5 B0 (A9 (c:=true)) (by rfl) (bl Y).tuple_ o5 (b6 (qv .C 6) b8))) b8)))))))))
theorem E2:Def (hk w) mg "_law_covers" (top 51) ["_law_stand","_law_other"] 304 (FD "_law_covers" 51 o9 303):=dk Y (by kernel_rfl) λ_ _ _ _ _ _=>us2 λ_ _=>rfl
theorem F7:FnOk P w (hk w) mg base CX0 1 304 (FD "_law_covers" 51 o9 303) ["_law_stand","_law_other"] (spM (hk w) 2 .F w9):=
 okF (E2 Y) bE (.inl rfl) rfl rfl λhr=>(c7 (t7 qC5 rfl (A0 (by rfl) (bl Y).range_ (b6 (u8 v7 v6 (by rfl) (bl Y).len_ qD4 (b6 (qv .B 0) b8)) b8)) (@d6 _ _ 2 _ bE.nd rfl (by trivial) (by trivial)) i2 (c8 (k7 (i7 jo xLt (f6 (d5 (qv .B 0) (qv .B 2))) (f6 (d5 (qv .B 1) (qv .B 2)))) (c8 (f8 B6)) j7))) (c8 (f8 B6)))
theorem X7:Def (hk w) mg "_law_behind" (top 52) ["_law_stand","_law_move_here"] 309 (FD "_law_behind" 52 o9 308):=dk Y (by kernel_rfl) λ_ _ _ _ _ _=>us2 λ_ _=>rfl
theorem bF:FnOk P w (hk w) mg base CX0 1 309 (FD "_law_behind" 52 o9 308) ["_law_stand","_law_move_here"] (spM (hk w) 2 .F M4):=
 okF (X7 Y) jb (.inl rfl) rfl rfl λhr=>(c8 (f8 (A5 B0 (A9 (c:=true)) (by rfl) (bl Y).tuple_ o5 (b6 (d9 (m9 (show f7 (b9 (top 52)) _ ["_law_stand","_law_move_here"] ["_law_stand","_law_move_here","_law_p"] from by trivial) rfl (A0 (by rfl) (bl Y).range_ (b6 (u8 v7 v6 (by rfl) (bl Y).len_ qD4 (b6 (qv .B 0) b8)) b8)) (λ_ _ _ _=>(@d6 _ _ 2 _ (by decide +kernel:(["_law_stand","_law_move_here","_law_p"]:List Str).Nodup) rfl (Or.inl rfl) (.inr rfl))) i2 (r9 (show 2<=2 by decide)) (λ_ _ _ _=>t5) (λ_ _ _ _=>(d8 o0 y6 (d8 S7 bN (f6 (d5 (qv .B 0) (qv .B 2))) (f6 (d5 (f6 (d5 (qv .B 1) c9)) (qv .B 2)))) (f6 (d5 (f6 (d5 (qv .B 1) c9)) (qv .B 2))))))) b8))))
theorem dO:Def (hk w) mg "_law_drawn" (top 53) ["_law_script","_law_begin","_law_moves"] 314 (FD "_law_drawn" 53 o9 313):=dk Y (by kernel_rfl) λ_ _ _ _ _ _=>us3 λ_ _ _=>rfl
theorem kz:FnOk P w (hk w) mg base CX0 2 314 (FD "_law_drawn" 53 o9 313) ["_law_script","_law_begin","_law_moves"] (spM (hk w) 3 .F X6):=
 okF (dO Y) J8 (.inl rfl) rfl rfl λhr=>(c7 (t4 (i:=3) J8.nd rfl (by trivial) (qv .V 1) (by rfl) (by trivial)) (c7 (t7 qC5 rfl (A0 (by rfl) (bl Y).range_ (b6 (d8 n8 (i8 (C:=j3) (g:=j4) (λ_ _=>rfl) (λ_ _ _=>.int)) (d8 C1 (i8 (C:=v9) (g:=x5) (λ_ _=>rfl) (λ_ _ _=>.int)) (i1 (d9 (qcD (l4 Y) (l9 Y) (b6 (qv .B 0) (l7 b8))))) c9) c9) b8)) (@d6 _ _ 4 _ J8.nd rfl (by trivial) (by trivial)) i2 (c7 (gu (i:=5) (show f7 (b9 (top 53)) _ ["_law_script","_law_begin","_law_moves","_law_stand","_law_k","_law_goers"] ["_law_script","_law_begin","_law_moves","_law_stand","_law_k","_law_goers","_law_move_here"] from by trivial) rfl (M0 (qv .B 2)) (λ_ _ _ _=>(@d6 _ _ 6 _ (by decide +kernel:(["_law_script","_law_begin","_law_moves","_law_stand","_law_k","_law_goers","_law_move_here"]:List Str).Nodup) rfl (Or.inl rfl) (.inr rfl))) i2 (r9 (show 6<=6 by decide)) (λ_ _ _ _=>(cf (q5 (i1 (d9 (qcD (F7 Y) (E2 Y) (b6 (qv .B 3) (b6 (f6 (d5 (qv .B 6) c9)) b8)))))))) (λ_ _ _ _=>(qv .V 6)) J8.nd rfl (by trivial)) (c8 (k7 (i7 (qP (cH hr)) (W9 (neg:=true)) (qv .B 5) (i1 (d9 (y9 b8)))) (c8 (h7 (i:=3) J8.nd rfl (by trivial) (qcD (bF Y) (X7 Y) (b6 (qv .B 3) (b6 (f6 (d5 (qv .B 5) (d8 n8 (i8 (C:=j3) (g:=j4) (λ_ _=>rfl) (λ_ _ _=>.int)) (d8 C1 (i8 (C:=v9) (g:=x5) (λ_ _=>rfl) (λ_ _ _=>.int)) (i1 (d9 (qcD (l4 Y) (l9 Y) (b6 (qv .B 0) (b6 (d8 o0 y6 c9 (qv .B 4)) b8))))) c9) (u8 v7 v6 (by rfl) (bl Y).len_ qD4 (b6 (qv .B 5) b8))))) b8))) (by rfl) (by trivial))) j7)))) (c8 (@C9 _ _ _ _ _ 3 _ _ (.inl rfl) (by rfl) (by trivial) (by decide) (by decide)))))
theorem cP:Def (hk w) mg "_law_target" (top 54) ["_law_script","_law_begin","_law_moves","_law_caps","_law_times"] 319 (FD "_law_target" 54 o9 318):=dk Y (by kernel_rfl) λ_ _ _ _ _ _=>us5 λ_ _ _ _ _=>rfl
theorem jd:FnOk P w (hk w) mg base CX0 3 319 (FD "_law_target" 54 o9 318) ["_law_script","_law_begin","_law_moves","_law_caps","_law_times"] (spM (hk w) 5 .F U3):=
 okF (cP Y) B8 (.inl rfl) rfl rfl λhr=>(c7 (h7 (i:=5) B8.nd rfl (by trivial) (qcD (l4 Y) (l9 Y) (b6 (qv .B 0) (l7 b8))) (by rfl) (by trivial)) (c7 (t4 (i:=6) B8.nd rfl (by trivial) (d8 n8 (i8 (C:=j3) (g:=j4) (λ_ _=>rfl) (λ_ _ _=>.int)) (d8 C1 (i8 (C:=v9) (g:=x5) (λ_ _=>rfl) (λ_ _ _=>.int)) (qv .B 5) c9) (u8 v7 v6 (by rfl) (bl Y).len_ qD4 (b6 (qv .B 1) b8))) (by rfl) (by trivial)) (c7 (k7 (i7 L0 D8 (d8 n8 (i8 (C:=j3) (g:=j4) (λ_ _=>rfl) (λ_ _ _=>.int)) (qv .B 5) c9) c9) (c8 (f8 (A5 B0 (A9 (c:=true)) (by rfl) (bl Y).tuple_ o5 (b6 (d9 (m9 (show f7 (b9 (top 54)) _ ["_law_script","_law_begin","_law_moves","_law_caps","_law_times","_law_cell_here","_law_place","_law_some","_law_cap","_law_p"] ["_law_script","_law_begin","_law_moves","_law_caps","_law_times","_law_cell_here","_law_place","_law_some","_law_cap","#_law_p","_law_p"] from by trivial) rfl (A0 (by rfl) (bl Y).range_ (b6 (u8 v7 v6 (by rfl) (bl Y).len_ qD4 (b6 (qv .B 1) b8)) b8)) (λ_ _ _ _=>(@d6 _ _ 10 _ (by decide +kernel:(["_law_script","_law_begin","_law_moves","_law_caps","_law_times","_law_cell_here","_law_place","_law_some","_law_cap","#_law_p","_law_p"]:List Str).Nodup) rfl (Or.inl rfl) (.inr rfl))) i2 (r9 (show 10<=10 by decide)) (λ_ _ _ _=>t5) (λ_ _ _ _=>(d8 w6 (i8 (C:=CMulB) (g:=p7) (λ_ _=>rfl) (λ_ _ _=>.int)) (d8 n8 (i8 (C:=j3) (g:=j4) (λ_ _=>rfl) (λ_ _ _=>.int)) (d8 C1 (i8 (C:=v9) (g:=x5) (λ_ _=>rfl) (λ_ _ _=>.int)) (i1 (d9 (qcD (l4 Y) (l9 Y) (b6 (qv .B 0) (b6 (d8 o0 y6 c9 (qv .B 10)) b8))))) c9) c9) (qv .B 4))))) b8)))) j7) (c7 (k7 (i7 L0 D8 (d8 n8 (i8 (C:=j3) (g:=j4) (λ_ _=>rfl) (λ_ _ _=>.int)) (qv .B 5) c9) c9) (c8 (f8 (A5 B0 (A9 (c:=true)) (by rfl) (bl Y).tuple_ o5 (b6 (d9 (m9 (show f7 (b9 (top 54)) _ ["_law_script","_law_begin","_law_moves","_law_caps","_law_times","_law_cell_here","_law_place","_law_some","_law_cap","_law_p"] ["_law_script","_law_begin","_law_moves","_law_caps","_law_times","_law_cell_here","_law_place","_law_some","_law_cap","#_law_p","_law_p"] from by trivial) rfl (A0 (by rfl) (bl Y).range_ (b6 (u8 v7 v6 (by rfl) (bl Y).len_ qD4 (b6 (qv .B 1) b8)) b8)) (λ_ _ _ _=>(@d6 _ _ 10 _ (by decide +kernel:(["_law_script","_law_begin","_law_moves","_law_caps","_law_times","_law_cell_here","_law_place","_law_some","_law_cap","#_law_p","_law_p"]:List Str).Nodup) rfl (Or.inl rfl) (.inr rfl))) i2 (r9 (show 10<=10 by decide)) (λ_ _ _ _=>t5) (λ_ _ _ _=>(d8 w6 (i8 (C:=CMulB) (g:=p7) (λ_ _=>rfl) (λ_ _ _=>.int)) (d8 n8 (i8 (C:=j3) (g:=j4) (λ_ _=>rfl) (λ_ _ _=>.int)) (d8 C1 (i8 (C:=v9) (g:=x5) (λ_ _=>rfl) (λ_ _ _=>.int)) (i1 (d9 (qcD (l4 Y) (l9 Y) (b6 (qv .B 0) (b6 (d8 o0 y6 c9 (qv .B 10)) b8))))) c9) (d8 o0 y6 (d8 qO (i8 (C:=bz) (g:=lr) (λ_ _=>rfl) (λ_ _ _=>.int)) c9 c9) c9)) (A5 cT pj (by rfl) (bl Y).int_ lL (b6 (Y8 (cj (cH hr)) (W9 (neg:=false)) (qv .B 10) (qv .B 6)) b8)))))) b8)))) j7) (c7 (h7 (i:=7) B8.nd rfl (by trivial) (A5 tj (sR (c:=true)) (by rfl) (bl Y).list_ ii (b6 (d9 (qcD (kz Y) (dO Y) (b6 (qv .B 0) (b6 (qv .B 1) (b6 (qv .B 2) b8))))) b8)) (by rfl) (by trivial)) (c7 (k7 (PW.pt (S4 (i7 L0 D8 (d8 n8 (i8 (C:=j3) (g:=j4) (λ_ _=>rfl) (λ_ _ _=>.int)) (qv .B 5) c9) c9) (N6 (i7 ax az (qv .B 3) A4)))) (c7 (@ar _ _ _ _ _ _ _ 8 _ _ B8.nd rfl (by trivial) (d5 (qv .B 3) (d8 n8 (i8 (C:=j3) (g:=j4) (λ_ _=>rfl) (λ_ _ _=>.int)) (d8 C1 (i8 (C:=v9) (g:=x5) (λ_ _=>rfl) (λ_ _ _=>.int)) (qv .B 5) c9) (u8 v7 v6 (by rfl) (bl Y).len_ qD4 (b6 (qv .B 3) b8)))) (by rfl) (by trivial)) (c8 (t7 qC5 rfl (A0 (by rfl) (bl Y).range_ (b6 (u8 v7 v6 (by rfl) (bl Y).len_ qD4 (b6 (qv .B 1) b8)) b8)) (@d6 _ _ 9 _ B8.nd rfl (by trivial) (by trivial)) i2 (c7 (@oj _ _ _ _ _ _ _ _ 7 _ _ _ _ rfl (by trivial) (qv .B 9) (S5 (d5 (qv .B 8) (qv .B 9))) (by decide) (by decide) (@jY _ _ _ _ _ _ _ (@pv _ 7 _ _ (by rfl) (by trivial) (by decide) (by decide)) (qv .B 9) set_list (by intro _;rfl)) (by rfl) (by rfl)) (c8 (k7 (i7 W7 W8 (f6 (d5 (qv .B 8) (qv .B 9))) A4) (c8 (@oj _ _ _ _ _ _ _ _ 7 _ _ _ _ rfl (by trivial) (qv .B 9) (d8 n8 (i8 (C:=j3) (g:=j4) (λ_ _=>rfl) (λ_ _ _=>.int)) (d8 C1 (i8 (C:=v9) (g:=x5) (λ_ _=>rfl) (λ_ _ _=>.int)) (i1 (d9 (qcD (l4 Y) (l9 Y) (b6 (qv .B 0) (b6 (d8 o0 y6 c9 (qv .B 9)) b8))))) c9) (d8 w6 (i8 (C:=CMulB) (g:=p7) (λ_ _=>rfl) (λ_ _ _=>.int)) c9 (qv .B 4))) (by decide) (by decide) (@jY _ _ _ _ _ _ _ (@pv _ 7 _ _ (by rfl) (by trivial) (by decide) (by decide)) (qv .B 9) set_list (by intro _;rfl)) (by rfl) (by rfl))) j7)))))) j7) (c7 (@oj _ _ _ _ _ _ _ _ 7 _ _ _ _ rfl (by trivial) (qv .B 6) (d8 o0 y6 (f6 (d5 (qv .B 7) (qv .B 6))) (d8 n8 (i8 (C:=j3) (g:=j4) (λ_ _=>rfl) (λ_ _ _=>.int)) (d8 C1 (i8 (C:=v9) (g:=x5) (λ_ _=>rfl) (λ_ _ _=>.int)) (qv .B 5) c9) c9)) (by decide) (by decide) (@jY _ _ _ _ _ _ _ (@pv _ 7 _ _ (by rfl) (by trivial) (by decide) (by decide)) (qv .B 6) set_list (by intro _;rfl)) (by rfl) (by rfl)) (c8 (f8 (A5 B0 (A9 (c:=true)) (by rfl) (bl Y).tuple_ o5 (b6 (qv .C 7) b8)))))))))))
theorem aj:Def (hk w) mg "_law_under" (top 55) ["_law_stand","_law_cap"] 324 (FD "_law_under" 55 o9 323):=dk Y (by kernel_rfl) λ_ _ _ _ _ _=>us2 λ_ _=>rfl
theorem cr:FnOk P w (hk w) mg base CX0 1 324 (FD "_law_under" 55 o9 323) ["_law_stand","_law_cap"] (spM (hk w) 2 .F K4):=
 okF (aj Y) jP (.inl rfl) rfl rfl λhr=>(c8 (f8 (Y8 L0 D8 (u8 v7 v6 (by rfl) (bl Y).len_ qD4 (b6 (i1 (d9 (m9 (show f7 (b9 (top 55)) _ ["_law_stand","_law_cap"] ["_law_stand","_law_cap","_law_p"] from by trivial) rfl (A0 (by rfl) (bl Y).range_ (b6 (u8 v7 v6 (by rfl) (bl Y).len_ qD4 (b6 (qv .B 1) b8)) b8)) (λ_ _ _ _=>(@d6 _ _ 2 _ (by decide +kernel:(["_law_stand","_law_cap","_law_p"]:List Str).Nodup) rfl (Or.inl rfl) (.inr rfl))) i2 (r9 (show 2<=2 by decide)) (λ_ _ _ _=>(cf (PW.pt (S4 (i7 ax az (f6 (d5 (qv .B 1) (qv .B 2))) A4) (N6 (i7 Y9 xGt (f6 (d5 (qv .B 0) (qv .B 2))) (f6 (d5 (qv .B 1) (qv .B 2))))))))) (λ_ _ _ _=>(qv .V 2))))) b8)) c9)))
theorem iS:Def (hk w) mg "_law_row" (top 56) ["_law_row_here","_law_begin","_law_moves","_law_target_here"] 331 (FD "_law_row" 56 o9 330):=dk Y (by kernel_rfl) λ_ _ _ _ _ _=>us4 λ_ _ _ _=>rfl
theorem oB:FnOk P w (hk w) mg base CX0 2 331 (FD "_law_row" 56 o9 330) ["_law_row_here","_law_begin","_law_moves","_law_target_here"] (spM (hk w) 4 .F P6):=
 okF (iS Y) U8 (.inl rfl) rfl rfl λhr=>(c7 (t4 (i:=4) U8.nd rfl (by trivial) (qv .V 1) (by rfl) (by trivial)) (c7 (t7 qC5 rfl (D7 (qv .U 0)) (@d6 _ _ 5 _ U8.nd rfl (by trivial) (by trivial)) i2 (c7 (k7 (B5 (q5 (i1 (d9 (qcD (F7 Y) (E2 Y) (b6 (qv .B 4) (b6 (f6 (d5 (f6 (d5 (qv .B 2) (qv .B 5))) c9)) b8))))))) (c8 (f8 B6)) j7) (c8 (h7 (i:=4) U8.nd rfl (by trivial) (qcD (bF Y) (X7 Y) (b6 (qv .B 4) (b6 (f6 (d5 (qv .B 2) (qv .B 5))) b8))) (by rfl) (by trivial))))) (c8 (f8 (qcD (F7 Y) (E2 Y) (b6 (qv .B 4) (b6 (qv .B 3) b8)))))))
theorem P7:Def (hk w) mg "_law_lifted" (top 57) ["_law_stand","_law_basis"] 338 (FD "_law_lifted" 57 o9 337):=dk Y (by kernel_rfl) λ_ _ _ _ _ _=>us2 λ_ _=>rfl
theorem U0:FnOk P w (hk w) mg base CX0 2 338 (FD "_law_lifted" 57 o9 337) ["_law_stand","_law_basis"] (spM (hk w) 2 .F C3):=
 okF (P7 Y) bD (.inl rfl) rfl rfl λhr=>(c7 (t7 qC5 rfl (D7 (qv .U 1)) (@d6 _ _ 2 _ bD.nd rfl (by trivial) (by trivial)) i2 (c8 (k7 (q5 (i1 (d9 (qcD (F7 Y) (E2 Y) (b6 (qv .B 0) (b6 (qv .B 2) b8)))))) (c8 (f8 B6)) j7))) (c8 (f8 B6)))
theorem dN:Def (hk w) mg "_law_fence" (top 58) ["_law_basis","_law_begin","_law_moves","_law_target_here"] 343 (FD "_law_fence" 58 o9 342):=dk Y (by kernel_rfl) λ_ _ _ _ _ _=>us4 λ_ _ _ _=>rfl
theorem kx:FnOk P w (hk w) mg base CX0 3 343 (FD "_law_fence" 58 o9 342) ["_law_basis","_law_begin","_law_moves","_law_target_here"] (spM (hk w) 4 .F K5):=
 okF (dN Y) W0 (.inl rfl) rfl rfl λhr=>(c7 (k7 (PW.pt (ji (q5 (i1 (d9 (qcD (U0 Y) (P7 Y) (b6 (qv .B 1) (b6 (qv .B 0) b8)))))) (ff (B5 (q5 (i1 (d9 (qcD (U0 Y) (P7 Y) (b6 (qv .B 3) (b6 (qv .B 0) b8)))))))))) (c8 (f8 B6)) j7) (c7 (t7 qC5 rfl (D7 (qv .U 0)) (@d6 _ _ 4 _ W0.nd rfl (by trivial) (by trivial)) i2 (c8 (t7 qC5 rfl (D7 (qv .U 2)) (@d6 _ _ 5 _ W0.nd rfl (by trivial) (by trivial)) i2 (c8 (k7 (B5 (q5 (i1 (d9 (qcD (U0 Y) (P7 Y) (b6 (i1 (d9 (A5 B0 (A9 (c:=true)) (by rfl) (bl Y).tuple_ o5 (b6 (d9 (m9 (show f7 (b9 (top 58)) _ ["_law_basis","_law_begin","_law_moves","_law_target_here","_law_one","_law_move_here"] ["_law_basis","_law_begin","_law_moves","_law_target_here","_law_one","_law_move_here","_law_p"] from by trivial) rfl (A0 (by rfl) (bl Y).range_ (b6 (u8 v7 v6 (by rfl) (bl Y).len_ qD4 (b6 (qv .B 4) b8)) b8)) (λ_ _ _ _=>(@d6 _ _ 6 _ (by decide +kernel:(["_law_basis","_law_begin","_law_moves","_law_target_here","_law_one","_law_move_here","_law_p"]:List Str).Nodup) rfl (Or.inl rfl) (.inr rfl))) i2 (r9 (show 6<=6 by decide)) (λ_ _ _ _=>t5) (λ_ _ _ _=>(d8 o0 y6 (f6 (d5 (f6 (d5 (qv .B 5) c9)) (qv .B 6))) (u8 (cS rfl) (b_2 (g:=cI)) (by rfl) (bl Y).max_ cU (l7 (b6 (d8 S7 bN (f6 (d5 (qv .B 4) (qv .B 6))) (f6 (d5 (f6 (d5 (qv .B 5) c9)) (qv .B 6)))) b8))))))) b8)))) (b6 (qv .B 0) b8))))))) (c8 (f8 B6)) j7))))) (c8 (f8 B6))))
theorem cQ:Def (hk w) mg "_law_climbs" (top 59) ["_law_land","_law_tree","_law_target_here"] 350 (FD "_law_climbs" 59 o9 349):=dk Y (by kernel_rfl) λ_ _ _ _ _ _=>us3 λ_ _ _=>rfl
theorem je:FnOk P w (hk w) mg base CX0 7 350 (FD "_law_climbs" 59 o9 349) ["_law_land","_law_tree","_law_target_here"] (spM (hk w) 3 .F F9):=
 okF (cQ Y) T9 (.inl rfl) rfl rfl λhr=>(c7 (t7 qC5 rfl (A0 (by rfl) (bl Y).range_ (b6 (u8 v7 v6 (by rfl) (bl Y).len_ qD4 (b6 (qv .B 1) b8)) b8)) (@d6 _ _ 3 _ T9.nd rfl (by trivial) (by trivial)) i2 (c8 (k7 (q5 (i1 (d9 (qcD (cr Y) (aj Y) (b6 (qv .B 2) (b6 (f6 (d5 (f6 (d5 (qv .B 1) (qv .B 3))) c9)) b8)))))) (c7 (h7 (i:=4) T9.nd rfl (by trivial) (qcD (yl Y) (si Y) (b6 (qv .B 0) (b6 (qv .B 1) (b6 (qv .B 3) (b6 (u8 (iX rfl) (sS (g:=L6)) (by rfl) (bl Y).max_ cU (b6 (qv .B 2) b8)) b8))))) (by rfl) (by trivial)) (c8 (f8 (qcD (F7 Y) (E2 Y) (b6 (i1 (d9 (qcD (uM Y) (nE Y) (b6 (qv .B 0) (b6 (f6 (d5 (qv .B 0) c9)) (b6 (qv .B 4) b8)))))) (b6 (qv .B 2) b8)))))) j7))) (c8 (f8 B6)))
theorem Em:Def (hk w) mg "law" (top 60) ["_law_script"] 355 (FD "law" 60 o9 354):=dk Y (by kernel_rfl) λ_ _ _ _ _ _=>us1 λ_=>rfl
theorem FO:FnOk P w (hk w) mg base CX0 8 355 (FD "law" 60 o9 354) ["_law_script"] (spM (hk w) 1 .F jr):=
 okF (Em Y) J1 (.inl rfl) rfl rfl λhr=>(c7 (t4 (i:=1) J1.nd rfl (by trivial) (d8 o0 y6 c9 (d8 n8 (i8 (C:=j3) (g:=j4) (λ_ _=>rfl) (λ_ _ _=>.int)) (i1 (d9 (qcD (l4 Y) (l9 Y) (b6 (qv .B 0) (l7 b8))))) c9)) (by rfl) (by trivial)) (c7 (t4 (i:=2) J1.nd rfl (by trivial) (d8 o0 y6 c9 (d8 n8 (i8 (C:=j3) (g:=j4) (λ_ _=>rfl) (λ_ _ _=>.int)) (i1 (d9 (qcD (l4 Y) (l9 Y) (b6 (qv .B 0) (l7 b8))))) c9)) (by rfl) (by trivial)) (c7 (t4 (i:=3) J1.nd rfl (by trivial) (Y8 L0 D8 (d8 n8 (i8 (C:=j3) (g:=j4) (λ_ _=>rfl) (λ_ _ _=>.int)) (i1 (d9 (qcD (l4 Y) (l9 Y) (b6 (qv .B 0) (l7 b8))))) c9) c9) (by rfl) (by trivial)) (c7 (t4 (i:=4) J1.nd rfl (by trivial) c9 (by rfl) (by trivial)) (c7 (k7 (i7 L0 D8 (d8 n8 (i8 (C:=j3) (g:=j4) (λ_ _=>rfl) (λ_ _ _=>.int)) (i1 (d9 (qcD (l4 Y) (l9 Y) (b6 (qv .B 0) (l7 b8))))) c9) c9) (c8 (t4 (i:=4) J1.nd rfl (by trivial) (d8 o0 y6 c9 (d8 n8 (i8 (C:=j3) (g:=j4) (λ_ _=>rfl) (λ_ _ _=>.int)) (d8 C1 (i8 (C:=v9) (g:=x5) (λ_ _=>rfl) (λ_ _ _=>.int)) (i1 (d9 (qcD (l4 Y) (l9 Y) (b6 (qv .B 0) (l7 b8))))) c9) (d8 qO (i8 (C:=bz) (g:=lr) (λ_ _=>rfl) (λ_ _ _=>.int)) c9 c9))) (by rfl) (by trivial))) j7) (c7 (h7 (i:=5) J1.nd rfl (by trivial) (y9 b8) (by rfl) (by trivial)) (c7 (t7 qC5 rfl (A0 (by rfl) (bl Y).range_ (b6 (d8 o0 y6 c9 (d8 n8 (i8 (C:=j3) (g:=j4) (λ_ _=>rfl) (λ_ _ _=>.int)) (i1 (d9 (qcD (l4 Y) (l9 Y) (b6 (qv .B 0) (l7 b8))))) c9)) b8)) (@d6 _ _ 6 _ J1.nd rfl (by trivial) (by trivial)) i2 (c8 (@O5 _ _ _ _ _ _ _ 5 _ _ _ _ rfl (by trivial) (x8 (qcD (mj Y) (fN Y) (b6 (qv .B 0) (b6 (d8 o0 y6 c9 (d8 w6 (i8 (C:=CMulB) (g:=p7) (λ_ _=>rfl) (λ_ _ _=>.int)) (qv .B 1) (qv .B 6))) (b6 (qv .B 1) (b6 (qv .B 3) (b6 (qv .B 4) b8))))))) (by decide) (by decide) (by rfl) (by rfl) (by rfl) (by rfl) (by rfl)))) (c7 (h7 (i:=7) J1.nd rfl (by trivial) (A5 B0 (A9 (c:=true)) (by rfl) (bl Y).tuple_ o5 (b6 (d9 (m9 (show f7 (b9 (top 60)) _ ["_law_script","_law_many","_law_most","_law_plain","_law_times","_law_moves","_law_k","_law_begin","_law_land","_law_caps","_law_target_here","_law_found","_law_covered"] ["_law_script","_law_many","_law_most","_law_plain","_law_times","_law_moves","_law_k","_law_begin","_law_land","_law_caps","_law_target_here","_law_found","_law_covered","_law_p"] from by trivial) rfl (A0 (by rfl) (bl Y).range_ (b6 (qv .B 1) b8)) (λ_ _ _ _=>(@d6 _ _ 13 _ (by decide +kernel:(["_law_script","_law_many","_law_most","_law_plain","_law_times","_law_moves","_law_k","_law_begin","_law_land","_law_caps","_law_target_here","_law_found","_law_covered","_law_p"]:List Str).Nodup) rfl (Or.inl rfl) (.inr rfl))) i2 (r9 (show 13<=13 by decide)) (λ_ _ _ _=>t5) (λ_ _ _ _=>(d8 w6 (i8 (C:=CMulB) (g:=p7) (λ_ _=>rfl) (λ_ _ _=>.int)) (d8 n8 (i8 (C:=j3) (g:=j4) (λ_ _=>rfl) (λ_ _ _=>.int)) (i1 (d9 (qcD (l4 Y) (l9 Y) (b6 (qv .B 0) (b6 (d8 o0 y6 c9 (qv .B 13)) b8))))) c9) (qv .B 4))))) b8)) (by rfl) (by trivial)) (c7 (h7 (i:=8) J1.nd rfl (by trivial) (J2 (b6 (qv .V 7) (b6 (x8 (A5 B0 (A9 (c:=true)) (by rfl) (bl Y).tuple_ o5 (b6 (qv .C 5) b8))) b8))) (by rfl) (by trivial)) (c7 (h7 (i:=9) J1.nd rfl (by trivial) (qcD (yj Y) (sf Y) (b6 (qv .B 8) (b6 (qv .B 2) b8))) (by rfl) (by trivial)) (c7 (h7 (i:=10) J1.nd rfl (by trivial) (qcD (jd Y) (cP Y) (b6 (qv .B 0) (b6 (qv .B 7) (b6 (qv .B 5) (b6 (qv .B 9) (b6 (qv .B 4) b8)))))) (by rfl) (by trivial)) (c7 (t4 (i:=11) J1.nd rfl (by trivial) (qcD (yk Y) (sh Y) (b6 (qv .B 8) (b6 (qv .B 10) (b6 (d8 o0 y6 c9 (d8 n8 (i8 (C:=j3) (g:=j4) (λ_ _=>rfl) (λ_ _ _=>.int)) (i1 (d9 (qcD (l4 Y) (l9 Y) (b6 (qv .B 0) (l7 b8))))) c9)) b8)))) (by rfl) (by trivial)) (c7 (k7 (PW.pt (S4 (i7 L0 D8 (f6 (d5 (qv .B 11) c9)) R3) (N6 (B5 (q5 (i1 (d9 (qcD (oB Y) (iS Y) (b6 (f6 (d5 (qv .B 11) c9)) (b6 (qv .B 7) (b6 (qv .B 5) (b6 (qv .B 10) b8)))))))))))) (c8 (f8 B6)) j7) (c7 (k7 (PW.pt (S4 (i7 oy kB (f6 (d5 (qv .B 11) c9)) R3) (N6 (i7 oy kB (f6 (d5 (qv .B 11) c9)) R3)))) (c8 (k7 (PW.pt (ji (i7 oy kB (f6 (d5 (qv .B 11) c9)) R3) (ff (B5 (q5 (i1 (d9 (qcD (kx Y) (dN Y) (b6 (f6 (d5 (qv .B 11) c9)) (b6 (qv .B 7) (b6 (qv .B 5) (b6 (qv .B 10) b8)))))))))))) (c8 (f8 B6)) j7)) j7) (c7 (k7 (i7 W7 W8 (qv .B 9) A4) (c8 (f8 B6)) j7) (c7 (t4 (i:=12) J1.nd rfl (by trivial) (Y8 Y9 xGt (u8 v7 v6 (by rfl) (bl Y).len_ qD4 (b6 (i1 (d9 (m9 (show f7 (b9 (top 60)) _ ["_law_script","_law_many","_law_most","_law_plain","_law_times","_law_moves","_law_k","_law_begin","_law_land","_law_caps","_law_target_here","_law_found","_law_covered"] ["_law_script","_law_many","_law_most","_law_plain","_law_times","_law_moves","_law_k","_law_begin","_law_land","_law_caps","_law_target_here","_law_found","_law_covered","_law_cap"] from by trivial) rfl (M0 (qv .B 9)) (λ_ _ _ _=>(@d6 _ _ 13 _ (by decide +kernel:(["_law_script","_law_many","_law_most","_law_plain","_law_times","_law_moves","_law_k","_law_begin","_law_land","_law_caps","_law_target_here","_law_found","_law_covered","_law_cap"]:List Str).Nodup) rfl (Or.inl rfl) (.inr rfl))) i2 (r9 (show 13<=13 by decide)) (λ_ _ _ _=>(cf (q5 (i1 (d9 (qcD (cr Y) (aj Y) (b6 (qv .B 10) (b6 (qv .B 13) b8)))))))) (λ_ _ _ _=>(qv .V 13))))) b8)) c9) (by rfl) (by trivial)) (c7 (k7 (PW.pt (ji (PW.pt (S4 (i7 L0 D8 (f6 (d5 (qv .B 11) c9)) R3) (N6 (B5 (q5 (qv .B 12)))))) (ff (PW.pt (S4 (i7 L0 D8 (f6 (d5 (qv .B 11) c9)) R3) (N6 (q5 (qv .B 12)))))))) (c8 (f8 B6)) j7) (c8 (f8 (BQ (Fy (qv .B 12)) (jj (qcD (je Y) (cQ Y) (b6 (qv .B 8) (b6 (i1 (d9 (qcD (kq Y) (ie Y) (b6 (qv .B 8) (b6 (qv .B 2) b8))))) (b6 (qv .B 10) b8)))))))))))))))))))))))))
end
def spLaw (K:Frag):Sp:=λvs H Q _=>∃(a:Addr)(ns:List Int),vs = [.ref a]/\SqL K H a (ns.map V.int)/\ns.length<=63/\(∀x∈ns,Builtin.Int.intBits x<=1048576)/\∀H',Q (.bl true) H'
theorem all_ {l:PySem.W.OpenLaw}{w:World}{mg:Str->Option Value}{fa:Addr}(Y:En w mg) (hp:∀ns:List Int,ns.length<=63->(∀x∈ns,Builtin.Int.intBits x<=1048576)->jr [.scr (ns.map W.int)]=.ok (.bl true)) (e:mg "law" = some (.ref fa)):∃fd:FuncData,(∀(s:Shared) (v:Value),BindsTo s fd ⟨[v],[]⟩ [("_law_script",v)])/\∀base:Heap,(hk w).In base->base.Ns mainGlobals mg->FnOk l.prog w (hk w) mg base CX0 8 fa fd ["_law_script"] (spLaw (hk w)):=by
 cases e.symm.trans (Em Y).m;exact ⟨FD "law" 60 o9 354,λs v=>.of_eq rfl,λbase _ _=>yV (FO Y) hp⟩
end K94
open PySem PySem.W PyProof.Rows
namespace K94
end K94
set_option maxHeartbeats 0 in
theorem PySem.Challenge.cw_tokenmoor_k94_whole_cover_and_crown_agre_holds : PySem.Challenge.rw_tokenmoor_k94_whole_cover_and_crown_agre.Holds := by
 w_on;o_law
 refine holds_open (q:=K94.view) (loose:=[]) (Xt:=λs=>xlAt K94.view [] s&&recOk [] s) (XP:=XL K94.view [])
  (Yf:=K94.hook.obs) (Ya:=K94.hook.val) (YP:=K94.hook.says) (N:=4108) K94.hl0 K94.hook.of K94.hook.keeps
  (λs e=>xl_of s (Bool.and_eq_true_iff.mp e).1) XL.keeps (by rfl) (by rfl) (by rfl)
  (λs e=>recFacts_of (Bool.and_eq_true_iff.mp e).2) (by rfl) (by first|assumption|decide +kernel)
  (by decide +kernel) ⟨rfl,rfl,rfl,rfl,rfl,by decide +kernel⟩ ?hw ?hc
 (case hw=>w_witness2)
 refine L2.walk_ofKB (l:=PySem.Challenge.rw_tokenmoor_k94_whole_cover_and_crown_agre) (n:=63) (k:=8) (x := "_law_script") (CX:=L2.CX0) (sp:=K94.spLaw) rfl (by decide) rfl ⟨rfl,by decide,by decide⟩ (λw h Y=>PySem.W.kIn_of Y)
  (λw mg fa h X G e=>K94.all_ ⟨h,X,G⟩ K94.law_pure e)
  (λK H a ns hl hb hO hS=>⟨a,ns,rfl,hS,hl,hb,λ_=>rfl⟩) λ_ _ _ _ z=>z
