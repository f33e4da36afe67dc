import PyProof.Rows.All
import Wide.All
import OpenK.AllK
import Wide.FinOn
import Lean
import PyProof.EqAt
import PyProof.EqKinds
import PyProof.TupleCall
import PyProof.ZipIter
import PyProof.TupleIter
import PyProof.WalksMore
import PyProof.EnumMake
import PyProof.Draws
import PyProof.P3In
import KE.KSortTup
import PyProof.Rows.SortWalk
import KE.KMinKey
import KE.KLam
import KE.KNestM
import KE.IntBitsLaws
import KE.KRevIter
import PyProof.TupleOfGen
import PySem.Challenge.RW_tokenmoor_k59_whole_what_keeps_places_do
open PySem.W (Frag)
set_option Elab.async false
set_option linter.all false
set_option maxRecDepth 100000
theorem Z1 {p q:Prop} (a:p) (b:q):p/\q:=⟨a,b⟩
noncomputable section
namespace L2
open PySem PySem.Spec PyProof.Rows
def defArgs (s:Stmt):Arguments:=match s with
 | .FunctionDef _ a _ _ _ _ _ _ _ _=>a
 | _=>{ posonlyargs:=[],args:=[],vararg:=none,kwonlyargs:=[],kw_defaults:=[],kwarg:=none,defaults:=[] }
def defBody (s:Stmt):List Stmt:=match s with
 | .FunctionDef _ _ b _ _ _ _ _ _ _=>b
 | _=>[]
def defScope (s:Stmt):Scope:=match s with
 | .FunctionDef _ _ _ _ _ _ sc _ _ _=>sc
 | _=>{ kind:=.function,names:=[],isGenerator:=false,isCoroutine:=false }
end L2
section
end
namespace K59
open PySem L2 PySem.W PyProof.Rows
def top (i:Nat):Stmt:=PySem.Challenge.pw_tokenmoor_k59_whole_what_keeps_places_do.main.body.getD i (.Pass ⟨0,0,0,0⟩)
abbrev hxS (s:String) (t:Nat):Value:=.str (Str.ofString s) t
abbrev hxI (i:Int):Value:=.int i 0
abbrev hxO (c:String) (d:Data):Obj:=⟨.type c,none,d,#[]⟩
abbrev hxE (P:Params) (s:String) (t:Nat) (v:Value):DictEntry:=⟨PyData.keyHash P (Str.ofString s),.str (Str.ofString s) t,v⟩
abbrev hxF (n q:String) (st:Stmt) (dV kV doc pm:Value) (an:Option Addr) (cd ct:Value):Data:=.func (PySem.W.fnOf (Str.ofString n) (Str.ofString q) (defArgs st) (defBody st) (defScope st) dV kV doc pm an cd ct)
abbrev hxG (n:String) (i:Nat) (pm:Value) (c:Nat):Obj:=hxO "function" (hxF n n (top i) .none .none .none pm none (.ref c) .none)
abbrev hxD (n:String) (t:Nat) (l a:Int) (r8:Nat) (r11:Nat) (v13 v14:Value) (r15:Nat) (x16:Int) (t18:Nat):Data:=.fields #[.str (Str.ofString n) t,.str (Str.ofString n) (t+1),.str (Str.ofString "/claim/cut.py") (t+2),hxI l,hxI a,hxI 0,hxI 0,hxI 3,.ref r8,.bool true,hxI 181,.ref r11,.none,v13,v14,.ref r15,hxI x16,hxI l,.str (Str.ofString "/claim/cut.py") t18]
abbrev hxM0:Value:=hxS "law_tokenmoor_k59_whole_what_keeps_places_do" 524
abbrev hxM1:Value:=hxS "tokenmoor.balances" 429
abbrev hxM2:Value:=hxS "tokenmoor.bases" 327
abbrev hxM3:Value:=hxS "tokenmoor.ceilings" 437
abbrev hxM4:Value:=hxS "tokenmoor.moors" 248
abbrev hxM5:Value:=hxS "tokenmoor.walks" 335
abbrev hxM6:Value:=hxS "tokenmoor.weights" 409
@[irreducible] def hxheap:Params->Frag:=fun P=>
 (nat_lit 2,⟨.none,none,(.dict #[] 0),#[]⟩) ::
 (nat_lit 3,hxO "dict" (.dict #[hxE P "__name__" 165 (hxS "law_tokenmoor_k59_whole_what_keeps_places_do" 524),hxE P "__doc__" 166 .none,hxE P "__package__" 167 .none,hxE P "__loader__" 168 (.builtin "__main__.__loader__#opaque"),hxE P "__spec__" 169 .none,hxE P "__annotations__" 170 (.ref 6),hxE P "__builtins__" 171 (.ref 4),hxE P "__file__" 173 (hxS "/claim/cut.py" 172),hxE P "__cached__" 174 .none,hxE P "MoorError" 206 (.ref 24),hxE P "NoMoor" 222 (.ref 37),hxE P "Stuck" 247 (.ref 56),hxE P "GREATEST_COUNT" 251 (.int 1000000000 250),hxE P "MOST_PLACES" 253 (.int 6 252),hxE P "MOST_MOVES" 255 (.int 8 254),hxE P "is_count" 262 (.ref 65),hxE P "moor" 268 (.ref 70),hxE P "made_move" 276 (.ref 77),hxE P "made_counts" 286 (.ref 84),hxE P "must_be_listed" 296 (.ref 91),hxE P "covers" 306 (.ref 98),hxE P "able" 314 (.ref 105),hxE P "after" 320 (.ref 110),hxE P "change" 326 (.ref 115),hxE P "source" 334 (.ref 120),hxE P "stands_of" 349 (.ref 127),hxE P "hurdle" 359 (.ref 134),hxE P "sum_of" 369 (.ref 141),hxE P "stride" 383 (.ref 148),hxE P "goes" 395 (.ref 155),hxE P "shifted" 401 (.ref 160),hxE P "noughts" 408 (.ref 167),hxE P "weigh" 416 (.ref 172),hxE P "weighed_changes" 422 (.ref 177),hxE P "is_falling" 428 (.ref 182),hxE P "unit" 436 (.ref 187),hxE P "ceiling" 444 (.ref 192),hxE P "first_table" 450 (.ref 197),hxE P "coming" 459 (.ref 204),hxE P "leaving" 465 (.ref 209),hxE P "pivoted" 471 (.ref 214),hxE P "cleared" 477 (.ref 219),hxE P "bag_of" 491 (.ref 226),hxE P "weights_of" 497 (.ref 231),hxE P "in_least_numbers" 503 (.ref 236),hxE P "greatest_divisor" 512 (.ref 243),hxE P "level" 523 (.ref 250),hxE P "_law_cell_at" 533 (.ref 257),hxE P "_law_stream" 545 (.ref 264),hxE P "_law_weights" 551 (.ref 269),hxE P "_law_free_move" 557 (.ref 274),hxE P "_law_kept_move" 563 (.ref 279),hxE P "_law_moves" 577 (.ref 286),hxE P "_law_row" 583 (.ref 291),hxE P "_law_bag_goes" 589 (.ref 296),hxE P "_law_numbers" 599 (.ref 303),hxE P "_law_kept_down" 610 (.ref 310),hxE P "law" 616 (.ref 315)] 58)) ::
 (nat_lit 15,hxO "tuple" (.seq #[(.type "ValueError")] 0)) ::
 (nat_lit 22,hxO "tuple" (.seq #[] 0)) ::
 (nat_lit 23,hxO "dict" (.dict #[hxE P "__module__" 196 (hxS "tokenmoor.errors" 187),hxE P "__firstlineno__" 200 (.int 2 199),hxE P "__static_attributes__" 201 (.ref 22),hxE P "__weakref__" 203 (.ref 25),hxE P "__doc__" 204 .none] 3)) ::
 (nat_lit 25,hxO "getset_descriptor" (.fields #[(hxS "__weakref__" 202),(.ref 24),(.builtin "ExceptionGroup.__weakref__"),.none])) ::
 (nat_lit 28,hxO "tuple" (.seq #[(.ref 24)] 0)) ::
 (nat_lit 35,hxO "tuple" (.seq #[] 0)) ::
 (nat_lit 36,hxO "dict" (.dict #[hxE P "__module__" 214 (hxS "tokenmoor.errors" 187),hxE P "__firstlineno__" 218 (.int 4 217),hxE P "__static_attributes__" 219 (.ref 35),hxE P "__doc__" 220 .none] 2)) ::
 (nat_lit 40,hxO "tuple" (.seq #[(.ref 24)] 0)) ::
 (nat_lit 52,hxO "code" (.fields #[(hxS "__init__" 235),(hxS "Stuck.__init__" 236),(hxS "/claim/cut.py" 237),(hxI 8),(hxI 2),(hxI 0),(hxI 0),(hxI 3),(.ref 47),(.bool true),(hxI 181),(.ref 48),.none,(.ref 49),(.ref 50),(.ref 51),(hxI 240),(hxI 8),(hxS "/claim/cut.py" 241)])) ::
 (nat_lit 54,hxO "tuple" (.seq #[(hxS "at" 243)] 0)) ::
 (nat_lit 55,hxO "dict" (.dict #[hxE P "__module__" 230 (hxS "tokenmoor.errors" 187),hxE P "__firstlineno__" 234 (.int 6 233),hxE P "__init__" 242 (.ref 53),hxE P "__static_attributes__" 244 (.ref 54),hxE P "__doc__" 245 .none] 2)) ::
 (nat_lit 64,hxO "code" (hxD "is_count" 256 14 1 59 60 (.ref 61) (.ref 62) 63 260 261)) ::
 (nat_lit 65,hxG "is_count" 8 hxM4 64) ::
 (nat_lit 69,hxO "code" (hxD "moor" 263 18 2 66 67 .none .none 68 266 267)) ::
 (nat_lit 70,hxG "moor" 9 hxM4 69) ::
 (nat_lit 76,hxO "code" (hxD "made_move" 269 24 2 71 72 (.ref 73) (.ref 74) 75 274 275)) ::
 (nat_lit 77,hxG "made_move" 10 hxM4 76) ::
 (nat_lit 83,hxO "code" (hxD "made_counts" 277 27 3 78 79 (.ref 80) (.ref 81) 82 284 285)) ::
 (nat_lit 84,hxG "made_counts" 11 hxM4 83) ::
 (nat_lit 90,hxO "code" (hxD "must_be_listed" 287 33 4 85 86 (.ref 87) (.ref 88) 89 294 295)) ::
 (nat_lit 91,hxG "must_be_listed" 12 hxM4 90) ::
 (nat_lit 97,hxO "code" (hxD "covers" 297 38 2 92 93 (.ref 94) (.ref 95) 96 304 305)) ::
 (nat_lit 98,hxG "covers" 13 hxM4 97) ::
 (nat_lit 104,hxO "code" (hxD "able" 307 43 2 99 100 (.ref 101) (.ref 102) 103 312 313)) ::
 (nat_lit 105,hxG "able" 14 hxM4 104) ::
 (nat_lit 109,hxO "code" (hxD "after" 315 45 2 106 107 .none .none 108 318 319)) ::
 (nat_lit 110,hxG "after" 15 hxM4 109) ::
 (nat_lit 114,hxO "code" (hxD "change" 321 49 1 111 112 .none .none 113 324 325)) ::
 (nat_lit 115,hxG "change" 16 hxM4 114) ::
 (nat_lit 119,hxO "code" (hxD "source" 329 52 2 116 117 .none .none 118 332 333)) ::
 (nat_lit 120,hxG "source" 18 hxM2 119) ::
 (nat_lit 126,hxO "code" (hxD "stands_of" 337 55 3 121 122 (.ref 123) (.ref 124) 125 347 348)) ::
 (nat_lit 127,hxG "stands_of" 20 hxM5 126) ::
 (nat_lit 133,hxO "code" (hxD "hurdle" 350 63 2 128 129 (.ref 130) (.ref 131) 132 357 358)) ::
 (nat_lit 134,hxG "hurdle" 21 hxM5 133) ::
 (nat_lit 140,hxO "code" (hxD "sum_of" 360 68 2 135 136 (.ref 137) (.ref 138) 139 367 368)) ::
 (nat_lit 141,hxG "sum_of" 22 hxM5 140) ::
 (nat_lit 147,hxO "code" (hxD "stride" 370 73 3 142 143 (.ref 144) (.ref 145) 146 381 382)) ::
 (nat_lit 148,hxG "stride" 23 hxM5 147) ::
 (nat_lit 154,hxO "code" (hxD "goes" 384 82 4 149 150 (.ref 151) (.ref 152) 153 393 394)) ::
 (nat_lit 155,hxG "goes" 24 hxM5 154) ::
 (nat_lit 159,hxO "code" (hxD "shifted" 396 88 3 156 157 .none .none 158 399 400)) ::
 (nat_lit 160,hxG "shifted" 25 hxM5 159) ::
 (nat_lit 166,hxO "code" (hxD "noughts" 402 90 1 161 162 (.ref 163) (.ref 164) 165 406 407)) ::
 (nat_lit 167,hxG "noughts" 26 hxM5 166) ::
 (nat_lit 171,hxO "code" (hxD "weigh" 411 93 2 168 169 .none .none 170 414 415)) ::
 (nat_lit 172,hxG "weigh" 28 hxM6 171) ::
 (nat_lit 176,hxO "code" (hxD "weighed_changes" 417 95 2 173 174 .none .none 175 420 421)) ::
 (nat_lit 177,hxG "weighed_changes" 29 hxM6 176) ::
 (nat_lit 181,hxO "code" (hxD "is_falling" 423 97 2 178 179 .none .none 180 426 427)) ::
 (nat_lit 182,hxG "is_falling" 30 hxM6 181) ::
 (nat_lit 186,hxO "code" (hxD "unit" 431 100 2 183 184 .none .none 185 434 435)) ::
 (nat_lit 187,hxG "unit" 32 hxM1 186) ::
 (nat_lit 191,hxO "code" (hxD "ceiling" 439 103 3 188 189 .none .none 190 442 443)) ::
 (nat_lit 192,hxG "ceiling" 34 hxM3 191) ::
 (nat_lit 196,hxO "code" (hxD "first_table" 445 117 3 193 194 .none .none 195 448 449)) ::
 (nat_lit 197,hxG "first_table" 35 hxM3 196) ::
 (nat_lit 203,hxO "code" (hxD "coming" 451 122 1 198 199 (.ref 200) (.ref 201) 202 457 458)) ::
 (nat_lit 204,hxG "coming" 36 hxM3 203) ::
 (nat_lit 208,hxO "code" (hxD "leaving" 460 127 3 205 206 .none .none 207 463 464)) ::
 (nat_lit 209,hxG "leaving" 37 hxM3 208) ::
 (nat_lit 213,hxO "code" (hxD "pivoted" 466 130 4 210 211 .none .none 212 469 470)) ::
 (nat_lit 214,hxG "pivoted" 38 hxM3 213) ::
 (nat_lit 218,hxO "code" (hxD "cleared" 472 133 4 215 216 .none .none 217 475 476)) ::
 (nat_lit 219,hxG "cleared" 39 hxM3 218) ::
 (nat_lit 225,hxO "code" (hxD "bag_of" 478 135 5 220 221 (.ref 222) (.ref 223) 224 489 490)) ::
 (nat_lit 226,hxG "bag_of" 40 hxM3 225) ::
 (nat_lit 230,hxO "code" (hxD "weights_of" 492 141 4 227 228 .none .none 229 495 496)) ::
 (nat_lit 231,hxG "weights_of" 41 hxM3 230) ::
 (nat_lit 235,hxO "code" (hxD "in_least_numbers" 498 144 1 232 233 .none .none 234 501 502)) ::
 (nat_lit 236,hxG "in_least_numbers" 42 hxM3 235) ::
 (nat_lit 242,hxO "code" (hxD "greatest_divisor" 504 149 2 237 238 (.ref 239) (.ref 240) 241 510 511)) ::
 (nat_lit 243,hxG "greatest_divisor" 43 hxM3 242) ::
 (nat_lit 249,hxO "code" (hxD "level" 513 155 2 244 245 (.ref 246) (.ref 247) 248 521 522)) ::
 (nat_lit 250,hxG "level" 44 hxM3 249) ::
 (nat_lit 256,hxO "code" (hxD "_law_cell_at" 526 164 2 251 252 (.ref 253) (.ref 254) 255 531 532)) ::
 (nat_lit 257,hxG "_law_cell_at" 46 hxM0 256) ::
 (nat_lit 263,hxO "code" (hxD "_law_stream" 534 168 3 258 259 (.ref 260) (.ref 261) 262 543 544)) ::
 (nat_lit 264,hxG "_law_stream" 47 hxM0 263) ::
 (nat_lit 268,hxO "code" (hxD "_law_weights" 546 175 2 265 266 .none .none 267 549 550)) ::
 (nat_lit 269,hxG "_law_weights" 48 hxM0 268) ::
 (nat_lit 273,hxO "code" (hxD "_law_free_move" 552 181 3 270 271 .none .none 272 555 556)) ::
 (nat_lit 274,hxG "_law_free_move" 49 hxM0 273) ::
 (nat_lit 278,hxO "code" (hxD "_law_kept_move" 558 186 4 275 276 .none .none 277 561 562)) ::
 (nat_lit 279,hxG "_law_kept_move" 50 hxM0 278) ::
 (nat_lit 285,hxO "code" (hxD "_law_moves" 564 202 2 280 281 (.ref 282) (.ref 283) 284 575 576)) ::
 (nat_lit 286,hxG "_law_moves" 51 hxM0 285) ::
 (nat_lit 290,hxO "code" (hxD "_law_row" 578 214 3 287 288 .none .none 289 581 582)) ::
 (nat_lit 291,hxG "_law_row" 52 hxM0 290) ::
 (nat_lit 295,hxO "code" (hxD "_law_bag_goes" 584 228 3 292 293 .none .none 294 587 588)) ::
 (nat_lit 296,hxG "_law_bag_goes" 53 hxM0 295) ::
 (nat_lit 302,hxO "code" (hxD "_law_numbers" 590 239 3 297 298 (.ref 299) (.ref 300) 301 597 598)) ::
 (nat_lit 303,hxG "_law_numbers" 54 hxM0 302) ::
 (nat_lit 309,hxO "code" (hxD "_law_kept_down" 600 246 3 304 305 (.ref 306) (.ref 307) 308 608 609)) ::
 (nat_lit 310,hxG "_law_kept_down" 55 hxM0 309) ::
 (nat_lit 314,hxO "code" (hxD "law" 611 252 1 311 312 .none .none 313 614 615)) ::
 (nat_lit 315,hxG "law" 56 hxM0 314) ::
 []
def hxas:List Addr:=[2,3,15,22,23,25,28,35,36,40,52,54,55,64,65,69,70,76,77,83,84,90,91,97,98,104,105,109,110,114,115,119,120,126,127,133,134,140,141,147,148,154,155,159,160,166,167,171,172,176,177,181,182,186,187,191,192,196,197,203,204,208,209,213,214,218,219,225,226,230,231,235,236,242,243,249,250,256,257,263,264,268,269,273,274,278,279,285,286,290,291,295,296,302,303,309,310,314,315]
def view:Program:={ PySem.Challenge.pw_tokenmoor_k59_whole_what_keeps_places_do with main:={ PySem.Challenge.pw_tokenmoor_k59_whole_what_keeps_places_do.main with body:=[1,2,3,5,6,7,8,9,10,11,12,13,14,15,16,18,20,21,22,23,24,25,26,28,29,30,32,34,35,36,37,38,39,40,41,42,43,44,46,47,48,49,50,51,52,53,54,55,56].map top } }
def hook:PySem.W.Hook:=PySem.W.kmHook hxheap hxas (fun _=>by kernel_rfl) [206]
theorem hl0:LeftO PySem.Challenge.rw_tokenmoor_k59_whole_what_keeps_places_do.prog view [] (fun s=>xlAt view [] s&&recOk [] s) hook.obs hook.val 4114:=by
  intro w; kernel_rfl
end K59
local macro_rules | `(tactic| omega)=>`(tactic| first | with_reducible assumption | decide | lia)
set_option genSizeOf false
set_option genSizeOfSpec false
namespace L2
open PySem PySem.Spec PyProof.Rows
abbrev Key:=Sum Int Str
def keyIs:Key->Value->Bool
 | .inl k,v=>Value.isInt k v
 | .inr x,v=>Value.isStrOf x v
def keyH (w:World):Key->Int
 | .inl k=>hashInt k
 | .inr x=>hashStr w x
theorem keyIs_shape:∀ {k:Key} {v:Value},keyIs k v=true->(∃ i t,k=Sum.inl i/\v=Value.int i t)\/(∃ x t,k=Sum.inr x/\v=Value.str x t)
 | .inl i,v,h=>by
  obtain ⟨t,e⟩:=Value.isInt_shape (k:=i) (v:=v) h
  exact .inl ⟨i,t,rfl,e⟩
 | .inr x,v,h=>by
  obtain ⟨t,e⟩:=Value.isStrOf_shape (x:=x) (v:=v) h
  exact .inr ⟨x,t,rfl,e⟩
theorem key_ll (a b:Int):decide ((Sum.inl a:Key)=Sum.inl b)=(a == b):=by
 by_cases e:a=b
 ·subst e; simp
 ·have h:¬ (Sum.inl a:Key)=Sum.inl b:=fun q=>e (Sum.inl.inj q)
  rw [decide_eq_false h]
  exact (beq_eq_false_iff_ne.mpr e).symm
theorem key_rr (a b:Str):decide ((Sum.inr a:Key)=Sum.inr b)=decide (a=b):=by
 by_cases e:a=b
 ·subst e; simp
 ·have h:¬ (Sum.inr a:Key)=Sum.inr b:=fun q=>e (Sum.inr.inj q)
  rw [decide_eq_false h,decide_eq_false e]
theorem key_lr (a:Int) (b:Str):decide ((Sum.inl a:Key)=Sum.inr b)=false:=decide_eq_false (fun q=>nomatch q)
theorem key_rl (a:Str) (b:Int):decide ((Sum.inr a:Key)=Sum.inl b)=false:=decide_eq_false (fun q=>nomatch q)
def mixKind (prog:Program) (w:World):PySem.KeyKind prog w Key where
 is:=keyIs
 hash:=keyH w
 inj:=fun v a b ha hb=>by
  rcases keyIs_shape ha with ⟨i,t,rfl,rfl⟩ | ⟨x,t,rfl,rfl⟩
  ·rcases keyIs_shape hb with ⟨j,u,rfl,e⟩ | ⟨y,u,rfl,e⟩
   ·injection e with e1 _; rw [e1]
   ·exact nomatch e
  ·rcases keyIs_shape hb with ⟨j,u,rfl,e⟩ | ⟨y,u,rfl,e⟩
   ·exact nomatch e
   ·injection e with e1 _; rw [e1]
 byValue:=fun k v h=>by
  rcases keyIs_shape h with ⟨i,t,rfl,rfl⟩ | ⟨x,t,rfl,rfl⟩ <;> rfl
 pyHash:=fun hv h=>by
  rcases keyIs_shape hv with ⟨i,t,rfl,rfl⟩ | ⟨x,t,rfl,rfl⟩
  ·exact wpAny_pyHash_int h
  ·exact wpAny_pyHash_str h
 eqBool:=fun hu hv h=>by
  rcases keyIs_shape hu with ⟨i,t,rfl,rfl⟩ | ⟨x,t,rfl,rfl⟩
  ·rcases keyIs_shape hv with ⟨j,u,rfl,rfl⟩ | ⟨y,u,rfl,rfl⟩
   ·rw [key_ll] at h; exact wpAny_eqBool_int h
   ·rw [key_lr] at h; exact SeqAt.EqAt.int_str i t y u _ _ _ _ h
  ·rcases keyIs_shape hv with ⟨j,u,rfl,rfl⟩ | ⟨y,u,rfl,rfl⟩
   ·rw [key_rl] at h; exact SeqAt.EqAt.str_int x t j u _ _ _ _ h
   ·rw [key_rr] at h; exact wpAny_eqBool_str h
 «strs»:=fun k x t v h=>by
  rcases keyIs_shape h with ⟨i,u,rfl,e⟩ | ⟨y,u,rfl,e⟩
  ·exact nomatch e
  ·injection e with e1 _
   subst e1
   cases v <;> rfl
end L2
namespace L2
open PySem PySem.Spec PyProof.Rows
inductive V where
 | non | bl (b:Bool) | int (i:Int) | str (x:Str) | byt (b:Array UInt8) | flt (b:UInt64) | ref (a:Addr) | ty (n:String)
 deriving DecidableEq
def RelV:V->Value->Prop
 | .non,u=>u=Value.none
 | .bl b,u=>u=Value.bool b
 | .int i,u=>∃ t,u=Value.int i t
 | .str x,u=>∃ t,u=Value.str x t
 | .byt b,u=>∃ t,u=Value.bytes b t
 | .flt b,u=>∃ t,u=Value.float b t
 | .ref a,u=>u=Value.ref a
 | .ty n,u=>u=Value.type n
abbrev Vals:List V->List Value->Prop:=Paired RelV
theorem Vals.length {xs:List V} {us:List Value} (r:Vals xs us):xs.length=us.length:=Paired.length r
theorem Vals.get:∀ {xs:List V} {us:List Value} {i:Nat} {x:V},Vals xs us->xs[i]?=some x->∃ u,us[i]?=some u/\RelV x u:=by
 intro xs us i x a
 induction a generalizing i with
 | nil=>intro e; cases e
 | cons r t ih=>
  intro e
  cases i with
  | zero=>cases e; exact ⟨_,rfl,r⟩
  | succ i=>exact ih e
theorem Vals.set {x:V} {u:Value} (r:RelV x u):∀ {xs:List V} {us:List Value} (i:Nat),Vals xs us->Vals (xs.set i x) (us.set i u):=by
 intro xs us i h
 induction h generalizing i with
 | nil=>exact .nil
 | cons q t ih=>
  cases i with
  | zero=>exact .cons r t
  | succ i=>exact .cons q (ih i)
theorem Vals.append:∀ {xs ys:List V} {us ws:List Value},Vals xs us->Vals ys ws->Vals (xs++ys) (us++ws):=by
 intro xs ys us ws a s
 induction a with
 | nil=>exact s
 | cons r t ih=>exact .cons r ih
theorem Vals.take:∀ {xs:List V} {us:List Value} (n:Nat),Vals xs us->Vals (xs.take n) (us.take n):=by
 intro xs us n h
 induction h generalizing n with
 | nil=>cases n <;> exact .nil
 | cons r t ih=>
  cases n with
  | zero=>exact .nil
  | succ n=>exact .cons r (ih n)
theorem Vals.drop:∀ {xs:List V} {us:List Value} (n:Nat),Vals xs us->Vals (xs.drop n) (us.drop n)
 | _,_,0,r=>r
 | _,_,_+1,.nil=>.nil
 | _,_,n+1,.cons _ t=>Vals.drop n t
def RelO:Option V->Option Value->Prop
 | some v,some u=>RelV v u
 | none,none=>True
 | _,_=>False
def KV {κ:Type}:List (κ×V)->List (κ×Value)->Prop:=Paired fun (p:κ×V) (q:κ×Value)=>p.1=q.1/\RelV p.2 q.2
def kV:Key->V
 | .inl i=>.int i
 | .inr x=>.str x
inductive HO where
 | lst (xs:List V)
 | tup (xs:List V)
 | dK (kvs:List (Key×V)) | dT (kvs:List (List Key×V))
 | set (S:Int->Bool) (n:Nat)
 | ins (C dx:Addr) (fs:List (Str×V))
 | own (x:Addr)
 | xd (fs:List (Str×V))
 | met (f x:Addr)
 | rng (lo hi:Int)
 | frz (o:Obj) (u:HO)
 | tbl (k:Nat×Nat×Str)
 | ext (φ:Heap->Prop)
abbrev Hp:=Addr->Option HO
@[irreducible] def lamT:List (Addr×Nat×Nat×Str):=[(206,129,26, "leaving.<locals>.<lambda>")]
def LamCode (q:Str) (oc:Obj):Prop:=∃ vs t,oc.data=.fields vs/\vs[1]?=some (.str q t)
def upd (H:Hp) (a:Addr) (o:HO):Hp:=fun b=>if b=a then some o else H b
theorem upd_same {H:Hp} {a:Addr} {o:HO}:upd H a o a=some o:=by unfold upd; rw [if_pos rfl]
theorem upd_ne {H:Hp} {a b:Addr} {o:HO} (h:b≠a):upd H a o b=H b:=by unfold upd; rw [if_neg h]
theorem ne_of_none {H:Hp} {a b:Addr} {o:HO} (h:H a=some o) (h':H b=none):a≠b:=by
 intro e; subst e; rw [h] at h'; cases h'
section
variable (P:Program) (w:World)
def ObjOk (H:Hp) (h:Heap) (a:Addr):HO->Prop
 | .lst xs=>xs.length<=sizeLine/\∃ (its:List Value) (n:Nat),Vals xs its/\h.get? a=some { cls:=.type "list",data:=.seq its.toArray n }
 | .tup xs=>xs.length<=sizeLine/\∃ its:List Value,Vals xs its/\IsTup h a its.toArray
 | .dK kvs=>kvs.length<=sizeLine/\(a == sysModules)=false/\∃ vs,KV kvs vs/\h.DictOf (mixKind P w) a vs
 | .dT kvs=>kvs.length<=sizeLine/\(a == sysModules)=false/\∃ xs:List (List Key×Addr×Value),
   Paired (fun (p:List Key×V) (q:List Key×Addr×Value)=>p.1=q.1/\H q.2.1=some (.tup (p.1.map kV))/\RelV p.2 q.2.2) kvs xs /\
   ∃ o es ep,h.get? a=some o/\o.ExactDict/\o.data=.dict es ep/\es.toList=xs.map (entryOfKey (tupleKind (mixKind P w)))/\(xs.map (·.1)).Nodup
 | .set S n=>h.SetOf (intKind P w) a S n
 | .ins C dx fs=>H dx=some (.own a)/\fs.length<=1000/\dx≠a/\h.get? a=some (PySem.W.instObj C dx) /\
   ∃ mA,h.Ns1 dx mA/\(∀ f,RelO (fs.lookup f) (mA f))/\PySem.Within mA (fs.map (·.1))
 | .own _=>∃ o,h.get? a=some o
 | .xd fs=>∃ mA,h.Ns1 a mA/\∀ f,RelO (fs.lookup f) (mA f)
 | .rng lo hi=>∃ t u v,h.get? a=some { cls:=.type "range",data:=.fields #[.int lo t,.int hi u,.int 1 v] }
 | .frz o u=>h.get? a=some o/\ObjOk H h a u
 | .tbl k=>∃ ps:Array Value,h.get? a=some { cls:=.none,data:=.fields ps }/\(ps=#[]\/∃ c' oc,ps=#[rawInt k.1,rawInt k.2.1,.ref c']/\H c'=some (.own a)/\c'≠a/\h.get? c'=some oc/\LamCode k.2.2 oc)
 | .met f x=>h.get? a=some (PySem.W.methodObj (.ref f) (.ref x))
 | .ext φ=>φ h/\(∃ o,h.get? a=some o)/\∀ h1 h2:Heap,φ h1->(∀ o,h1.get? a=some o->h2.get? a=some o)->φ h2
def HOk (H:Hp) (h:Heap):Prop:=∀ a o,H a=some o->ObjOk P w H h a o
end
section
variable {P:Program} {w:World} {H H':Hp} {h h':Heap} {a:Addr} {o:HO}
theorem ObjOk.lt (x:ObjOk P w H h a o):a<h.objs.size:=by
 cases o with
 | lst xs=>obtain ⟨_,_,_,_,e⟩:=x; exact Heap.lt_size e
 | tup xs=>obtain ⟨_,_,_,p⟩:=x; exact p.lt
 | dK kvs=>obtain ⟨_,_,_,_,o,_,_,e,_⟩:=x; exact Heap.lt_size e
 | dT kvs=>obtain ⟨_,_,_,_,o,_,_,e,_⟩:=x; exact Heap.lt_size e
 | set S n=>obtain ⟨o,_,_,_,e,_⟩:=x; exact Heap.lt_size e
 | ins C dx fs=>obtain ⟨_,_,_,e,_⟩:=x; exact Heap.lt_size e
 | own y=>obtain ⟨_,e⟩:=x; exact Heap.lt_size e
 | xd fs=>obtain ⟨_,⟨_,_,_,e,_⟩,_⟩:=x; exact Heap.lt_size e
 | rng lo hi=>obtain ⟨_,_,_,e⟩:=x; exact Heap.lt_size e
 | frz ob u=>obtain ⟨e,_⟩:=x; exact Heap.lt_size e
 | tbl k=>obtain ⟨_,e,_⟩:=x; exact Heap.lt_size e
 | met f y=>exact Heap.lt_size (show h.get? a=some _ from x)
 | ext φ=>obtain ⟨_,⟨_,e⟩,_⟩:=x; exact Heap.lt_size e
theorem Paired.mapP {α β:Type} {F G:α->β->Prop}:∀ {l₁:List α} {l₂:List β},Paired F l₁ l₂->(∀ a b,F a b->G a b)->Paired G l₁ l₂:=by
 intro l₁ l₂ h f
 induction h with
 | nil=>exact .nil
 | cons r t ih=>exact .cons (f _ _ r) ih
theorem ObjOk.stay (x:ObjOk P w H h a o) (k:∀ b u,(b=a\/H b=some (.own a))->h.get? b=some u->h'.get? b=some u)
  (ho:∀ b,H b=some (.own a)->H' b=some (.own a)) (ht:∀ b xs,H b=some (.tup xs)->H' b=some (.tup xs)):ObjOk P w H' h' a o:=by
 induction o with
 | lst xs=>obtain ⟨z,its,n,r,e⟩:=x; exact ⟨z,its,n,r,k _ _ (.inl rfl) e⟩
 | tup xs=>obtain ⟨z,its,r,ob,e,c⟩:=x; exact ⟨z,its,r,ob,k _ _ (.inl rfl) e,c⟩
 | dK kvs=>obtain ⟨z,y,vs,r,ob,es,ep,e,c⟩:=x; exact ⟨z,y,vs,r,ob,es,ep,k _ _ (.inl rfl) e,c⟩
 | dT kvs=>
  obtain ⟨z,y,xs,r,ob,es,ep,e,c⟩:=x
  exact ⟨z,y,xs,Paired.mapP r fun p q z=>⟨z.1,ht _ _ z.2.1,z.2.2⟩,ob,es,ep,k _ _ (.inl rfl) e,c⟩
 | set S n=>obtain ⟨ob,es,ep,t,e,c⟩:=x; exact ⟨ob,es,ep,t,k _ _ (.inl rfl) e,c⟩
 | ins C dx fs=>
  obtain ⟨d,z,ne,e,mA,⟨od,es,ep,e2,c⟩,r⟩:=x
  exact ⟨ho _ d,z,ne,k _ _ (.inl rfl) e,mA,⟨od,es,ep,k _ _ (.inr d) e2,c⟩,r⟩
 | own y=>obtain ⟨ob,e⟩:=x; exact ⟨ob,k _ _ (.inl rfl) e⟩
 | xd fs=>obtain ⟨mA,⟨od,es,ep,e,c⟩,r⟩:=x; exact ⟨mA,⟨od,es,ep,k _ _ (.inl rfl) e,c⟩,r⟩
 | rng lo hi=>obtain ⟨t,u,v,e⟩:=x; exact ⟨t,u,v,k _ _ (.inl rfl) e⟩
 | frz ob u ih=>obtain ⟨e,q⟩:=x; exact ⟨k _ _ (.inl rfl) e,ih q⟩
 | tbl q=>
  obtain ⟨ps,e,r⟩:=x
  exact ⟨ps,k a _ (.inl rfl) e,r.imp id fun zz1=>by obtain ⟨c',oc,e1,e2,ne,e3,e4⟩:=zz1; exact ⟨c',oc,e1,ho _ e2,ne,k c' _ (.inr e2) e3,e4⟩⟩
 | met f y=>
  have e:h.get? a=some (PySem.W.methodObj (.ref f) (.ref y)):=x
  show h'.get? a=some (PySem.W.methodObj (.ref f) (.ref y))
  exact k a _ (.inl rfl) e
 | ext φ=>obtain ⟨p,⟨o,e⟩,st⟩:=x; exact ⟨st _ _ p fun o q=>k _ _ (.inl rfl) q,⟨o,k _ _ (.inl rfl) e⟩,st⟩
theorem HOk.lt (x:HOk P w H h) (e:H a=some o):a<h.objs.size:=(x a o e).lt
theorem HOk.fresh (x:HOk P w H h) (e:h.objs.size<=a):H a=none:=by
 cases q:H a with
 | none=>rfl
 | some u=>exact absurd (Nat.lt_of_lt_of_le (x.lt q) e) (Nat.lt_irrefl _)
theorem HOk.kept (x:HOk P w H h) (k:∀ b u,h.get? b=some u->h'.get? b=some u):HOk P w H h':=fun a o e=>
 (x a o e).stay (fun b u _ q=>k b u q) (fun _ q=>q) fun _ _ q=>q
theorem HOk.laid (x:HOk P w H h) (k:∀ b u,h.get? b=some u->h'.get? b=some u) (hp:h.objs.size<=a) (new:ObjOk P w (upd H a o) h' a o):HOk P w (upd H a o) h':=fun b u e=>by
 have hn:=x.fresh hp
 by_cases hb:b=a
 ·subst hb; rw [upd_same] at e; cases e; exact new
 ·rw [upd_ne hb] at e
  exact (x b u e).stay (fun c v _ q=>k c v q) (fun c q=>by rw [upd_ne (ne_of_none q hn)]; exact q) fun c xs q=>by rw [upd_ne (ne_of_none q hn)]; exact q
end
def Rd (H:Hp) (a:Addr) (u:HO):Prop:=H a=some u\/∃ o,H a=some (.frz o u)
theorem Rd.ok {P:Program} {w:World} {H:Hp} {h:Heap} {a:Addr} {u:HO} (r:Rd H a u) (x:HOk P w H h):ObjOk P w H h a u:=by
 rcases r with r | ⟨o,r⟩
 ·exact x a u r
 ·obtain ⟨_,q⟩:=x a _ r
  exact q
def Mut:Option HO->Prop
 | some (.lst _)=>True
 | some (.dK _)=>True
 | some (.dT _)=>True
 | some (.set _ _)=>True
 | some (.ins _ _ _)=>True
 | some (.ext _)=>True
 | _=>False
section
variable {P:Program} {w:World} {H:Hp} {h h':Heap} {x e:Addr} {o':HO}
theorem HOk.write (ok:HOk P w H h) (mu:Mut (H x)) (he:e=x\/H e=some (.own x)) (k:∀ b u,b≠e->h.get? b=some u->h'.get? b=some u) (heo:∃ u,h'.get? e=some u)
  (new:ObjOk P w (upd H x o') h' x o'):HOk P w (upd H x o') h':=fun b u q=>by
 have nown:∀ c y,H c=some (.own y)->c≠x:=fun c y r z=>by subst z; rw [r] at mu; exact mu
 have ntup:∀ c xs,H c=some (.tup xs)->c≠x:=fun c xs r z=>by subst z; rw [r] at mu; exact mu
 by_cases hb:b=x
 ·subst hb; rw [upd_same] at q; cases q; exact new
 ·rw [upd_ne hb] at q
  by_cases hbe:b=e
  ·have q':H b=some (.own x):=by
    rcases he with z | z
    ·exact absurd (hbe.trans z) hb
    ·rw [hbe]; exact z
   rw [q] at q'; cases q'
   obtain ⟨v,hv⟩:=heo
   exact ⟨v,by rw [hbe]; exact hv⟩
  ·refine (ok b u q).stay (fun c v hc r=>k c v ?_ r) (fun c r=>by rw [upd_ne (nown c b r)]; exact r) fun c xs r=>by rw [upd_ne (ntup c xs r)]; exact r
   rcases hc with rfl | hc
   ·exact hbe
   ·rintro rfl
    rcases he with z | z
    ·exact nown c b hc z
    ·rw [hc] at z; cases z; exact hb rfl
end
structure Un (fs ex:List Addr) (H H':Hp) (h h':Heap):Prop where
 keep:∀ b o,h.get? b=some o->H b=none->b∉fs->b∉ex->h'.get? b=some o
 slot:∀ b o,h.get? b=some o->H b=none->b∈fs->b∉ex->∃ sl,h'.get? b=some { o with slots:=sl }
 free:∀ b o,h.get? b=some o->H b=none->b∉ex->H' b=none
 there:∀ b o,h.get? b=some o->b∉ex->∃ o',h'.get? b=some o'
 tups:∀ b xs,H b=some (.tup xs)->H' b=some (.tup xs)
 frzs:∀ b o u,H b=some (.frz o u)->H' b=some (.frz o u)
 tbls:∀ b k,H b=some (.tbl k)->H' b=some (.tbl k)
section
variable {fs fs' ex ex':List Addr} {H H1 H2:Hp} {h h1 h2 h':Heap} {a x e:Addr} {o:HO}
theorem Un.any (u:Un fs ex H H1 h h1) {b:Addr} {ob:Obj} (q:h.get? b=some ob) (n:H b=none) (hx:b∉ex):∃ sl,h1.get? b=some { ob with slots:=sl }:=by
 by_cases hb:b∈fs
 ·exact u.slot b ob q n hb hx
 ·exact ⟨ob.slots,u.keep b ob q n hb hx⟩
theorem Un.kept (k:∀ b u,h.get? b=some u->h'.get? b=some u):Un fs ex H H h h':=
 ⟨fun b ob q _ _ _=>k b ob q,fun b ob q _ _ _=>⟨ob.slots,k b ob q⟩,fun _ _ _ n _=>n,fun b ob q _=>⟨ob,k b ob q⟩,fun _ _ q=>q,fun _ _ _ q=>q,fun _ _ q=>q⟩
theorem Un.refl:Un fs ex H H h h:=Un.kept fun _ _ q=>q
theorem Un.laid (k:∀ b u,h.get? b=some u->h'.get? b=some u) (hp:h.objs.size<=a) (hn:H a=none):Un fs ex H (upd H a o) h h' where
 keep:=fun b u q _ _ _=>k b u q
 slot:=fun b u q _ _ _=>⟨u.slots,k b u q⟩
 free:=fun b u q n _=>by rw [upd_ne (Nat.ne_of_lt (Nat.lt_of_lt_of_le (Heap.lt_size q) hp))]; exact n
 there:=fun b u q _=>⟨u,k b u q⟩
 tups:=fun b xs q=>by rw [upd_ne (ne_of_none q hn)]; exact q
 frzs:=fun b u xs q=>by rw [upd_ne (ne_of_none q hn)]; exact q
 tbls:=fun b k q=>by rw [upd_ne (ne_of_none q hn)]; exact q
theorem Un.write (mu:Mut (H x)) (he:e=x\/H e=some (.own x)) (k:∀ b u,b≠e->h.get? b=some u->h'.get? b=some u) (heo:∃ u,h'.get? e=some u):Un fs ex H (upd H x o) h h':=by
 have hx:∀ b,H b=none->b≠x:=fun b n z=>by subst z; rw [n] at mu; exact mu
 have hb:∀ b,H b=none->b≠e:=fun b n z=>by
  subst z
  rcases he with r | r
  ·exact hx b n r
  ·rw [n] at r; cases r
 have hm:∀ b u,H b=some u->¬ Mut (some u)->b≠x:=fun b u q nm z=>by subst z; rw [q] at mu; exact nm mu
 refine ⟨fun b u q n _ _=>k b u (hb b n) q,fun b u q n _ _=>⟨u.slots,k b u (hb b n) q⟩,fun b u q n _=>by rw [upd_ne (hx b n)]; exact n,fun b u q _=>?_,
  fun b xs q=>by rw [upd_ne (hm b _ q fun z=>z)]; exact q,fun b u xs q=>by rw [upd_ne (hm b _ q fun z=>z)]; exact q,fun b k q=>by rw [upd_ne (hm b _ q fun z=>z)]; exact q⟩
 by_cases hbe:b=e
 ·subst hbe; exact heo
 ·exact ⟨u,k b u hbe q⟩
end
def trk (h:Heap) (H:Hp):List Addr:=(List.range h.objs.size).filter fun a=>(H a).isSome
def hidT (h:Heap) (H:Hp):Heap:=PySem.W.hideAll h (trk h H)
theorem hidT_size (h:Heap) (H:Hp):(hidT h H).objs.size=h.objs.size:=PySem.W.hideAll_size _ _
theorem hidT_get {h:Heap} {H:Hp} {b:Addr} {o:Obj} (e:h.get? b=some o) (n:H b=none):(hidT h H).get? b=some o:=
 PySem.W.hideAll_get _ e fun hm=>by
  have q:(H b).isSome=true:=(List.mem_filter.mp hm).2
  rw [n] at q; simp at q
theorem of_hidT {h:Heap} {H:Hp} {b:Addr} {o:Obj} (e:(hidT h H).get? b=some o):h.get? b=some o/\H b=none:=by
 have e':h.get? b=some o:=PySem.W.of_hideAll (trk h H) e
 refine ⟨e',?_⟩
 cases q:H b with
 | none=>rfl
 | some x=>
  have hm:b∈trk h H:=List.mem_filter.mpr ⟨List.mem_range.mpr (Heap.lt_size e'),by simp [q]⟩
  have z:(hidT h H).get? b=none:=PySem.W.hideAll_none (trk h H) hm
  rw [z] at e; cases e
def allNews (g h:Heap) (L:Addr):List (Addr×Obj):=(List.range h.objs.size).filterMap fun a=>if a=L\/(g.get? a).isSome=true then none else (h.get? a).map fun o=>(a,o)
def rest (g h:Heap) (L d:Addr):List (Addr×Obj):=(allNews g h L).filter fun p=>decide (p.1≠d)
end L2
namespace L2
open PySem PySem.Spec PyProof.Rows
structure Mod (K:Frag) (mg:Str->Option Value) (base:Heap):Prop where
 kin:K.In base
 glob:base.Ns mainGlobals mg
 blt:∃ mb,base.Ns builtinsNs mb/\∀ x:Str,x ≠ "__name__" -> mb x=bootBuiltins x
 nolimit:base.NoLimit
 bmain:∃ bm o,mg "__builtins__" = some (.ref bm)/\bm≠builtinsNs/\base.get? bm=some o/\o.cls=.type "module" /\ o.dict=some builtinsNs/\o.data=.plain
structure Cx where
 prog:Program
 w:World
 K:Frag
 mg:Str->Option Value
 base:Heap
 A:Around
 N:List Str
 s₀:Shared
 H₀:Hp
 env:Env
 outer:List Env
 stack:List Env
 ex:List Addr
 fn:Str->Bool
 calm:Bool
 pn:List (Addr×Obj)
 xe:Value->Shared->Prop
def frs (l:List Env):List Addr:=l.filterMap (·.frame)
abbrev Cx.fs (X:Cx):List Addr:=frs X.outer
def Vis (sc:Scope) (x:Str):Prop:=sc.names.lookup x=some .local\/sc.names.lookup x=some .cell\/sc.names.lookup x=some .free
def Loc (sc:Scope) (x:Str):Prop:=sc.names.lookup x=some .local\/sc.names.lookup x=some .cell
def Look (env:Env) (h:Heap) (m:Str->Option Value) (x:Str) (u:Value):Prop:=
 (env.kindOf x=some .local/\m x=some u)\/((env.kindOf x=some .cell\/env.kindOf x=some .free)/\∃ c,env.cells.lookup x=some c/\h.IsCell c (some u))
structure Cx.Ok (X:Cx):Prop where
 mod:Mod X.K X.mg X.base
 kind:X.env.scope.kind=.function
 glob:X.env.globals=mainGlobals
 blt:X.env.builtins=builtinsNs
 above:X.s₀.heap.objs.size<=X.env.locals
 inj:∀ x y c,X.env.cells.lookup x=some c->X.env.cells.lookup y=some c->x=y
 has:∀ x,(X.env.kindOf x=some .cell\/X.env.kindOf x=some .free)->∃ c,X.env.cells.lookup x=some c
 cab:∀ x c,X.fn x=true->X.env.cells.lookup x=some c->X.s₀.heap.objs.size<=c
 hd:X.calm=true->X.A.handled=none
 frames:X.A.frames=some X.stack
 stk:X.stack=X.outer\/(X.stack=X.env::X.outer/\X.env.frame=some X.env.locals)
 exf:∀ b∈X.ex,b≠X.env.locals/\∀ x c,X.env.cells.lookup x=some c->c≠b
 bs:∀ b o,X.base.get? b=some o->X.s₀.heap.get? b=some o/\X.H₀ b=none
 bsz:X.base.objs.size<=X.s₀.heap.objs.size
 noex:∀ b o,X.base.get? b=some o->b∉X.ex
 exfs:∀ b∈X.ex,b∉X.fs
 funs:X.s₀.heap.FunFrames X.base X.outer
 frf:∀ b∈X.fs,X.H₀ b=none
 tab:∀ p∈lamT,X.H₀ p.1=some (.tbl p.2)
structure Inv (X:Cx) (pins:List (Addr×Obj)) (σ:List (Option V)) (H:Hp) (s:Shared):Prop where
 ok:X.Ok
 os:s.os=X.s₀.os
 bare:AllBare s.gens
 base:Un X.fs X.ex X.H₀ H X.s₀.heap s.heap
 loc:∃ m,s.heap.Ns X.env.locals m/\∀ (i:Nat) (x:Str) (v:V),X.N[i]?=some x->σ[i]?=some (some v)->Vis X.env.scope x->∃ u,RelV v u/\Look X.env s.heap m x u
 cell:∀ x c,X.env.cells.lookup x=some c->∃ v,s.heap.IsCell c v
 free:H X.env.locals=none
 freeC:∀ x c,X.env.cells.lookup x=some c->H c=none
 pin:∀ p∈X.pn++pins,s.heap.get? p.1=some p.2/\H p.1=none/\p.1≠X.env.locals/\p.1∉X.fs/\∀ v,p.2.data≠.cell v
 hok:HOk X.prog X.w H s.heap
 len:σ.length=X.N.length
section
variable {X:Cx} {pins:List (Addr×Obj)} {σ:List (Option V)} {H H':Hp} {s:Shared} {h':Heap}
theorem Cx.Ok.nofr (ok:X.Ok) {b:Addr} {o:Obj} (e:X.base.get? b=some o):b∉X.fs:=fun hb=>by
 have:=(ok.funs.mem hb).1
 rw [e] at this; cases this
theorem Inv.bs (I:Inv X pins σ H s):∀ b o,X.base.get? b=some o->s.heap.get? b=some o/\H b=none:=fun b o e=>
 ⟨I.base.keep b o (I.ok.bs b o e).1 (I.ok.bs b o e).2 (I.ok.nofr e) (I.ok.noex b o e),I.base.free b o (I.ok.bs b o e).1 (I.ok.bs b o e).2 (I.ok.noex b o e)⟩
theorem Inv.tab (I:Inv X pins σ H s):∀ p∈lamT,H p.1=some (.tbl p.2):=fun p hp=>I.base.tbls _ _ (I.ok.tab p hp)
theorem Inv.bk (I:Inv X pins σ H s):∀ b o,X.base.get? b=some o->s.heap.get? b=some o:=fun b o e=>(I.bs b o e).1
theorem Inv.mod (I:Inv X pins σ H s):Mod X.K X.mg X.base:=I.ok.mod
theorem Inv.kIn (I:Inv X pins σ H s):X.K.In s.heap:=I.ok.mod.kin.keeps I.bk
theorem Inv.nolimit (I:Inv X pins σ H s):s.heap.NoLimit:=I.ok.mod.nolimit.keeps I.bk
theorem Inv.fr (I:Inv X pins σ H s):∃ m,Fr X.base X.env.locals s.heap m:=
 let ⟨m,hn,_⟩:=I.loc
 ⟨m,hn,I.bk,Nat.le_trans I.ok.bsz I.ok.above⟩
theorem Inv.lt (I:Inv X pins σ H s):X.env.locals<s.heap.objs.size:=let ⟨_,hn,_⟩:=I.loc; hn.lt
theorem Inv.sz (I:Inv X pins σ H s):X.s₀.heap.objs.size<=s.heap.objs.size:=Nat.le_trans I.ok.above (Nat.le_of_lt I.lt)
theorem Inv.nofs (I:Inv X pins σ H s) {a:Addr} (h:s.heap.objs.size<=a):a∉X.fs:=fun hb=>by
 obtain ⟨_,o,ho,_⟩:=I.ok.funs.mem hb
 exact absurd (Nat.lt_of_lt_of_le (Heap.lt_size ho) (Nat.le_trans I.sz h)) (Nat.lt_irrefl _)
theorem Inv.cne (I:Inv X pins σ H s):∀ x c,X.env.cells.lookup x=some c->c≠X.env.locals:=fun x c e z=>by
 obtain ⟨v,o,ho,hd⟩:=I.cell x c e
 obtain ⟨m,⟨o',es,ep,ho',hd',_⟩,_⟩:=I.loc
 rw [z,ho'] at ho; cases ho; rw [hd'] at hd; cases hd
theorem Inv.funs (I:Inv X pins σ H s):s.heap.FunFrames X.base X.outer:=by
 have all:∀ (l:List Env),(∀ b∈frs l,b∈X.fs)->X.s₀.heap.FunFrames X.base l->s.heap.FunFrames X.base l:=by
  intro l
  induction l with
  | nil=>intro _ _; trivial
  | cons env r ih=>
   intro hs hl
   obtain ⟨hk,⟨L,o,hf,hn,ho,hd⟩,hr⟩:=hl
   have hL:L∈X.fs:=hs L (by unfold frs; rw [List.filterMap_cons,hf]; exact List.mem_cons_self)
   obtain ⟨sl,e⟩:=I.base.slot L o ho (I.ok.frf L hL) hL fun z=>I.ok.exfs L z hL
   exact ⟨hk,⟨L,_,hf,hn,e,hd⟩,ih (fun b hb=>hs b (by unfold frs; rw [List.filterMap_cons,hf]; exact List.mem_cons_of_mem _ hb)) hr⟩
 exact all X.outer (fun _ hb=>hb) I.ok.funs
theorem Inv.stack (I:Inv X pins σ H s):s.heap.FunFrames X.base X.stack:=by
 rcases I.ok.stk with e | ⟨e,hf⟩
 ·rw [e]; exact I.funs
 ·rw [e]
  obtain ⟨m,hn,_⟩:=I.loc
  refine .cons (by rw [I.ok.kind]; decide) hf hn ?_ I.funs
  exact Heap.get?_none_of_le (Nat.le_trans I.ok.bsz I.ok.above)
theorem Inv.stkSub (I:Inv X pins σ H s):∀ b∈frs X.stack,b∈X.env.locals::X.fs:=fun b hb=>by
 rcases I.ok.stk with e | ⟨e,hf⟩
 ·rw [e] at hb; exact List.mem_cons_of_mem _ hb
 ·rw [e] at hb
  unfold frs at hb
  rw [List.filterMap_cons,hf] at hb
  exact hb
theorem Inv.stkFree (I:Inv X pins σ H s):∀ b∈frs X.stack,H b=none:=fun b hb=>by
 rcases List.mem_cons.mp (I.stkSub b hb) with e | hb
 ·rw [e]; exact I.free
 ·obtain ⟨_,o,ho,_⟩:=I.ok.funs.mem hb
  exact I.base.free b o ho (I.ok.frf b hb) fun z=>I.ok.exfs b z hb
theorem Inv.step {g':Array GenState} {t':Nat} {d':Drawn} {ch:List Addr} (I:Inv X pins σ H s)
  (hch:∀ b∈ch,(b∈X.ex\/X.s₀.heap.objs.size<=b)/\b≠X.env.locals/\(∀ x c,X.env.cells.lookup x=some c->c≠b)/\∀ p∈X.pn++pins,p.1≠b)
  (keep:∀ b o,b≠X.env.locals->b∉X.fs->b∉ch->s.heap.get? b=some o->H b=none->h'.get? b=some o)
  (slot:∀ b o,b≠X.env.locals->b∈X.fs->b∉ch->s.heap.get? b=some o->H b=none->∃ sl,h'.get? b=some { o with slots:=sl }) (free:∀ b o,b∉ch->s.heap.get? b=some o->H b=none->H' b=none)
  (there:∀ b o,b∉ch->s.heap.get? b=some o->∃ o',h'.get? b=some o')
  (tups:∀ b xs,H b=some (.tup xs)->H' b=some (.tup xs)) (frzs:∀ b o u,H b=some (.frz o u)->H' b=some (.frz o u)) (tbls:∀ b k,H b=some (.tbl k)->H' b=some (.tbl k))
  (ns:∀ m,s.heap.Ns X.env.locals m->h'.Ns X.env.locals m) (hok:HOk X.prog X.w H' h') (hg:AllBare g') :
  Inv X pins σ H' { s with heap:=h',gens:=g',drawn:=d',toks:=t' }:=by
 have neL:∀ b o,X.s₀.heap.get? b=some o->b≠X.env.locals:=fun b o e=>Nat.ne_of_lt (Nat.lt_of_lt_of_le (Heap.lt_size e) I.ok.above)
 have neC:∀ b o,X.s₀.heap.get? b=some o->b∉X.ex->b∉ch:=fun b o e hx hb=>by
  rcases (hch b hb).1 with z | z
  ·exact hx z
  ·exact absurd (Nat.lt_of_lt_of_le (Heap.lt_size e) z) (Nat.lt_irrefl _)
 have cellK:∀ x c,X.env.cells.lookup x=some c->∀ v,s.heap.IsCell c v->h'.IsCell c v:=fun x c e v zz2=>by
  obtain ⟨o,ho,hd⟩:=zz2
  have nch:c∉ch:=fun z=>(hch c z).2.2.1 x c e rfl
  by_cases hc:c∈X.fs
  ·obtain ⟨sl,q⟩:=slot c o (I.cne x c e) hc nch ho (I.freeC x c e)
   exact ⟨_,q,hd⟩
  ·exact ⟨o,keep c o (I.cne x c e) hc nch ho (I.freeC x c e),hd⟩
 refine ⟨I.ok,I.os,hg,⟨fun b o e n hb hx=>?_,fun b o e n hb hx=>?_,fun b o e n hx=>?_,fun b o e hx=>?_,fun b xs e=>tups b xs (I.base.tups b xs e),fun b o xs e=>frzs b o xs (I.base.frzs b o xs e),fun b ps e=>?_⟩,?_,fun x c e=>?_,?_,fun x c e=>?_,fun p hp=>?_,hok,I.len⟩
 ·exact keep b o (neL b o e) hb (neC b o e hx) (I.base.keep b o e n hb hx) (I.base.free b o e n hx)
 ·obtain ⟨sl,e1⟩:=I.base.slot b o e n hb hx
  obtain ⟨sl',e2⟩:=slot b _ (neL b o e) hb (neC b o e hx) e1 (I.base.free b o e n hx)
  exact ⟨sl',e2⟩
 ·obtain ⟨o',e1⟩:=I.base.there b o e hx
  exact free b o' (neC b o e hx) e1 (I.base.free b o e n hx)
 ·obtain ⟨o',e1⟩:=I.base.there b o e hx
  exact there b o' (neC b o e hx) e1
 ·exact tbls b ps (I.base.tbls b ps e)
 ·obtain ⟨m,hn,hl⟩:=I.loc
  refine ⟨m,ns m hn,fun i x v e1 e2 e3=>?_⟩
  obtain ⟨u,r,l⟩:=hl i x v e1 e2 e3
  refine ⟨u,r,?_⟩
  rcases l with l | ⟨k,c,e,z⟩
  ·exact .inl l
  ·exact .inr ⟨k,c,e,cellK x c e _ z⟩
 ·obtain ⟨v,z⟩:=I.cell x c e
  exact ⟨v,cellK x c e v z⟩
 ·obtain ⟨m,⟨o,_,_,ho,_⟩,_⟩:=I.loc
  exact free _ o (fun z=>(hch _ z).2.1 rfl) ho I.free
 ·obtain ⟨v,o,ho,hd⟩:=I.cell x c e
  exact free c o (fun z=>(hch c z).2.2.1 x c e rfl) ho (I.freeC x c e)
 ·obtain ⟨e,n,ne,nf,d⟩:=I.pin p hp
  have nch:p.1∉ch:=fun z=>(hch p.1 z).2.2.2 p hp rfl
  exact ⟨keep p.1 p.2 ne nf nch e n,free p.1 p.2 nch e n,ne,nf,d⟩
theorem Inv.un {t':Nat} (I:Inv X pins σ H s) (u:Un X.fs [] H H' s.heap h') (hok:HOk X.prog X.w H' h'):Inv X pins σ H' { s with heap:=h',toks:=t' }:=by
 obtain ⟨m,⟨o,es,ep,ho,r⟩,_⟩:=id I.loc
 obtain ⟨sl,hL⟩:=u.any ho I.free (by simp)
 exact I.step (g':=s.gens) (d':=s.drawn) (ch:=[]) (fun _ z=>nomatch z) (fun b o _ hb _ e n=>u.keep b o e n hb (by simp)) (fun b o _ hb _ e n=>u.slot b o e n hb (by simp)) (fun b o _ e n=>u.free b o e n (by simp)) (fun b o _ e=>u.there b o e (by simp)) u.tups u.frzs u.tbls (fun m' hm=>by
  obtain ⟨o',es',ep',ho',r'⟩:=hm
  rw [ho] at ho'; cases ho'
  exact ⟨_,es',ep',hL,r'⟩) hok I.bare
theorem Inv.call {g':Array GenState} {t':Nat} {d':Drawn} {ch:List Addr} (I:Inv X pins σ H s) (u:Un (frs X.stack) ch H H' s.heap h') (hok:HOk X.prog X.w H' h') (hg:AllBare g')
  (hch:∀ b∈ch,(b∈X.ex\/X.s₀.heap.objs.size<=b)/\b≠X.env.locals/\(∀ x c,X.env.cells.lookup x=some c->c≠b)/\∀ p∈X.pn++pins,p.1≠b) :
  Inv X pins σ H' { s with heap:=h',gens:=g',drawn:=d',toks:=t' }:=by
 obtain ⟨m,⟨o,es,ep,ho,r⟩,_⟩:=id I.loc
 obtain ⟨sl,hL⟩:=u.any ho I.free fun z=>(hch _ z).2.1 rfl
 exact I.step (ch:=ch) hch (fun b o hL hb hc e n=>u.keep b o e n (fun z=>(List.mem_cons.mp (I.stkSub b z)).elim hL hb) hc) (fun b o _ _ hc e n=>u.any e n hc) (fun b o hc e n=>u.free b o e n hc) (fun b o hc e=>u.there b o e hc) u.tups u.frzs u.tbls (fun m' hm=>by
  obtain ⟨o',es',ep',ho',r'⟩:=hm
  rw [ho] at ho'; cases ho'
  exact ⟨_,es',ep',hL,r'⟩) hok hg
theorem Inv.turned {t':Nat} {it:Addr} (I:Inv X pins σ H s) (k:∀ b o,b≠it->s.heap.get? b=some o->h'.get? b=some o) (hn:H it=none) (hL:it≠X.env.locals)
  (h1:it∈X.ex\/X.s₀.heap.objs.size<=it) (h2:∀ x c,X.env.cells.lookup x=some c->c≠it) (h3:∀ p∈X.pn++pins,p.1≠it):Inv X pins σ H { s with heap:=h',toks:=t' }:=by
 have nit:∀ b u,H b=some u->b≠it:=fun b u e z=>by rw [z,hn] at e; cases e
 refine I.step (g':=s.gens) (d':=s.drawn) (ch:=[it]) (fun b hb=>?_) (fun b o _ _ hc e _=>k b o (fun z=>hc (by simp [z])) e) (fun b o _ _ hc e _=>⟨o.slots,k b o (fun z=>hc (by simp [z])) e⟩) (fun _ _ _ _ n=>n)
  (fun b o hc e=>⟨o,k b o (fun z=>hc (by simp [z])) e⟩) (fun _ _ e=>e) (fun _ _ _ e=>e) (fun _ _ e=>e) (fun m hm=>?_) (fun b u e=>?_) I.bare
 ·have e:b=it:=by simpa using hb
  subst e
  exact ⟨h1,hL,h2,h3⟩
 ·obtain ⟨o,es,ep,ho,r⟩:=hm
  exact ⟨o,es,ep,k _ o (Ne.symm hL) ho,r⟩
 ·refine (I.hok b u e).stay (fun c v hc q=>k c v ?_ q) (fun _ q=>q) fun _ _ q=>q
  rcases hc with z | z
  ·rw [z]; exact nit b u e
  ·exact nit c _ z
theorem Inv.tok (I:Inv X pins σ H s) (t:Nat):Inv X pins σ H { s with toks:=t }:=I.un (h':=s.heap) (t':=t) Un.refl I.hok
theorem Inv.kept {t':Nat} (I:Inv X pins σ H s) (k:∀ b u,s.heap.get? b=some u->h'.get? b=some u):Inv X pins σ H { s with heap:=h',toks:=t' }:=I.un (Un.kept k) (I.hok.kept k)
theorem Inv.laid {a:Addr} {o:HO} {t':Nat} (I:Inv X pins σ H s) (k:∀ b u,s.heap.get? b=some u->h'.get? b=some u) (hp:s.heap.objs.size<=a) (new:ObjOk X.prog X.w (upd H a o) h' a o) :
  Inv X pins σ (upd H a o) { s with heap:=h',toks:=t' }:=I.un (Un.laid k hp (I.hok.fresh hp)) (I.hok.laid k hp new)
theorem Inv.write {x e:Addr} {o:HO} {t':Nat} (I:Inv X pins σ H s) (mu:Mut (H x)) (he:e=x\/H e=some (.own x)) (k:∀ b u,b≠e->s.heap.get? b=some u->h'.get? b=some u) (heo:∃ u,h'.get? e=some u)
  (new:ObjOk X.prog X.w (upd H x o) h' x o):Inv X pins σ (upd H x o) { s with heap:=h',toks:=t' }:=I.un (Un.write mu he k heo) (I.hok.write mu he k heo new)
theorem Inv.weak {σ':List (Option V)} (I:Inv X pins σ H s) (hl:σ'.length=σ.length) (w:∀ (i:Nat) v,σ'[i]?=some (some v)->σ[i]?=some (some v)):Inv X pins σ' H s:=
 ⟨I.ok,I.os,I.bare,I.base,let ⟨m,hn,hl'⟩:=I.loc; ⟨m,hn,fun i x v e1 e2 e3=>hl' i x v e1 (w i v e2) e3⟩,I.cell,I.free,I.freeC,I.pin,I.hok,hl.trans I.len⟩
theorem Inv.pins_of {pins':List (Addr×Obj)} (I:Inv X pins σ H s) (h:∀ p∈pins',s.heap.get? p.1=some p.2/\H p.1=none/\p.1≠X.env.locals/\p.1∉X.fs/\∀ v,p.2.data≠.cell v):Inv X pins' σ H s:=
 ⟨I.ok,I.os,I.bare,I.base,I.loc,I.cell,I.free,I.freeC,fun p hp=>(List.mem_append.mp hp).elim (fun z=>I.pin p (List.mem_append_left _ z)) (h p),I.hok,I.len⟩
theorem nodup_ix {N:List Str} (hN:N.Nodup) {i j:Nat} {x:Str} (a:N[i]?=some x) (b:N[j]?=some x):i=j:=by
 obtain ⟨h1,e1⟩:=List.getElem?_eq_some_iff.mp a
 obtain ⟨h2,e2⟩:=List.getElem?_eq_some_iff.mp b
 exact (List.getElem_inj hN).mp (e1.trans e2.symm)
theorem store_ok2 {M:Model} {A:Around} {E:Value->Shared->Prop} {i:Nat} {x:Str} {v:V} {u:Value} {Q:Unit->Shared->Prop} (I:Inv X pins σ H s) (hN:X.N.Nodup) (hi:X.N[i]?=some x) (hx:Loc X.env.scope x) (r:RelV v u)
  (h:∀ s',Inv X pins (σ.set i (some v)) H s'->(∃ a,Heap.SameBut a s.heap s'.heap/\(a=X.env.locals\/X.env.cells.lookup x=some a))->Q () s') (hf:X.fn x=true\/X.env.scope.names.lookup x=some .local:=by first | exact .inl rfl | exact .inr rfl | assumption):wpAny M A (storeName X.env x u) Q E s:=by
 obtain ⟨m,hn,hl⟩:=id I.loc
 have hcls:(X.env.scope.kind == .class||(X.env.scope.kind == .module&&X.env.locals != X.env.globals))=false:=by rw [I.ok.kind]; rfl
 have hiσ:i<σ.length:=by rw [I.len]; exact (List.getElem?_eq_some_iff.mp hi).1
 have cne:=I.cne
 have tracked:∀ {a:Addr} {h':Heap},(∃ o,s.heap.get? a=some o/\H a=none)->Heap.SameBut a s.heap h'->HOk X.prog X.w H h':=fun {a h'} ha hs b ob e=>by
  obtain ⟨_,_,hfree⟩:=ha
  refine (I.hok b ob e).stay (fun c w' hc q=>(hs.2 c ?_).trans q) (fun _ q=>q) fun _ _ q=>q
  rintro rfl
  rcases hc with rfl | hc
  ·rw [hfree] at e; cases e
  ·rw [hfree] at hc; cases hc
 rcases hx with hk | hk
 ·refine wpAny_storeName_local hk hn (fun h' hn' hs=>?_) hcls
  obtain ⟨oL,_,_,hoL,_⟩:=id hn
  refine h _ ⟨I.ok,I.os,I.bare,⟨fun b o e n hb hx=>?_,fun b o e n hb hx=>?_,I.base.free,fun b o e hx=>?_,I.base.tups,I.base.frzs,I.base.tbls⟩,⟨_,hn',fun j y v' e1 e2 e3=>?_⟩,fun y c e=>?_,I.free,I.freeC,fun p hp=>?_,tracked ⟨oL,hoL,I.free⟩ hs,by simpa using I.len⟩ ⟨_,hs,.inl rfl⟩
  ·exact (hs.2 b (Nat.ne_of_lt (Nat.lt_of_lt_of_le (Heap.lt_size e) I.ok.above))).trans (I.base.keep b o e n hb hx)
  ·obtain ⟨sl,e1⟩:=I.base.slot b o e n hb hx
   exact ⟨sl,(hs.2 b (Nat.ne_of_lt (Nat.lt_of_lt_of_le (Heap.lt_size e) I.ok.above))).trans e1⟩
  ·obtain ⟨o',e1⟩:=I.base.there b o e hx
   exact ⟨o',(hs.2 b (Nat.ne_of_lt (Nat.lt_of_lt_of_le (Heap.lt_size e) I.ok.above))).trans e1⟩
  ·by_cases hj:j=i
   ·subst hj
    rw [hi] at e1; cases e1
    rw [List.getElem?_set_self hiσ] at e2
    cases e2
    exact ⟨u,r,.inl ⟨hk,by simp⟩⟩
   ·rw [List.getElem?_set_ne (Ne.symm hj)] at e2
    obtain ⟨u',r',q⟩:=hl j y v' e1 e2 e3
    refine ⟨u',r',?_⟩
    rcases q with ⟨k,e⟩ | ⟨k,c,e,z⟩
    ·refine .inl ⟨k,?_⟩
     have:y≠x:=fun e=>hj (nodup_ix hN e1 (e ▸ hi))
     simp [this,e]
    ·exact .inr ⟨k,c,e,z.sameBut hs (cne y c e)⟩
  ·obtain ⟨w',z⟩:=I.cell y c e
   exact ⟨w',z.sameBut hs (cne y c e)⟩
  ·obtain ⟨e,n,ne,nf,d⟩:=I.pin p hp
   exact ⟨(hs.2 p.1 ne).trans e,n,ne,nf,d⟩
 ·have hfn:X.fn x=true:=by
   rcases hf with z | z
   ·exact z
   ·rw [z] at hk; cases hk
  obtain ⟨c,hc⟩:=I.ok.has x (.inl hk)
  obtain ⟨w',z⟩:=I.cell x c hc
  refine wpAny_storeName_cell I.ok.kind hk hc z (fun h' hc' hs=>?_)
  obtain ⟨oc,hoc,hocd⟩:=id z
  refine h { s with heap:=h' } ⟨I.ok,I.os,I.bare,⟨fun b o e n hb hx=>?_,fun b o e n hb hx=>?_,I.base.free,fun b o e hx=>?_,I.base.tups,I.base.frzs,I.base.tbls⟩,⟨m,hn.sameBut hs (Ne.symm (cne x c hc)),fun j y v' e1 e2 e3=>?_⟩,fun y c' e=>?_,I.free,I.freeC,fun p hp=>?_,tracked ⟨oc,hoc,I.freeC x c hc⟩ hs,by simpa using I.len⟩ ⟨c,hs,.inr hc⟩
  ·exact (hs.2 b (Nat.ne_of_lt (Nat.lt_of_lt_of_le (Heap.lt_size e) (I.ok.cab x c hfn hc)))).trans (I.base.keep b o e n hb hx)
  ·obtain ⟨sl,e1⟩:=I.base.slot b o e n hb hx
   exact ⟨sl,(hs.2 b (Nat.ne_of_lt (Nat.lt_of_lt_of_le (Heap.lt_size e) (I.ok.cab x c hfn hc)))).trans e1⟩
  ·obtain ⟨o',e1⟩:=I.base.there b o e hx
   exact ⟨o',(hs.2 b (Nat.ne_of_lt (Nat.lt_of_lt_of_le (Heap.lt_size e) (I.ok.cab x c hfn hc)))).trans e1⟩
  ·by_cases hj:j=i
   ·subst hj
    rw [hi] at e1; cases e1
    rw [List.getElem?_set_self hiσ] at e2
    cases e2
    exact ⟨u,r,.inr ⟨.inl hk,c,hc,hc'⟩⟩
   ·rw [List.getElem?_set_ne (Ne.symm hj)] at e2
    obtain ⟨u',r',q⟩:=hl j y v' e1 e2 e3
    refine ⟨u',r',?_⟩
    rcases q with q | ⟨k,c',e,z'⟩
    ·exact .inl q
    ·refine .inr ⟨k,c',e,z'.sameBut hs ?_⟩
     rintro rfl
     exact hj (nodup_ix hN e1 (I.ok.inj _ _ _ e hc ▸ hi))
  ·by_cases hcc:c'=c
   ·subst hcc; exact ⟨_,hc'⟩
   ·obtain ⟨w2,z2⟩:=I.cell y c' e
    exact ⟨w2,z2.sameBut hs hcc⟩
  ·obtain ⟨e,n,ne,nf,d⟩:=I.pin p hp
   refine ⟨(hs.2 p.1 ?_).trans e,n,ne,nf,d⟩
   intro q
   rw [q,hoc] at e
   have q':oc=p.2:=Option.some.inj e
   exact d w' (by rw [<- q']; exact hocd)
theorem store_ok {M:Model} {A:Around} {E:Value->Shared->Prop} {i:Nat} {x:Str} {v:V} {u:Value} {Q:Unit->Shared->Prop} (I:Inv X pins σ H s) (hN:X.N.Nodup) (hi:X.N[i]?=some x) (hx:Loc X.env.scope x) (r:RelV v u)
  (h:∀ s',Inv X pins (σ.set i (some v)) H s'->Q () s') (hf:X.fn x=true\/X.env.scope.names.lookup x=some .local:=by first | exact .inl rfl | exact .inr rfl | assumption):wpAny M A (storeName X.env x u) Q E s:=
 store_ok2 I hN hi hx r (fun s' I' _=>h s' I') hf
theorem Inv.call' {s':Shared} {ch:List Addr} (I:Inv X pins σ H s) (ho:s'.os=s.os) (u:Un (frs X.stack) ch H H' s.heap s'.heap) (hok:HOk X.prog X.w H' s'.heap) (hg:AllBare s'.gens)
  (hch:∀ b∈ch,(b∈X.ex\/X.s₀.heap.objs.size<=b)/\b≠X.env.locals/\(∀ x c,X.env.cells.lookup x=some c->c≠b)/\∀ p∈X.pn++pins,p.1≠b):Inv X pins σ H' s':=by
 obtain ⟨h',g',d',t',o'⟩:=s'
 have e:o'=s.os:=ho
 subst e
 exact I.call (g':=g') (t':=t') (d':=d') u hok hg hch
end
abbrev XK:=Value->Option Addr->Hp->Prop
abbrev St:=List (Option V)
abbrev VK:=V->Hp->Prop
abbrev TE:=St->Hp->VK->Prop
abbrev TT:=St->Hp->(Bool->Hp->Prop)->Prop
abbrev TA:=St->Hp->(List V->Hp->Prop)->Prop
structure Ends where
 nx:St->Hp->Prop
 rt:VK
 bk:St->Hp->Prop:=fun _ _=>False
 ct:St->Hp->Prop:=fun _ _=>False
abbrev TS:=Ends->St->Hp->Prop
def EP (X:Cx) (pins:List (Addr×Obj)) (σ:St) (Q:VK) (u:Value) (s':Shared):Prop:=∃ v H',Inv X pins σ H' s'/\RelV v u/\Q v H'
def TP (X:Cx) (pins:List (Addr×Obj)) (σ:St) (Q:Bool->Hp->Prop) (b:Bool) (s':Shared):Prop:=∃ H',Inv X pins σ H' s'/\Q b H'
def AP (X:Cx) (pins:List (Addr×Obj)) (σ:St) (Q:List V->Hp->Prop) (us:List Value) (s':Shared):Prop:=∃ vs H',Inv X pins σ H' s'/\Vals vs us/\Q vs H'
def SP (X:Cx) (pins:List (Addr×Obj)) (D:Ends) (f:Flow) (s':Shared):Prop:=
 match f with
 | .next=>∃ σ' H',Inv X pins σ' H' s'/\D.nx σ' H'
 | .brk=>∃ σ' H',Inv X pins σ' H' s'/\D.bk σ' H'
 | .cont=>∃ σ' H',Inv X pins σ' H' s'/\D.ct σ' H'
 | .ret u=>∃ v σ' H',Inv X pins σ' H' s'/\RelV v u/\D.rt v H'
def PE (X:Cx) (e:Expr) (t:TE):Prop:=
 ∀ (pins:List (Addr×Obj)) (s:Shared) (σ:St) (H:Hp) (Q:VK),Inv X pins σ H s->t σ H Q->wpAny (model X.prog X.w) X.A (eval e X.env) (EP X pins σ Q) X.xe s
def PT (X:Cx) (e:Expr) (t:TT):Prop:=
 ∀ (pins:List (Addr×Obj)) (s:Shared) (σ:St) (H:Hp) (Q:Bool->Hp->Prop),Inv X pins σ H s->t σ H Q->wpAny (model X.prog X.w) X.A (isTrue e X.env (eval e X.env)) (TP X pins σ Q) X.xe s
def PW (X:Cx) (e:Expr) (t:TT):Prop:=
 ∀ (whole:Sem Value) (pins:List (Addr×Obj)) (s:Shared) (σ:St) (H:Hp) (Q:Bool->Hp->Prop),Inv X pins σ H s->t σ H Q->wpAny (model X.prog X.w) X.A (isTrue e X.env whole) (TP X pins σ Q) X.xe s
theorem PW.pt {X:Cx} {e:Expr} {t:TT} (h:PW X e t):PT X e t:=h _
def PA (X:Cx) (es:List Expr) (t:TA):Prop:=
 ∀ (pos:Pos) (pins:List (Addr×Obj)) (s:Shared) (σ:St) (H:Hp) (Q:List V->Hp->Prop),Inv X pins σ H s->t σ H Q->wpAny (model X.prog X.w) X.A (spliced (backTo pos (starEach es X.env))) (AP X pins σ Q) X.xe s
def PS (X:Cx) (st:Stmt) (t:TS):Prop:=
 ∀ (pins:List (Addr×Obj)) (s:Shared) (σ:St) (H:Hp) (D:Ends),Inv X pins σ H s->t D σ H->wpAny (model X.prog X.w) X.A (exec st X.env) (SP X pins D) X.xe s
def PSs (X:Cx) (st:List Stmt) (t:TS):Prop:=
 ∀ (pins:List (Addr×Obj)) (s:Shared) (σ:St) (H:Hp) (D:Ends),Inv X pins σ H s->t D σ H->wpAny (model X.prog X.w) X.A (execs st X.env) (SP X pins D) X.xe s
theorem thn {α:Type} {t:Sem α} {Q Q':α->Shared->Prop} {M:Model} {A:Around} {E:Value->Shared->Prop} {s:Shared} (h:wpAny M A t Q E s) (hQ:∀ a s,Q a s->Q' a s):wpAny M A t Q' E s:=wpAny_mono h hQ fun _ _ x=>x
end L2
namespace L2
open PySem PySem.Spec PyProof.Rows
section
variable {X:Cx}
def tVar (i:Nat):TE:=fun σ H Q=>∃ v,σ[i]?=some (some v)/\Q v H
def tC (v:V):TE:=fun _ H Q=>Q v H
theorem pe_var {i:Nat} {x:Str} {pos:Pos} (hN:X.N[i]?=some x) (hv:Vis X.env.scope x) (hd:(x == ("__debug__" : Str))=false:=by decide) (hcd:(x == ("__classdict__" : Str))=false:=by decide):PE X (.Name x pos) (tVar i):=by
 intro pins s σ H Q I h
 obtain ⟨v,e,h⟩:=h
 obtain ⟨m,hn,hl⟩:=I.loc
 obtain ⟨u,r,l⟩:=hl i x v hN e hv
 have fin:EP X pins σ Q u s:=⟨v,H,I,r,h⟩
 rcases l with ⟨hk,hm⟩ | ⟨hk,c,hc,hcell⟩
 ·exact wpAny_Name (wpAny_loadName_local I.ok.kind hk hn hm fin) hd
 ·rcases hk with hk | hk
  ·exact wpAny_Name (wpAny_loadName_cell I.ok.kind hk hc hcell fin) hd
  ·exact wpAny_Name (wpAny_loadName_free I.ok.kind hk hc hcell fin hcd) hd
theorem pe_int {i j pos}:PE X (.Constant (.int i) j pos) (tC (.int i)):=fun _ _ _ H _ I h=>wpAny_Constant_int ⟨.int i,H,I.tok _,⟨_,rfl⟩,h⟩
theorem pe_bl {b j pos}:PE X (.Constant (.bool b) j pos) (tC (.bl b)):=fun _ _ _ H _ I h=>Constant_bool ⟨.bl b,H,I,rfl,h⟩
theorem pe_non {j pos}:PE X (.Constant .none j pos) (tC .non):=fun _ _ _ H _ I h=>Constant_none ⟨.non,H,I,rfl,h⟩
theorem pe_str {x j pos}:PE X (.Constant (.str x) j pos) (tC (.str x)):=fun _ _ _ H _ I h=>Calls.Constant_str ⟨.str x,H,I.tok _,⟨_,rfl⟩,h⟩
def Gl (X:Cx) (x:Str):Prop:=X.env.kindOf x=some .globalImplicit
theorem ld_glob {E:Value->Shared->Prop} {pins:List (Addr×Obj)} {s:Shared} {σ:St} {H:Hp} {x:Str} {u:Value} {pos:Pos} {Q:Value->Shared->Prop} (I:Inv X pins σ H s) (hg:Gl X x) (hm:X.mg x=some u) (h:Q u s)
  (hd:(x == ("__debug__" : Str))=false:=by decide):wpAny (model X.prog X.w) X.A (eval (.Name x pos) X.env) Q E s:=
 Calls.Name_function_global I.ok.kind hg (Calls.loadGlobal_global (by rw [I.ok.glob]; exact I.mod.glob.keeps I.bk) hm h) hd
theorem ld_blt {E:Value->Shared->Prop} {pins:List (Addr×Obj)} {s:Shared} {σ:St} {H:Hp} {x:Str} {u:Value} {pos:Pos} {Q:Value->Shared->Prop} (I:Inv X pins σ H s) (hg:Gl X x) (hm:X.mg x=none) (hv:bootBuiltins x=some u) (h:Q u s)
  (hn:x ≠ "__name__" := by decide) (hd:(x == ("__debug__" : Str))=false:=by decide):wpAny (model X.prog X.w) X.A (eval (.Name x pos) X.env) Q E s:=by
 obtain ⟨mb,h1,h2⟩:=I.mod.blt
 exact Calls.Name_function_global I.ok.kind hg (Calls.loadGlobal_builtin (by rw [I.ok.glob]; exact I.mod.glob.keeps I.bk) hm (by rw [I.ok.blt]; exact h1.keeps I.bk) ((h2 x hn).trans hv) h) hd
theorem pe_glob {x:Str} {v:V} {u:Value} {pos:Pos} (hg:Gl X x) (hm:X.mg x=some u) (r:RelV v u) (hd:(x == ("__debug__" : Str))=false:=by decide):PE X (.Name x pos) (tC v):=
 fun _ _ _ H _ I h=>ld_glob I hg hm ⟨v,H,I,r,h⟩ hd
theorem pe_bltn {x:Str} {v:V} {u:Value} {pos:Pos} (hg:Gl X x) (hm:X.mg x=none) (hv:bootBuiltins x=some u) (r:RelV v u) (hn:x ≠ "__name__" := by decide) (hd:(x == ("__debug__" : Str))=false:=by decide):PE X (.Name x pos) (tC v):=
 fun _ _ _ H _ I h=>ld_blt I hg hm hv ⟨v,H,I,r,h⟩ hn hd
variable {a b:Expr} {ta tb:TE} {pos:Pos}
def tB (t:TE):TT:=fun σ H Q=>t σ H fun x H1=>∃ c,x=.bl c/\Q c H1
theorem pt_val {e:Expr} {t:TE} (h:PE X e t) (he:∀ whole,isTrue e X.env whole=(do let v <- whole; standAt e.pos; holding [v] (truthy v)):=by intro _; rfl):PT X e (tB t):=by
 intro pins s σ H Q I hw
 refine isTrue_plain (thn (h pins s σ H _ I hw) fun v s1 zz3=>?_) (he _)
 obtain ⟨x,H1,I1,r1,q1⟩:=zz3
 obtain ⟨d,rfl,q⟩:=q1
 cases r1
 exact wpAny_truthy_bool ⟨H1,I1,q⟩
variable {tA tB':TT} {rest:List Expr}
def tAnd (t u:TT):TT:=fun σ H Q=>t σ H fun c H1=>if c=true then u σ H1 Q else Q false H1
def tOr (t u:TT):TT:=fun σ H Q=>t σ H fun c H1=>if c=true then Q true H1 else u σ H1 Q
def tNot (t:TT):TT:=fun σ H Q=>t σ H fun c H1=>Q (!c) H1
theorem pw_and1 (ha:PT X a tA):PW X (.BoolOp .And [a] pos) tA:=by
 intro wh pins s σ H Q I h
 refine isTrue_and (thn (ha pins s σ H Q I h) fun c s1 e=>?_)
 cases c with
 | true=>exact isTrue_and_nil e
 | false=>exact e
theorem pw_or1 (ha:PT X a tA):PW X (.BoolOp .Or [a] pos) tA:=by
 intro wh pins s σ H Q I h
 refine isTrue_or (thn (ha pins s σ H Q I h) fun c s1 e=>?_)
 cases c with
 | false=>exact isTrue_or_nil e
 | true=>exact e
theorem pw_and (ha:PT X a tA) (hb:PW X (.BoolOp .And (b::rest) pos) tB'):PW X (.BoolOp .And (a::b::rest) pos) (tAnd tA tB'):=by
 intro wh pins s σ H Q I h
 refine isTrue_and (thn (ha pins s σ H _ I h) fun c s1 zz4=>?_)
 obtain ⟨H1,I1,q1⟩:=zz4
 cases c with
 | true=>exact hb wh pins s1 σ H1 Q I1 q1
 | false=>exact ⟨H1,I1,q1⟩
theorem pw_or (ha:PT X a tA) (hb:PW X (.BoolOp .Or (b::rest) pos) tB'):PW X (.BoolOp .Or (a::b::rest) pos) (tOr tA tB'):=by
 intro wh pins s σ H Q I h
 refine isTrue_or (thn (ha pins s σ H _ I h) fun c s1 zz5=>?_)
 obtain ⟨H1,I1,q1⟩:=zz5
 cases c with
 | true=>exact ⟨H1,I1,q1⟩
 | false=>exact hb wh pins s1 σ H1 Q I1 q1
theorem pt_not (ha:PT X a tA):PT X (.UnaryOp .Not a pos) (tNot tA):=by
 intro pins s σ H Q I h
 exact isTrue_not (ha pins s σ H (fun c H1=>Q (!c) H1) I h)
def tAndV (ta tb:TE):TE:=fun σ H Q=>ta σ H fun x H1=>∃ c,x=.bl c/\if c=true then tb σ H1 Q else Q (.bl false) H1
def tOrV (ta tb:TE):TE:=fun σ H Q=>ta σ H fun x H1=>∃ c,x=.bl c/\if c=true then Q (.bl true) H1 else tb σ H1 Q
theorem pe_one {op} {t:TE} (h:PE X a t):PE X (.BoolOp op [a] pos) t:=fun pins s σ H Q I hw=>BoolOp_one (h pins s σ H Q I hw)
theorem pe_and (ha:PE X a ta) (hb:PE X (.BoolOp .And (b::rest) pos) tb):PE X (.BoolOp .And (a::b::rest) pos) (tAndV ta tb):=by
 intro pins s σ H Q I h
 refine BoolOp_and (thn (ha pins s σ H _ I h) fun v s1 zz6=>?_)
 obtain ⟨x,H1,I1,r1,q1⟩:=zz6
 obtain ⟨c,rfl,q1⟩:=q1
 cases r1
 refine wpAny_truthy_bool ?_
 cases c with
 | true=>exact hb pins s1 σ H1 Q I1 q1
 | false=>exact ⟨.bl false,H1,I1,rfl,q1⟩
theorem pe_or (ha:PE X a ta) (hb:PE X (.BoolOp .Or (b::rest) pos) tb):PE X (.BoolOp .Or (a::b::rest) pos) (tOrV ta tb):=by
 intro pins s σ H Q I h
 refine BoolOp_or (thn (ha pins s σ H _ I h) fun v s1 zz7=>?_)
 obtain ⟨x,H1,I1,r1,q1⟩:=zz7
 obtain ⟨c,rfl,q1⟩:=q1
 cases r1
 refine wpAny_truthy_bool ?_
 cases c with
 | false=>exact hb pins s1 σ H1 Q I1 q1
 | true=>exact ⟨.bl true,H1,I1,rfl,q1⟩
def tIf (t:TT) (ta tb:TE):TE:=fun σ H Q=>t σ H fun c H1=>if c=true then ta σ H1 Q else tb σ H1 Q
theorem pe_ifExp {c:Expr} (hc:PT X c tA) (ha:PE X a ta) (hb:PE X b tb):PE X (.IfExp c a b pos) (tIf tA ta tb):=by
 intro pins s σ H Q I h
 refine wpAny_IfExp (thn (hc pins s σ H _ I h) fun d s1 zz8=>?_)
 obtain ⟨H1,I1,q1⟩:=zz8
 cases d with
 | true=>exact ha pins s1 σ H1 Q I1 q1
 | false=>exact hb pins s1 σ H1 Q I1 q1
end
end L2
namespace L2
open PySem PySem.Spec PyProof.Rows
def SqL (K:Frag) (H:Hp) (a:Addr) (xs:List V):Prop:=
 Rd H a (.lst xs) \/
  ∃ (o:Obj) (its:Array Value) (n:Nat),K.lookup a=some o/\o.cls=.type "list" /\ o.dict=none/\o.data=.seq its n/\its.size<=sizeLine/\Vals xs its.toList
def SqT (K:Frag) (H:Hp) (a:Addr) (xs:List V):Prop:=
 Rd H a (.tup xs) \/
  ∃ (o:Obj) (its:Array Value) (n:Nat),K.lookup a=some o/\o.cls=.type "tuple" /\ o.data=.seq its n/\its.size<=sizeLine/\Vals xs its.toList
def absV:Value->Option V
 | .none=>some .non
 | .bool b=>some (.bl b)
 | .int i _=>some (.int i)
 | .str x _=>some (.str x)
 | .bytes b _=>some (.byt b)
 | .float b _=>some (.flt b)
 | .ref a=>some (.ref a)
 | .type n=>some (.ty n)
 | _=>none
theorem RelV.abs {x:V} {u:Value} (r:RelV x u):absV u=some x:=by
 cases x with
 | non=>cases r; rfl
 | bl _=>cases r; rfl
 | int _=>obtain ⟨t,rfl⟩:=r; rfl
 | str _=>obtain ⟨t,rfl⟩:=r; rfl
 | byt _=>obtain ⟨t,rfl⟩:=r; rfl
 | flt _=>obtain ⟨t,rfl⟩:=r; rfl
 | ref _=>cases r; rfl
 | ty _=>cases r; rfl
theorem RelV.inj {x y:V} {u:Value} (r:RelV x u) (q:RelV y u):x=y:=Option.some.inj (r.abs.symm.trans q.abs)
theorem Vals.inj:∀ {xs ys:List V} {us:List Value},Vals xs us->Vals ys us->xs=ys:=by
 intro xs ys us a
 induction a generalizing ys with
 | nil=>intro b; cases b; rfl
 | cons r t ih=>
  intro b
  cases b with
  | cons r' t'=>rw [r.inj r',ih t']
section
variable {X:Cx} {pins:List (Addr×Obj)} {σ:St} {H:Hp} {s:Shared} {a:Addr} {xs ys:List V}
theorem SqL.of {K:Frag} (h:H a=some (.lst xs)):SqL K H a xs:=.inl (.inl h)
theorem SqT.of {K:Frag} (h:H a=some (.tup xs)):SqT K H a xs:=.inl (.inl h)
theorem Inv.list (I:Inv X pins σ H s) (h:SqL X.K H a xs):∃ its:List Value,Vals xs its/\PlainL s.heap a its.toArray/\xs.length<=sizeLine:=by
 rcases h with h | ⟨o,its,n,hk,hc,hd,hs,hz,r⟩
 ·obtain ⟨z,its,n,r,e⟩:=h.ok I.hok
  exact ⟨its,r,⟨_,n,e,rfl,rfl,rfl⟩,z⟩
 ·refine ⟨its.toList,r,⟨o,n,I.kIn a o hk,hc,hd,by simpa using hs⟩,?_⟩
  have e:=r.length
  simp only [Array.length_toList] at e
  omega
theorem Inv.tuple (I:Inv X pins σ H s) (h:SqT X.K H a xs):∃ its:List Value,Vals xs its/\IsTup s.heap a its.toArray/\xs.length<=sizeLine:=by
 rcases h with h | ⟨o,its,n,hk,hc,hs,hz,r⟩
 ·obtain ⟨z,its,r,p⟩:=h.ok I.hok
  exact ⟨its,r,p,z⟩
 ·refine ⟨its.toList,r,⟨o,I.kIn a o hk,hc,n,by simpa using hs⟩,?_⟩
  have e:=r.length
  simp only [Array.length_toList] at e
  omega
theorem Inv.list_inj (I:Inv X pins σ H s) (h:SqL X.K H a xs) (h':SqL X.K H a ys):xs=ys:=by
 obtain ⟨its,r,⟨o,n,e,_,_,d⟩,_⟩:=I.list h
 obtain ⟨its',r',⟨o',n',e',_,_,d'⟩,_⟩:=I.list h'
 rw [e] at e'; cases e'
 rw [d] at d'
 injection d' with d1 _
 have:its=its':=by simpa using congrArg Array.toList d1
 subst this
 exact r.inj r'
theorem Inv.tuple_inj (I:Inv X pins σ H s) (h:SqT X.K H a xs) (h':SqT X.K H a ys):xs=ys:=by
 obtain ⟨its,r,⟨o,e,_,n,d⟩,_⟩:=I.tuple h
 obtain ⟨its',r',⟨o',e',_,n',d'⟩,_⟩:=I.tuple h'
 rw [e] at e'; cases e'
 rw [d] at d'
 injection d' with d1 _
 have:its=its':=by simpa using congrArg Array.toList d1
 subst this
 exact r.inj r'
end
abbrev Cx.wish (X:Cx) (E:Value->Shared->Prop):Cx:={ X with xe:=E }
abbrev Cx.nox (X:Cx):Cx:=X.wish fun _ _=>False
theorem Cx.Ok.wish {X:Cx} (ok:X.Ok) (E:Value->Shared->Prop):(X.wish E).Ok:=
 ⟨ok.mod,ok.kind,ok.glob,ok.blt,ok.above,ok.inj,ok.has,ok.cab,ok.hd,ok.frames,ok.stk,ok.exf,ok.bs,ok.bsz,ok.noex,ok.exfs,ok.funs,ok.frf,ok.tab⟩
theorem Cx.Ok.unwish {X:Cx} {E:Value->Shared->Prop} (ok:(X.wish E).Ok):X.Ok:=
 ⟨ok.mod,ok.kind,ok.glob,ok.blt,ok.above,ok.inj,ok.has,ok.cab,ok.hd,ok.frames,ok.stk,ok.exf,ok.bs,ok.bsz,ok.noex,ok.exfs,ok.funs,ok.frf,ok.tab⟩
section
variable {X:Cx} {pins:List (Addr×Obj)} {σ:St} {H:Hp} {s:Shared} {E:Value->Shared->Prop}
theorem Inv.wish (I:Inv X pins σ H s) (E:Value->Shared->Prop):Inv (X.wish E) pins σ H s:=⟨I.ok.wish E,I.os,I.bare,I.base,I.loc,I.cell,I.free,I.freeC,I.pin,I.hok,I.len⟩
theorem Inv.unwish (I:Inv (X.wish E) pins σ H s):Inv X pins σ H s:=⟨I.ok.unwish,I.os,I.bare,I.base,I.loc,I.cell,I.free,I.freeC,I.pin,I.hok,I.len⟩
theorem SP.unwish {D:Ends} {f:Flow} {s':Shared} (h:SP (X.wish E) pins D f s'):SP X pins D f s':=by
 cases f with
 | next=>obtain ⟨σ',H',I,q⟩:=h; exact ⟨σ',H',I.unwish,q⟩
 | brk=>obtain ⟨σ',H',I,q⟩:=h; exact ⟨σ',H',I.unwish,q⟩
 | cont=>obtain ⟨σ',H',I,q⟩:=h; exact ⟨σ',H',I.unwish,q⟩
 | ret u=>obtain ⟨v,σ',H',I,r,q⟩:=h; exact ⟨v,σ',H',I.unwish,r,q⟩
theorem PSs.nox {st:List Stmt} {t:TS} (h:PSs X.nox st t):PSs X st t:=fun pins s σ H D I hw=>
 wpAny_mono (h pins s σ H D (I.wish _) hw) (fun _ _ q=>q.unwish) fun _ _ z=>False.elim z
end
section
variable {X:Cx} {st:Stmt} {rest:List Stmt} {t u:TS} {e:Expr} {te:TE} {pos:Pos}
def tNext:TS:=fun D σ H=>D.nx σ H
def tSeq (t u:TS):TS:=fun D σ H=>t { D with nx:=u D } σ H
theorem pss_nil:PSs X [] tNext:=fun _ _ σ H _ I h=>wpAny_execs_nil ⟨σ,H,I,h⟩
theorem pss_cons (h1:PS X st t) (h2:PSs X rest u):PSs X (st::rest) (tSeq t u):=by
 intro pins s σ H D I h
 refine wpAny_execs_cons (thn (h1 pins s σ H { D with nx:=u D } I h) fun f s1 q=>?_)
 cases f with
 | next=>
  obtain ⟨σ',H',I',q⟩:=q
  exact h2 pins s1 σ' H' D I' q
 | ret v=>exact q
 | brk=>exact q
 | cont=>exact q
theorem pss_one (h1:PS X st t):PSs X [st] t:=by
 intro pins s σ H D I h
 refine wpAny_execs_cons (thn (h1 pins s σ H D I h) fun f s1 q=>?_)
 cases f with
 | next=>exact wpAny_execs_nil q
 | ret v=>exact q
 | brk=>exact q
 | cont=>exact q
theorem Inv.quiet {pins:List (Addr×Obj)} {σ:St} {H:Hp} {s:Shared} (I:Inv X pins σ H s):interactive X.env=false:=by simp [interactive,I.ok.kind]
def tDrop (te:TE):TS:=fun D σ H=>te σ H fun _ H1=>D.nx σ H1
theorem ps_expr (he:PE X e te) (hs:swapsWith e none pos.line X.env=pure false:=by rfl):PS X (.Expr e pos) (tDrop te):=by
 intro pins s σ H D I h
 exact wpAny_Expr_any (thn (he pins s σ H _ I h) fun v s1 zz9=>by obtain ⟨x,H1,I1,r1,q1⟩:=zz9; exact ⟨σ,H1,I1,q1⟩) I.quiet hs
def tRet (te:TE):TS:=fun D σ H=>te σ H D.rt
theorem ps_ret (he:PE X e te):PS X (.Return (some e) pos) (tRet te):=by
 intro pins s σ H D I h
 exact wpAny_Return_some (thn (he pins s σ H _ I h) fun v s1 zz10=>by obtain ⟨x,H1,I1,r1,q1⟩:=zz10; exact ⟨x,σ,H1,I1,r1,q1⟩)
def tIfS (c:TT) (t u:TS):TS:=fun D σ H=>c σ H fun b H1=>if b=true then t D σ H1 else u D σ H1
theorem ps_if {c:Expr} {a b:List Stmt} {tc:TT} (hc:PT X c tc) (ha:PSs X a t) (hb:PSs X b u):PS X (.If c a b pos) (tIfS tc t u):=by
 intro pins s σ H D I h
 refine wpAny_If (thn (hc pins s σ H _ I h) fun d s1 zz11=>?_)
 obtain ⟨H1,I1,q1⟩:=zz11
 cases d with
 | true=>exact ha pins s1 σ H1 D I1 q1
 | false=>exact hb pins s1 σ H1 D I1 q1
def tNever:TS:=fun _ _ _=>False
theorem ps_never:PS X st tNever:=fun _ _ _ _ _ _ h=>h.elim
end
abbrev TG:=V->St->Hp->(St->Hp->Prop)->Prop
abbrev TGs:=List V->St->Hp->(St->Hp->Prop)->Prop
def PG (X:Cx) (target:Expr) (t:TG):Prop:=
 ∀ (pins:List (Addr×Obj)) (s:Shared) (σ:St) (H:Hp) (v:V) (u:Value) (Q:St->Hp->Prop),Inv X pins σ H s->RelV v u->t v σ H Q ->
  wpAny (model X.prog X.w) X.A (assign target X.env u) (fun _ s'=>∃ σ' H',Inv X pins σ' H' s'/\Q σ' H') X.xe s
def PGs (X:Cx) (ts:List Expr) (t:TGs):Prop:=
 ∀ (pins:List (Addr×Obj)) (s:Shared) (σ:St) (H:Hp) (vs:List V) (us:List Value) (Q:St->Hp->Prop),Inv X pins σ H s->Vals vs us->t vs σ H Q ->
  wpAny (model X.prog X.w) X.A (assignInOrder ((assignEach ts X.env).map (·.2)) us) (fun _ s'=>∃ σ' H',Inv X pins σ' H' s'/\Q σ' H') X.xe s
abbrev TSet:=V->V->V->Hp->(Hp->Prop)->Prop
def PSet (X:Cx) (t:TSet):Prop:=
 ∀ (pins:List (Addr×Obj)) (s:Shared) (σ:St) (H:Hp) (o i v:V) (ov iv u:Value) (Q:Hp->Prop),Inv X pins σ H s->RelV o ov->RelV i iv->RelV v u->t o i v H Q ->
  wpAny (model X.prog X.w) X.A (setItem ov iv u) (fun _ s'=>∃ H',Inv X pins σ H' s'/\Q H') X.xe s
section
variable {X:Cx} {pos:Pos}
def gName (i:Nat):TG:=fun v σ H Q=>Q (σ.set i (some v)) H
theorem pg_name {i:Nat} {x:Str} (hN:X.N.Nodup) (hi:X.N[i]?=some x) (hx:Loc X.env.scope x) (hf:X.fn x=true\/X.env.scope.names.lookup x=some .local:=by first | exact .inl rfl | exact .inr rfl | assumption):PG X (.Name x pos) (gName i):=by
 intro pins s σ H v u Q I r h
 exact wpAny_assign_Name (store_ok I hN hi hx r (fun s' I'=>⟨_,H,I',h⟩) hf)
def gNil:TGs:=fun vs σ H Q=>vs = []/\Q σ H
def gCons (t:TG) (u:TGs):TGs:=fun vs σ H Q=>∃ v r,vs=v::r/\t v σ H fun σ' H'=>u r σ' H' Q
theorem pgs_nil:PGs X [] gNil:=by
 intro pins s σ H vs us Q I r h
 obtain ⟨e,h⟩:=h
 subst e
 cases r
 exact assignInOrder_nil ⟨σ,H,I,h⟩
theorem pgs_cons {e:Expr} {es:List Expr} {t:TG} {u:TGs} (h1:PG X e t) (h2:PGs X es u)
  (hs:(assignEach (e::es) X.env).map (·.2)=assign e X.env::(assignEach es X.env).map (·.2):=by rfl):PGs X (e::es) (gCons t u):=by
 intro pins s σ H vs us Q I r h
 obtain ⟨v,vr,e1,h⟩:=h
 subst e1
 cases r with
 | cons r rr=>
  rw [hs]
  refine assignInOrder_cons (thn (h1 pins s σ H _ _ _ I r h) fun _ s1 zz12=>?_)
  obtain ⟨σ1,H1,I1,q1⟩:=zz12
  exact h2 pins s1 σ1 H1 _ _ Q I1 rr q1
def gTup (K:Frag) (n:Nat) (t:TGs):TG:=fun v σ H Q=>∃ a xs,v=.ref a/\SqT K H a xs/\xs.length=n/\t xs σ H Q
theorem pg_tup {es:List Expr} {k:Nat} {t:TGs} {n:Nat} (hc:X.calm=true) (h:PGs X es t)
  (hn:(assignEach es X.env).length=n:=by rfl) (hst:(assignEach es X.env).findIdx? (·.1)=none:=by rfl):PG X (.Tuple es k pos) (gTup X.K n t):=by
 intro pins s σ H v u Q I r hw
 obtain ⟨a,xs,e1,hq,hl,hw⟩:=hw
 subst e1
 cases r
 obtain ⟨its,rv,ht,hz⟩:=I.tuple hq
 refine assign_Tuple_tuple (I.ok.hd hc) ht (by simp [hn,<- hl,rv.length]) hst fun h' hx=>?_
 have I1:Inv X pins σ H { s with heap:=h' }:=I.kept (t':=s.toks) fun b o e=>hx b o (Nat.ne_of_lt (Heap.lt_size e)) e
 exact h pins _ σ H xs _ Q I1 (by simpa using rv) hw
def gSub (to ti:TE) (t:TSet):TG:=fun v σ H Q=>to σ H fun o H1=>ti σ H1 fun i H2=>t o i v H2 fun H3=>Q σ H3
theorem pg_sub {o i:Expr} {to ti:TE} {t:TSet} (ho:PE X o to) (hi:PE X i ti) (hs:PSet X t)
  (ha:∀ v,assign (.Subscript o i pos) X.env v=(do
   let ov <- holding [v] (eval o X.env)
   let iv <- holding [v,ov] (eval i X.env)
   standAt pos
   holding [v,ov,iv] (setItem ov iv v)
   release [v,ov,iv] []):=by intro _; rfl):PG X (.Subscript o i pos) (gSub to ti t):=by
 intro pins s σ H v u Q I r h
 rw [ha]
 refine wpAny_bind (wpAny_holding (thn (ho pins s σ H _ I h) fun ov s1 zz13=>?_))
 obtain ⟨x,H1,I1,r1,q1⟩:=zz13
 refine wpAny_bind (wpAny_holding (thn (hi pins s1 σ H1 _ I1 q1) fun iv s2 zz14=>?_))
 obtain ⟨y,H2,I2,r2,q2⟩:=zz14
 refine wpAny_bind (wpAny_standAt (wpAny_bind (wpAny_holding (thn (hs pins s2 σ H2 x y v ov iv u _ I2 r1 r2 r q2) fun _ s3 zz15=>?_))))
 obtain ⟨H3,I3,q3⟩:=zz15
 exact wpAny_release ⟨σ,H3,I3,q3⟩
def tAsg (te:TE) (g:TG):TS:=fun D σ H=>te σ H fun x H1=>g x σ H1 D.nx
theorem ps_asg {tg e:Expr} {te:TE} {g:TG} (he:PE X e te) (hg:PG X tg g) (hs:swapsWithSole [tg] e pos.line X.env=pure false:=by rfl) (hw:swappedStores [tg] e X.env=pure none:=by rfl)
  (h1:(assignEach [tg] X.env).map (·.2) = [assign tg X.env]:=by rfl):PS X (.Assign [tg] e pos) (tAsg te g):=by
 intro pins s σ H D I h
 refine wpAny_Assign_stores (thn (he pins s σ H _ I h) fun v s1 zz16=>?_) hs hw
 obtain ⟨x,H1,I1,r1,q1⟩:=zz16
 rw [h1]
 exact thn (hg pins s1 σ H1 x v _ I1 r1 q1) fun _ s2 q=>q
theorem ps_set {i:Nat} {x:Str} {e:Expr} {te:TE} {pos':Pos} (hN:X.N.Nodup) (hi:X.N[i]?=some x) (hx:Loc X.env.scope x) (he:PE X e te) (hs:swapsWith e (some (.Name x pos')) pos.line X.env=pure false:=by rfl) (hf:X.fn x=true\/X.env.scope.names.lookup x=some .local:=by first | exact .inl rfl | exact .inr rfl | assumption) :
  PS X (.Assign [.Name x pos'] e pos) (tAsg te (gName i)):=by
 intro pins s σ H D I h
 refine wpAny_Assign_Name (thn (he pins s σ H _ I h) fun v s1 zz17=>?_) hs
 obtain ⟨y,H1,I1,r1,q1⟩:=zz17
 exact store_ok I1 hN hi hx r1 (fun s2 I2=>⟨_,H1,I2,q1⟩) hf
end
section
variable {X:Cx} {pos:Pos}
def tWhile (c:TT) (tb:TS):TS:=fun D σ H=>∃ W:Nat->St->Hp->Prop,(∃ m,W m σ H)/\∀ m σ H,W m σ H ->
 c σ H fun b H1=>if b=true then ∃ N:St->Hp->Prop,(∀ σ' H',N σ' H'->∃ m',m'<m/\W m' σ' H')/\tb { D with nx:=N,ct:=N,bk:=D.nx } σ H1 else D.nx σ H1
theorem ps_while {c:Expr} {body:List Stmt} {tc:TT} {tb:TS} (hp:PassesOwn (model X.prog X.w) X.A X.env X.xe) (hc:PT X c tc) (hb:PSs X body tb):PS X (.While c body [] pos) (tWhile tc tb):=by
 intro pins s σ H D I h
 obtain ⟨W,⟨m0,w0⟩,turn⟩:=h
 refine wpAny_While (codeAny_whileLoop (fun n s'=>∃ σ' H',Inv X pins σ' H' s'/\W n σ' H') ?_ m0 ⟨σ,H,I,w0⟩)
 rintro n s1 ⟨σ1,H1,I1,w1⟩
 refine wpAny_passesOwn hp (thn (hc pins s1 σ1 H1 _ I1 (turn n σ1 H1 w1)) fun b s2 zz18=>?_)
 obtain ⟨H2,I2,q2⟩:=zz18
 cases b with
 | true=>
  obtain ⟨N,hN,q2⟩:=q2
  rw [if_pos rfl]
  refine wpAny_passesOwn hp (thn (hb pins s2 σ1 H2 _ I2 q2) fun f s3 q3=>?_)
  cases f with
  | next=>
   obtain ⟨σ3,H3,I3,n3⟩:=q3
   obtain ⟨m',hm,w3⟩:=hN σ3 H3 n3
   exact ⟨m',hm,σ3,H3,I3,w3⟩
  | cont=>
   obtain ⟨σ3,H3,I3,n3⟩:=q3
   obtain ⟨m',hm,w3⟩:=hN σ3 H3 n3
   exact ⟨m',hm,σ3,H3,I3,w3⟩
  | brk=>exact q3
  | ret v=>exact q3
 | false=>
  rw [if_neg Bool.false_ne_true]
  exact wpAny_execs_nil ⟨σ1,H2,I2,q2⟩
end
structure It where
 go:Nat->Hp->Prop
 yld:Nat->Hp->V->Hp->Prop
 stop:Nat->Hp->Prop
def FpOk (X:Cx) (pins:List (Addr×Obj)) (H:Hp) (b:Addr):Prop:=
 H b=none/\b≠X.env.locals/\b∉X.fs/\(b∈X.ex\/X.s₀.heap.objs.size<=b)/\(∀ x c,X.env.cells.lookup x=some c->c≠b)/\∀ p∈X.pn++pins,p.1≠b
theorem Inv.fpOk {X:Cx} {pins:List (Addr×Obj)} {σ:St} {H H':Hp} {s:Shared} {b:Addr} (I:Inv X pins σ H s) (hb:s.heap.objs.size<=b) (hn:H' b=none):FpOk X pins H' b:=by
 refine ⟨hn,Nat.ne_of_gt (Nat.lt_of_lt_of_le I.lt hb),I.nofs hb,.inr (Nat.le_trans I.sz hb),fun x c e z=>?_,fun p hp z=>?_⟩
 ·obtain ⟨v,q⟩:=I.cell x c e
  exact absurd (Nat.lt_of_lt_of_le q.lt (by rw [z]; exact hb)) (Nat.lt_irrefl _)
 ·exact absurd (Nat.lt_of_lt_of_le (Heap.lt_size (I.pin p hp).1) (by rw [z]; exact hb)) (Nat.lt_irrefl _)
structure Turn (P:Program) (w:World) (K:Frag) (tg:Expr) (J:It) (fp:List Addr) (it:Addr) (tn:Nat->Heap->Prop):Prop where
 mem:it∈fp
 obj:∀ i h,tn i h->∀ b∈fp,∃ o,h.get? b=some o/\∀ v,o.data≠.cell v
 keep:∀ i h h',tn i h->(∀ b∈fp,∀ o,h.get? b=some o->h'.get? b=some o)->tn i h'
 item:∀ (X:Cx),X.prog=P->X.w=w->X.K=K->X.calm=true->∀ (i:Nat) (pins:List (Addr×Obj)) (s:Shared) (σ:St) (H:Hp) (E:Value->Shared->Prop),Inv X pins σ H s->(∀ b∈fp,FpOk X pins H b)->tn i s.heap->J.go i H ->
  wpAny (model P w) X.A (pyNext (.ref it)) (fun r s1=>∃ u,r=some u /\
   wpAny (model P w) X.A (letOwnedTupleGo tg (.ref it) u) (fun _ s2=>∃ x H',Inv X pins σ H' s2/\RelV x u/\J.yld i H x H'/\tn (i+1) s2.heap/\∀ b∈fp,H' b=none) E s1) E s
 done:∀ (X:Cx),X.prog=P->X.w=w->X.K=K->X.calm=true->∀ (i:Nat) (pins:List (Addr×Obj)) (s:Shared) (σ:St) (H:Hp) (E:Value->Shared->Prop),Inv X pins σ H s->(∀ b∈fp,FpOk X pins H b)->tn i s.heap->J.stop i H ->
  wpAny (model P w) X.A (pyNext (.ref it)) (fun r s1=>r=none/\Inv X pins σ H s1) E s
 self:∀ (A:Around) (i:Nat) (s:Shared) (Q:Value->Shared->Prop) (E:Value->Shared->Prop),tn i s.heap->Q (.ref it) s->wpAny (model P w) A (pyIter (.ref it)) Q E s
abbrev TI:=St->Hp->(It->Hp->Prop)->Prop
def PIE (X:Cx) (pins:List (Addr×Obj)) (σ:St) (tg:Expr) (R:It->Hp->Prop) (itv:Value) (s2:Shared):Prop:=
 ∃ (it:Addr) (fp:List Addr) (tn:Nat->Heap->Prop) (J:It) (H':Hp),itv=.ref it/\Inv X pins σ H' s2/\Turn X.prog X.w X.K tg J fp it tn/\tn 0 s2.heap/\(∀ b∈fp,FpOk X pins H' b)/\R J H'
def PI (X:Cx) (tg iter:Expr) (wi:TI):Prop:=
 ∀ (pins:List (Addr×Obj)) (s:Shared) (σ:St) (H:Hp) (R:It->Hp->Prop),Inv X pins σ H s->wi σ H R ->
  wpAny (model X.prog X.w) X.A (eval iter X.env) (fun v s1=>wpAny (model X.prog X.w) X.A (pyIter v) (PIE X pins σ tg R) X.xe s1) X.xe s
theorem go_of {M:Model} {A:Around} {E:Value->Shared->Prop} {s:Shared} {tg:Expr} {it:Addr} {u:Value} {o:Obj} {n:String} {vs:Array Value} {Q:Unit->Shared->Prop} (ho:s.heap.get? it=some o) (hc:o.cls=.type n) (hd:o.data=.fields vs)
    (hn:["enumerate", "zip", "dict_itemiterator", "dict_reverseitemiterator", "odict_iterator", "itertools.zip_longest", "itertools.pairwise"].contains n=false) (hQ:Q () s):wpAny M A (letOwnedTupleGo tg (.ref it) u) Q E s:=by
  unfold letOwnedTupleGo
  cases tg <;> first
    | exact wpAny_pure hQ
    | (cases u <;> first
        | exact wpAny_pure hQ
        | (refine wpAny_bind (wpAny_load ho ?_)
           rw [hc,hd]
           show wpAny M A (if (["enumerate", "zip", "dict_itemiterator", "dict_reverseitemiterator", "odict_iterator", "itertools.zip_longest", "itertools.pairwise"].contains n&&vs[0]? == some (rawInt _))=true then _ else _) Q E s
           rw [if_neg (by intro h; rw [hn,Bool.false_and] at h; cases h)]
           exact wpAny_pure hQ))
def Itl (K:Frag) (a:Addr):It:=
 ⟨fun i H=>∃ xs x,SqL K H a xs/\xs[i]?=some x,fun i H x H'=>H'=H/\∀ xs,SqL K H a xs->xs[i]?=some x,fun i H=>∃ xs,SqL K H a xs/\xs.length<=i⟩
def Itt (K:Frag) (a:Addr):It:=
 ⟨fun i H=>∃ xs x,SqT K H a xs/\xs[i]?=some x,fun i H x H'=>H'=H/\∀ xs,SqT K H a xs->xs[i]?=some x,fun i H=>∃ xs,SqT K H a xs/\xs.length<=i⟩
def Itr (lo:Int) (n:Nat):It:=⟨fun i _=>i<n,fun i H x H'=>H'=H/\x=.int (lo+i),fun i _=>n<=i⟩
theorem turn_list {P:Program} {w:World} {K:Frag} {tg:Expr} (a it:Addr):Turn P w K tg (Itl K a) [it] it (fun i h=>h.IsListIter it a i) where
 mem:=by simp
 obj:=fun i h st b hb=>by
  have e:b=it:=by simpa using hb
  subst e
  obtain ⟨o,e,c,d⟩:=st
  exact ⟨o,e,fun v z=>by rw [d] at z; cases z⟩
 keep:=fun i h h' st k=>st.at fun o e=>k it (by simp) o e
 item:=by
  intro X hP hw hK hc i pins s σ H E I hf st hg
  subst hP hw hK
  obtain ⟨xs,x,hq,hx⟩:=hg
  obtain ⟨its,rv,p,hz⟩:=I.list hq
  obtain ⟨u,hu,ru⟩:=rv.get hx
  obtain ⟨f0,f1,f2,f3,f4,f5⟩:=hf it (by simp)
  refine wpAny_pyNext_list_item st p.isList (x:=u) (by simpa using hu) fun h' st' sb=>?_
  have I1:Inv X pins σ H { s with heap:=h' }:=I.turned (t':=s.toks) (fun b o hb e=>(sb.2 b hb).trans e) f0 f1 f3 f4 f5
  obtain ⟨o,e,c,d⟩:=id st'
  exact ⟨u,rfl,go_of (s:={ s with heap:=h' }) e c d (by decide) ⟨x,H,I1,ru,⟨rfl,fun ys hy=>by rw [I.list_inj hy hq]; exact hx⟩,st',fun b hb=>(hf b hb).1⟩⟩
 done:=by
  intro X hP hw hK hc i pins s σ H E I hf st hg
  subst hP hw hK
  obtain ⟨xs,hq,hx⟩:=hg
  obtain ⟨its,rv,p,hz⟩:=I.list hq
  obtain ⟨f0,f1,f2,f3,f4,f5⟩:=hf it (by simp)
  have hl:=rv.length
  exact wpAny_pyNext_list_end (I.ok.hd hc) st p.isList (by simp; omega) fun h' eb=>⟨rfl,I.turned (t':=s.toks) (fun b o hb e=>eb b o hb e) f0 f1 f3 f4 f5⟩
 self:=fun _ _ _ _ _ st h=>wpAny_pyIter_listiter st h
theorem turn_tuple {P:Program} {w:World} {K:Frag} {tg:Expr} (a it:Addr):Turn P w K tg (Itt K a) [it] it (fun i h=>h.IsTupleIter it a i) where
 mem:=by simp
 obj:=fun i h st b hb=>by
  have e:b=it:=by simpa using hb
  subst e
  obtain ⟨o,e,c,d⟩:=st
  exact ⟨o,e,fun v z=>by rw [d] at z; cases z⟩
 keep:=fun i h h' st k=>st.at fun o e=>k it (by simp) o e
 item:=by
  intro X hP hw hK hc i pins s σ H E I hf st hg
  subst hP hw hK
  obtain ⟨xs,x,hq,hx⟩:=hg
  obtain ⟨its,rv,p,hz⟩:=I.tuple hq
  obtain ⟨u,hu,ru⟩:=rv.get hx
  obtain ⟨f0,f1,f2,f3,f4,f5⟩:=hf it (by simp)
  refine wpAny_pyNext_tuple_item st (show s.heap.IsTuple a its.toArray from p) (x:=u) (by simpa using hu) fun h' st' sb=>?_
  have I1:Inv X pins σ H { s with heap:=h' }:=I.turned (t':=s.toks) (fun b o hb e=>(sb.2 b hb).trans e) f0 f1 f3 f4 f5
  obtain ⟨o,e,c,d⟩:=id st'
  exact ⟨u,rfl,go_of (s:={ s with heap:=h' }) e c d (by decide) ⟨x,H,I1,ru,⟨rfl,fun ys hy=>by rw [I.tuple_inj hy hq]; exact hx⟩,st',fun b hb=>(hf b hb).1⟩⟩
 done:=by
  intro X hP hw hK hc i pins s σ H E I hf st hg
  subst hP hw hK
  obtain ⟨xs,hq,hx⟩:=hg
  obtain ⟨its,rv,p,hz⟩:=I.tuple hq
  obtain ⟨f0,f1,f2,f3,f4,f5⟩:=hf it (by simp)
  have hl:=rv.length
  exact wpAny_pyNext_tuple_end (I.ok.hd hc) st (show s.heap.IsTuple a its.toArray from p) (by simp; omega) fun h' eb=>⟨rfl,I.turned (t':=s.toks) (fun b o hb e=>eb b o hb e) f0 f1 f3 f4 f5⟩
 self:=fun _ _ _ _ _ st h=>wpAny_pyIter_tupleiter st h
theorem turn_range {P:Program} {w:World} {K:Frag} {tg:Expr} (it:Addr) (lo:Int) (n:Nat):Turn P w K tg (Itr lo n) [it] it (fun i h=>IsRangeIter h it (lo+(i:Nat)*1) ((n:Int)-(i:Nat)) 1) where
 mem:=by simp
 obj:=fun i h st b hb=>by
  have e:b=it:=by simpa using hb
  subst e
  exact ⟨_,st,fun v z=>by
   have z':Data.fields _=Data.cell v:=z
   cases z'⟩
 keep:=fun i h h' st k=>k it (by simp) _ st
 item:=by
  intro X hP hw hK hc i pins s σ H E I hf st hg
  subst hP hw hK
  obtain ⟨f0,f1,f2,f3,f4,f5⟩:=hf it (by simp)
  have W:=Walks.range (prog:=X.prog) (w:=X.w) (I.ok.hd hc) it lo 1 n
  refine W.item i s _ _ hg st fun v h' tk hv st' kk=>?_
  obtain ⟨t,rfl⟩:=hv
  have I1:Inv X pins σ H { s with heap:=h',toks:=tk }:=I.turned (fun b o hb e=>kk b o (by simpa using hb) e) f0 f1 f3 f4 f5
  refine ⟨_,rfl,go_of (s:={ s with heap:=h',toks:=tk }) (n := "range_iterator") st' rfl rfl (by decide) ⟨.int (lo+i),H,I1,⟨t,?_⟩,⟨rfl,rfl⟩,st',fun b hb=>(hf b hb).1⟩⟩
  rw [Int.mul_one]
 done:=by
  intro X hP hw hK hc i pins s σ H E I hf st hg
  subst hP hw hK
  obtain ⟨f0,f1,f2,f3,f4,f5⟩:=hf it (by simp)
  exact wpAny_pyNext_range_end (I.ok.hd hc) st (by have:n<=i:=hg; omega) fun h' eb=>⟨rfl,I.turned (t':=s.toks) (fun b o hb e=>eb b o hb e) f0 f1 f3 f4 f5⟩
 self:=fun _ _ _ _ _ st h=>wpAny_pyIter_rangeiter st h
end L2
namespace L2
open PySem PySem.Spec PyProof.Rows
section
variable {X:Cx} {tg:Expr}
theorem range_it {pins:List (Addr×Obj)} {σ:St} {H:Hp} {s:Shared} {R:It->Hp->Prop} {E:Value->Shared->Prop} {lo hi:Int} {t u v:Tok} {tk:Nat} (I:Inv X pins σ H s) (h1:-(2^62)<=lo) (h2:lo<2^62) (h3:-(2^62)<=hi) (h4:hi<2^62)
  (q:R (Itr lo (hi-lo).toNat) H):wpAny (model X.prog X.w) X.A (pyIter (.ref s.heap.objs.size)) (PIE X pins σ tg R) E { s with heap:=s.heap.push { cls:=.type "range",data:=.fields #[.int lo t,.int hi u,.int 1 v] },toks:=tk }:=by
 refine wpAny_pyIter_range (IsRange.new ..) (small_one h1 h2 h3 h4) ?_
 have I1:Inv X pins σ H { s with heap:=s.heap.push { cls:=.type "range",data:=.fields #[.int lo t,.int hi u,.int 1 v] },toks:=tk }:=I.kept fun b o e=>Heap.get?_push_of_some _ e
 refine ⟨(s.heap.push { cls:=.type "range",data:=.fields #[.int lo t,.int hi u,.int 1 v] }).objs.size,[(s.heap.push { cls:=.type "range",data:=.fields #[.int lo t,.int hi u,.int 1 v] }).objs.size],_,_,H,rfl,
  I1.kept (t':=tk) fun b o e=>Heap.get?_push_of_some _ e,turn_range _ lo (hi-lo).toNat,?_,fun b hb=>?_,q⟩
 ·have e1:lo+((0:Nat):Int)*1=lo:=by simp
  have e2:(((hi-lo).toNat:Nat):Int)-((0:Nat):Int)=Builtin.Range.rangeSize lo hi 1:=by rw [rangeSize_one]; split <;> omega
  show IsRangeIter _ _ (lo+((0:Nat):Int)*1) ((((hi-lo).toNat:Nat):Int)-((0:Nat):Int)) 1
  rw [e1,e2]
  exact Heap.get?_push_size _ rfl
 ·have e:b=(s.heap.push { cls:=.type "range",data:=.fields #[.int lo t,.int hi u,.int 1 v] }).objs.size:=by simpa using hb
  subst e
  exact I1.fpOk (Nat.le_refl _) (I1.hok.fresh (Nat.le_refl _))
def iRng1 (ta:TA):TI:=fun σ H R=>ta σ H fun vs H1=>∃ j:Int,vs = [.int j] /\ -(2^62)<=j/\j<2^62/\R (Itr 0 j.toNat) H1
def iRng2 (ta:TA):TI:=fun σ H R=>ta σ H fun vs H1=>∃ i j:Int,vs = [.int i,.int j]/\(-(2^62)<=i/\i<2^62 /\ -(2^62)<=j/\j<2^62)/\R (Itr i (j-i).toNat) H1
theorem pi_range1 {a:Expr} {ta:TA} {p pos:Pos} (hg:Gl X "range") (hm:X.mg "range" = none) (ha:PA X [a] ta) (hs:starEach [a] X.env = [(false,eval a X.env)]:=by rfl):PI X tg (.Call (.Name "range" p) [a] [] pos) (iRng1 ta):=by
 intro pins s σ H R I h
 refine Call_ (ld_blt I hg hm boot_range (PyProof.Rows.callWith_type1 (thn (ha pos pins s σ H _ I h) fun us s1 zz19=>?_) hs rfl))
 obtain ⟨vs,H1,I1,r1,q1⟩:=zz19
 obtain ⟨j,e,q1,q2,q⟩:=q1
 subst e
 cases r1 with
 | cons r rr=>
  cases rr
  obtain ⟨t,rfl⟩:=r
  exact call_range_1 (range_it I1 (by omega) (by omega) q1 q2 (by simpa using q))
theorem pi_range2 {a b:Expr} {ta:TA} {p pos:Pos} (hg:Gl X "range") (hm:X.mg "range" = none) (ha:PA X [a,b] ta) (hs:starEach [a,b] X.env = [(false,eval a X.env),(false,eval b X.env)]:=by rfl) (hs2:starEach [b] X.env = [(false,eval b X.env)]:=by rfl) :
  PI X tg (.Call (.Name "range" p) [a,b] [] pos) (iRng2 ta):=by
 intro pins s σ H R I h
 refine Call_ (ld_blt I hg hm boot_range (PyProof.Rows.callWith_type1 (thn (ha pos pins s σ H _ I h) fun us s1 zz20=>?_) (by rw [hs,hs2]) (by rw [hs2]; rfl)))
 obtain ⟨vs,H1,I1,r1,q1⟩:=zz20
 obtain ⟨i,j,e,⟨q1,q2,q3,q4⟩,q⟩:=q1
 subst e
 cases r1 with
 | cons r rr=>
  cases rr with
  | cons r' rr=>
   cases rr
   obtain ⟨t,rfl⟩:=r
   obtain ⟨t',rfl⟩:=r'
   exact call_range_2 (range_it I1 q1 q2 q3 q4 q)
def tFor (wi:TI) (g:TG) (tb:TS):TS:=fun D σ H=>wi σ H fun J H1=>∃ W:Nat->Nat->St->Hp->Prop,(∃ m,W 0 m σ H1)/\∀ i m σ H,W i m σ H ->
 (J.stop i H/\D.nx σ H)\/(J.go i H/\∃ N:St->Hp->Prop,(∀ σ' H',N σ' H'->∃ m',m'<m/\W (i+1) m' σ' H')/\∀ x H',J.yld i H x H'->g x σ H' fun σ2 H2=>tb { D with nx:=N,ct:=N,bk:=D.nx } σ2 H2)
def pinsAt (fp:List Addr) (h:Heap):List (Addr×Obj):=fp.filterMap fun b=>(h.get? b).map fun o=>(b,o)
theorem mem_pinsAt {fp:List Addr} {h:Heap} {b:Addr} {o:Obj} (hb:b∈fp) (e:h.get? b=some o):(b,o)∈pinsAt fp h:=List.mem_filterMap.mpr ⟨b,hb,by rw [e]; rfl⟩
theorem of_pinsAt {fp:List Addr} {h:Heap} {p:Addr×Obj} (hp:p∈pinsAt fp h):p.1∈fp/\h.get? p.1=some p.2:=by
 obtain ⟨b,hb,e⟩:=List.mem_filterMap.mp hp
 cases q:h.get? b with
 | none=>rw [q] at e; cases e
 | some o=>
  rw [q] at e
  have e':(b,o)=p:=Option.some.inj e
  subst e'
  exact ⟨hb,q⟩
theorem Inv.pinned {pins:List (Addr×Obj)} {σ:St} {H:Hp} {s:Shared} {fp:List Addr} (I:Inv X pins σ H s) (hf:∀ b∈fp,FpOk X pins H b) (ho:∀ b∈fp,∃ o,s.heap.get? b=some o/\∀ v,o.data≠.cell v):Inv X (pins++pinsAt fp s.heap) σ H s:=
 I.pins_of fun p hp=>(List.mem_append.mp hp).elim (fun z=>I.pin p (List.mem_append_right _ z)) fun z=>by
  obtain ⟨hb,e⟩:=of_pinsAt z
  obtain ⟨f0,f1,f2,_⟩:=hf p.1 hb
  obtain ⟨o,e',d⟩:=ho p.1 hb
  rw [e] at e'; cases e'
  exact ⟨e,f0,f1,f2,d⟩
theorem Inv.unpinned {pins pl:List (Addr×Obj)} {σ:St} {H:Hp} {s:Shared} (I:Inv X (pins++pl) σ H s):Inv X pins σ H s:=I.pins_of fun p hp=>I.pin p (List.mem_append_right _ (List.mem_append_left _ hp))
theorem ps_for {iter:Expr} {body:List Stmt} {wi:TI} {g:TG} {tb:TS} {pos:Pos} (hp:PassesOwn (model X.prog X.w) X.A X.env X.xe) (hc:X.calm=true) (hi:PI X tg iter wi) (hg:PG X tg g) (hb:PSs X body tb)
  (hs:∀ x,foldedSetIterable iter X.env x=pure x:=by intro _; rfl):PS X (.For tg iter body [] pos) (tFor wi g tb):=by
 intro pins s σ H D I h
 refine wpAny_For (thn (hi pins s σ H _ I h) fun v s1 h1=>thn h1 fun itv s2 h2=>?_) hs
 obtain ⟨it,fp,tn,J,H2,e,I2,T,st2,f2,W,⟨m0,w0⟩,turn⟩:=h2
 subst e
 -- what stays true of the iterator's objects through the loop
 have stat:∀ {H':Hp},(∀ b∈fp,H' b=none)->∀ b∈fp,FpOk X pins H' b:=fun hn b hb=>⟨hn b hb,(f2 b hb).2⟩
 refine codeAny_forLoop_any (fun n s'=>∃ i σ' H',Inv X pins σ' H' s'/\tn i s'.heap/\(∀ b∈fp,H' b=none)/\W i n σ' H') ?_ m0 ⟨0,σ,H2,I2,st2,fun b hb=>(f2 b hb).1,w0⟩
 rintro n s3 ⟨i,σ3,H3,I3,st3,fr3,w3⟩
 rcases turn i n σ3 H3 w3 with ⟨stop,qn⟩ | ⟨go,N,hN,step⟩
 ·refine wpAny_passesOwn hp (thn (T.done X rfl rfl rfl hc i pins s3 σ3 H3 X.xe I3 (stat fr3) st3 stop) fun r s4 ⟨hr,I4⟩=>?_)
  subst hr
  exact wpAny_execs_nil ⟨σ3,H3,I4,qn⟩
 ·refine wpAny_passesOwn hp (thn (T.item X rfl rfl rfl hc i pins s3 σ3 H3 X.xe I3 (stat fr3) st3 go) fun r s4 ⟨u,hr,h4⟩=>?_)
  subst hr
  refine wpAny_passesOwn hp (thn h4 fun _ s5 zz23=>?_)
  obtain ⟨x,H5,I5,r5,y5,st5,fr5⟩:=zz23
  have I5':=I5.pinned (stat fr5) (T.obj _ _ st5)
  refine wpAny_passesOwn hp (thn (hg _ s5 σ3 H5 x u _ I5' r5 (step x H5 y5)) fun _ s6 zz24=>?_)
  obtain ⟨σ6,H6,I6,q6⟩:=zz24
  refine wpAny_passesOwn hp (thn (hb _ s6 σ6 H6 _ I6 q6) fun f s7 q7=>?_)
  have again:∀ {σ7:St} {H7:Hp},Inv X (pins++pinsAt fp s5.heap) σ7 H7 s7->N σ7 H7->∃ m,m<n/\∃ i σ' H',Inv X pins σ' H' s7/\tn i s7.heap/\(∀ b∈fp,H' b=none)/\W i m σ' H':=fun {σ7 H7} I7 n7=>by
   obtain ⟨m',hm,w7⟩:=hN σ7 H7 n7
   refine ⟨m',hm,i+1,σ7,H7,I7.unpinned,T.keep _ _ _ st5 fun b hb o e=>(I7.pin (b,o) (List.mem_append_right _ (List.mem_append_right _ (mem_pinsAt hb e)))).1,fun b hb=>?_,w7⟩
   obtain ⟨o,e,d⟩:=T.obj _ _ st5 b hb
   exact (I7.pin (b,o) (List.mem_append_right _ (List.mem_append_right _ (mem_pinsAt hb e)))).2.1
  cases f with
  | next=>obtain ⟨σ7,H7,I7,n7⟩:=q7; exact again I7 n7
  | cont=>obtain ⟨σ7,H7,I7,n7⟩:=q7; exact again I7 n7
  | brk=>obtain ⟨σ7,H7,I7,q7⟩:=q7; exact ⟨σ7,H7,I7.unpinned,q7⟩
  | ret v=>obtain ⟨x7,σ7,H7,I7,r7,q7⟩:=q7; exact ⟨x7,σ7,H7,I7.unpinned,r7,q7⟩
end
end L2
namespace L2
open PySem PySem.Spec PyProof.Rows
abbrev R2:=V->V->Hp->VK->Prop
def OpR (X:Cx) (f:Value->Value->Sem Value) (r:R2):Prop:=
 ∀ (pins:List (Addr×Obj)) (s:Shared) (σ:St) (H:Hp) (x y:V) (v u:Value) (Q:VK),Inv X pins σ H s->RelV x v->RelV y u->r x y H Q ->
  wpAny (model X.prog X.w) X.A (f v u) (EP X pins σ Q) X.xe s
def UnR (X:Cx) (f:Value->Sem Value) (r:V->Hp->VK->Prop):Prop:=
 ∀ (pins:List (Addr×Obj)) (s:Shared) (σ:St) (H:Hp) (x:V) (v:Value) (Q:VK),Inv X pins σ H s->RelV x v->r x H Q ->
  wpAny (model X.prog X.w) X.A (f v) (EP X pins σ Q) X.xe s
def CallR (X:Cx) (f:Value) (r:List V->Hp->VK->Prop):Prop:=
 ∀ (pins:List (Addr×Obj)) (s:Shared) (σ:St) (H:Hp) (xs:List V) (us:List Value) (Q:VK),Inv X pins σ H s->Vals xs us->r xs H Q ->
  wpAny (model X.prog X.w) X.A (call f us) (EP X pins σ Q) X.xe s
def tOp (r:R2) (ta tb:TE):TE:=fun σ H Q=>ta σ H fun x H1=>tb σ H1 fun y H2=>r x y H2 Q
def tUn (r:V->Hp->VK->Prop) (ta:TE):TE:=fun σ H Q=>ta σ H fun x H1=>r x H1 Q
def rI (C:Int->Int->Prop) (g:Int->Int->V):R2:=fun x y H Q=>∃ i j,x=.int i/\y=.int j/\C i j/\Q (g i j) H
def rI0 (g:Int->Int->V):R2:=fun x y H Q=>∃ i j,x=.int i/\y=.int j/\Q (g i j) H
def rU (g:Int->V):V->Hp->VK->Prop:=fun x H Q=>∃ i,x=.int i/\Q (g i) H
section
variable {X:Cx} {a b c:Expr} {ta tb tc:TE} {pos:Pos}
theorem binT (ha:PE X a ta) (hb:PE X b tb) {pins:List (Addr×Obj)} {s:Shared} {σ:St} {H:Hp} {R:V->V->Hp->Prop} (I:Inv X pins σ H s)
  (h:ta σ H fun x H1=>tb σ H1 fun y H2=>R x y H2) {Q:Value->Shared->Prop} {f:Value->Value->Sem Value}
  (hf:∀ v u s2 x y H2,Inv X pins σ H2 s2->RelV x v->RelV y u->R x y H2->wpAny (model X.prog X.w) X.A (f v u) Q X.xe s2) :
  wpAny (model X.prog X.w) X.A (eval a X.env) (fun v s₁=>wpAny (model X.prog X.w) X.A (eval b X.env) (fun u s₂=>wpAny (model X.prog X.w) X.A (f v u) Q X.xe s₂) X.xe s₁) X.xe s:=by
 refine thn (ha pins s σ H _ I h) fun v s1 zz25=>?_
 obtain ⟨x,H1,I1,r1,q1⟩:=zz25
 refine thn (hb pins s1 σ H1 _ I1 q1) fun u s2 zz26=>?_
 obtain ⟨y,H2,I2,r2,q2⟩:=zz26
 exact hf v u s2 x y H2 I2 r1 r2 q2
theorem pe_op {op:Operator} {r:R2} (ho:OpR X (binaryOp op) r) (ha:PE X a ta) (hb:PE X b tb):PE X (.BinOp a op b pos) (tOp r ta tb):=by
 intro pins s σ H Q I h
 exact wpAny_BinOp (binT ha hb I h fun v u s2 x y H2 I2 rx ry q=>ho pins s2 σ H2 x y v u Q I2 rx ry q)
theorem pe_un {op:UnaryOp} {r:V->Hp->VK->Prop} (ho:UnR X (unaryOp op) r) (ha:PE X a ta):PE X (.UnaryOp op a pos) (tUn r ta):=by
 intro pins s σ H Q I h
 exact UnaryOp_ (thn (ha pins s σ H _ I h) fun v s1 zz27=>by obtain ⟨x,H1,I1,r1,q1⟩:=zz27; exact ho pins s1 σ H1 x v Q I1 r1 q1)
theorem opI {f:Value->Value->Sem Value} {C:Int->Int->Prop} {g:Int->Int->Int}
  (rule:∀ (i j:Int) (t u:Tok) (s:Shared) (Q:Value->Shared->Prop) (E:Value->Shared->Prop),C i j->Q (.int (g i j) s.toks) { s with toks:=s.toks+1 }->wpAny (model X.prog X.w) X.A (f (.int i t) (.int j u)) Q E s) :
  OpR X f (rI C fun i j=>.int (g i j)):=by
 intro pins s σ H x y v u Q I rx ry h
 obtain ⟨i,j,rfl,rfl,hc,q⟩:=h
 obtain ⟨t,rfl⟩:=rx
 obtain ⟨t',rfl⟩:=ry
 exact rule i j t t' s _ _ hc ⟨.int (g i j),H,I.tok _,⟨_,rfl⟩,q⟩
theorem opI0 {f:Value->Value->Sem Value} {g:Int->Int->Int}
  (rule:∀ (i j:Int) (t u:Tok) (s:Shared) (Q:Value->Shared->Prop) (E:Value->Shared->Prop),Q (.int (g i j) s.toks) { s with toks:=s.toks+1 }->wpAny (model X.prog X.w) X.A (f (.int i t) (.int j u)) Q E s) :
  OpR X f (rI0 fun i j=>.int (g i j)):=by
 intro pins s σ H x y v u Q I rx ry h
 obtain ⟨i,j,rfl,rfl,q⟩:=h
 obtain ⟨t,rfl⟩:=rx
 obtain ⟨t',rfl⟩:=ry
 exact rule i j t t' s _ _ ⟨.int (g i j),H,I.tok _,⟨_,rfl⟩,q⟩
theorem opB0 {f:Value->Value->Sem Value} {g:Int->Int->Bool}
  (rule:∀ (i j:Int) (t u:Tok) (s:Shared) (Q:Value->Shared->Prop) (E:Value->Shared->Prop),Q (.bool (g i j)) s->wpAny (model X.prog X.w) X.A (f (.int i t) (.int j u)) Q E s) :
  OpR X f (rI0 fun i j=>.bl (g i j)):=by
 intro pins s σ H x y v u Q I rx ry h
 obtain ⟨i,j,rfl,rfl,q⟩:=h
 obtain ⟨t,rfl⟩:=rx
 obtain ⟨t',rfl⟩:=ry
 exact rule i j t t' s _ _ ⟨.bl (g i j),H,I,rfl,q⟩
def CDiv (i j:Int):Prop:=0<j/\j<1073741824
def CPow (i j:Int):Prop:=0<=j/\j<=1000000/\i.natAbs<2^64
def CMul (i j:Int):Prop:=(-(2^64)<i/\i<2^64)\/(-(2^64)<j/\j<2^64)
theorem CMul.ok {i j:Int} (h:CMul i j):IntMulOk i j:=by
 rcases h with ⟨h1,h2⟩ | ⟨h1,h2⟩
 ·exact .of_left (intBits_le_64 h1 h2)
 ·exact .of_right (intBits_le_64 h1 h2)
theorem op_add:OpR X (binaryOp .Add) (rI0 fun i j=>.int (i+j)):=opI0 fun _ _ _ _ _ _ _ q=>add_int q
theorem op_sub:OpR X (binaryOp .Sub) (rI0 fun i j=>.int (i-j)):=opI0 fun _ _ _ _ _ _ _ q=>sub_int q
theorem op_fdiv:OpR X (binaryOp .FloorDiv) (rI CDiv fun i j=>.int (i/j)):=opI fun i j _ _ _ _ _ hc q=>by
 have h1:(0:Int)<j:=hc.1
 have h2:j<1073741824:=hc.2
 exact floordiv_int (by omega) (by rw [Int.fdiv_eq_ediv_of_nonneg i (by omega)]; exact q) (.inl (PyProof.noPylong_small (by omega)))
theorem op_mod:OpR X (binaryOp .Mod) (rI (fun _ j=>0<j) fun i j=>.int (i%j)):=opI fun i j _ _ _ _ _ hc q=>by
 have h1:(0:Int)<j:=hc
 exact mod_int' (by omega) (by rw [Int.fmod_eq_emod_of_nonneg i (by omega)]; exact q)
theorem op_pow:OpR X (binaryOp .Pow) (rI CPow fun i j=>.int (i^j.toNat)):=opI fun _ _ _ _ _ _ _ hc q=>pow_int_small hc.1 hc.2.1 hc.2.2 q
theorem unI {f:Value->Sem Value} {g:Int->Int}
  (rule:∀ (i:Int) (t:Tok) (s:Shared) (Q:Value->Shared->Prop) (E:Value->Shared->Prop),Q (.int (g i) s.toks) { s with toks:=s.toks+1 }->wpAny (model X.prog X.w) X.A (f (.int i t)) Q E s) :
  UnR X f (rU fun i=>.int (g i)):=by
 intro pins s σ H x v Q I rx h
 obtain ⟨i,rfl,q⟩:=h
 obtain ⟨t,rfl⟩:=rx
 exact rule i t s _ _ ⟨.int (g i),H,I.tok _,⟨_,rfl⟩,q⟩
theorem un_neg:UnR X (unaryOp .USub) (rU fun i=>.int (-i)):=unI fun _ _ _ _ _ q=>neg_int q
end
def scal:V->V->Bool
 | .non,.non=>true | .non,.int _=>true | .int _,.non=>true | .non,.bl _=>true | .bl _,.non=>true | .non,.str _=>true | .str _,.non=>true
 | .int _,.int _=>true | .bl _,.bl _=>true | .str _,.str _=>true | .byt _,.byt _=>true
 | .int _,.str _=>true | .str _,.int _=>true | .bl _,.str _=>true | .str _,.bl _=>true
 | _,_=>false
def rEq:R2:=fun x y H Q=>scal x y=true/\Q (.bl (decide (x=y))) H
def rNe:R2:=fun x y H Q=>scal x y=true/\Q (.bl (!decide (x=y))) H
theorem dec_int {i j:Int}:decide (V.int i=V.int j)=(i == j):=by
 rw [Bool.eq_iff_iff]
 simp
theorem dec_bl {i j:Bool}:decide (V.bl i=V.bl j)=(i == j):=by
 rw [Bool.eq_iff_iff]
 simp
theorem dec_str {i j:Str}:decide (V.str i=V.str j)=(i == j):=by
 rw [Bool.eq_iff_iff]
 simp
theorem dec_byt {i j:Array UInt8}:decide (V.byt i=V.byt j)=(i.toList == j.toList):=by
 rw [Bool.eq_iff_iff]
 cases i
 cases j
 simp
section
variable {X:Cx} {a b c:Expr} {ta tb tc:TE} {pos:Pos}
theorem fin_bl {pins:List (Addr×Obj)} {σ:St} {H:Hp} {s:Shared} {Q:VK} {k k':Bool} (I:Inv X pins σ H s) (q:Q (.bl k) H) (e:k=k'):EP X pins σ Q (.bool k') s:=by
 subst e
 exact ⟨.bl k,H,I,rfl,q⟩
theorem op_eq:OpR X (compareOp .Eq) rEq:=by
 intro pins s σ H x y v u Q I rx ry h
 obtain ⟨hs,q⟩:=h
 cases x with
 | non=>
  cases rx
  cases y with
  | non=>cases ry; exact PySem.EqNone.eq_none_none (fin_bl I q (by simp))
  | bl j=>cases ry; exact PySem.EqNone.eq_none_bool (fin_bl I q (by simp))
  | int j=>obtain ⟨t',rfl⟩:=ry; exact PySem.EqNone.eq_none_int (fin_bl I q (by simp))
  | str j=>obtain ⟨t',rfl⟩:=ry; exact PySem.EqNone.eq_none_str (fin_bl I q (by simp))
  | _=>exact absurd (show false=true from hs) Bool.false_ne_true
 | bl i=>
  cases rx
  cases y with
  | non=>cases ry; exact PySem.EqNone.eq_bool_none (fin_bl I q (by simp))
  | bl j=>cases ry; exact eq_bool (fin_bl I q dec_bl)
  | str j=>obtain ⟨t',rfl⟩:=ry; exact PySem.EqMixed.eq_bool_str (fin_bl I q (by simp))
  | _=>exact absurd (show false=true from hs) Bool.false_ne_true
 | int i=>
  obtain ⟨t,rfl⟩:=rx
  cases y with
  | non=>cases ry; exact PySem.EqNone.eq_int_none (fin_bl I q (by simp))
  | int j=>obtain ⟨t',rfl⟩:=ry; exact eq_int (fin_bl I q dec_int)
  | str j=>obtain ⟨t',rfl⟩:=ry; exact PySem.EqMixed.eq_int_str (fin_bl I q (by simp))
  | _=>exact absurd (show false=true from hs) Bool.false_ne_true
 | str i=>
  obtain ⟨t,rfl⟩:=rx
  cases y with
  | non=>cases ry; exact PySem.EqNone.eq_str_none (fin_bl I q (by simp))
  | bl j=>cases ry; exact PySem.EqMixed.eq_str_bool (fin_bl I q (by simp))
  | int j=>obtain ⟨t',rfl⟩:=ry; exact PySem.EqMixed.eq_str_int (fin_bl I q (by simp))
  | str j=>obtain ⟨t',rfl⟩:=ry; exact eq_str (fin_bl I q dec_str)
  | _=>exact absurd (show false=true from hs) Bool.false_ne_true
 | byt i=>
  obtain ⟨t,rfl⟩:=rx
  cases y with
  | byt j=>obtain ⟨t',rfl⟩:=ry; exact PySem.W.eq_bytes (fin_bl I q dec_byt)
  | _=>exact absurd (show false=true from hs) Bool.false_ne_true
 | _=>cases y <;> exact absurd (show false=true from hs) Bool.false_ne_true
theorem op_ne:OpR X (compareOp .NotEq) rNe:=by
 intro pins s σ H x y v u Q I rx ry h
 obtain ⟨hs,q⟩:=h
 cases x with
 | non=>
  cases rx
  cases y with
  | non=>cases ry; exact PySem.EqNone.ne_none_none (fin_bl I q (by simp))
  | bl j=>cases ry; exact PySem.EqNone.ne_none_bool (fin_bl I q (by simp))
  | int j=>obtain ⟨t',rfl⟩:=ry; exact PySem.EqNone.ne_none_int (fin_bl I q (by simp))
  | str j=>obtain ⟨t',rfl⟩:=ry; exact PySem.EqNone.ne_none_str (fin_bl I q (by simp))
  | _=>exact absurd (show false=true from hs) Bool.false_ne_true
 | bl i=>
  cases rx
  cases y with
  | non=>cases ry; exact PySem.EqNone.ne_bool_none (fin_bl I q (by simp))
  | bl j=>cases ry; exact ne_bool (fin_bl I q (congrArg not dec_bl))
  | str j=>obtain ⟨t',rfl⟩:=ry; exact PySem.EqMixed.ne_bool_str (fin_bl I q (by simp))
  | _=>exact absurd (show false=true from hs) Bool.false_ne_true
 | int i=>
  obtain ⟨t,rfl⟩:=rx
  cases y with
  | non=>cases ry; exact PySem.EqNone.ne_int_none (fin_bl I q (by simp))
  | int j=>obtain ⟨t',rfl⟩:=ry; exact ne_int (fin_bl I q (congrArg not dec_int))
  | str j=>obtain ⟨t',rfl⟩:=ry; exact PySem.EqMixed.ne_int_str (fin_bl I q (by simp))
  | _=>exact absurd (show false=true from hs) Bool.false_ne_true
 | str i=>
  obtain ⟨t,rfl⟩:=rx
  cases y with
  | non=>cases ry; exact PySem.EqNone.ne_str_none (fin_bl I q (by simp))
  | bl j=>cases ry; exact PySem.EqMixed.ne_str_bool (fin_bl I q (by simp))
  | int j=>obtain ⟨t',rfl⟩:=ry; exact PySem.EqMixed.ne_str_int (fin_bl I q (by simp))
  | str j=>obtain ⟨t',rfl⟩:=ry; exact ne_str (fin_bl I q (congrArg not dec_str))
  | _=>exact absurd (show false=true from hs) Bool.false_ne_true
 | byt i=>
  obtain ⟨t,rfl⟩:=rx
  cases y with
  | byt j=>obtain ⟨t',rfl⟩:=ry; exact PySem.W.ne_bytes (fin_bl I q (congrArg not dec_byt))
  | _=>exact absurd (show false=true from hs) Bool.false_ne_true
 | _=>cases y <;> exact absurd (show false=true from hs) Bool.false_ne_true
theorem op_lt:OpR X (compareOp .Lt) (rI0 fun i j=>.bl (decide (i<j))):=opB0 fun _ _ _ _ _ _ _ q=>lt_int q
theorem op_le:OpR X (compareOp .LtE) (rI0 fun i j=>.bl (decide (i<=j))):=opB0 fun _ _ _ _ _ _ _ q=>le_int q
theorem op_gt:OpR X (compareOp .Gt) (rI0 fun i j=>.bl (decide (j<i))):=opB0 fun _ _ _ _ _ _ _ q=>gt_int q
theorem op_ge:OpR X (compareOp .GtE) (rI0 fun i j=>.bl (decide (j<=i))):=opB0 fun _ _ _ _ _ _ _ q=>ge_int q
theorem op_isN:OpR X (compareOp .Is) (fun x y H Q=>y=.non/\Q (.bl (decide (x=.non))) H):=by
 intro pins s σ H x y v u Q I rx ry h
 obtain ⟨rfl,q⟩:=h
 cases ry
 refine is_none_gen (fin_bl I q ?_)
 cases x <;> first
  | (cases rx; rfl)
  | (obtain ⟨t,rfl⟩:=rx; rfl)
theorem op_notN:OpR X (compareOp .IsNot) (fun x y H Q=>y=.non/\Q (.bl (!decide (x=.non))) H):=by
 intro pins s σ H x y v u Q I rx ry h
 obtain ⟨rfl,q⟩:=h
 cases ry
 refine isnot_none_gen (fin_bl I q ?_)
 cases x <;> first
  | (cases rx; rfl)
  | (obtain ⟨t,rfl⟩:=rx; rfl)
theorem nomark (b:Expr) {op:CmpOp} (h:op≠.In:=by decide) (h2:op≠.NotIn:=by decide):behindInMarks op b=false:=by
 have e1:(op == CmpOp.In)=false:=by cases op <;> first | rfl | exact absurd rfl h
 have e2:(op == CmpOp.NotIn)=false:=by cases op <;> first | rfl | exact absurd rfl h2
 cases b <;> simp [behindInMarks,e1,e2]
theorem pe_cmpR {op:CmpOp} {r:R2} (ho:OpR X (compareOp op) r) (ha:PE X a ta) (hb:PE X b tb) (hm:behindInMarks op b=false):PE X (.Compare a [op] [b] pos) (tOp r ta tb):=by
 intro pins s σ H Q I h
 exact wpAny_Compare1 (binT ha hb I h fun v u s2 x y H2 I2 rx ry q=>ho pins s2 σ H2 x y v u Q I2 rx ry q) hm
def tTest (t:TE):TT:=fun σ H Q=>t σ H fun x H'=>∃ k,x=.bl k/\Q k H'
theorem pt_cmpR {op:CmpOp} {r:R2} (ho:OpR X (compareOp op) r) (ha:PE X a ta) (hb:PE X b tb) (hm:behindInMarks op b=false):PT X (.Compare a [op] [b] pos) (tTest (tOp r ta tb)):=by
 intro pins s σ H Q I h
 refine wpAny_isTrue_Compare1 (thn (ha pins s σ H _ I h) fun v s1 ⟨x,H1,I1,r1,q1⟩=>thn (hb pins s1 σ H1 _ I1 q1) fun u s2 ⟨y,H2,I2,r2,q2⟩=>
  thn (ho pins s2 σ H2 x y v u _ I2 r1 r2 q2) fun c s3 ⟨z,H3,I3,r3,k,e,q3⟩=>?_) hm
 subst e
 cases r3
 exact wpAny_truthy_bool ⟨H3,I3,q3⟩
def tChain (r r':R2) (ta tb tc:TE):TE:=fun σ H Q=>ta σ H fun x H1=>tb σ H1 fun y H2=>r x y H2 fun z H3=>∃ k,z=.bl k /\
 (if k=true then tc σ H3 fun w' H4=>r' y w' H4 Q else Q (.bl false) H3)
theorem pe_chain {op op':CmpOp} {r r':R2} (ho:OpR X (compareOp op) r) (ho':OpR X (compareOp op') r') (ha:PE X a ta) (hb:PE X b tb) (hc:PE X c tc)
  (hm:lastMarks [op,op'] [b,c]=false:=by with_unfolding_all rfl):PE X (.Compare a [op,op'] [b,c] pos) (tChain r r' ta tb tc):=by
 intro pins s σ H Q I h
 refine Compare_chain (thn (ha pins s σ H _ I h) fun v s1 ⟨x,H1,I1,r1,q1⟩=>chain_link (thn (hb pins s1 σ H1 _ I1 q1) fun u s2 ⟨y,H2,I2,r2,q2⟩=>
  thn (ho pins s2 σ H2 x y v u _ I2 r1 r2 q2) fun d s3 ⟨z,H3,I3,r3,k,e,q3⟩=>?_)) hm
 subst e
 cases r3
 refine wpAny_truthy_bool ?_
 cases k with
 | false=>exact ite_ff ⟨.bl false,H3,I3,rfl,q3⟩
 | true=>exact ite_tt (chain_last (thn (hc pins s3 σ H3 _ I3 q3) fun w' s4 zz34=>by obtain ⟨z',H4,I4,r4,q4⟩:=zz34; exact ho' pins s4 σ H4 y z' u w' Q I4 r2 r4 q4))
theorem pt_chain {op op':CmpOp} {r r':R2} (ho:OpR X (compareOp op) r) (ho':OpR X (compareOp op') r') (ha:PE X a ta) (hb:PE X b tb) (hc:PE X c tc)
  (hm:lastMarks [op,op'] [b,c]=false:=by with_unfolding_all rfl):PT X (.Compare a [op,op'] [b,c] pos) (tTest (tChain r r' ta tb tc)):=by
 intro pins s σ H Q I h
 refine isTrue_chain (thn (ha pins s σ H _ I h) fun v s1 ⟨x,H1,I1,r1,q1⟩=>test_link (thn (hb pins s1 σ H1 _ I1 q1) fun u s2 ⟨y,H2,I2,r2,q2⟩=>
  thn (ho pins s2 σ H2 x y v u _ I2 r1 r2 q2) fun d s3 ⟨z,H3,I3,r3,k,e,q3⟩=>?_)) hm
 subst e
 cases r3
 refine wpAny_truthy_bool ?_
 cases k with
 | false=>
  obtain ⟨k',e',q'⟩:=q3
  cases e'
  exact ite_ff ⟨H3,I3,q'⟩
 | true=>
  refine ite_tt (test_last (thn (hc pins s3 σ H3 _ I3 q3) fun w' s4 ⟨z',H4,I4,r4,q4⟩=>thn (ho' pins s4 σ H4 y z' u w' _ I4 r2 r4 q4) fun d' s5 zz39=>?_))
  obtain ⟨z2,H5,I5,r5,k2,e2,q5⟩:=zz39
  subst e2
  cases r5
  exact wpAny_truthy_bool ⟨H5,I5,q5⟩
theorem line63:(sizeLine:Nat)<2^63:=by rw [sizeLine_eq]; decide
theorem vals1 {x:V} {us:List Value} (r:Vals [x] us):∃ u,us = [u]/\RelV x u:=by
 cases r with
 | cons r1 r2=>cases r2; exact ⟨_,rfl,r1⟩
theorem vals2 {x y:V} {us:List Value} (r:Vals [x,y] us):∃ u w',us = [u,w']/\RelV x u/\RelV y w':=by
 cases r with
 | cons r1 r2=>
  cases r2 with
  | cons r3 r4=>cases r4; exact ⟨_,_,rfl,r1,r3⟩
theorem call_max2 (hc:X.calm=true):CallR X (.builtin "max") (fun xs H Q=>∃ i j,xs = [.int i,.int j]/\Q (.int (if j>i then j else i)) H):=by
 intro pins s σ H xs us Q I r h
 obtain ⟨i,j,rfl,q⟩:=h
 obtain ⟨u,w',rfl,⟨t,rfl⟩,⟨t',rfl⟩⟩:=vals2 r
 refine max_two_ints (I.ok.hd hc) fun h' tk k=>⟨_,H,I.kept k,?_,q⟩
 by_cases hj:j>i
 ·rw [if_pos hj,if_pos hj]; exact ⟨_,rfl⟩
 ·rw [if_neg hj,if_neg hj]; exact ⟨_,rfl⟩
theorem call_int1:CallR X (.type "int") (fun xs H Q=>(∃ i,xs = [.int i]/\Q (.int i) H)\/∃ k,xs = [.bl k]/\Q (.int (if k then 1 else 0)) H):=by
 intro pins s σ H xs us Q I r h
 rcases h with ⟨i,rfl,q⟩ | ⟨k,rfl,q⟩
 ·obtain ⟨u,rfl,t,rfl⟩:=vals1 r
  exact call_int_int ⟨.int i,H,I,⟨_,rfl⟩,q⟩
 ·obtain ⟨u,rfl,r1⟩:=vals1 r
  cases r1
  exact call_int_bool ⟨.int (if k then 1 else 0),H,I.tok _,⟨_,rfl⟩,q⟩
end
end L2
namespace L2
open PySem PySem.Spec PyProof.Rows
structure ObjM (h:Heap) (x dx C:Addr) (mA:Str->Option Value):Prop where
 obj:h.get? x=some (PySem.W.instObj C dx)
 ns:h.Ns1 dx mA
 ne:dx≠x
theorem lookIn_ns {h:Heap} {dx:Addr} {mA:Str->Option Value} (n:h.Ns1 dx mA):∃ od,h.get? dx=some od/\∀ name,PySem.W.lookIn name od=some (mA name):=by
 obtain ⟨o,es,ep,ho,hd,hk,_,hm⟩:=n
 refine ⟨o,ho,fun name=>?_⟩
 have e:=hm name
 unfold nsFind findBy at e
 rw [<- Array.find?_toList] at e
 unfold PySem.W.lookIn
 rw [hd]
 dsimp only
 split
 ·rename_i y q
  rw [q] at e
  exact congrArg some e
 ·rename_i q
  rw [q] at e
  have a:es.toList.any (·.refKey)=false:=by
   rw [List.any_eq_false]
   intro y hy
   obtain ⟨z,t,hkey⟩:=hk y (Array.mem_toList_iff.mp hy)
   simp [DictEntry.refKey,hkey]
  have a':¬ es.toList.any (·.refKey)=true:=by rw [a]; exact Bool.false_ne_true
  rw [if_neg a']
  exact congrArg some e
theorem ObjM.look {h:Heap} {x dx C:Addr} {mA:Str->Option Value} (I:ObjM h x dx C mA):∃ od,PySem.W.InstAt h x (PySem.W.instObj C dx) C (some od)/\∀ name,PySem.W.lookIn name od=some (mA name):=
 let ⟨od,ho,hl⟩:=lookIn_ns I.ns
 ⟨od,⟨I.obj,rfl,rfl,ho⟩,hl⟩
section
variable {prog:Program} {w:World} {A:Around} {E:Value->Shared->Prop} {s:Shared} {K:Frag} {x dx C f:Addr} {mA:Str->Option Value} {name:Str} {v:Value}
end
section
variable {P:Program} {w:World} {H H':Hp} {h h':Heap} {a C dx:Addr} {fs fs':List (Str×V)}
theorem ins_get (hok:HOk P w H h) (e:H a=some (.ins C dx fs)):∃ mA,ObjM h a dx C mA/\(∀ f,RelO (fs.lookup f) (mA f))/\PySem.Within mA (fs.map (·.1))/\fs.length<=1000/\H dx=some (.own a):=by
 obtain ⟨d,z,ne,ob,mA,n,r,q⟩:=(show ObjOk P w H h a (.ins C dx fs) from hok a _ e)
 exact ⟨mA,⟨ob,n,ne⟩,r,q,z,d⟩
end
structure Cls (K:Frag) (C:Addr):Prop where
 pg:PySem.W.plainGet K C Str.empty=true
 hd:PySem.W.hasDictIn K C=true
 po:PySem.W.plainOver K C=true
 sa:PySem.W.findIn K (.ref C) "__setattr__" = some (some (.builtin "object.__setattr__"))
theorem Cls.get {K:Frag} {C:Addr} (c:Cls K C) (f:Str):PySem.W.plainGet K C f=true:=c.pg
section
variable {X:Cx} {pins:List (Addr×Obj)} {σ:St} {H:Hp} {s:Shared} {a C dx:Addr} {fs:List (Str×V)} {f:Str} {v:V} {A:Around} {E:Value->Shared->Prop}
end
section
variable {X:Cx} {o e value:Expr} {f:Str} {pos pos' tpos:Pos} {ta tv:TE}
end
section
variable {X:Cx} {pins:List (Addr×Obj)} {σ:St} {H:Hp} {s:Shared} {A:Around} {E:Value->Shared->Prop} {Q:Value->Shared->Prop} {c:Value} {b:Bool}
inductive TyOf (K:Frag) (H:Hp):V->Value->Prop where
 | non:TyOf K H .non (.type "NoneType")
 | bl (x:Bool):TyOf K H (.bl x) (.type "bool")
 | int (i:Int):TyOf K H (.int i) (.type "int")
 | str (x:Str):TyOf K H (.str x) (.type "str")
 | flt (x:UInt64):TyOf K H (.flt x) (.type "float")
 | lst {a:Addr} {xs:List V} (e:H a=some (.lst xs)):TyOf K H (.ref a) (.type "list")
 | frz {a:Addr} {o:Obj} {xs:List V} (e:H a=some (.frz o (.lst xs))):TyOf K H (.ref a) (.type "list")
 | tup {a:Addr} {xs:List V} (e:H a=some (.tup xs)):TyOf K H (.ref a) (.type "tuple")
 | dK {a:Addr} {kvs:List (Key×V)} (e:H a=some (.dK kvs)):TyOf K H (.ref a) (.type "dict")
 | dT {a:Addr} {kvs:List (List Key×V)} (e:H a=some (.dT kvs)):TyOf K H (.ref a) (.type "dict")
 | ins {a C dx:Addr} {fs:List (Str×V)} (e:H a=some (.ins C dx fs)) (cl:Cls K C) (ha:PySem.W.findIn K (.ref C) "__class__" = some (some (.builtin "object.__class__")))
   (hn:PySem.W.specialIn K (.builtin "object.__class__") "__get__" = some (some (.builtin "getset_descriptor.__get__"))) (htk:PySem.W.takesIn K (.builtin "object.__class__")=some true)
   (hm:PySem.W.mroIn K C (.type "object")=some true):TyOf K H (.ref a) (.ref C)
theorem isinst_ok {x:V} {u t:Value} (I:Inv X pins σ H s) (rx:RelV x u) (ty:TyOf X.K H x t) (e:PySem.W.kitOne X.K t c=some b) (h:∀ tk,Q (.bool b) { s with toks:=tk }) :
  wpAny (model X.prog X.w) A (call (.builtin "isinstance") [u,c]) Q E s:=by
 cases ty with
 | non=>cases (show u=Value.none from rx); exact PySem.W.kia_one PySem.W.kitx_none I.kIn True.intro e (fun z=>nomatch z) h
 | bl y=>cases (show u=Value.bool y from rx); exact PySem.W.kia_one PySem.W.kitx_bool I.kIn True.intro e (fun z=>nomatch z) h
 | int i=>obtain ⟨t,q⟩:=(show ∃ t,u=Value.int i t from rx); cases q; exact PySem.W.kia_one PySem.W.kitx_int I.kIn True.intro e (fun z=>nomatch z) h
 | str y=>obtain ⟨t,q⟩:=(show ∃ t,u=Value.str y t from rx); cases q; exact PySem.W.kia_one PySem.W.kitx_str I.kIn True.intro e (fun z=>nomatch z) h
 | flt y=>obtain ⟨t,q⟩:=(show ∃ t,u=Value.float y t from rx); cases q; exact PySem.W.kia_one PySem.W.kitx_float I.kIn True.intro e (fun z=>nomatch z) h
 | @lst a xs ea=>
  cases (show u=Value.ref a from rx)
  obtain ⟨_,_,n,_,h1⟩:=(show ObjOk X.prog X.w H s.heap a (.lst xs) from I.hok a _ ea)
  exact PySem.W.kia_one PySem.W.kitx_list I.kIn ⟨_,h1,rfl⟩ e (fun z=>nomatch z) h
 | @frz a ob xs ea=>
  cases (show u=Value.ref a from rx)
  obtain ⟨_,_,_,n,_,h1⟩:=(show ObjOk X.prog X.w H s.heap a (.frz ob (.lst xs)) from I.hok a _ ea)
  exact PySem.W.kia_one PySem.W.kitx_list I.kIn ⟨_,h1,rfl⟩ e (fun z=>nomatch z) h
 | @tup a xs ea=>
  cases (show u=Value.ref a from rx)
  obtain ⟨_,_,_,p⟩:=(show ObjOk X.prog X.w H s.heap a (.tup xs) from I.hok a _ ea)
  obtain ⟨o,h1,h2,_⟩:=p
  exact PySem.W.kia_one PySem.W.kitx_tuple I.kIn ⟨o,h1,h2⟩ e (fun z=>nomatch z) h
 | @dK a kvs ea=>
  cases (show u=Value.ref a from rx)
  obtain ⟨_,_,vs,_,p⟩:=(show ObjOk X.prog X.w H s.heap a (.dK kvs) from I.hok a _ ea)
  obtain ⟨o,es,ep,h1,h2,_⟩:=p
  exact PySem.W.kia_one PySem.W.kitx_dict I.kIn ⟨o,h1,h2.1⟩ e (fun z=>nomatch z) h
 | @dT a kvs ea=>
  cases (show u=Value.ref a from rx)
  obtain ⟨_,_,xs,_,o,es,ep,h1,h2,_⟩:=(show ObjOk X.prog X.w H s.heap a (.dT kvs) from I.hok a _ ea)
  exact PySem.W.kia_one PySem.W.kitx_dict I.kIn ⟨o,h1,h2.1⟩ e (fun z=>nomatch z) h
 | @ins a C dx fs ea cl ha hn htk hm=>
  cases (show u=Value.ref a from rx)
  obtain ⟨mA,O,_⟩:=ins_get I.hok ea
  obtain ⟨od,J,_⟩:=O.look
  exact PySem.W.kia_one (PySem.W.kitx_own (cl.get _) cl.hd ha hn htk hm) I.kIn J e (fun z=>nomatch z) h
end
end L2
namespace L2
open PySem PySem.Spec PyProof.Rows
structure Room (k:Nat) (A:Around):Prop where
 hd:A.handled=none
 dp:A.depth+3*k+5<recursionLimit
 un:A.units+16*k+200<cLine
theorem Room.mono {j k:Nat} {A:Around} (r:Room k A) (h:j<=k):Room j A:=⟨r.hd,by have:=r.dp; omega,by have:=r.un; omega⟩
theorem Room.deeper {k:Nat} {A:Around} (r:Room (k+1) A) (env:Env):Room k (A.deeper env):=
 ⟨r.hd,by have:=r.dp; show A.depth+1+3*k+5<_; omega,by have:=r.un; show A.units+3+16*k+200<_; omega⟩
theorem Room.in1 {k:Nat} {A:Around} (r:Room (k+1) A):Room k A.in1:=
 ⟨r.hd,by have:=r.dp; show A.depth+3*k+5<_; omega,by have:=r.un; show A.units+1+16*k+200<_; omega⟩
theorem Room.depth {k:Nat} {A:Around} (r:Room k A):A.depth<recursionLimit:=by have:=r.dp; omega
theorem Room.units {k:Nat} {A:Around} (r:Room k A):A.units+64<cLine:=by have:=r.un; omega
def tNil:TA:=fun _ H Q=>Q [] H
def tCons (ta:TE) (tr:TA):TA:=fun σ H Q=>ta σ H fun x H1=>tr σ H1 fun xs H2=>Q (x::xs) H2
section
variable {X:Cx} {e:Expr} {es:List Expr} {te:TE} {t:TA} {pos:Pos}
theorem pa_nil:PA X [] tNil:=fun _ _ _ _ H Q I h=>Calls.spliced_nil ⟨[],H,I,.nil,h⟩
theorem pa_cons (ha:PE X e te) (hr:PA X es t) (hs:starEach (e::es) X.env=(false,eval e X.env)::starEach es X.env:=by rfl):PA X (e::es) (tCons te t):=by
 intro pos pins s σ H Q I h
 rw [hs]
 show wpAny _ _ (spliced ((false,eval e X.env)::backTo pos (starEach es X.env))) _ _ s
 refine Calls.spliced_cons (thn (ha pins s σ H _ I h) fun u s1 zz40=>?_)
 obtain ⟨x,H1,I1,r1,q1⟩:=zz40
 exact thn (hr pos pins s1 σ H1 _ I1 q1) fun us s2 zz41=>by obtain ⟨xs,H2,I2,r2,q2⟩:=zz41; exact ⟨x::xs,H2,I2,.cons r1 r2,q2⟩
def tTup (t:TA):TE:=fun σ H Q=>t σ H fun xs H1=>xs.length<=sizeLine/\∀ p,H1 p=none->Q (.ref p) (upd H1 p (.tup xs))
def tLst (t:TA):TE:=fun σ H Q=>t σ H fun xs H1=>xs.length<=sizeLine/\∀ p,H1 p=none->Q (.ref p) (upd H1 p (.lst xs))
theorem pe_tup {x1} (h:PA X es t):PE X (.Tuple es x1 pos) (tTup t):=by
 intro pins s σ H Q I hq
 refine wpAny_Tuple_spliced (thn (h pos pins s σ H _ I hq) fun us s1 ⟨xs,H1,I1,r,z,q⟩=>⟨by rw [<- r.length]; exact z,?_⟩)
 have hf:H1 s1.heap.objs.size=none:=I1.hok.fresh (Nat.le_refl _)
 refine ⟨.ref s1.heap.objs.size,upd H1 s1.heap.objs.size (.tup xs),I1.laid (t':=s1.toks) (fun b u e=>Heap.get?_push_of_some _ e) (Nat.le_refl _) ?_,rfl,q _ hf⟩
 exact ⟨z,us,r,⟨_,Heap.get?_push_size _ rfl,rfl,_,rfl⟩⟩
theorem pe_lst (h:PA X es t):PE X (.List es pos) (tLst t):=by
 intro pins s σ H Q I hq
 refine wpAny_List_spliced (thn (h pos pins s σ H _ I hq) fun us s1 ⟨xs,H1,I1,r,z,q⟩=>⟨by rw [<- r.length]; exact z,?_⟩)
 have hf:H1 s1.heap.objs.size=none:=I1.hok.fresh (Nat.le_refl _)
 refine ⟨.ref s1.heap.objs.size,upd H1 s1.heap.objs.size (.lst xs),I1.laid (t':=s1.toks) (fun b u e=>Heap.get?_push_of_some _ e) (Nat.le_refl _) ?_,rfl,q _ hf⟩
 exact ⟨z,us,0,r,Heap.get?_push_size _ rfl⟩
end
abbrev Sp:=List V->Hp->VK->XK->Prop
abbrev CXT:=List Env->Hp->Shared->XK->Value->Shared->Prop
structure Env0 (P:Program) (w:World) (K:Frag) (mg:Str->Option Value) (base:Heap) (A:Around) (outer:List Env) (s:Shared) (H:Hp):Prop where
 frames:A.frames=some outer
 mod:Mod K mg base
 bs:∀ b o,base.get? b=some o->s.heap.get? b=some o/\H b=none
 bsz:base.objs.size<=s.heap.objs.size
 funs:s.heap.FunFrames base outer
 frf:∀ b∈frs outer,H b=none
 hok:HOk P w H s.heap
 bare:AllBare s.gens
 tab:∀ p∈lamT,H p.1=some (.tbl p.2)
def CE (outer:List Env) (P:Program) (w:World) (H:Hp) (s:Shared) (Q:VK) (u:Value) (s':Shared):Prop:=
 ∃ v H',s'.os=s.os/\AllBare s'.gens/\Un (frs outer) [] H H' s.heap s'.heap/\HOk P w H' s'.heap/\RelV v u/\Q v H'
def CR (CX:CXT) (outer:List Env) (P:Program) (w:World) (H:Hp) (s:Shared) (Q:VK) (E:XK) (r:Result) (s':Shared):Prop:=
 match r with
 | .ok (.ret u)=>CE outer P w H s Q u s'
 | .ok _=>False
 | .error e=>CX outer H s E e s'
structure FnOk (P:Program) (w:World) (K:Frag) (mg:Str->Option Value) (base:Heap) (CX:CXT) (k:Nat) (f:Addr) (fd:FuncData) (ps:List Str) (sp:Sp):Prop where
 len:∀ vs H Q E,sp vs H Q E->vs.length=ps.length
 run:∀ (A:Around) (outer:List Env) (s:Shared) (H:Hp) (args:Args) (us:List Value) (vs:List V) (Q:VK) (E:XK),Room k A->Env0 P w K mg base A outer s H->BindsTo s fd args (ps.zip us)->Vals vs us->sp vs H Q E ->
  codeAny (model P w) A (.call (.ref f) args) (CR CX outer P w H s Q E) s
theorem FnOk.imp {P:Program} {w:World} {K:Frag} {mg:Str->Option Value} {base:Heap} {CX:CXT} {k:Nat} {f:Addr} {fd:FuncData} {ps:List Str} {sp sp':Sp} (F:FnOk P w K mg base CX k f fd ps sp)
  (h:∀ vs H Q E,sp' vs H Q E->sp vs H Q E):FnOk P w K mg base CX k f fd ps sp':=
 ⟨fun vs H Q E q=>F.len vs H Q E (h _ _ _ _ q),fun A outer s H args us vs Q E hr he hb hv hs=>F.run A outer s H args us vs Q E hr he hb hv (h _ _ _ _ hs)⟩
section
variable {X:Cx} {pins:List (Addr×Obj)} {σ:St} {H:Hp} {s s':Shared}
theorem Inv.env0 (I:Inv X pins σ H s):Env0 X.prog X.w X.K X.mg X.base X.A X.stack s H:=
 ⟨I.ok.frames,I.ok.mod,I.bs,Nat.le_trans I.ok.bsz I.sz,I.stack,I.stkFree,I.hok,I.bare,I.tab⟩
theorem Inv.after {Q:VK} {u:Value} (I:Inv X pins σ H s) (h:CE X.stack X.prog X.w H s Q u s'):EP X pins σ Q u s':=by
 obtain ⟨v,H',os,bare,un,hok,r,q⟩:=h
 obtain ⟨hh,g,d,t,os'⟩:=s'
 obtain rfl:os'=s.os:=os
 exact ⟨v,H',I.call (h':=hh) (g':=g) (d':=d) (t':=t) (ch:=[]) un hok bare (fun b z=>absurd z (by simp)),r,q⟩
end
def tCall (sp:Sp) (dvs:List V) (E:XK) (t:TA):TE:=fun σ H Q=>t σ H fun vs H1=>sp (vs++dvs) H1 Q E
def Binds (K:Frag) (fd:FuncData) (ps:List Str) (ds:List Value):Prop:=
 ∀ (s:Shared) (us:List Value),K.In s.heap->(us++ds).length=ps.length->BindsTo s fd ⟨us,[]⟩ (ps.zip (us++ds))
theorem Binds.all {K:Frag} {fd:FuncData} {ps:List Str} (h:∀ us:List Value,us.length=ps.length->bindArgs fd ⟨us,[]⟩=pure (ps.zip us)):Binds K fd ps []:=fun s us _ hl=>by
 rw [List.append_nil] at hl ⊢
 exact .of_eq (h us hl)
def Passes (CX:CXT) (X:Cx) (E:XK):Prop:=∀ (pins:List (Addr×Obj)) (σ:St) (H:Hp) (s:Shared) (e:Value) (s':Shared),Inv X pins σ H s->CX X.stack H s E e s'->X.xe e s'
section
variable {X:Cx} {CX:CXT} {k:Nat} {f C:Addr} {fd:FuncData} {ps:List Str} {sp:Sp} {dvs:List V} {ds:List Value} {E:XK} {x m:Str} {p pos apos:Pos} {e o:Expr} {es:List Expr} {ta:TE} {t:TA}
theorem run_fn {pins:List (Addr×Obj)} {σ:St} {H:Hp} {s:Shared} {Q:VK} {us:List Value} {vs:List V} (F:FnOk X.prog X.w X.K X.mg X.base CX k f fd ps sp) (hr:Room k X.A) (hb:Binds X.K fd ps ds) (hd:Vals dvs ds) (hx:Passes CX X E)
  (I:Inv X pins σ H s) (r:Vals vs us) (h:sp (vs++dvs) H Q E):wpAny (model X.prog X.w) X.A (call (.ref f) us) (EP X pins σ Q) X.xe s:=by
 have r2:Vals (vs++dvs) (us++ds):=r.append hd
 have hl:(us++ds).length=ps.length:=by rw [<- r2.length]; exact F.len _ _ _ _ h
 refine wpAny_call (codeAny_mono (F.run X.A X.stack s H ⟨us,[]⟩ (us++ds) (vs++dvs) Q E hr I.env0 (hb s us I.kIn hl) r2 h) fun r s' hq=>?_)
 cases r with
 | error e=>exact hx pins σ H s e s' I hq
 | ok fl=>
  cases fl with
  | ret u=>exact I.after hq
  | next=>exact False.elim hq
  | brk=>exact False.elim hq
  | cont=>exact False.elim hq
theorem pe_call (F:FnOk X.prog X.w X.K X.mg X.base CX k f fd ps sp) (hr:Room k X.A) (hg:Gl X x) (hm:X.mg x=some (.ref f)) (hk:PySem.W.keepIn X.K (.ref f)=true) (hb:Binds X.K fd ps ds) (hd:Vals dvs ds) (hx:Passes CX X E)
  (ha:PA X (e::es) t) (hdb:(x == ("__debug__" : Str))=false:=by decide) (he:starEach (e::es) X.env=(false,eval e X.env)::starEach es X.env:=by rfl) (hpl:(backTo pos (starEach es X.env)).any (·.1)=false:=by rfl) :
  PE X (.Call (.Name x p) (e::es) [] pos) (tCall sp dvs E t):=by
 intro pins s σ H Q I h
 refine wpAny_Call_Name_kw (ld_glob I hg hm ?_ hdb)
 refine PySem.W.callWith_K (h₀:=X.base) I.ok.mod.kin hk (thn (ha pos pins s σ H _ I h) fun us s1 ⟨vs,H1,I1,r,q⟩=>⟨I1.kIn,?_⟩) he hpl
 exact run_fn F hr hb hd hx I1 r q
structure Mk (K:Frag) (C f:Addr):Prop where
 makes:PySem.W.makesIn K C=true
 init:PySem.W.findIn K (.ref C) "__init__" = some (some (.ref f))
 fn:PySem.W.isFn K (.ref f)=true
 kp:PySem.W.keepIn K (.ref C)=true
end
section
variable {X:Cx} {CX:CXT} {k:Nat} {f C:Addr} {fd:FuncData} {ps ks:List Str} {sp:Sp} {E:XK} {x m:Str} {p pos apos kpos:Pos} {e o:Expr} {es:List Expr} {kws:List Keyword} {te ta:TE} {t tk:TA} {nm:Option Str}
variable {g:List Value->List Value->List Value} {gV:List V->List V->List V}
end
structure FnScope (N P:List Str) (sc:Scope):Prop where
 kind:sc.kind=.function
 co:sc.isCoroutine=false
 gen:sc.isGenerator=false
 nd:N.Nodup
 pre:N.take P.length=P
 par:∀ x∈P,sc.names.lookup x=some .local\/sc.names.lookup x=some .cell
 nofree:∀ y∈sc.names,y.2≠.free
theorem bindL_out {kindOf:Str->Option NameKind} {x:Str}:∀ {binds:List (Str×Value)} {m:Str->Option Value},(∀ v,(x,v)∉binds)->bindL kindOf binds m x=m x:=by
 intro binds
 induction binds with
 | nil=>intro m _; rfl
 | cons p r ih=>
  intro m h
  unfold bindL
  rw [ih fun w hw=>h w (List.mem_cons_of_mem _ hw)]
  split
  ·have:x≠p.1:=by rintro rfl; exact h p.2 List.mem_cons_self
   simp [this]
  ·rfl
theorem bindC_out {kindOf:Str->Option NameKind} {x:Str}:∀ {binds:List (Str×Value)} {m:Str->Option Value},(∀ v,(x,v)∉binds)->bindC kindOf binds m x=m x:=by
 intro binds
 induction binds with
 | nil=>intro m _; rfl
 | cons p r ih=>
  intro m h
  unfold bindC
  rw [ih fun w hw=>h w (List.mem_cons_of_mem _ hw)]
  split
  ·rfl
  ·have:x≠p.1:=by rintro rfl; exact h p.2 List.mem_cons_self
   simp [this]
theorem bindL_get {kindOf:Str->Option NameKind} {x:Str} {v:Value}:∀ {P:List Str} {vs:List Value} {i:Nat} {m:Str->Option Value},P.Nodup->P[i]?=some x->vs[i]?=some v->kindOf x=some .local ->
  bindL kindOf (P.zip vs) m x=some v:=by
 intro P
 induction P with
 | nil=>intro vs i m _ h _ _; cases h
 | cons p P ih=>
  intro vs i m nd h1 h2 hk
  cases vs with
  | nil=>cases h2
  | cons w vs=>
   show bindL kindOf ((p,w)::P.zip vs) m x=_
   unfold bindL
   cases i with
   | zero=>
    cases h1
    cases h2
    rw [bindL_out fun v hv=>(List.nodup_cons.mp nd).1 (List.of_mem_zip hv).1,if_pos hk]
    simp
   | succ i=>exact ih (List.nodup_cons.mp nd).2 h1 h2 hk
theorem bindC_get {kindOf:Str->Option NameKind} {x:Str} {v:Value}:∀ {P:List Str} {vs:List Value} {i:Nat} {m:Str->Option Value},P.Nodup->P[i]?=some x->vs[i]?=some v->kindOf x≠some .local ->
  bindC kindOf (P.zip vs) m x=some v:=by
 intro P
 induction P with
 | nil=>intro vs i m _ h _ _; cases h
 | cons p P ih=>
  intro vs i m nd h1 h2 hk
  cases vs with
  | nil=>cases h2
  | cons w vs=>
   show bindC kindOf ((p,w)::P.zip vs) m x=_
   unfold bindC
   cases i with
   | zero=>
    cases h1
    cases h2
    rw [bindC_out fun v hv=>(List.nodup_cons.mp nd).1 (List.of_mem_zip hv).1,if_neg hk]
    simp
   | succ i=>exact ih (List.nodup_cons.mp nd).2 h1 h2 hk
def start (N:List Str) (vs:List V):St:=vs.map some++List.replicate (N.length-vs.length) none
def cxOf (CX:CXT) (P:Program) (w:World) (K:Frag) (mg:Str->Option Value) (base:Heap) (N:List Str) (qual:Str) (scope:Scope) (f:Addr) (cd:Value) (A:Around) (outer:List Env) (s:Shared) (H:Hp) (E:XK):Cx where
 prog:=P
 w:=w
 K:=K
 mg:=mg
 base:=base
 A:=A.deeper (envOfC qual scope s.heap.objs.size f cd)
 N:=N
 s₀:=s
 H₀:=H
 env:=envOfC qual scope s.heap.objs.size f cd
 outer:=outer
 stack:=envOfC qual scope s.heap.objs.size f cd::outer
 ex:=[]
 calm:=true
 fn:=fun _=>true
 pn:=[]
 xe:=fun e s'=>wpAny (model P w) (A.deeper (envOfC qual scope s.heap.objs.size f cd)) (leaving (envOfC qual scope s.heap.objs.size f cd) e) (fun _ s''=>CX outer H s E e s'') (fun e' s''=>CX outer H s E e' s'') s'
theorem cell_has {sc:Scope} {n:Nat} {x:Str} (h:sc.names.lookup x=some .cell):∃ c,(cellsFrom n sc.names []).lookup x=some c:=by
 have q:=PySem.W.cellsFrom_some sc.names n [] (.inl h)
 exact Option.isSome_iff_exists.mp q
theorem inv_start {CX:CXT} {P:Program} {w:World} {K:Frag} {mg:Str->Option Value} {base:Heap} {N ps:List Str} {qual:Str} {scope:Scope} {f:Addr} {cd:Value} {A:Around} {outer:List Env} {s s1:Shared} {H:Hp} {E:XK} {us:List Value} {vs:List V}
  (S:FnScope N ps scope) (hd:A.handled=none) (e0:Env0 P w K mg base A outer s H) (hl:vs.length=ps.length) (r:Vals vs us)
  (x:InCallC s s.heap.objs.size (bindL (envOfC qual scope s.heap.objs.size f cd).kindOf (ps.zip us) fun _=>none) (cellsFrom (s.heap.objs.size+1) scope.names []) (bindC (envOfC qual scope s.heap.objs.size f cd).kindOf (ps.zip us) fun _=>none) s1) :
  Inv (cxOf CX P w K mg base N qual scope f cd A outer s H E) [] (start N vs) H s1:=by
 have hpl:ps.length<=N.length:=by have:=congrArg List.length S.pre; rw [List.length_take] at this; omega
 obtain ⟨h1,tk,rfl,hk⟩:=x.done
 have noA:∀ b:Addr,b∉(cxOf CX P w K mg base N qual scope f cd A outer s H E).ex:=fun b z=>absurd (show b∈([]:List Addr) from z) (by simp)
 refine ⟨⟨e0.mod,S.kind,rfl,rfl,Nat.le_refl _,fun y z c h1 h2=>?_,fun y hy=>?_,fun y c _ h=>?_,fun _=>hd,Around.frames_deeper e0.frames,.inr ⟨rfl,rfl⟩,fun b z=>absurd z (noA b),e0.bs,e0.bsz,fun b _ _=>noA b,fun b z=>absurd z (noA b),e0.funs,e0.frf,e0.tab⟩,
  rfl,e0.bare,Un.kept hk,⟨_,x.toInCall.ns,fun i y v h1 h2 h3=>?_⟩,fun y c h=>⟨_,x.cell y c h⟩,e0.hok.fresh (Nat.le_refl _),fun y c h=>?_,fun p hp=>absurd (show p∈([]:List (Addr×Obj)) from hp) (by simp),e0.hok.kept hk,?_⟩
 ·exact name_of_addr x.apart (PySem.mem_of_lookup h1) (PySem.mem_of_lookup h2)
 ·have hy:scope.names.lookup y=some .cell\/scope.names.lookup y=some .free:=hy
  rcases hy with hy | hy
  ·exact cell_has hy
  ·exact absurd rfl (S.nofree _ (PySem.mem_of_lookup hy))
 ·exact Nat.le_of_lt (x.above y c (PySem.mem_of_lookup h))
 ·have hi:i<vs.length:=by
   unfold start at h2
   by_cases hi:i<vs.length
   ·exact hi
   ·rw [List.getElem?_append_right (by simpa using hi)] at h2
    rw [List.getElem?_replicate] at h2
    split at h2 <;> cases h2
  have ha:vs[i]?=some v:=by
   unfold start at h2
   rw [List.getElem?_append_left (by simpa using hi),List.getElem?_map] at h2
   cases e:vs[i]? with
   | none=>rw [e] at h2; cases h2
   | some a=>rw [e] at h2; cases h2; rfl
  obtain ⟨u,hu,rv⟩:=r.get ha
  have hp:ps[i]?=some y:=by
   rw [<- S.pre,List.getElem?_take_of_lt (by omega)]; exact h1
  have ndP:ps.Nodup:=by rw [<- S.pre]; exact S.nd.sublist (List.take_sublist _ _)
  refine ⟨u,rv,?_⟩
  rcases S.par y (List.mem_of_getElem? hp) with k | k
  ·exact .inl ⟨k,bindL_get ndP hp hu k⟩
  ·obtain ⟨c,e⟩:=cell_has (n:=s.heap.objs.size+1) k
   refine .inr ⟨.inl k,c,e,?_⟩
   have q:=x.cell y c e
   rw [bindC_get ndP hp hu (by show scope.names.lookup y≠_; rw [k]; decide)] at q
   exact q
 ·exact e0.hok.fresh (Nat.le_of_lt (x.above y c (PySem.mem_of_lookup h)))
 ·unfold start
  show _=N.length
  rw [List.length_append,List.length_map,List.length_replicate]
  omega
theorem fn_of {CX:CXT} {P:Program} {w:World} {K:Frag} {mg:Str->Option Value} {base:Heap} {k:Nat} {f:Addr} {name qual:Str} {params:Arguments} {body:List Stmt} {scope:Scope} {dV kV doc pm cdv ct oc:Value} {an od:Option Addr}
  {osl:Array (Option Value)} {N ps:List Str} {sp:Sp} (lk:K.lookup f=some ⟨oc,od,.func (PySem.W.fnOf name qual params body scope dV kV doc pm an cdv ct),osl⟩) (hcd:PySem.W.codeIn K cdv qual=true) (S:FnScope N ps scope)
  (len:∀ vs H Q E,sp vs H Q E->vs.length=ps.length)
  (hbody:∀ (A:Around) (outer:List Env) (s:Shared) (H:Hp) (vs:List V) (Q:VK) (E:XK),Room k (A.deeper (envOfC qual scope s.heap.objs.size f cdv))->sp vs H Q E ->
   ∃ t,PSs (cxOf CX P w K mg base N qual scope f cdv A outer s H E) body t/\t { nx:=fun _ H'=>Q .non H',rt:=Q } (start N vs) H) :
  FnOk P w K mg base CX (k+1) f (PySem.W.fnOf name qual params body scope dV kV doc pm an cdv ct) ps sp:=by
 refine ⟨len,fun A outer s H args us vs Q E hr e0 hb r hsp=>?_⟩
 have hl:=len _ _ _ _ hsp
 have KX:K.In s.heap:=e0.mod.kin.keeps fun b o e=>(e0.bs b o e).1
 have lim:s.heap.NoLimit:=e0.mod.nolimit.keeps fun b o e=>(e0.bs b o e).1
 have hkind:∀ y∈ps.zip us,scope.names.lookup y.1=some .local\/(scope.names.lookup y.1=some .cell/\((cellsFrom (s.heap.objs.size+1) scope.names []).lookup y.1).isSome=true):=fun zz45 hy=>by
  obtain ⟨n,v⟩:=zz45
  rcases S.par n (List.of_mem_zip hy).1 with q | q
  ·exact .inl q
  ·exact .inr ⟨q,PySem.W.cellsFrom_some _ _ _ (.inl q)⟩
 refine codeAny_call_function hr.depth (KX _ _ lk) rfl S.co S.gen rfl (PySem.W.codeRec_of KX hcd) (hb _ _ _ _ ?_)
 refine wpAny_newFunctionEnv_cells S.kind hkind fun env he s1 x=>?_
 subst he
 refine ⟨lim.keeps x.toInCall.keep,codeAny_func ?_⟩
 obtain ⟨t,ht,hq⟩:=hbody A outer s H vs Q E (hr.deeper _) hsp
 have I:Inv (cxOf CX P w K mg base N qual scope f cdv A outer s H E) [] (start N vs) H s1:=inv_start S hr.hd e0 hl r x
 refine wpAny_mono (ht [] s1 (start N vs) H _ I hq) (fun fl s' hs=>?_) fun e s' hs=>hs
 have fin:∀ {σ':St} {H':Hp} {v:V} {u:Value},Inv (cxOf CX P w K mg base N qual scope f cdv A outer s H E) [] σ' H' s'->RelV v u->Q v H'->CE outer P w H s Q u s':=
  fun {σ' H' v u} J rv q=>⟨v,H',J.os,J.bare,J.base,J.hok,rv,q⟩
 cases fl with
 | ret u=>
  obtain ⟨v,σ',H',J,rv,q⟩:=hs
  exact fin J rv q
 | next=>
  obtain ⟨σ',H',J,q⟩:=hs
  exact fin (v:=V.non) (u:=Value.none) J rfl q
 | brk=>
  obtain ⟨_,_,_,q⟩:=hs
  exact False.elim q
 | cont=>
  obtain ⟨_,_,_,q⟩:=hs
  exact False.elim q
end L2
namespace L2
open PySem PySem.Spec PyProof.Rows
section
variable {X:Cx} {x:Str} {p pos:Pos} {e:Expr} {es:List Expr} {t:TA} {id T:String} {r:List V->Hp->VK->Prop}
def tCB (r:List V->Hp->VK->Prop) (t:TA):TE:=fun σ H Q=>t σ H fun vs H1=>r vs H1 Q
theorem pe_callB (hc:CallR X (.builtin id) r) (hg:Gl X x) (hm:X.mg x=none) (hv:bootBuiltins x=some (.builtin id)) (ha:PA X (e::es) t) (hn:x ≠ "__name__" := by decide) (hdb:(x == ("__debug__" : Str))=false:=by decide)
  (he:starEach (e::es) X.env=(false,eval e X.env)::starEach es X.env:=by rfl) (hpl:(backTo pos (starEach es X.env)).any (·.1)=false:=by rfl):PE X (.Call (.Name x p) (e::es) [] pos) (tCB r t):=by
 intro pins s σ H Q I h
 refine wpAny_Call_Name_kw (ld_blt I hg hm hv ?_ hn hdb)
 exact PyProof.Rows.callWith_builtin1 (thn (ha pos pins s σ H _ I h) fun us s1 zz46=>by obtain ⟨vs,H1,I1,r1,q1⟩:=zz46; exact hc pins s1 σ H1 vs us Q I1 r1 q1) he hpl
theorem pe_callTy (hc:CallR X (.type T) r) (hg:Gl X x) (hm:X.mg x=none) (hv:bootBuiltins x=some (.type T)) (ha:PA X (e::es) t) (hn:x ≠ "__name__" := by decide) (hdb:(x == ("__debug__" : Str))=false:=by decide)
  (he:starEach (e::es) X.env=(false,eval e X.env)::starEach es X.env:=by rfl) (hpl:(backTo pos (starEach es X.env)).any (·.1)=false:=by rfl):PE X (.Call (.Name x p) (e::es) [] pos) (tCB r t):=by
 intro pins s σ H Q I h
 refine wpAny_Call_Name_kw (ld_blt I hg hm hv ?_ hn hdb)
 exact PyProof.Rows.callWith_type1 (thn (ha pos pins s σ H _ I h) fun us s1 zz47=>by obtain ⟨vs,H1,I1,r1,q1⟩:=zz47; exact hc pins s1 σ H1 vs us Q I1 r1 q1) he hpl
end
end L2
namespace HT
open PySem PyProof.Rows
def lexLt:List Int->List Int->Bool
 | [],[]=>false
 | [],_::_=>true
 | _::_,[]=>false
 | x::xs,y::ys=>if x=y then lexLt xs ys else decide (x<y)
section
open PySem.SeqAt
open PySem.AutoSeq1 (wpAny_loadPart')
open PySem.MeetsSeq PySem.MeetsSeq2 PySem.MeetsSeq3
end
section
variable {prog:Program} {w:World} {A:Around} {E:Value->Shared->Prop} {s:Shared}
theorem cat_tup {t b:Addr} {vs ws:List Value} {Q:Value->Shared->Prop} (ht:IsTup s.heap t vs.toArray) (hb:IsTup s.heap b ws.toArray) (hv:vs ≠ [])
  (h1:ws = []->Q (.ref t) s) (h2:ws ≠ []->Q (.ref s.heap.objs.size) { s with heap:=s.heap.push { cls:=.type "tuple",data:=.seq (vs++ws).toArray } })
  (hsz:vs.length+ws.length<=sizeLine):wpAny (model prog w) A (binaryOp .Add (.ref t) (.ref b)) Q E s:=by
 obtain ⟨⟨cls,dd,data,sl⟩,ho,hc,n,hd⟩:=id ht
 obtain ⟨⟨cls2,dd2,data2,sl2⟩,ho2,hc2,n2,hd2⟩:=id hb
 simp only at hc hd hc2 hd2
 subst hc hd hc2 hd2
 have e:vs.toArray++ws.toArray=(vs++ws).toArray:=by simp
 by_cases hw:ws = []
 ·exact concat_meets ⟨_,ho,rfl⟩ ⟨_,ho2,rfl⟩ noFill_tuple_add seq_tuple_add PySem.F.slot_tuple_add PySem.F.entry_tuple_add (PySem.F.args_tuple_add_2 _ _)
   (tuple_addW1 t b vs.toArray ws.toArray n n2 dd dd2 sl sl2 (by simpa using hv) (by simp [hw])) ⟨ho,ho2,h1 hw⟩
 ·refine concat_meets ⟨_,ho,rfl⟩ ⟨_,ho2,rfl⟩ noFill_tuple_add seq_tuple_add PySem.F.slot_tuple_add PySem.F.entry_tuple_add (PySem.F.args_tuple_add_2 _ _)
   (tuple_addW2 t b vs.toArray ws.toArray n n2 dd dd2 sl sl2 (by simpa using hv) (by simpa using hw) (by rw [List.size_toArray,List.size_toArray]; exact hsz)) ⟨ho,ho2,?_⟩
  rw [e]
  exact h2 hw
def sIx (n d:Nat):Option Int->Nat
 | none=>d
 | some v=>if v<0 then (v+(n:Int)).toNat else min v.toNat n
theorem sIx_none (n d:Nat):sIx n d none=d:=rfl
theorem sIx_nat (n d k:Nat):sIx n d (some (k:Int))=min k n:=by
 show (if (k:Int)<0 then ((k:Int)+(n:Int)).toNat else min (k:Int).toNat n)=min k n
 rw [if_neg (by omega),Int.toNat_natCast]
theorem sIx_le (n d:Nat) (hd:d<=n) (o:Option Int):sIx n d o<=n:=by
 cases o with
 | none=>exact hd
 | some v=>
  show (if v<0 then (v+(n:Int)).toNat else min v.toNat n)<=n
  by_cases hv:v<0
  ·rw [if_pos hv]; omega
  ·rw [if_neg hv]; exact Nat.min_le_right _ _
theorem clip_eq (v:Int) (n d:Nat):(if v<0 then max (v+(n:Int)) 0 else min v (n:Int))=((sIx n d (some v):Nat):Int):=by
 show (if v<0 then max (v+(n:Int)) 0 else min v (n:Int))=(((if v<0 then (v+(n:Int)).toNat else min v.toNat n):Nat):Int)
 by_cases hv:v<0
 ·simp only [if_pos hv]; omega
 ·simp only [if_neg hv]; omega
theorem adjust_gen (lo hi:Option Int) (n:Nat):Builtin.Slice.sliceAdjust lo hi 1 (n:Int)=(((sIx n 0 lo:Nat):Int),((sIx n n hi:Nat):Int)):=by
 have h1:¬ ((1:Int)<0):=by omega
 unfold Builtin.Slice.sliceAdjust
 simp only [h1,if_false]
 refine Prod.ext ?_ ?_
 ·cases lo with
  | none=>rfl
  | some v=>exact clip_eq v n 0
 ·cases hi with
  | none=>rfl
  | some v=>exact clip_eq v n n
theorem places_gen (i j:Nat):Builtin.Slice.slicePlaces (i:Int) (j:Int) 1=j-i:=by
 unfold Builtin.Slice.slicePlaces
 have h1:(1:Int)>0:=by omega
 simp only [h1,if_true,Int.ediv_one]
 split <;> omega
theorem slicePart_ {v:Value} {o:Option Int} {Q:Option Int->Shared->Prop} (p:IsPart v o) (h:Q o s):wpAny (model prog w) A (Builtin.Slice.slicePartIndex v) Q E s:=by
 cases p with
 | none=>exact slicePart_none h
 | int i t=>exact slicePart_int h
theorem sliceApplied_gen {sl:Addr} {vl vu:Value} {lo hi:Option Int} {n:Nat} {Q:Int×Int×Nat->Shared->Prop} (hs:s.heap.IsSliceOf sl vl vu .none) (pl:IsPart vl lo) (pu:IsPart vu hi)
  (h:Q (((sIx n 0 lo:Nat):Int),1,sIx n n hi-sIx n 0 lo) s):wpAny (model prog w) A (Builtin.Slice.sliceApplied (.ref sl) (pure (n:Int))) Q E s:=by
 obtain ⟨os,hos,hcs,hds⟩:=id hs
 unfold Builtin.Slice.sliceApplied Builtin.Slice.sliceFields
 refine wpAny_bind (wpAny_bind (wpAny_field hos hds (x:=vl) rfl (wpAny_bind (wpAny_field hos hds (x:=vu) rfl (wpAny_bind (wpAny_field hos hds (x:=.none) rfl (wpAny_pure ?_)))))))
 refine wpAny_bind (slicePart_none ?_)
 show wpAny _ _ (if ((1:Int) == 0)=true then _ else _) _ _ s
 rw [if_neg (by decide)]
 refine wpAny_bind (slicePart_ pl (wpAny_bind (slicePart_ pu (wpAny_bind (wpAny_pure ?_)))))
 show wpAny _ _ (match Builtin.Slice.sliceAdjust lo hi 1 (n:Int) with | (lo,hi)=>pure (lo,(1:Int),Builtin.Slice.slicePlaces lo hi 1)) _ _ s
 rw [adjust_gen lo hi n]
 show wpAny _ _ (pure (((sIx n 0 lo:Nat):Int),(1:Int),Builtin.Slice.slicePlaces ((sIx n 0 lo:Nat):Int) ((sIx n n hi:Nat):Int) 1)) _ _ s
 rw [places_gen]
 exact wpAny_pure h
theorem pick_gen (xs:Array Value) (i k:Nat):((List.range k).filterMap fun (m:Nat)=>xs[((i:Int)+(m:Int)*1).toNat]?).toArray=((xs.toList.drop i).take k).toArray:=by
 have e:(fun (m:Nat)=>xs[((i:Int)+(m:Int)*1).toNat]?)=fun m=>xs[i+m]?:=by
  funext m
  have:((i:Int)+(m:Int)*1).toNat=i+m:=by omega
  rw [this]
 rw [e]
 have:=pick_run xs i k
 rw [List.filterMap_map] at this
 have e2:((fun x=>xs[x]?)∘fun x=>i+x)=fun m=>xs[i+m]?:=rfl
 rw [e2] at this
 rw [this]
theorem getItem_tuple_cut {t sl:Addr} {items:Array Value} {vl vu:Value} {lo hi:Option Int} {Q:Value->Shared->Prop} (ht:IsTup s.heap t items) (hs:s.heap.IsSliceOf sl vl vu .none) (pl:IsPart vl lo) (pu:IsPart vu hi)
  (hw:¬ (sIx items.size 0 lo=0/\sIx items.size items.size hi=items.size))
  (h:Q (.ref s.heap.objs.size) { s with heap:=s.heap.push { cls:=.type "tuple",data:=.seq ((items.toList.drop (sIx items.size 0 lo)).take (sIx items.size items.size hi-sIx items.size 0 lo)).toArray } })
  (hsz:items.size<=sizeLine):wpAny (model prog w) A (getItem (.ref t) (.ref sl)) Q E s:=by
 have htake:sizeOk (.seq ((items.toList.drop (sIx items.size 0 lo)).take (sIx items.size items.size hi-sIx items.size 0 lo)).toArray):=by
  show ((items.toList.drop (sIx items.size 0 lo)).take (sIx items.size items.size hi-sIx items.size 0 lo)).toArray.size<=sizeLine
  rw [List.size_toArray,List.length_take,List.length_drop,Array.length_toList]
  omega
 have hj:sIx items.size items.size hi<=items.size:=sIx_le _ _ (Nat.le_refl _) hi
 obtain ⟨os,hos,hcs,hds⟩:=id hs
 have hTs:s.TypeIs (.ref sl) "slice" := ⟨os,hos,hcs⟩
 unfold getItem
 try with_reducible refine wpAny_holding ?_
 first | refine wpAny_bind (wpAny_pure ?_) | skip
 refine wpAny_bind (wpAny_sequenceKey ht.typeIs (by decide) ?_)
 refine wpAny_bind (wpAny_callSpecial?_slot (name:=Str.ofString "__getitem__") ht.typeIs PyProof.Rows.slot_tuple_getitem
  (wpAny_call_entry PyProof.Rows.slot_tuple_getitem ht.typeIs entry_tuple_getitem ?_ (args_tuple_getitem _ _)))
 show wpAny _ _ (Builtin.Tuple.tupleItemsOf (.ref t)>>=_) _ _ s
 refine wpAny_bind (tupleItemsOf_ ht ?_)
 refine wpAny_bind (wpAny_typeOf hTs ?_)
 rw [if_pos (by decide)]
 refine wpAny_bind (sliceApplied_gen hs pl pu ?_)
 have hno:¬ ((((sIx items.size 0 lo:Nat):Int) == 0&&(1:Int) == 1&&(sIx items.size items.size hi-sIx items.size 0 lo) == items.size)=true):=by
  intro q
  rw [Bool.and_eq_true,Bool.and_eq_true] at q
  have q1:((sIx items.size 0 lo:Nat):Int)=0:=eq_of_beq q.1.1
  have q2:sIx items.size items.size hi-sIx items.size 0 lo=items.size:=eq_of_beq q.2
  exact hw ⟨by omega,by omega⟩
 show wpAny _ _ (if (((sIx items.size 0 lo:Nat):Int) == 0&&(1:Int) == 1&&(sIx items.size items.size hi-sIx items.size 0 lo) == items.size)=true then _ else _) _ _ s
 rw [if_neg hno,pick_gen]
 first
  | exact wpAny_bind (m:=Builtin.Tuple.tupleExact _) (wpAny_newObj_type (wpAny_pure ⟨_,rfl,wpAny_pure h⟩) htake)
  | exact wpAny_bind (m:=Builtin.Tuple.tupleExact _) (wpAny_newObj_type (wpAny_bind (wpAny_pure (wpAny_pure ⟨_,rfl,wpAny_pure h⟩))) htake)
  | exact wpAny_bind (wpAny_bind (m:=Builtin.Tuple.tupleExact _) (wpAny_newObj_type (wpAny_pure (wpAny_pure ⟨_,rfl,wpAny_pure h⟩)) htake))
  | exact wpAny_bind (wpAny_bind (m:=Builtin.Tuple.tupleExact _) (wpAny_newObj_type (wpAny_pure ⟨_,rfl,wpAny_pure h⟩) htake))
end
end HT
namespace L2
open PySem PySem.Spec PyProof.Rows
abbrev TO:=St->Hp->(Option Int->Hp->Prop)->Prop
def PO (X:Cx) (e:Option Expr) (t:TO):Prop:=
 ∀ (pins:List (Addr×Obj)) (s:Shared) (σ:St) (H:Hp) (Q:Option Int->Hp->Prop),Inv X pins σ H s->t σ H Q ->
  wpAny (model X.prog X.w) X.A (evalPart e X.env) (fun u s'=>∃ o H',Inv X pins σ H' s'/\IsPart u o/\Q o H') X.xe s
def tNoPart:TO:=fun _ H Q=>Q none H
def tPart (t:TE):TO:=fun σ H Q=>t σ H fun x H1=>∃ i,x=.int i/\Q (some i) H1
section
variable {X:Cx} {e:Expr} {te:TE} {lo hi:Option Expr} {tl th:TO} {pos p2:Pos}
theorem po_none:PO X none tNoPart:=by
 intro pins s σ H Q I h
 rw [evalPart_none]
 exact wpAny_pure ⟨none,H,I,.none,h⟩
theorem po_some (h:PE X e te):PO X (some e) (tPart te):=by
 intro pins s σ H Q I hw
 rw [evalPart_some]
 refine thn (h pins s σ H _ I hw) fun u s1 zz48=>?_
 obtain ⟨x,H1,I1,r1,q1⟩:=zz48
 obtain ⟨i,rfl,q⟩:=q1
 obtain ⟨t,rfl⟩:=r1
 exact ⟨some i,H1,I1,.int i t,q⟩
def SlR (X:Cx) (r:V->Option Int->Option Int->Hp->VK->Prop):Prop:=
 ∀ (pins:List (Addr×Obj)) (s:Shared) (σ:St) (H:Hp) (x:V) (v vl vu:Value) (lo hi:Option Int) (sl:Addr) (Q:VK),Inv X pins σ H s->RelV x v->s.heap.IsSliceOf sl vl vu .none->IsPart vl lo->IsPart vu hi->r x lo hi H Q ->
  ∃ T id,typeLookup (.type T) "__getitem__" = pure (some (.builtin id))/\s.TypeIs v T/\wpAny (model X.prog X.w) X.A (getItem v (.ref sl)) (EP X pins σ Q) X.xe s
theorem SlR.or {r r':V->Option Int->Option Int->Hp->VK->Prop} (h:SlR X r) (h':SlR X r'):SlR X (fun x lo hi H Q=>r x lo hi H Q\/r' x lo hi H Q):=by
 intro pins s σ H x v vl vu lo hi sl Q I rx hs pl pu q
 rcases q with q | q
 ·exact h pins s σ H x v vl vu lo hi sl Q I rx hs pl pu q
 ·exact h' pins s σ H x v vl vu lo hi sl Q I rx hs pl pu q
def tSl (r:V->Option Int->Option Int->Hp->VK->Prop) (te:TE) (tl th:TO):TE:=fun σ H Q=>te σ H fun x H1=>tl σ H1 fun l H2=>th σ H2 fun u H3=>r x l u H3 Q
theorem pe_slice {r:V->Option Int->Option Int->Hp->VK->Prop} (hr:SlR X r) (he:PE X e te) (hl:PO X lo tl) (hu:PO X hi th):PE X (.Subscript e (.Slice lo hi none p2) pos) (tSl r te tl th):=by
 intro pins s σ H Q I h
 refine Subscript_ (thn (he pins s σ H _ I h) fun v s1 zz49=>?_)
 obtain ⟨x,H1,I1,r1,q1⟩:=zz49
 refine wpAny_Slice (thn (hl pins s1 σ H1 _ I1 q1) fun vl s2 ⟨l,H2,I2,pl,q2⟩=>thn (hu pins s2 σ H2 _ I2 q2) fun vu s3 zz51=>?_)
 obtain ⟨u,H3,I3,pu,q3⟩:=zz51
 rw [evalPart_none]
 refine wpAny_pure ?_
 have I4:Inv X pins σ H3 { s3 with heap:=s3.heap.push { cls:=.type "slice",data:=.fields #[vl,vu,.none] } }:=I3.kept (t':=s3.toks) fun b ob q=>Heap.get?_push_of_some _ q
 obtain ⟨T,id,hT,ht,hg⟩:=hr pins { s3 with heap:=s3.heap.push { cls:=.type "slice",data:=.fields #[vl,vu,.none] } } σ H3 x v vl vu l u s3.heap.objs.size Q I4 r1 (Heap.IsSliceOf.new ..) pl pu q3
 show wpAny (model X.prog X.w) X.A (subscriptTail e (.Slice lo hi none p2) v (.ref s3.heap.objs.size)) (EP X pins σ Q) X.xe { s3 with heap:=s3.heap.push { cls:=.type "slice",data:=.fields #[vl,vu,.none] } }
 exact tail_any (ops:=[.ref s3.heap.objs.size,v]) ht hT hg (by with_unfolding_all rfl)
def cutV (xs:List V) (lo hi:Option Int):List V:=(xs.drop (HT.sIx xs.length 0 lo)).take (HT.sIx xs.length xs.length hi-HT.sIx xs.length 0 lo)
theorem cutV_length (xs:List V) (lo hi:Option Int):(cutV xs lo hi).length<=xs.length:=by
 unfold cutV
 rw [List.length_take,List.length_drop]
 omega
def rSlT (K:Frag):V->Option Int->Option Int->Hp->VK->Prop:=fun x lo hi H Q=>∃ a xs,x=.ref a/\SqT K H a xs /\
 ¬ (HT.sIx xs.length 0 lo=0/\HT.sIx xs.length xs.length hi=xs.length)/\∀ p,H p=none->Q (.ref p) (upd H p (.tup (cutV xs lo hi)))
theorem sl_tup:SlR X (rSlT X.K):=by
 intro pins s σ H x v vl vu lo hi sl Q I rx hs pl pu h
 obtain ⟨a,xs,rfl,hx,hw,q⟩:=h
 cases rx
 obtain ⟨its,r,ht,hz⟩:=I.tuple hx
 have hlen:its.toArray.size=xs.length:=by rw [List.size_toArray]; exact r.length.symm
 refine ⟨"tuple",_,PyProof.Rows.slot_tuple_getitem.lookup,ht.typeIs,?_⟩
 refine HT.getItem_tuple_cut ht hs pl pu (by rw [hlen]; exact hw) ?_ (by rw [hlen]; exact hz)
 rw [hlen]
 refine ⟨.ref s.heap.objs.size,_,I.laid (t':=s.toks) (o:=.tup (cutV xs lo hi)) (fun b ob q=>Heap.get?_push_of_some _ q) (Nat.le_refl _) ?_,rfl,q _ (I.hok.fresh (Nat.le_refl _))⟩
 exact ⟨Nat.le_trans (cutV_length xs lo hi) hz,_,(r.drop (HT.sIx xs.length 0 lo)).take (HT.sIx xs.length xs.length hi-HT.sIx xs.length 0 lo),IsTup.new _ _⟩
def rCatT (K:Frag):R2:=fun x y H Q=>∃ a b xs ys,x=.ref a/\y=.ref b/\SqT K H a xs/\SqT K H b ys/\xs ≠ []/\xs.length+ys.length<=sizeLine /\
 (ys = []->Q (.ref a) H)/\(ys ≠ []->∀ p,H p=none->Q (.ref p) (upd H p (.tup (xs++ys))))
theorem Vals.nil_iff {xs:List V} {us:List Value} (r:Vals xs us):us = []↔xs = []:=by
 cases r with
 | nil=>simp
 | cons _ _=>simp
theorem op_catT:OpR X (binaryOp .Add) (rCatT X.K):=by
 intro pins s σ H x y v u Q I rx ry h
 obtain ⟨a,b,xs,ys,rfl,rfl,ha,hb,hx,hz,q1,q2⟩:=h
 cases rx
 cases ry
 obtain ⟨its,r1,p1,_⟩:=I.tuple ha
 obtain ⟨its2,r2,p2,_⟩:=I.tuple hb
 refine HT.cat_tup p1 p2 (fun z=>hx (r1.nil_iff.mp z)) (fun z=>⟨.ref a,H,I,rfl,q1 (r2.nil_iff.mp z)⟩) (fun z=>?_) (by rw [<- r1.length,<- r2.length]; exact hz)
 refine ⟨.ref s.heap.objs.size,_,I.laid (t':=s.toks) (o:=.tup (xs++ys)) (fun b ob q=>Heap.get?_push_of_some _ q) (Nat.le_refl _) ?_,rfl,q2 (fun w=>z (r2.nil_iff.mpr w)) _ (I.hok.fresh (Nat.le_refl _))⟩
 exact ⟨by rw [List.length_append]; exact hz,_,r1.append r2,IsTup.new _ _⟩
end
end L2
namespace L2
open PySem PySem.Spec PyProof.Rows
def ixN (n:Nat) (i:Int):Option Nat:=if 0<=i then (if i<n then some i.toNat else none) else if -(n:Int)<=i then some (i+n).toNat else none
def atI {α:Type} (xs:List α) (i:Int):Option α:=(ixN xs.length i).bind fun j=>xs[j]?
theorem ixN_seq {n:Nat} {i:Int} {j:Nat} (h:ixN n i=some j):seqIndex? i n=some j/\j<n /\ -(n:Int)<=i/\i<n:=by
 unfold ixN at h
 by_cases h0:0<=i
 ·rw [if_pos h0] at h
  by_cases h1:i<n
  ·rw [if_pos h1] at h
   have e:i.toNat=j:=Option.some.inj h
   exact ⟨by rw [seqIndex_of h0 h1,e],by omega,by omega,h1⟩
  ·rw [if_neg h1] at h; cases h
 ·rw [if_neg h0] at h
  by_cases h1:-(n:Int)<=i
  ·rw [if_pos h1] at h
   have e:(i+n).toNat=j:=Option.some.inj h
   exact ⟨by rw [seqIndex_neg (by omega) h1,e],by omega,h1,by omega⟩
  ·rw [if_neg h1] at h; cases h
theorem atI_get {α:Type} {xs:List α} {i:Int} {v:α} (h:atI xs i=some v):∃ j,seqIndex? i xs.length=some j/\xs[j]?=some v/\j<xs.length /\ -(xs.length:Int)<=i/\i<xs.length:=by
 unfold atI at h
 cases e:ixN xs.length i with
 | none=>rw [e] at h; cases h
 | some j=>
  rw [e] at h
  obtain ⟨h1,h2,h3,h4⟩:=ixN_seq e
  exact ⟨j,h1,h,h2,h3,h4⟩
def PlainIx (b:Expr):Prop:=∀ o i,subscripted b false o i=operate [o,i] (getItem o i)
def IxR (X:Cx) (r:R2):Prop:=
 ∀ (value slice:Expr) (pins:List (Addr×Obj)) (s:Shared) (σ:St) (H:Hp) (x y:V) (v u:Value) (Q:VK),Inv X pins σ H s->RelV x v->RelV y u->r x y H Q ->
  subscripted slice false v u=operate [v,u] (getItem v u)->wpAny (model X.prog X.w) X.A (subscriptTail value slice v u) (EP X pins σ Q) X.xe s
def MtR (X:Cx) (id:String) (r:V->List V->Hp->VK->Prop):Prop:=
 ∀ (pins:List (Addr×Obj)) (s:Shared) (σ:St) (H:Hp) (x:V) (xs:List V) (v:Value) (us:List Value) (Q:VK),Inv X pins σ H s->RelV x v->Vals xs us->r x xs H Q ->
  wpAny (model X.prog X.w) X.A (call (.builtin id) (v::us)) (EP X pins σ Q) X.xe s
section
variable {X:Cx} {a b:Expr} {ta tb:TE} {pos:Pos}
theorem IxR.or {r r':R2} (h:IxR X r) (h':IxR X r'):IxR X (fun x y H Q=>r x y H Q\/r' x y H Q):=by
 intro value slice pins s σ H x y v u Q I rx ry q hs
 rcases q with q | q
 ·exact h value slice pins s σ H x y v u Q I rx ry q hs
 ·exact h' value slice pins s σ H x y v u Q I rx ry q hs
theorem pe_ix {r:R2} (hr:IxR X r) (ha:PE X a ta) (hb:PE X b tb) (hs:PlainIx b):PE X (.Subscript a b pos) (tOp r ta tb):=by
 intro pins s σ H Q I h
 exact Subscript_ (binT ha hb I h fun v u s2 x y H2 I2 rx ry q=>hr a b pins s2 σ H2 x y v u Q I2 rx ry q (hs _ _))
def rIxL (K:Frag):R2:=fun x y H Q=>∃ p xs i v,x=.ref p/\y=.int i/\SqL K H p xs/\atI xs i=some v/\Q v H
def rIxT (K:Frag):R2:=fun x y H Q=>∃ p xs i v,x=.ref p/\y=.int i/\SqT K H p xs/\atI xs i=some v/\Q v H
def rIxS:R2:=fun x y H Q=>∃ z i c,x=.str z/\y=.int i/\z.length<=sizeLine/\atI z.cps.toList i=some c/\Q (.str ⟨#[c]⟩) H
theorem ix_list:IxR X (rIxL X.K):=by
 intro value slice pins s σ H x y v u Q I rx ry h hs
 obtain ⟨p,xs,i,z,rfl,rfl,hq,he,q⟩:=h
 cases rx
 obtain ⟨t,rfl⟩:=ry
 obtain ⟨its,r,pl,hz⟩:=I.list hq
 obtain ⟨j,h1,h2,h3,h4,h5⟩:=atI_get he
 obtain ⟨w,ew,rw'⟩:=r.get h2
 have hl:=r.length
 have hn:=line63
 have fin:EP X pins σ Q w s:=⟨z,H,I,rw',q⟩
 by_cases h0:0<=i
 ·have hj:i.toNat=j:=by
   rw [seqIndex_of h0 h5] at h1
   exact Option.some.inj h1
  exact item_listR pl.isList h0 (by omega) (by rw [hj]; simpa using ew) fin hs
 ·have hj:(i+(its.toArray.size:Int)).toNat=j:=by
   rw [seqIndex_neg (by omega) h4] at h1
   rw [List.size_toArray,<- hl]
   exact Option.some.inj h1
  exact subscriptTail_builtinR (x:=w) pl.isList.typeIs slot_list_getitem.lookup
   (wpAny_getItem_list_neg (Q:=fun r s'=>r=w/\EP X pins σ Q r s') pl.isList (by omega) (by rw [List.size_toArray] <;> omega) (by omega) (by rw [hj]; simpa using ew) ⟨rfl,fin⟩) hs
theorem ix_tup:IxR X (rIxT X.K):=by
 intro value slice pins s σ H x y v u Q I rx ry h hs
 obtain ⟨p,xs,i,z,rfl,rfl,hq,he,q⟩:=h
 cases rx
 obtain ⟨t,rfl⟩:=ry
 obtain ⟨its,r,pl,hz⟩:=I.tuple hq
 obtain ⟨j,h1,h2,h3,h4,h5⟩:=atI_get he
 obtain ⟨w,ew,rw'⟩:=r.get h2
 have hl:=r.length
 have hn:=line63
 have fin:EP X pins σ Q w s:=⟨z,H,I,rw',q⟩
 exact subscriptTail_builtinR (x:=w) pl.typeIs slot_tuple_getitem.lookup
  (getItem_tuple (j:=j) (Q:=fun r s'=>r=w/\EP X pins σ Q r s') pl (by omega) (by omega) (by rw [List.size_toArray,<- hl]; exact h1) (by simpa using ew) ⟨rfl,fin⟩) hs
theorem ix_str:IxR X rIxS:=by
 intro value slice pins s σ H x y v u Q I rx ry h hs
 obtain ⟨z,i,c,rfl,rfl,hz,he,q⟩:=h
 obtain ⟨t,rfl⟩:=rx
 obtain ⟨t',rfl⟩:=ry
 obtain ⟨j,h1,h2,h3,h4,h5⟩:=atI_get he
 have hl:z.cps.toList.length=z.length:=by simp [Str.length]
 rw [hl] at h1 h4 h5
 have hn:=line63
 exact tail_any (typeIs_str s z t) slot_str_getitem.lookup (getItem_str (c:=c) (by
  have e1:decide (i < -(2^63:Int))=false:=decide_eq_false (by omega)
  have e2:decide (i≥2^63)=false:=decide_eq_false (by omega)
  rw [e1,e2,Bool.or_false]) (by rw [h1]; simpa using h2) ⟨.str ⟨#[c]⟩,H,I.tok _,⟨_,rfl⟩,q⟩) hs
def rIx (K:Frag):R2:=fun x y H Q=>rIxL K x y H Q\/rIxT K x y H Q\/rIxS x y H Q
theorem ix_seq:IxR X (rIx X.K):=ix_list.or (ix_tup.or ix_str)
theorem mapSeq_set (its:List Value) (n j:Nat) (u:Value):Obj.mapSeq (·.setIfInBounds j u) { cls:=.type "list",data:=.seq its.toArray n }={ cls:=.type "list",data:=.seq (its.set j u).toArray n }:=by
 simp [Obj.mapSeq]
theorem Inv.lst {pins:List (Addr×Obj)} {σ:St} {H:Hp} {s:Shared} {p:Addr} {xs:List V} (I:Inv X pins σ H s) (h:H p=some (.lst xs)) :
  ∃ (its:List Value) (n:Nat),Vals xs its/\s.heap.get? p=some { cls:=.type "list",data:=.seq its.toArray n }/\xs.length<=sizeLine:=by
 obtain ⟨z,its,n,r,e⟩:=I.hok p _ h
 exact ⟨its,n,r,e,z⟩
theorem Inv.lstUpd {pins:List (Addr×Obj)} {σ:St} {H:Hp} {s:Shared} {p:Addr} {xs ys:List V} {its its':List Value} {n n':Nat} {f:Obj->Obj} (I:Inv X pins σ H s) (h:H p=some (.lst xs))
  (ho:s.heap.get? p=some { cls:=.type "list",data:=.seq its.toArray n }) (hf:f { cls:=.type "list",data:=.seq its.toArray n }={ cls:=.type "list",data:=.seq its'.toArray n' }) (r:Vals ys its') (hz:ys.length<=sizeLine) (t:Nat) :
  Inv X pins σ (upd H p (.lst ys)) { s with heap:=s.heap.update p f,toks:=t }:=by
 have e:(s.heap.update p f).get? p=some { cls:=.type "list",data:=.seq its'.toArray n' }:=by
  rw [Heap.get?_update_self f ho (by rw [hf] <;> rfl),hf]
 refine I.write (x:=p) (e:=p) (by rw [h]; trivial) (.inl rfl) (fun b u hb q=>(Heap.get?_update_other _ _ (Ne.symm hb)).trans q) ⟨_,e⟩ ?_
 exact ⟨hz,its',n',r,e⟩
def rSetL:V->V->V->Hp->(Hp->Prop)->Prop:=fun o i v H Q=>∃ p xs k j,o=.ref p/\i=.int k/\H p=some (.lst xs)/\ixN xs.length k=some j/\Q (upd H p (.lst (xs.set j v)))
theorem set_list:PSet X rSetL:=by
 intro pins s σ H o i v ov iv u Q I ro ri rv h
 obtain ⟨p,xs,k,j,rfl,rfl,hp,hj,q⟩:=h
 cases ro
 obtain ⟨t,rfl⟩:=ri
 obtain ⟨its,n,r,ho,hz⟩:=I.lst hp
 obtain ⟨h1,h2,h3,h4⟩:=ixN_seq hj
 have hl:=r.length
 have hn:=line63
 have I':Inv X pins σ (upd H p (.lst (xs.set j v))) { s with heap:=s.heap.update p (Obj.mapSeq (·.setIfInBounds j u)) }:=
  I.lstUpd hp ho (mapSeq_set its n j u) (r.set rv j) (by rw [List.length_set]; exact hz) s.toks
 by_cases h0:0<=k
 ·have hk:k.toNat=j:=by
   rw [seqIndex_of h0 h4] at h1
   exact Option.some.inj h1
  exact PySem.W.ki_setAt ho h0 (by omega) (by rw [List.size_toArray,<- hl]; exact h4) (by rw [hk]; exact ⟨_,I',q⟩)
 ·have hk:(k+(its.toArray.size:Int)).toNat=j:=by
   rw [seqIndex_neg (by omega) h3] at h1
   rw [List.size_toArray,<- hl]
   exact Option.some.inj h1
  exact PySem.W.ki_setBack ho (by omega) (by rw [List.size_toArray,<- hl]; exact h3) (by omega) (by rw [hk]; exact ⟨_,I',q⟩)
theorem slice_bounds (lo hi:Option Int) (n:Nat):(sliceBounds lo hi none n).1=((HT.sIx n 0 lo:Nat):Int)/\(sliceBounds lo hi none n).2.1=((HT.sIx n n hi:Nat):Int)/\(sliceBounds lo hi none n).2.2=1:=by
 refine ⟨?_,?_,rfl⟩
 ·cases lo with
  | none=>simp [sliceBounds,HT.sIx]
  | some i=>
   simp only [sliceBounds,HT.sIx,Option.getD_none,show (1:Int)>0 by decide,if_true]
   by_cases h:i<0
   ·simp only [h,if_true] <;> omega
   ·simp only [h,if_false] <;> omega
 ·cases hi with
  | none=>simp [sliceBounds,HT.sIx]
  | some i=>
   simp only [sliceBounds,HT.sIx,Option.getD_none,show (1:Int)>0 by decide,if_true]
   by_cases h:i<0
   ·simp only [h,if_true] <;> omega
   ·simp only [h,if_false] <;> omega
theorem slicePick_cut (its:List Value) (lo hi:Option Int):slicePick its.toArray lo hi none=((its.drop (HT.sIx its.length 0 lo)).take (HT.sIx its.length its.length hi-HT.sIx its.length 0 lo)).toArray:=by
 obtain ⟨h1,h2,h3⟩:=slice_bounds lo hi its.toArray.size
 unfold slicePick
 rw [h1,h2,h3]
 simp only [sliceRange_one,pick_run,List.size_toArray] <;> rfl
def rSlL (K:Frag):V->Option Int->Option Int->Hp->VK->Prop:=fun x lo hi H Q=>∃ a xs,x=.ref a/\SqL K H a xs/\∀ p,H p=none->Q (.ref p) (upd H p (.lst (cutV xs lo hi)))
theorem sl_list:SlR X (rSlL X.K):=by
 intro pins s σ H x v vl vu lo hi sl Q I rx hs pl pu h
 obtain ⟨a,xs,rfl,hx,q⟩:=h
 cases rx
 obtain ⟨its,r,ht,hz⟩:=I.list hx
 have hlen:=r.length
 refine ⟨"list",_,slot_list_getitem.lookup,ht.isList.typeIs,?_⟩
 refine wpAny_getItem_list_slice ht.isList hs pl pu .none (by simp) ?_ (by rw [List.size_toArray] <;> omega)
 rw [slicePick_cut,<- hlen]
 refine ⟨.ref s.heap.objs.size,_,I.laid (t':=s.toks) (o:=.lst (cutV xs lo hi)) (fun b ob q=>Heap.get?_push_of_some _ q) (Nat.le_refl _) ?_,rfl,q _ (I.hok.fresh (Nat.le_refl _))⟩
 exact ⟨Nat.le_trans (cutV_length xs lo hi) hz,_,0,(r.drop (HT.sIx xs.length 0 lo)).take (HT.sIx xs.length xs.length hi-HT.sIx xs.length 0 lo),Heap.get?_push_size _ rfl⟩
theorem call_len_seq:CallR X (.builtin "len") (fun xs H Q=>∃ p ys,xs = [.ref p]/\(SqL X.K H p ys\/SqT X.K H p ys)/\Q (.int ys.length) H):=by
 intro pins s σ H xs us Q I r h
 obtain ⟨p,ys,rfl,hq,q⟩:=h
 obtain ⟨u,rfl,rx⟩:=vals1 r
 cases rx
 have hn:=line63
 rcases hq with hq | hq
 ·obtain ⟨its,r',pl,hz⟩:=I.list hq
  have hlen:=r'.length
  exact Calls.call_len_list pl.isList (by simp only [List.size_toArray] <;> omega) ⟨.int ys.length,H,I.tok _,⟨s.toks+1,by rw [List.size_toArray,hlen]⟩,q⟩
 ·obtain ⟨its,r',pl,hz⟩:=I.tuple hq
  have hlen:=r'.length
  exact len_tuple pl (by simp only [List.size_toArray] <;> omega) ⟨.int ys.length,H,I.tok _,⟨s.toks+1,by rw [List.size_toArray,hlen]⟩,q⟩
theorem call_list_of:CallR X (.type "list") (fun xs H Q=>∃ p ys,xs = [.ref p]/\(SqL X.K H p ys\/SqT X.K H p ys)/\∀ l,H l=none->Q (.ref l) (upd H l (.lst ys))):=by
 intro pins s σ H xs us Q I r h
 obtain ⟨p,ys,rfl,hq,q⟩:=h
 obtain ⟨u,rfl,rx⟩:=vals1 r
 cases rx
 have fin:∀ (its:List Value),Vals ys its->ys.length<=sizeLine->∀ (h':Heap) (c':Nat),(∀ b o',s.heap.get? b=some o'->h'.get? b=some o') ->
   h'.get? s.heap.objs.size=some { cls:=.type "list",dict:=none,data:=.seq its.toArray c',slots:=#[] }->EP X pins σ Q (.ref s.heap.objs.size) { s with heap:=h' }:=fun its r' hz h' c' kp e=>
  ⟨.ref s.heap.objs.size,_,I.laid (t':=s.toks) kp (Nat.le_refl _) (show ObjOk X.prog X.w _ h' _ (.lst ys) from ⟨hz,its,c',r',e⟩),rfl,q _ (I.hok.fresh (Nat.le_refl _))⟩
 rcases hq with hq | hq
 ·obtain ⟨its,r',pl,hz⟩:=I.list hq
  have hlen:=r'.length
  obtain ⟨o,ho,hc,n,hd⟩:=pl.isList
  exact call_list_seq p (.inl rfl) ho hc hd (fun h' c' kp e=>fin its r' hz h' c' kp e) (by simp only [List.size_toArray] <;> omega)
 ·obtain ⟨its,r',pl,hz⟩:=I.tuple hq
  have hlen:=r'.length
  obtain ⟨o,ho,hc,n,hd⟩:=pl
  exact call_list_seq p (.inr rfl) ho hc hd (fun h' c' kp e=>fin its r' hz h' c' kp e) (by simp only [List.size_toArray] <;> omega)
theorem call_tuple_of:CallR X (.type "tuple") (fun xs H Q=>∃ p ys,xs = [.ref p]/\((SqL X.K H p ys/\∀ l,H l=none->Q (.ref l) (upd H l (.tup ys)))\/(SqT X.K H p ys/\Q (.ref p) H))):=by
 intro pins s σ H xs us Q I r h
 obtain ⟨p,ys,rfl,h⟩:=h
 obtain ⟨u,rfl,rx⟩:=vals1 r
 cases rx
 rcases h with ⟨hq,q⟩ | ⟨hq,q⟩
 ·obtain ⟨its,r',pl,hz⟩:=I.list hq
  have hlen:=r'.length
  refine call_tuple_list pl.isList (fun h' kp=>?_) (by simp only [List.size_toArray] <;> omega)
  have I1:Inv X pins σ H { s with heap:=h' }:=I.kept (t':=s.toks) kp
  have I2:Inv X pins σ (upd H h'.objs.size (.tup ys)) { s with heap:=h'.push { cls:=.type "tuple",data:=.seq its.toArray } }:=
   I1.laid (t':=s.toks) (fun b o e=>Heap.get?_push_of_some _ e) (Nat.le_refl _) (show ObjOk X.prog X.w _ _ _ (.tup ys) from ⟨hz,its,r',IsTup.new _ _⟩)
  exact ⟨.ref h'.objs.size,_,I2,rfl,q _ (I1.hok.fresh (Nat.le_refl _))⟩
 ·obtain ⟨its,r',pl,hz⟩:=I.tuple hq
  exact call_tuple_same pl ⟨.ref p,H,I,rfl,q⟩
def tyV (K:Frag) (T:String) (x:V) (H:Hp):Prop:=match x with
 | .str _=>T = "str"
 | .int _=>T = "int"
 | .ref p=>(T = "list" /\ ∃ xs,SqL K H p xs)\/(T = "tuple" /\ ∃ o,K.lookup p=some o/\o.cls=.type "tuple" /\ o.dict=none) \/
   (T = "dict" /\ ((∃ kvs,H p=some (.dK kvs))\/∃ kvs,H p=some (.dT kvs)))\/(T = "set" /\ ∃ S n,H p=some (.set S n))
 | _=>False
theorem tyV_is {pins:List (Addr×Obj)} {σ:St} {H:Hp} {s:Shared} {T:String} {x:V} {v:Value} (I:Inv X pins σ H s) (r:RelV x v) (ty:tyV X.K T x H) :
  s.TypeIs v T/\∀ a,v=.ref a->∃ ob,s.heap.get? a=some ob/\ob.dict=none:=by
 cases x with
 | str z=>
  obtain ⟨t,rfl⟩:=r
  cases (show T = "str" from ty)
  exact ⟨typeIs_str s z t,fun _ e=>nomatch e⟩
 | int i=>
  obtain ⟨t,rfl⟩:=r
  cases (show T = "int" from ty)
  exact ⟨typeIs_int s i t,fun _ e=>nomatch e⟩
 | ref p=>
  cases r
  rcases ty with ⟨rfl,xs,hq⟩ | ⟨rfl,o,hk,hc,hd⟩ | ⟨rfl,hk⟩ | ⟨rfl,S,n,hk⟩
  ·obtain ⟨its,_,pl,_⟩:=I.list hq
   refine ⟨pl.isList.typeIs,fun a e=>?_⟩
   cases e
   obtain ⟨o,n,e,c,hd,_⟩:=pl
   exact ⟨o,e,hd⟩
  ·refine ⟨⟨o,I.kIn p o hk,hc⟩,fun a e=>?_⟩
   cases e
   exact ⟨o,I.kIn _ o hk,hd⟩
  ·have z:∃ o,s.heap.get? p=some o/\o.ExactDict:=by
    rcases hk with ⟨kvs,hk⟩ | ⟨kvs,hk⟩
    ·obtain ⟨_,_,_,_,o,_,_,e,ex,_⟩:=I.hok p _ hk
     exact ⟨o,e,ex⟩
    ·obtain ⟨_,_,_,_,o,_,_,e,ex,_⟩:=I.hok p _ hk
     exact ⟨o,e,ex⟩
   obtain ⟨o,e,ex⟩:=z
   refine ⟨⟨o,e,ex.1⟩,fun a e2=>?_⟩
   cases e2
   exact ⟨o,e,ex.2.1⟩
  ·obtain ⟨o,_,_,_,e,ex,_⟩:=I.hok p _ hk
   refine ⟨⟨o,e,ex.1⟩,fun a e2=>?_⟩
   cases e2
   exact ⟨o,e,ex.2.1⟩
 | _=>exact False.elim ty
variable {o e:Expr} {es:List Expr} {to:TE} {t:TA} {name:Str} {apos cpos:Pos} {T id:String} {r:V->List V->Hp->VK->Prop}
end
end L2
namespace L2
open PySem PySem.Spec PyProof.Rows
def MtM (X:Cx) (id:String) (r:V->List V->Hp->VK->Prop):Prop:=
 ∀ (pins:List (Addr×Obj)) (s:Shared) (σ:St) (H:Hp) (x:V) (xs:List V) (v:Value) (us:List Value) (Q:VK),Inv X pins σ H s->RelV x v->Vals xs us->r x xs H Q ->
  wpAny (model X.prog X.w) X.A (call (.builtin id) (v::us)) (EP X pins σ Q) X.xe s
theorem Vals.one:∀ {x:V} {us:List Value},Vals [x] us->∃ u,us = [u]/\RelV x u:=by
 intro x us r
 cases r with
 | cons r t=>cases t; exact ⟨_,rfl,r⟩
theorem Vals.rep {xs:List V} {us:List Value} (h:Vals xs us):∀ k:Nat,Vals (List.replicate k xs).flatten (List.replicate k us).flatten
 | 0=>.nil
 | k+1=>by
  rw [List.replicate_succ,List.replicate_succ,List.flatten_cons,List.flatten_cons]
  exact Vals.append h (Vals.rep h k)
theorem foldl_rep (its:List Value):∀ (k:Nat) (acc:List Value),
  List.foldl (fun x1 x2=>x1++x2) acc.toArray (List.replicate k its.toArray)=(acc++(List.replicate k its).flatten).toArray:=by
 intro k
 induction k with
 | zero=>intro acc; simp
 | succ k ih=>
  intro acc
  have e:acc.toArray++its.toArray=(acc++its).toArray:=by simp
  have e2:(acc++its)++(List.replicate k its).flatten=acc++(List.replicate (k+1) its).flatten:=by
   rw [List.replicate_succ,List.flatten_cons,List.append_assoc]
  rw [<- e2,<- ih (acc++its),<- e,List.replicate_succ,List.foldl_cons]
section
variable {X:Cx} {pins:List (Addr×Obj)} {σ:St} {H:Hp} {s:Shared} {l b:Addr} {xs ys zs:List V}
theorem Inv.lset {its its':List Value} {n:Nat} {f:Array Value->Array Value} {t':Nat} (I:Inv X pins σ H s) (hH:H l=some (.lst xs))
  (e:s.heap.get? l=some { cls:=.type "list",data:=.seq its.toArray n }) (hf:f its.toArray=its'.toArray) (hv:Vals ys its') (hz:ys.length<=sizeLine) :
  Inv X pins σ (upd H l (.lst ys)) { s with heap:=s.heap.update l (Obj.mapSeq f),toks:=t' }:=by
 have q:=PySem.IsL.update e f
 rw [hf] at q
 refine I.write (x:=l) (e:=l) (by rw [hH]; exact trivial) (.inl rfl) (fun b' u hb hu=>(Heap.get?_update_other s.heap (Obj.mapSeq f) (Ne.symm hb)).trans hu) ⟨_,q⟩ ?_
 exact ⟨hz,its',_,hv,q⟩
theorem Inv.lnew {its:List Value} {t':Nat} (I:Inv X pins σ H s) (hv:Vals ys its) (hz:ys.length<=sizeLine) :
  Inv X pins σ (upd H s.heap.objs.size (.lst ys)) { s with heap:=s.heap.push { cls:=.type "list",data:=.seq its.toArray },toks:=t' }:=
 I.laid (fun _ _ q=>Heap.get?_push_of_some _ q) (Nat.le_refl _) ⟨hz,its,0,hv,Heap.get?_push_size _ rfl⟩
theorem Inv.fresh (I:Inv X pins σ H s):H s.heap.objs.size=none:=I.hok.fresh (Nat.le_refl _)
theorem Inv.lstM (I:Inv X pins σ H s) (hH:H l=some (.lst xs)):xs.length<=sizeLine/\∃ (its:List Value) (n:Nat),Vals xs its/\xs.length=its.length/\s.heap.get? l=some { cls:=.type "list",data:=.seq its.toArray n }:=by
 obtain ⟨z,its,n,r,e⟩:=I.hok l _ hH
 exact ⟨z,its,n,r,r.length,e⟩
theorem notLongL {n:Nat} (h:n<=sizeLine):Builtin.List.listTooLong n=false:=by
 unfold Builtin.List.listTooLong
 exact decide_eq_false (by omega)
end
section
variable {X:Cx}
def rAppend:V->List V->Hp->VK->Prop:=fun x vs H Q=>∃ l xs y,x=.ref l/\vs = [y]/\H l=some (.lst xs)/\xs.length<sizeLine/\Q .non (upd H l (.lst (xs ++ [y])))
theorem mt_append:MtM X "list.append" rAppend:=by
 intro pins s σ H x vs v us Q I rx rv h
 obtain ⟨l,xs,y,rfl,rfl,hH,hz,q⟩:=h
 cases rx
 obtain ⟨u,rfl,ru⟩:=rv.one
 obtain ⟨z,its,n,r,hl,e⟩:=I.lstM hH
 refine call_meets F.slot_list_append ⟨_,e,rfl⟩ F.entry_list_append (F.args_list_append_2 _ _) (PySem.list_append l its.toArray n u (by rw [List.size_toArray]; omega)) ⟨e,?_⟩
 refine ⟨.non,_,I.lset (its':=its ++ [u]) hH e (by simp) (r.append (.cons ru .nil)) ?_,rfl,q⟩
 rw [List.length_append,List.length_singleton]
 omega
def rCat:R2:=fun x y H Q=>∃ l b xs zs,x=.ref l/\y=.ref b/\H l=some (.lst xs)/\H b=some (.lst zs)/\xs.length+zs.length<=sizeLine/\∀ p,H p=none->Q (.ref p) (upd H p (.lst (xs++zs)))
theorem op_cat:OpR X (binaryOp .Add) rCat:=by
 intro pins s σ H x y v u Q I rx ry h
 obtain ⟨l,b,xs,zs,rfl,rfl,hH,hB,hz,q⟩:=h
 cases rx
 cases ry
 obtain ⟨z,its,n,r,hl,e⟩:=I.lstM hH
 obtain ⟨z2,its2,n2,r2,hl2,e2⟩:=I.lstM hB
 refine PySem.P.add_list e e2 ?_ (by rw [List.size_toArray,List.size_toArray]; omega)
 have ea:its.toArray++its2.toArray=(its++its2).toArray:=by simp
 rw [ea]
 exact ⟨.ref _,_,I.lnew (t':=s.toks) (r.append r2) (by rw [List.length_append]; omega),rfl,q _ I.fresh⟩
def rRep:R2:=fun x y H Q=>∃ l k xs,x=.ref l/\y=.int k/\H l=some (.lst xs) /\ -(2^63)<=k/\k<2^63/\xs.length*k.toNat<=sizeLine /\
 ∀ p,H p=none->Q (.ref p) (upd H p (.lst (List.replicate k.toNat xs).flatten))
theorem len_rep {α:Type} (xs:List α) (k:Nat):(List.replicate k xs).flatten.length=k*xs.length:=by
 induction k with
 | zero=>simp
 | succ k ih=>rw [List.replicate_succ,List.flatten_cons,List.length_append,ih,Nat.succ_mul,Nat.add_comm]
theorem op_rep:OpR X (binaryOp .Mult) rRep:=by
 intro pins s σ H x y v u Q I rx ry h
 obtain ⟨l,k,xs,rfl,rfl,hH,h1,h2,hz,q⟩:=h
 cases rx
 obtain ⟨t,rfl⟩:=ry
 obtain ⟨z,its,n,r,hl,e⟩:=I.lstM hH
 have hlen:its.toArray.size*k.toNat<=sizeLine:=by rw [List.size_toArray,<- hl]; exact hz
 have hcap:¬ its.toArray.size*k.toNat>(2^63-1)/8:=by
  have:(sizeLine:Nat)<=(2^63-1)/8:=by decide
  omega
 have hfit:¬ (!Builtin.List.listFitsIndex k)=true:=by
  rw [fitsIndex_both h1 h2]
  exact Bool.false_ne_true
 have hlong:¬ Builtin.List.listTooLong (its.toArray.size*k.toNat)=true:=by
  rw [notLongL hlen]
  exact Bool.false_ne_true
 have hnew:List.foldl (fun x1 x2=>x1++x2) #[] (List.replicate (if its.toArray.isEmpty=true then 0 else k.toNat) its.toArray)=(List.replicate k.toNat its).flatten.toArray:=by
  have f0:∀ m:Nat,List.foldl (fun x1 x2=>x1++x2) #[] (List.replicate m its.toArray)=(List.replicate m its).flatten.toArray:=fun m=>by
   have:=foldl_rep its m []
   rw [List.nil_append] at this
   exact this
  rw [f0]
  cases its with
  | nil=>simp
  | cons a r'=>rw [if_neg (by simp)]
 refine wpAny_binaryOp_repeat_ref (T := "list") (U := "int") (by decide) ⟨_,e,rfl⟩ (fun s'=>typeIs_int s' k t) noFill_list_mul F.fills_int_mul F.slot_int_rmul repeat_list F.slot_int_index.lookup
  (call_meets F.slot_int_rmul (typeIs_int s k t) F.entry_int_rmul (F.args_int_rmul_2 _ _) (int___rmul___int_list k t l its.toArray n)
   ⟨e,rfl,⟨_,e,rfl⟩,call_meets F.slot_list_mul ⟨_,e,rfl⟩ F.entry_list_mul (F.args_list_mul_2 _ _) (AutoListH.list___mul___list_int_3 l its.toArray n k t hfit hcap hlong) ⟨e,?_⟩⟩)
 rw [hnew]
 exact ⟨.ref _,_,I.lnew (t':=s.toks) (r.rep k.toNat) (by rw [len_rep,Nat.mul_comm]; exact hz),rfl,q _ I.fresh⟩
end
section
variable {prog:Program} {w:World} {A:Around} {E:Value->Shared->Prop} {s:Shared}
end
section
variable {X:Cx}
end
end L2
namespace Att
open PySem PySem.W PySem.Calls PyProof.Rows
theorem ints_of_wellAll {P:Params} {h:Heap}:∀ (ns:List Int) (vs:List Value),WellAll P h vs (ns.map WData.int)->IntsAre vs ns:=by
 intro ns
 induction ns with
 | nil=>
  intro vs w
  rw [List.map_nil] at w
  cases w
  exact .nil
 | cons n ns ih=>
  intro vs w
  rw [List.map_cons] at w
  cases w with
  | cons a b=>
   cases a
   exact .cons _ _ (ih _ b)
theorem script_of {l:OpenLaw} {n:Nat} (hn:l.most=some n) {P:Params} {h:Heap} {args:List WData} {vals:List Value}
  (hpre:l.row.toRowW.claim.pre args=true) (hwl:WellAll P h vals args) :
  ∃ a vs ns,vals = [Value.ref a]/\args = [WData.list (ns.map WData.int)]/\h.get? a=some { cls:=.type "list",data:=.seq vs.toArray }/\IntsAre vs ns/\ns.length<=n:=by
 have hsh:WShape.hasAll [] args [.list .int]=true:=(pre_splitW hpre).1
 have hc:l.pre.holds [] { args:=args }=true:=(pre_splitW hpre).2
 obtain ⟨d,r,rfl,h1,h2⟩:=hasAllW_cons hsh
 obtain rfl:=hasAllW_nil h2
 obtain ⟨xs,rfl,h3⟩:=hasW_list h1
 obtain ⟨ns,rfl⟩:=items_int h3
 have hlen:ns.length<=n:=by
  unfold OpenLaw.pre at hc
  have h4:(WTm.not (.lt (.lit (.int (n:Int))) (.len (.arg 0)))).holds [] { args:=[.list (ns.map .int)] }=true:=by
   have h4:=(holds_andW hc).1
   rw [hn] at h4
   exact h4
  have h5:=condW_of h4 (w_not (w_lt w_lit (w_len_list (w_arg rfl))))
  rw [List.length_map] at h5
  refine Nat.le_of_not_lt fun q=>?_
  have q':(n:Int)<((ns.length:Nat):Int):=by omega
  first
   | (rw [decide_eq_true q'] at h5; exact absurd h5 (by decide))
   | (simp at h5; omega)
 cases hwl with
 | cons w1 w2=>
  cases w2
  cases w1 with
  | list ho hall=>exact ⟨_,_,ns,rfl,rfl,ho,ints_of_wellAll ns _ hall,hlen⟩
theorem post_true (l:OpenLaw) (args:List WData):l.row.toRowW.claim.post args (.bool true) args=true:=
 postW_of (r:=l.row.toRowW) (X:=(true == true))
  (show WShape.has [] (.bool true) .bool=true by first | rfl | decide | simp [WShape.has,WShape.arms,WShape.armsAll])
  (show (WTm.eq .res (.lit (.bool true))).value [] { args:=args,res:=some (.bool true),after:=args }=some (.bool (true == true)) from w_eq_bool (w_res rfl) w_lit) rfl
section
variable {prog:Program} {w:World} {A:Around} {E:Value->Shared->Prop} {s:Shared} {K:Frag}
end
end Att
namespace L2
open PySem PySem.Spec PyProof.Rows
theorem vals_ints:∀ {vs:List Value} {ns:List Int},IntsAre vs ns->Vals (ns.map V.int) vs:=by
 intro vs ns h
 induction h with
 | nil=>exact .nil
 | cons n t h ih=>exact .cons ⟨t,rfl⟩ ih
def Only (H:Hp):Prop:=∀ b,H b=none\/(∃ o xs,H b=some (.frz o (.lst xs)))\/∃ k,H b=some (.tbl k)
theorem memL {α β:Type} [BEq α] [LawfulBEq α]:∀ {l:List (α×β)} {n:α} {c:β},l.lookup n=some c->(n,c)∈l
 | (k,v)::r,n,c,h=>by
  rw [List.lookup_cons] at h
  cases hb:n == k with
  | true=>rw [hb] at h; cases h; rw [beq_iff_eq.mp hb]; exact List.mem_cons_self
  | false=>rw [hb] at h; exact List.mem_cons_of_mem _ (memL h)
theorem law_call {P:Program} {w:World} {K:Frag} {mg mb:Str->Option Value} {CX:CXT} {k:Nat} {fa a:Addr} {fd:FuncData} {x:Str} {sp:Sp} {s₁:Shared} {vs:List Value} {ns:List Int}
  (KX:K.In s₁.heap) (hns:s₁.heap.Ns mainGlobals mg) (hb:s₁.heap.Ns builtinsNs mb) (hbb:∀ x:Str,x ≠ "__name__" -> mb x=bootBuiltins x) (hlim:s₁.heap.NoLimit) (hg:s₁.gens=#[])
  (hbm:∃ bm o,mg "__builtins__" = some (.ref bm)/\bm≠builtinsNs/\s₁.heap.get? bm=some o/\o.cls=.type "module" /\ o.dict=some builtinsNs/\o.data=.plain)
  (hT:∀ p∈lamT,s₁.heap.get? p.1=some { cls:=.none,data:=.fields #[] }/\isCodeTable s₁.heap p.1/\K.lookup p.1=none/\lamT.lookup p.1=some p.2)
  (ha:s₁.heap.get? a=some { cls:=.type "list",data:=.seq vs.toArray }) (hi:IntsAre vs ns) (hl:ns.length<=sizeLine) (hr:Room k callerA)
  (F:∀ base:Heap,K.In base->base.Ns mainGlobals mg->FnOk P w K mg base CX k fa fd [x] sp) (hbind:∀ (s:Shared) (u:Value),BindsTo s fd ⟨[u],[]⟩ [(x,u)])
  (hsp:∀ H:Hp,Only H->SqL K H a (ns.map V.int)->sp [.ref a] H (fun v _=>v=.bl true) fun _ _ _=>False)
  (hCX:∀ H e s',CX [] H s₁ (fun _ _ _=>False) e s'->False) :
  codeAny (model P w) callerA (.call (.ref fa) ⟨[.ref a],[]⟩) (fun r s'=>r=.ok (.ret (.bool true))/\OldK s₁.heap s'.heap/\s'.os=s₁.os/\AllBare s'.gens) s₁:=by
 have rv:=vals_ints hi
 have lenV:=hi.length
 have tabT:∀ b q,lamT.lookup b=some q->s₁.heap.get? b=some { cls:=.none,data:=.fields #[] }/\isCodeTable s₁.heap b/\K.lookup b=none:=fun b q e=>by
  have hm:=memL e
  exact ⟨(hT _ hm).1,(hT _ hm).2.1,(hT _ hm).2.2.1⟩
 -- from an abstract heap in which nothing but the script and the tables may be tracked
 have core:∀ H:Hp,Only H->SqL K H a (ns.map V.int)->HOk P w H s₁.heap->(∀ b,H b≠none->b=a\/∃ q,lamT.lookup b=some q)->(∀ b,H b≠none->K.lookup b=none)->(∀ b q,H b=some (.tbl q)->lamT.lookup b=some q)->(∀ p∈lamT,H p.1=some (.tbl p.2)) ->
   codeAny (model P w) callerA (.call (.ref fa) ⟨[.ref a],[]⟩) (fun r s'=>r=.ok (.ret (.bool true))/\OldK s₁.heap s'.heap/\s'.os=s₁.os/\AllBare s'.gens) s₁:=by
  intro H hO hS hok hA hK hB hTb
  have base_of:∀ {b:Addr} {o:Obj},s₁.heap.get? b=some o->H b=none->(hidT s₁.heap H).get? b=some o:=fun e n=>hidT_get e n
  have noX:∀ {b:Addr} {o:Obj},s₁.heap.get? b=some o->(∀ its n,o.data≠.seq its n)->(∀ ps,o.data≠.fields ps)->H b=none:=fun {b o} e d1 d2=>by
   cases q:H b with
   | none=>rfl
   | some u=>
    rcases hA b (by rw [q]; simp) with e' | ⟨y,e'⟩
    ·subst e'
     rw [ha] at e; cases e
     exact absurd rfl (d1 _ _)
    ·rw [(tabT b y e').1] at e; cases e
     exact absurd rfl (d2 _)
  have noA:∀ {b:Addr} {o:Obj} {es:Array DictEntry} {ep:Nat},s₁.heap.get? b=some o->o.data=.dict es ep->H b=none:=fun {b o es ep} e d=>noX e (fun _ _ z=>by rw [d] at z; cases z) fun _ z=>by rw [d] at z; cases z
  have nsK:∀ {b:Addr} {m:Str->Option Value},s₁.heap.Ns b m->(hidT s₁.heap H).Ns b m:=fun {b m} zz52=>by obtain ⟨o,es,ep,e,d,r⟩:=zz52; exact ⟨o,es,ep,base_of e (noA e d),d,r⟩
  have hKb:K.In (hidT s₁.heap H):=fun b o e=>base_of (KX b o e) (by
   cases q:H b with
   | none=>rfl
   | some u=>rw [hK b (by rw [q]; simp)] at e; cases e)
  have hM:Mod K mg (hidT s₁.heap H):=⟨hKb,nsK hns,⟨mb,nsK hb,hbb⟩,let ⟨mc,h1,h2⟩:=hlim; ⟨mc,nsK h1,h2⟩,let ⟨bm,o,b1,b2,b3,b4,b5,b6⟩:=hbm; ⟨bm,o,b1,b2,base_of b3 (noX b3 (fun _ _ z=>by rw [b6] at z; cases z) fun _ z=>by rw [b6] at z; cases z),b4,b5,b6⟩⟩
  have e0:Env0 P w K mg (hidT s₁.heap H) callerA [] s₁ H:=⟨rfl,hM,fun b o e=>of_hidT e,Nat.le_of_eq (hidT_size _ _),trivial,fun b hb=>absurd (show b∈([]:List Addr) from hb) (by simp),hok,.of_eq hg,hTb⟩
  refine codeAny_mono ((F _ hKb (nsK hns)).run callerA [] s₁ H ⟨[.ref a],[]⟩ [.ref a] [.ref a] _ _ hr e0 (hbind s₁ (.ref a)) (.cons rfl .nil) (hsp H hO hS)) fun r s' h=>?_
  cases r with
  | error e=>exact (hCX H e s' h).elim
  | ok fl=>
   cases fl with
   | next=>exact False.elim h
   | brk=>exact False.elim h
   | cont=>exact False.elim h
   | ret u=>
    obtain ⟨v,H',os,bare,un,hok',r',q⟩:=h
    have q':v=.bl true:=q
    subst q'
    obtain rfl:u=Value.bool true:=r'
    have key:∀ b o,s₁.heap.get? b=some o->asItWas s₁.heap s'.heap b o:=fun b o e=>by
     cases q:H b with
     | none=>exact .inl (un.keep b o e q (by intro z; exact absurd (show b∈([]:List Addr) from z) (by simp)) (by simp))
     | some u=>
      rcases hO b with z | ⟨ob,xs,z⟩ | ⟨y,z⟩
      ·rw [q] at z; cases z
      ·have z2:=un.frzs b ob _ z
       obtain ⟨e1,_⟩:=hok b _ z
       obtain ⟨e2,_⟩:=hok' b _ z2
       rw [e] at e1; cases e1
       exact .inl e2
      ·have z2:=un.tbls b _ z
       obtain ⟨ps,e2,_⟩:=hok' b _ z2
       obtain ⟨t1,t2,_⟩:=tabT b y (hB b y z)
       rw [t1] at e; cases e
       exact .inr (.inl ⟨t2,rfl,#[],ps,rfl,by rw [e2]; simp⟩)
    refine ⟨rfl,⟨key,fun b o e=>un.there b o e (by simp)⟩,os,bare⟩
 have tobj:∀ (H:Hp) b q,lamT.lookup b=some q->ObjOk P w H s₁.heap b (.tbl q):=fun H b q e=>⟨#[],(tabT b q e).1,.inl rfl⟩
 cases hk:K.lookup a with
 | some o=>
  -- the script is one of the module's own objects
  have e:=KX a o hk
  rw [ha] at e
  cases e
  refine core (fun b=>(lamT.lookup b).map .tbl) (fun b=>?_) (.inr ⟨_,vs.toArray,_,hk,rfl,rfl,rfl,by rw [List.size_toArray,lenV]; exact hl,by simpa using rv⟩) (fun b u z=>?_) (fun b z=>?_) (fun b z=>?_) (fun b y z=>?_) fun p hp=>?_
  ·cases q:lamT.lookup b with
   | none=>exact .inl (by show (lamT.lookup b).map HO.tbl=_; rw [q]; rfl)
   | some y=>exact .inr (.inr ⟨y,by show (lamT.lookup b).map HO.tbl=_; rw [q]; rfl⟩)
  ·obtain ⟨y,e1,rfl⟩:=Option.map_eq_some_iff.mp z
   exact tobj _ b y e1
  ·cases q:lamT.lookup b with
   | none=>exact absurd (by rw [q]; rfl) z
   | some y=>exact .inr ⟨y,rfl⟩
  ·cases q:lamT.lookup b with
   | none=>exact absurd (by rw [q]; rfl) z
   | some y=>exact (tabT b y q).2.2
  ·obtain ⟨y',e1,e2⟩:=Option.map_eq_some_iff.mp z
   cases e2; exact e1
  ·show (lamT.lookup p.1).map HO.tbl=_
   rw [(hT p hp).2.2.2]; rfl
 | none=>
  have na:∀ b y,lamT.lookup b=some y->b≠a:=fun b y e z=>by
   have:=(tabT b y e).1
   rw [z,ha] at this; cases this
  refine core (fun b=>if b=a then some (.frz { cls:=.type "list",data:=.seq vs.toArray } (.lst (ns.map V.int))) else (lamT.lookup b).map .tbl) (fun b=>?_) (.inl (.inr ⟨{ cls:=.type "list",data:=.seq vs.toArray },if_pos rfl⟩)) (fun b u z=>?_) (fun b z=>?_) (fun b z=>?_) (fun b y z=>?_) fun p hp=>?_
  ·by_cases hb:b=a
   ·exact .inr (.inl ⟨_,_,if_pos hb⟩)
   ·dsimp only
    rw [if_neg hb]
    cases q:lamT.lookup b with
    | none=>exact .inl rfl
    | some y=>exact .inr (.inr ⟨y,rfl⟩)
  ·by_cases hb:b=a
   ·have z':=(if_pos hb).symm.trans z
    cases z'
    subst hb
    exact ⟨ha,by rw [List.length_map]; exact hl,vs,_,rv,ha⟩
   ·have z':=(if_neg hb).symm.trans z
    obtain ⟨y,e1,rfl⟩:=Option.map_eq_some_iff.mp z'
    exact tobj _ b y e1
  ·by_cases hb:b=a
   ·exact .inl hb
   ·cases q:lamT.lookup b with
    | none=>exact absurd (by rw [if_neg hb,q]; rfl) z
    | some y=>exact .inr ⟨y,rfl⟩
  ·by_cases hb:b=a
   ·rw [hb]; exact hk
   ·cases q:lamT.lookup b with
    | none=>exact absurd (by rw [if_neg hb,q]; rfl) z
    | some y=>exact (tabT b y q).2.2
  ·by_cases hb:b=a
   ·have z':=(if_pos hb).symm.trans z
    cases z'
   ·have z':=(if_neg hb).symm.trans z
    obtain ⟨y',e1,e2⟩:=Option.map_eq_some_iff.mp z'
    cases e2; exact e1
  ·have hp2:=(hT p hp).2.2.2
   show (if p.1=a then _ else (lamT.lookup p.1).map HO.tbl)=_
   rw [if_neg (na _ _ hp2),hp2]; rfl
end L2
namespace L2
open PySem PySem.Spec PyProof.Rows
end L2
namespace L2
open PySem PySem.Spec PyProof.Rows
abbrev CX0:CXT:=fun _ _ _ _ _ _=>False
abbrev E0:XK:=fun _ _ _=>False
theorem pass0 {X:Cx}:Passes CX0 X E0:=fun _ _ _ _ _ _ _ h=>h.elim
structure Fun (K:Frag) (x qual:Str) (st:Stmt) (f:Addr) (fd:FuncData):Prop where
 ex:∃ (oc:Value) (od:Option Addr) (kV doc pm:Value) (an:Option Addr) (cdv ct:Value) (osl:Array (Option Value)),
  fd=PySem.W.fnOf x qual (defArgs st) (defBody st) (defScope st) .none kV doc pm an cdv ct/\K.lookup f=some ⟨oc,od,.func fd,osl⟩/\PySem.W.codeIn K cdv qual=true
 kp:PySem.W.keepIn K (.ref f)=true
section
variable {P:Program} {w:World} {K:Frag} {mg:Str->Option Value} {base:Heap}
theorem Fun.ok {x qual:Str} {st:Stmt} {f:Addr} {fd:FuncData} {N ps:List Str} {k:Nat} {sp:Sp} (F:Fun K x qual st f fd) (S:FnScope N ps (defScope st)) (len:∀ vs H Q E,sp vs H Q E->vs.length=ps.length)
  (hbody:∀ (cdv:Value) (A:Around) (outer:List Env) (s:Shared) (H:Hp) (vs:List V) (Q:VK) (E:XK),Room k (A.deeper (envOfC qual (defScope st) s.heap.objs.size f cdv))->sp vs H Q E ->
   ∃ t,PSs (cxOf CX0 P w K mg base N qual (defScope st) f cdv A outer s H E).nox (defBody st) t/\t { nx:=fun _ H'=>Q .non H',rt:=Q } (start N vs) H):FnOk P w K mg base CX0 (k+1) f fd ps sp:=by
 obtain ⟨oc,od,kV,doc,pm,an,cdv,ct,osl,rfl,lk,hcd⟩:=F.ex
 refine fn_of lk hcd S len fun A outer s H vs Q E hr hsp=>?_
 obtain ⟨t,h,q⟩:=hbody cdv A outer s H vs Q E hr hsp
 exact ⟨t,h.nox,q⟩
theorem Fun.binds {x qual:Str} {st:Stmt} {f:Addr} {fd:FuncData} {ps:List Str} (F:Fun K x qual st f fd)
  (h:∀ (kV doc pm:Value) (an:Option Addr) (cdv ct:Value) (us:List Value),us.length=ps.length->bindArgs (PySem.W.fnOf x qual (defArgs st) (defBody st) (defScope st) .none kV doc pm an cdv ct) ⟨us,[]⟩=pure (ps.zip us)):Binds K fd ps []:=by
 obtain ⟨oc,od,kV,doc,pm,an,cdv,ct,osl,rfl,lk,hcd⟩:=F.ex
 exact .all (h kV doc pm an cdv ct)
theorem fun_mk {x qual:Str} {st:Stmt} {f:Addr} {oc:Value} {od an:Option Addr} {osl:Array (Option Value)} {kV doc pm cdv ct:Value} (l:K.lookup f=some ⟨oc,od,.func (PySem.W.fnOf x qual (defArgs st) (defBody st) (defScope st) .none kV doc pm an cdv ct),osl⟩)
  (c:PySem.W.codeIn K cdv qual=true) (k:PySem.W.keepIn K (.ref f)=true):Fun K x qual st f (PySem.W.fnOf x qual (defArgs st) (defBody st) (defScope st) .none kV doc pm an cdv ct):=⟨⟨oc,od,kV,doc,pm,an,cdv,ct,osl,rfl,l,c⟩,k⟩
end
section
variable {X:Cx}
theorem pv (i:Nat) {x:Str} {pos:Pos} (hN:X.N[i]?=some x:=by rfl) (hv:Vis X.env.scope x:=by first | exact Or.inl rfl | exact Or.inr (Or.inl rfl) | exact Or.inr (Or.inr rfl)) (hd:(x == ("__debug__" : Str))=false:=by decide)
  (hcd:(x == ("__classdict__" : Str))=false:=by decide):PE X (.Name x pos) (tVar i):=pe_var hN hv hd hcd
end
def Same (H H':Hp):Prop:=∀ b o,H b=some o->H' b=some o
theorem Same.refl (H:Hp):Same H H:=fun _ _ h=>h
theorem Same.trans {H H1 H2:Hp} (a:Same H H1) (b:Same H1 H2):Same H H2:=fun c o h=>b c o (a c o h)
theorem Same.free {H H':Hp} (e:Same H H') {l:Addr} (h:H' l=Option.none):H l=Option.none:=by
 cases q:H l with
 | none=>rfl
 | some o=>
  rw [e l o q] at h
  cases h
theorem Same.seq {K:Frag} {H H':Hp} {a:Addr} {xs:List V} (e:Same H H') (h:SqL K H a xs):SqL K H' a xs:=by
 rcases h with (h | ⟨o,h⟩) | h
 ·exact .inl (.inl (e _ _ h))
 ·exact .inl (.inr ⟨o,e _ _ h⟩)
 ·exact .inr h
end L2
namespace L2
open PySem PySem.Spec PyProof.Rows
def Dk (h h':Heap):Prop:=∀ b o,h.get? b=some o->∃ o',h'.get? b=some o'/\o'.cls=o.cls/\o'.dict=o.dict
structure KD {α:Type} (t:Sem α):Prop where
 out:∀ (M:Model) (Γ:PySem.Ctx) (P:α->Pos->Shared->Prop) (Ee:Value->Pos->Shared->Prop) (p:Pos) (s:Shared),
  Sem.wp M Γ t P Ee p s->Sem.wp M Γ t (fun a p' s'=>P a p' s'/\Dk s.heap s'.heap) Ee p s
def cut (h:Heap) (fs:List Addr):Heap:={ h with objs:=h.objs.mapIdx fun i o=>if i∈fs then { o with data:=.freed } else o }
section
variable {P:Program} {w:World} {K:Frag} {mg:Str->Option Value} {base:Heap} {N:List Str} {qual:Str} {scope:Scope} {f:Addr} {cd:Value} {A:Around} {outer:List Env} {s:Shared} {H:Hp} {E:XK}
 {pins:List (Addr×Obj)} {σ:St} {H':Hp} {s2:Shared} {a:Addr}
end
end L2
namespace L2
open PySem PySem.Spec PyProof.Rows
section
variable {prog:Program} {w:World} {A:Around} {E:Value->Shared->Prop} {s:Shared} {K:Frag} {x C:Addr} {ox:Obj} {od:Option Obj} {name:Str} {tk:Tok} {fill expr:Bool} {v:Value} {Q:Value->Shared->Prop}
end
end L2
namespace L2
open PySem PySem.Spec PyProof.Rows
section
variable {prog:Program} {w:World} {A:Around} {E:Value->Shared->Prop} {s:Shared} {K:Frag} {x C:Addr} {ox:Obj} {name:Str} {tk:Tok} {v:Value} {Q:Unit->Shared->Prop}
end
end L2
namespace L2
open PySem PySem.Spec PyProof.Rows
section
variable {prog:Program} {w:World} {A:Around} {s:Shared} {K:Frag} {C f:Addr} {R:Result->Shared->Prop} {nm q:Str} {N:Addr} {bs bm bmB:List Value} {hdct:Bool} {sn:List Str} {sub:List Value} {ab:Bool} {col:Option Bool} {dd:Option Addr} {k0 k1 k2 k3 k5:Option Value}
 {B Bn newId nid initId inN:String} {bmN:List Value} {rest:List Value}
end
end L2
namespace L2
open PySem PySem.Spec PyProof.Rows
section
variable {prog:Program} {w:World} {A:Around} {E:Value->Shared->Prop} {s:Shared} {K:Frag} {env:Env} {x:Expr} {pos:Pos} {Q:Flow->Shared->Prop}
end
end L2
namespace L2
open PySem PySem.Spec PyProof.Rows
section
variable {X:Cx} {pins:List (Addr×Obj)} {σ σ':St} {H:Hp} {s:Shared}
end
end L2
namespace L2
open PySem PySem.Spec PyProof.Rows
section
variable {X:Cx} {pins:List (Addr×Obj)} {σ:St} {H H':Hp} {s s1:Shared}
end
end L2
namespace L2
open PySem PySem.Spec PyProof.Rows
section
variable {X:Cx} {pins:List (Addr×Obj)} {σ:St} {H H':Hp} {s s1:Shared} {a:Addr} {B:Heap} {cls:Value} {od:Option Addr}
structure Here (X:Cx) (pins:List (Addr×Obj)) (σ:St) (H':Hp) (a:Addr) (B:Heap) (cls:Value) (od:Option Addr) (s:Shared):Prop where
 inv:Inv X pins σ H' s
 dict:∃ o,s.heap.get? a=some o/\o.dict=od
end
end L2
namespace L2
open PySem PySem.Spec PyProof.Rows
section
variable {X:Cx} {k:Nat} {f:Addr} {fd:FuncData} {ps:List Str} {sp:Sp} {fn cn n y:Str} {fp cp ap np hpos yp pos:Pos} {e:Expr} {es:List Expr} {t:TA} {C:Addr} {i jn:Nat} {b0:Stmt} {suite:List Stmt} {tb:TS}
def tCatch (X:Cx) (C:Addr) (jn:Nat) (tb:TS) (D:Ends) (σ:St):XK:=fun cls od H'=>∃ Dc,cls=.ref Dc/\PySem.W.exmOne X.K (.ref Dc) (.ref C)=some true /\
 ∀ (a:Addr) (o:Obj),H' a=none->o.cls=cls->o.dict=od->(∃ vs:Array Value,o.data=.fields vs) ->
  tb { nx:=fun σ' H'=>D.nx (σ'.set jn none) H',rt:=D.rt,bk:=fun σ' H'=>D.bk (σ'.set jn none) H',ct:=fun σ' H'=>D.ct (σ'.set jn none) H' } (σ.set jn (some (.ref a))) (upd H' a (.ext fun h=>h.get? a=some o))
end
end L2
namespace L2
open PySem PySem.Spec PyProof.Rows
section
variable {X:Cx} {pins:List (Addr×Obj)} {σ:St} {H:Hp} {s:Shared}
end
end L2
namespace L2
open PySem PySem.Spec PyProof.Rows
section
variable {X:Cx}
end
end L2
namespace L2
open PySem PySem.Spec PyProof.Rows
section
variable {X:Cx} {pins:List (Addr×Obj)} {σ:St} {H:Hp} {s:Shared}
end
end L2
namespace L2
open PySem PySem.Spec PyProof.Rows
section
variable {P:Program} {w:World} {K:Frag} {mg:Str->Option Value} {base:Heap} {N:List Str} {qual:Str} {scope:Scope} {f0:Addr} {cd:Value} {A:Around} {outer:List Env} {s0:Shared} {H0:Hp} {E:XK}
 {k:Nat} {C f:Addr} {fd:FuncData} {ps:List Str} {sp:Sp} {cn:Str} {np cp pos:Pos} {e:Expr} {es:List Expr} {t:TA}
end
end L2
namespace L2
open PySem PySem.Spec PyProof.Rows
section
variable {P:Program} {w:World} {K:Frag} {mg:Str->Option Value} {base:Heap} {k:Nat} {f:Addr} {fd:FuncData} {ps N:List Str} {sp:Sp} {CX:CXT}
end
end L2
namespace L2
open PySem PySem.Spec PyProof.Rows
section
variable {X:Cx} {o:Expr} {ta:TE} {name:Str} {pos:Pos}
end
end L2
namespace L2
open PySem PySem.Spec PyProof.Rows
section
variable {X:Cx} {pins:List (Addr×Obj)} {σ:St} {H:Hp} {s:Shared} {A:Around} {E:Value->Shared->Prop} {Q:Value->Shared->Prop} {c:Value} {b:Bool} {a C:Addr} {ox:Obj} {vs:Array Value}
end
end L2
namespace L2
open PySem PySem.Spec PyProof.Rows
section
variable {P:Program} {w:World} {K:Frag} {mg:Str->Option Value} {base:Heap} {N:List Str} {qual:Str} {scope:Scope} {f0:Addr} {cd:Value} {A:Around} {outer:List Env} {s0:Shared} {H0:Hp} {E:XK}
 {C:Addr} {cn:Str} {np cp pos:Pos} {e:Expr} {es:List Expr} {t:TA}
end
end L2
namespace L2
open PySem
structure Nx {α:Type} (t:Sem α):Prop where
 out:∀ (M:Model) (Γ:PySem.Ctx) (P:α->Pos->Shared->Prop) (Ee Ef:Value->Pos->Shared->Prop) (p:Pos) (s:Shared),Sem.wp M Γ t P Ee p s->Sem.wp M Γ t P Ef p s
structure Po {α:Type} (t:Sem α) (pre:Shared->Prop) (post:α->Shared->Prop):Prop where
 out:∀ (M:Model) (Γ:PySem.Ctx) (P:α->Pos->Shared->Prop) (Ee Ef:Value->Pos->Shared->Prop) (p:Pos) (s:Shared),
  pre s->Sem.wp M Γ t P Ee p s->Sem.wp M Γ t (fun a p' s'=>P a p' s'/\post a s') Ef p s
def FldAt (v:Value) (i:Nat) (x:Value) (h:Heap):Prop:=∃ (a:Addr) (o:Obj) (vs:Array Value),v=.ref a/\h.get? a=some o/\o.data=.fields vs/\vs[i]?=some x
def Marked (e:Value) (f:Addr) (h:Heap):Prop:=∃ t,FldAt e 1 t h/\FldAt t 3 (rawInt f) h/\t≠.none
structure Free {α:Type} (t:Sem α):Prop where
 out:∀ (M:Model) (Γ Γ':PySem.Ctx) (P P':α->Pos->Shared->Prop) (E E':Value->Pos->Shared->Prop) (p p':Pos) (s:Shared),(∀ a p p' s,P a p s->P' a p' s)->(∀ a p p' s,E a p s->E' a p' s)->Sem.wp M Γ t P E p s->Sem.wp M Γ' t P' E' p' s
end L2
namespace L2
open PySem PySem.Spec PyProof.Rows
section
variable {X:Cx} {k:Nat} {f:Addr} {fd:FuncData} {ps:List Str} {sp:Sp} {fn cn n y:Str} {fp cp ap np hpos yp pos:Pos} {e:Expr} {es:List Expr} {t:TA} {C:Addr} {i jn:Nat} {b0:Stmt} {suite:List Stmt} {tb:TS}
end
end L2
namespace L2
open PySem PySem.Spec PyProof.Rows
section
variable {X:Cx} {k:Nat} {C f:Addr} {fd:FuncData} {ps:List Str} {sp:Sp} {cn:Str} {np cp pos:Pos} {e:Expr} {es:List Expr} {t:TA}
end
end L2
namespace L2
open PySem PySem.Spec PyProof.Rows
section
variable {κ:Type} [DecidableEq κ]
def valV (kvs:List (κ×V)) (k:κ):Option V:=(kvs.find? fun kv=>decide (kv.1=k)).map (·.2)
def putK (kvs:List (κ×V)) (k:κ) (v:V):List (κ×V):=
 if (kvs.any fun kv=>decide (kv.1=k))=true then kvs.map (fun kv=>if kv.1=k then (kv.1,v) else kv) else kvs ++ [(k,v)]
def dropK (kvs:List (κ×V)) (k:κ):List (κ×V):=kvs.filter fun kv=>decide (kv.1≠k)
end
abbrev KT (H:Hp):List (List Key×V)->List (List Key×Addr×Value)->Prop:=Paired fun p q=>p.1=q.1/\H q.2.1=some (.tup (p.1.map kV))/\RelV p.2 q.2.2
section
variable {P:Program} {w:World} {H:Hp} {h:Heap} {a:Addr}
end
def DGet (H:Hp) (a:Addr) (y:V) (r:Option V):Prop:=
 (∃ kvs k,Rd H a (.dK kvs)/\y=kV k/\r=valV kvs k)\/∃ kvs k b,Rd H a (.dT kvs)/\y=.ref b/\H b=some (.tup (k.map kV))/\r=valV kvs k
def DPut (H:Hp) (a:Addr) (y v:V) (H':Hp):Prop:=
 (∃ kvs k,H a=some (.dK kvs)/\y=kV k/\kvs.length<sizeLine/\H'=upd H a (.dK (putK kvs k v))) \/
 ∃ kvs k b,H a=some (.dT kvs)/\y=.ref b/\H b=some (.tup (k.map kV))/\kvs.length<sizeLine/\H'=upd H a (.dT (putK kvs k v))
section
variable {X:Cx} {pins:List (Addr×Obj)} {σ:St} {H:Hp} {s:Shared} {a:Addr} {y v:V} {u r:Value} {o:Option V} {A:Around} {E:Value->Shared->Prop}
end
section
variable {X:Cx} {pins:List (Addr×Obj)} {σ:St} {H:Hp} {s:Shared} {a:Addr} {kvs:List (Key×V)} {k:Key} {u:Value} {A:Around} {E:Value->Shared->Prop}
end
section
variable {X:Cx} {o i e value:Expr} {pos pos' tpos:Pos} {td ty tv:TE}
end
section
variable {X:Cx} {pos:Pos}
end
end L2
namespace L2
open PySem
structure Sub where
 t:Bool
 i:Addr
 l:Addr
def Sub.At (u:Sub) (h:Heap) (n:Nat):Prop:=if u.t=true then h.IsTupleIter u.i u.l n else h.IsListIter u.i u.l n
def Sub.Src (u:Sub) (h:Heap) (xs:Array Value):Prop:=if u.t=true then h.IsTuple u.l xs else h.IsList u.l xs
theorem Sub.At.obj {u:Sub} {h:Heap} {n:Nat} (x:u.At h n):∃ o,h.get? u.i=some o/\o.data=.fields #[.ref u.l,.int n 0]:=by
 unfold Sub.At at x
 split at x <;> (obtain ⟨o,e,_,d⟩:=x; exact ⟨o,e,d⟩)
theorem Sub.At.keep {u:Sub} {h h':Heap} {n:Nat} (x:u.At h n) (k:∀ o,h.get? u.i=some o->h'.get? u.i=some o):u.At h' n:=by
 unfold Sub.At at x ⊢
 split at x <;> (rename_i ht; obtain ⟨o,e,r⟩:=x; simp only [ht,if_true,if_false,Bool.false_eq_true]; exact ⟨o,k o e,r⟩)
theorem Sub.Src.keep {u:Sub} {h h':Heap} {xs:Array Value} (x:u.Src h xs) (k:∀ o,h.get? u.l=some o->h'.get? u.l=some o):u.Src h' xs:=by
 unfold Sub.Src at x ⊢
 split at x <;> (rename_i ht; obtain ⟨o,e,r⟩:=x; simp only [ht,if_true,if_false,Bool.false_eq_true]; exact ⟨o,k o e,r⟩)
section
variable {prog:Program} {w:World} {A:Around} {E:Value->Shared->Prop} {s:Shared}
theorem nextOf_tup_item {it t:Addr} {i:Nat} {items:Array Value} {x:Value} {Q:Value->Shared->Prop} (hit:s.heap.IsTupleIter it t i) (ht:s.heap.IsTuple t items) (hx:items[i]?=some x)
  (hQ:∀ h',h'.IsTupleIter it t (i+1)->Heap.SameBut it s.heap h'->Q x { s with heap:=h' }):wpAny (model prog w) A (Builtin.SmallTypes.nextOf (.ref it)) Q E s:=by
 obtain ⟨o,ho,hc,hd⟩:=id hit; obtain ⟨ol,hol,_,nl,hdl⟩:=ht; unfold Builtin.SmallTypes.nextOf
 refine wpAny_bind (wpAny_callSpecial?_slot (name:=Str.ofString "__next__") hit.typeIs F.slot_tuple_iterator_next (wpAny_call_entry F.slot_tuple_iterator_next hit.typeIs F.entry_tuple_iterator_next ?_ (F.args_tuple_iterator_next_1 _)))
 show wpAny _ _ (field (.ref it) 0>>=_) _ _ s; refine wpAny_bind (wpAny_field ho hd (x:=.ref t) rfl ?_)
 show wpAny _ _ (if (Value.ref t == Value.none)=true then _ else _) _ _ s; rw [if_neg (show ¬ ((Value.ref t == Value.none)=true) from Bool.false_ne_true)]
 show wpAny _ _ (field (.ref it) 1>>=_) _ _ s; refine wpAny_bind (wpAny_field ho hd (x:=.int i 0) rfl ?_)
 show wpAny _ _ (seqItems? (.ref t)>>=_) _ _ s; refine wpAny_bind (wpAny_seqItems hol hdl ?_); simp only [Int.toNat_natCast,hx]
 refine wpAny_bind (wpAny_setField ho hd (by simp) (wpAny_pure ⟨x,rfl,wpAny_pure (hQ _ ?_ (Heap.SameBut.update ..))⟩)); exact ⟨_,Heap.get?_update_self _ ho (Obj.isFreed_of_fields (Obj.data_mapFields hd _)),(Obj.cls_mapFields ..).trans hc,by rw [Obj.data_mapFields hd]; simp [rawInt]⟩
theorem nextOf_tup_end {it t:Addr} {i:Nat} {items:Array Value} {Q:Value->Shared->Prop} (hh:A.handled=none) (hit:s.heap.IsTupleIter it t i) (ht:s.heap.IsTuple t items) (hx:items[i]?=none)
  (hE:∀ h' e,Heap.ExtBut it s.heap h'->(∃ o,h'.get? e=some o/\o.cls=.type "StopIteration")->E (.ref e) { s with heap:=h' }):wpAny (model prog w) A (Builtin.SmallTypes.nextOf (.ref it)) Q E s:=by
 obtain ⟨o,ho,hc,hd⟩:=id hit; obtain ⟨ol,hol,_,nl,hdl⟩:=ht; unfold Builtin.SmallTypes.nextOf
 refine wpAny_bind (wpAny_callSpecial?_slot (name:=Str.ofString "__next__") hit.typeIs F.slot_tuple_iterator_next (wpAny_call_entry F.slot_tuple_iterator_next hit.typeIs F.entry_tuple_iterator_next ?_ (F.args_tuple_iterator_next_1 _)))
 show wpAny _ _ (field (.ref it) 0>>=_) _ _ s; refine wpAny_bind (wpAny_field ho hd (x:=.ref t) rfl ?_)
 show wpAny _ _ (if (Value.ref t == Value.none)=true then _ else _) _ _ s; rw [if_neg (show ¬ ((Value.ref t == Value.none)=true) from Bool.false_ne_true)]
 show wpAny _ _ (field (.ref it) 1>>=_) _ _ s; refine wpAny_bind (wpAny_field ho hd (x:=.int i 0) rfl ?_)
 show wpAny _ _ (seqItems? (.ref t)>>=_) _ _ s; refine wpAny_bind (wpAny_seqItems hol hdl ?_); simp only [Int.toNat_natCast,hx]
 refine wpAny_bind (wpAny_rule (wpAny_bind (wpAny_setField ho hd (by simp) ?_))); show wpAny _ _ (newExc (.type "StopIteration") []>>=_) _ _ _
 refine wpAny_bind ?_; simp only [newExc,newTuple]; refine wpAny_bind (wpAny_newObj_type ?_ (by size_fits))
 refine wpAny_bind (m:=firstArgMember _ _) (wpAny_of_eq (a:=Value.none) (by first | rfl | (simp only [firstArgMember]; rfl)) ?_); refine wpAny_newObj_type ?_ (by size_fits); simp only [raiseNew]
 refine wpAny_bind (wpAny_handled ?_); first | rw [show A.in1.handled=none from hh] | rw [hh]
 refine wpAny_bind (wpAny_pure (wpAny_throw ?_)); exact hE _ _ (((Heap.SameBut.update ..).extBut.push _).push _) ⟨_,Heap.get?_push_size _ rfl,rfl⟩
theorem Sub.item {u:Sub} {n:Nat} {xs:Array Value} {x:Value} {Q:Value->Shared->Prop} (ha:u.At s.heap n) (hs:u.Src s.heap xs) (hx:xs[n]?=some x)
  (hQ:∀ h',u.At h' (n+1)->Heap.SameBut u.i s.heap h'->Q x { s with heap:=h' }):wpAny (model prog w) A (Builtin.SmallTypes.nextOf (.ref u.i)) Q E s:=by
 unfold Sub.At at ha hQ; unfold Sub.Src at hs
 cases ht:u.t with
 | true=>simp only [ht,if_true] at ha hs hQ; exact nextOf_tup_item ha hs hx hQ
 | false=>simp only [ht,if_false,Bool.false_eq_true] at ha hs hQ; exact wpAny_nextOf_list_item ha hs hx hQ
theorem Sub.ends {u:Sub} {n:Nat} {xs:Array Value} {Q:Value->Shared->Prop} (hh:A.handled=none) (ha:u.At s.heap n) (hs:u.Src s.heap xs) (hx:xs[n]?=none)
  (hE:∀ h' e,Heap.ExtBut u.i s.heap h'->(∃ o,h'.get? e=some o/\o.cls=.type "StopIteration")->E (.ref e) { s with heap:=h' }):wpAny (model prog w) A (Builtin.SmallTypes.nextOf (.ref u.i)) Q E s:=by
 unfold Sub.At at ha; unfold Sub.Src at hs
 cases ht:u.t with
 | true=>simp only [ht,if_true] at ha hs; exact nextOf_tup_end hh ha hs hx hE
 | false=>simp only [ht,if_false,Bool.false_eq_true] at ha hs; exact wpAny_nextOf_list_end hh ha hs hx hE
abbrev TupO (h:Heap) (T:Addr) (arr:Array Value):Prop:=h.get? T=some { cls:=.type "tuple",data:=.seq arr }
def drawn (n:Nat):List (Sub×Array Value)->Nat->Array Value->Array Value
 | [],_,arr=>arr
 | u::r,c,arr=>drawn n r (c+1) (arr.setIfInBounds c (u.2.getD n .none))
def DrawB (prog:Program) (w:World) (A:Around) (z TO:Addr) (E:Value->Shared->Prop) (B:Value×Nat->Option Fin×Unit->Sem (ForInStep (Option Fin×Unit))):Prop:=
 ∀ (v:Value) (k:Nat) (s:Shared) (Q:ForInStep (Option Fin×Unit)->Shared->Prop),
  wpAny (model prog w) A (Builtin.SmallTypes.nextOf v) (fun x s1=>∃ arr,TupO s1.heap TO arr/\arr.size<=sizeLine/\∀ h',TupO h' TO (arr.setIfInBounds k x)->Heap.SameBut TO s1.heap h'->Q (.yield (none,())) { s1 with heap:=h' })
   (fun e s1=>wpAny (model prog w) A (setField (.ref z) 0 .none) (fun _ s2=>E e s2) E s1) s->wpAny (model prog w) A (B (v,k) (none,())) Q E s
structure Apart (z TO:Addr) (ss:List (Sub×Array Value)):Prop where
 zTO:z≠TO
 zi:∀ u∈ss,u.1.i≠z
 ti:∀ u∈ss,u.1.i≠TO
 nd:ss.Pairwise fun u v=>u.1.i≠v.1.i
 lz:∀ u∈ss,u.1.l≠z
 lt:∀ u∈ss,u.1.l≠TO
 li:∀ u∈ss,∀ v∈ss,u.1.l≠v.1.i
theorem Apart.tail {z TO:Addr} {u:Sub×Array Value} {ss:List (Sub×Array Value)} (D:Apart z TO (u::ss)):Apart z TO ss:=
 ⟨D.zTO,fun v hv=>D.zi v (List.mem_cons_of_mem _ hv),fun v hv=>D.ti v (List.mem_cons_of_mem _ hv),(List.pairwise_cons.mp D.nd).2,fun v hv=>D.lz v (List.mem_cons_of_mem _ hv),fun v hv=>D.lt v (List.mem_cons_of_mem _ hv),
  fun v hv x hx=>D.li v (List.mem_cons_of_mem _ hv) x (List.mem_cons_of_mem _ hx)⟩
theorem draws {z TI TO:Addr} {n:Nat} {B:Value×Nat->Option Fin×Unit->Sem (ForInStep (Option Fin×Unit))} (hB:DrawB prog w A z TO E B) :
  ∀ (ss:List (Sub×Array Value)) (c:Nat) (arr:Array Value) (s:Shared) (Q:Option Fin×Unit->Shared->Prop),Apart z TO ss->IsZip s.heap z TI TO .ellipsis->TupO s.heap TO arr->arr.size<=sizeLine ->
   (∀ u∈ss,u.1.At s.heap n/\u.1.Src s.heap u.2/\∃ x,u.2[n]?=some x) ->
   (∀ h',IsZip h' z TI TO .ellipsis->TupO h' TO (drawn n ss c arr)->(∀ u∈ss,u.1.At h' (n+1))->h'.objs.size=s.heap.objs.size ->
    (∀ b o,b≠TO->(∀ u∈ss,b≠u.1.i)->s.heap.get? b=some o->h'.get? b=some o)->Q (none,()) { s with heap:=h' }) ->
   wpAny (model prog w) A (forIn ((ss.map fun u=>Value.ref u.1.i).zipIdx c) (none,()) B) Q E s:=by
 intro ss
 induction ss with
 | nil=>
  intro c arr s Q D hz hT hl hu hQ
  simp only [List.map_nil,List.zipIdx_nil,List.forIn_nil]
  exact wpAny_pure (hQ s.heap hz hT (fun _ h=>absurd h List.not_mem_nil) rfl fun _ _ _ _ e=>e)
 | cons u r ih=>
  intro c arr s Q D hz hT hl hu hQ
  simp only [List.map_cons,List.zipIdx_cons,List.forIn_cons]
  obtain ⟨ha,hsrc,x,hx⟩:=hu u List.mem_cons_self
  refine wpAny_bind (hB _ _ _ _ (Sub.item ha hsrc hx fun h1 ha1 sb1=>⟨arr,sb1.extBut _ _ (D.ti u List.mem_cons_self).symm hT,hl,fun h2 hT2 sb2=>?_⟩))
  have uz:=D.zi u List.mem_cons_self
  have ut:=D.ti u List.mem_cons_self
  have kp:∀ b o,b≠TO->b≠u.1.i->s.heap.get? b=some o->h2.get? b=some o:=fun b o h1 h2 e=>sb2.extBut _ _ h1 (sb1.extBut _ _ h2 e)
  have hui:∀ v∈r,v.1.i≠u.1.i:=fun v hv=>((List.pairwise_cons.mp D.nd).1 v hv).symm
  refine ih (c+1) (arr.setIfInBounds c x) { s with heap:=h2 } Q D.tail (kp _ _ D.zTO uz.symm hz) hT2 (by simpa using hl) (fun v hv=>?_) fun h3 z3 T3 a3 s3 k3=>?_
  ·obtain ⟨a,b,y⟩:=hu v (List.mem_cons_of_mem _ hv)
   exact ⟨a.keep fun o e=>kp _ o (D.ti v (List.mem_cons_of_mem _ hv)) (hui v hv) e,b.keep fun o e=>kp _ o (D.lt v (List.mem_cons_of_mem _ hv)) (D.li v (List.mem_cons_of_mem _ hv) u List.mem_cons_self) e,y⟩
  ·refine hQ h3 z3 ?_ (fun v hv=>?_) (by rw [s3]; show h2.objs.size=_; rw [sb2.1,sb1.1]) fun b o h1 h2 e=>k3 b o h1 (fun v hv=>h2 v (List.mem_cons_of_mem _ hv)) (kp b o h1 (h2 u List.mem_cons_self) e)
   ·have e:u.2.getD n .none=x:=by simp [Array.getD_eq_getD_getElem?,hx]
    show TupO h3 TO (drawn n r (c+1) (arr.setIfInBounds c (u.2.getD n .none)))
    rw [e]; exact T3
   ·rcases List.mem_cons.mp hv with rfl | hv
    ·exact ha1.keep fun o e=>k3 _ o ut (fun v' hv'=>(hui v' hv').symm) (sb2.extBut _ _ ut e)
    ·exact a3 v hv
theorem draws_end {z TI TO:Addr} {n:Nat} {B:Value×Nat->Option Fin×Unit->Sem (ForInStep (Option Fin×Unit))} (hh:A.handled=none) (hB:DrawB prog w A z TO E B) :
  ∀ (ss:List (Sub×Array Value)) (c:Nat) (arr:Array Value) (s:Shared) (Q:Option Fin×Unit->Shared->Prop),Apart z TO ss->IsZip s.heap z TI TO .ellipsis->TupO s.heap TO arr->arr.size<=sizeLine ->
   (∀ u∈ss,u.1.At s.heap n/\u.1.Src s.heap u.2)->(∃ u∈ss,u.2[n]?=none) ->
   (∀ h' e,(∀ b o,b≠z->b≠TO->(∀ u∈ss,b≠u.1.i)->s.heap.get? b=some o->h'.get? b=some o)->(∃ o,h'.get? e=some o/\o.cls=.type "StopIteration")->E (.ref e) { s with heap:=h' }) ->
   wpAny (model prog w) A (forIn ((ss.map fun u=>Value.ref u.1.i).zipIdx c) (none,()) B) Q E s:=by
 intro ss
 induction ss with
 | nil=>
  intro c arr s Q D hz hT hl hu hx hQ
  obtain ⟨_,h,_⟩:=hx
  exact absurd h List.not_mem_nil
 | cons u r ih=>
  intro c arr s Q D hz hT hl hu hx hQ
  simp only [List.map_cons,List.zipIdx_cons,List.forIn_cons]
  obtain ⟨ha,hsrc⟩:=hu u List.mem_cons_self
  have uz:=D.zi u List.mem_cons_self
  have ut:=D.ti u List.mem_cons_self
  cases hu0:u.2[n]? with
  | none=>
   refine wpAny_bind (hB _ _ _ _ (Sub.ends hh ha hsrc hu0 fun h1 e eb he=>?_))
   obtain ⟨oe,hoe,hce⟩:=he
   have hz1:IsZip h1 z TI TO .ellipsis:=eb _ _ uz.symm hz
   have hez:e≠z:=fun x=>by subst x; rw [hz1] at hoe; cases hoe; simp at hce
   exact wpAny_setField_rec hz1 (by simp) fun h3 _ sb3=>hQ h3 e (fun b o b1 b2 b3 q=>sb3.extBut _ _ b1 (eb _ _ (b3 u List.mem_cons_self) q)) ⟨oe,sb3.extBut _ _ hez hoe,hce⟩
  | some x=>
   refine wpAny_bind (hB _ _ _ _ (Sub.item ha hsrc hu0 fun h1 ha1 sb1=>⟨arr,sb1.extBut _ _ ut.symm hT,hl,fun h2 hT2 sb2=>?_⟩))
   have kp:∀ b o,b≠TO->b≠u.1.i->s.heap.get? b=some o->h2.get? b=some o:=fun b o h1 h2 e=>sb2.extBut _ _ h1 (sb1.extBut _ _ h2 e)
   have hui:∀ v∈r,v.1.i≠u.1.i:=fun v hv=>((List.pairwise_cons.mp D.nd).1 v hv).symm
   refine ih (c+1) (arr.setIfInBounds c x) { s with heap:=h2 } Q D.tail (kp _ _ D.zTO uz.symm hz) hT2 (by simpa using hl) (fun v hv=>?_) ?_ fun h3 e k3 he=>?_
   ·obtain ⟨a,b⟩:=hu v (List.mem_cons_of_mem _ hv)
    exact ⟨a.keep fun o e=>kp _ o (D.ti v (List.mem_cons_of_mem _ hv)) (hui v hv) e,b.keep fun o e=>kp _ o (D.lt v (List.mem_cons_of_mem _ hv)) (D.li v (List.mem_cons_of_mem _ hv) u List.mem_cons_self) e⟩
   ·obtain ⟨v,hv,e⟩:=hx
    rcases List.mem_cons.mp hv with rfl | hv
    ·rw [hu0] at e; cases e
    ·exact ⟨v,hv,e⟩
   ·exact hQ h3 e (fun b o b1 b2 b3 q=>k3 b o b1 b2 (fun v hv=>b3 v (List.mem_cons_of_mem _ hv)) (kp b o b2 (b3 u List.mem_cons_self) q)) he
theorem drawn_size (n:Nat):∀ (ss:List (Sub×Array Value)) (c:Nat) (arr:Array Value),(drawn n ss c arr).size=arr.size:=by
 intro ss
 induction ss with
 | nil=>intro c arr; rfl
 | cons u r ih=>intro c arr; unfold drawn; rw [ih]; simp
theorem drawn_get (n:Nat):∀ (ss:List (Sub×Array Value)) (c:Nat) (arr:Array Value),c+ss.length=arr.size->(drawn n ss c arr).toList=arr.toList.take c++ss.map fun u=>u.2.getD n .none:=by
 intro ss
 induction ss with
 | nil=>
  intro c arr h
  unfold drawn
  simp at h; subst h
  rw [List.map_nil,List.append_nil]
  exact (List.take_of_length_le (by simp)).symm
 | cons u r ih=>
  intro c arr h
  unfold drawn
  have hc:c<arr.size:=by simp at h; omega
  rw [ih (c+1) _ (by simp at h ⊢; omega)]
  rw [List.map_cons,Array.toList_setIfInBounds]
  have:(arr.toList.set c (u.2.getD n Value.none)).take (c+1)=arr.toList.take c ++ [u.2.getD n Value.none]:=by
   rw [List.take_add_one,List.take_set,List.getElem?_set_self (by simpa using hc)]
   rw [List.set_eq_of_length_le (by simp; omega)]; rfl
  rw [this,List.append_assoc]; rfl
theorem zip_item {z TI TO:Addr} {n:Nat} {ss:List (Sub×Array Value)} {arr:Array Value} {Q:Option Value->Shared->Prop} (D:Apart z TO ss) (hne:ss ≠ []) (hsz:arr.size=ss.length) (hline:ss.length<=sizeLine)
  (hz:IsZip s.heap z TI TO .none) (hTI:TupO s.heap TI (ss.map fun u=>Value.ref u.1.i).toArray) (hTO:TupO s.heap TO arr) (hu:∀ u∈ss,u.1.At s.heap n/\u.1.Src s.heap u.2/\∃ x,u.2[n]?=some x)
  (hQ:∀ h',IsZip h' z TI TO (rawInt s.heap.objs.size)->(∃ arr',TupO h' TO arr'/\arr'.size=ss.length)->(∀ u∈ss,u.1.At h' (n+1))->TupO h' s.heap.objs.size (ss.map fun u=>u.2.getD n .none).toArray ->
   (∀ b o,b≠z->b≠TO->(∀ u∈ss,b≠u.1.i)->s.heap.get? b=some o->h'.get? b=some o)->Q (some (.ref s.heap.objs.size)) { s with heap:=h' }) :
  wpAny (model prog w) A (pyNext (.ref z)) Q E s:=by
 have hT:s.TypeIs (.ref z) "zip" := ⟨_,hz,rfl⟩
 unfold pyNext
 refine wpAny_bind (wpAny_attempt (wpAny_callSpecial?_slot (name:=Str.ofString "__next__") hT F.slot_zip_next (wpAny_call_entry F.slot_zip_next hT F.entry_zip_next ?_ (F.args_zip_next_1 _))))
 show wpAny _ _ (field (.ref z) 2>>=_) _ _ _; refine wpAny_bind (wpAny_field hz rfl (x:=.bool false) rfl ?_)
 show wpAny _ _ (field (.ref z) 3>>=_) _ _ _; refine wpAny_bind (wpAny_field hz rfl (x:=.ref TI) rfl ?_); refine wpAny_bind (wpAny_seqItems hTI rfl ?_)
 have e1:(ss.map fun u=>Value.ref u.1.i).toArray.isEmpty=false:=by cases ss <;> simp_all
 simp only [e1]
 refine wpAny_bind ?_; unfold Builtin.SmallTypes.ownedTupleIsFree; refine wpAny_bind (wpAny_field hz rfl (x:=.none) rfl (wpAny_pure ?_)); simp only [if_true]
 refine wpAny_bind (wpAny_rule ?_); refine wpAny_bind (wpAny_field hz rfl (x:=.ref TO) rfl ?_)
 refine wpAny_bind (wpAny_setField_rec hz (by simp) fun h1 z1 sb1=>?_); replace z1:IsZip h1 z TI TO .ellipsis:=z1
 refine wpAny_bind (draws (TI:=TI) (n:=n) (z:=z) (TO:=TO) ?_ ss 0 arr _ _ D z1 (sb1.extBut _ _ D.zTO.symm hTO) (by omega) (fun u hm=>?_) fun h2 z2 T2 a2 s2 k2=>?_)
 ·intro v k s Q h
  refine wpAny_bind (wpAny_onRaise ?_)
  show wpAny _ _ (Builtin.SmallTypes.nextOf v>>=_) _ _ _
  refine wpAny_bind (wpAny_mono h (fun x s1 ⟨arr,hT1,hl,hq⟩=>wpAny_pure ?_) fun e s1 he=>he)
  refine wpAny_bind (wpAny_seqItems hT1 rfl ?_)
  refine wpAny_bind (wpAny_updateSeq hT1 rfl ?_ hl (by rw [Array.size_setIfInBounds]; omega))
  refine wpAny_bind (wpAny_letGo (wpAny_pure (hq _ ?_ (Heap.SameBut.update ..))))
  show Heap.get? _ _=_
  rw [Heap.get?_update_self _ hT1 rfl]; simp [Obj.mapSeq]
 ·obtain ⟨a,b,x⟩:=hu u hm
  exact ⟨a.keep fun o e=>sb1.extBut _ _ (D.zi u hm) e,b.keep fun o e=>sb1.extBut _ _ (D.lz u hm) e,x⟩
 ·have ed:(drawn n ss 0 arr).toList=ss.map fun u=>u.2.getD n .none:=by rw [drawn_get n ss 0 arr (by omega)]; simp
  refine wpAny_bind (wpAny_seqItems T2 rfl ?_)
  have hs2:h2.objs.size=s.heap.objs.size:=by rw [s2]; exact sb1.1
  have hlz:z<h2.objs.size:=Heap.lt_size z2
  refine wpAny_bind (wpAny_newTuple (wpAny_bind ?_) (by rw [ed,List.length_map]; exact hline))
  unfold Builtin.SmallTypes.ownedTupleHandOut
  have z3:IsZip (h2.push { cls:=.type "tuple",data:=.seq (drawn n ss 0 arr).toList.toArray }) z TI TO .ellipsis:=Heap.get?_push_of_some _ z2
  refine wpAny_bind (wpAny_setField_rec z3 (by simp) fun h4 z4 sb4=>?_); replace z4:IsZip h4 z TI TO (rawInt h2.objs.size):=z4
  refine wpAny_setField_rec z4 (by simp) fun h5 z5 sb5=>?_; replace z5:IsZip h5 z TI TO (rawInt h2.objs.size):=z5
  have up:∀ b o,b≠z->h2.get? b=some o->h5.get? b=some o:=fun b o hb e=>sb5.extBut _ _ hb (sb4.extBut _ _ hb (Heap.get?_push_of_some _ e))
  have T5:TupO h5 h2.objs.size (drawn n ss 0 arr).toList.toArray:=sb5.extBut _ _ (Nat.ne_of_gt hlz) (sb4.extBut _ _ (Nat.ne_of_gt hlz) (Heap.get?_push_size _ rfl))
  rw [ed] at T5
  rw [hs2] at z5 T5
  refine wpAny_pure ⟨_,rfl,wpAny_pure ?_⟩
  show Q (some (.ref h2.objs.size)) _
  rw [hs2]
  exact hQ h5 z5 ⟨_,up _ _ D.zTO.symm T2,by rw [drawn_size,hsz]⟩ (fun u hm=>(a2 u hm).keep fun o e=>up _ o (D.zi u hm) e) T5 fun b o b1 b2 b3 e=>up b o b1 (k2 b o b2 b3 (sb1.extBut _ _ b1 e))
theorem zip_stop {z TI TO:Addr} {n:Nat} {ss:List (Sub×Array Value)} {arr:Array Value} {Q:Option Value->Shared->Prop} (hh:A.handled=none) (D:Apart z TO ss) (hsz:arr.size=ss.length) (hline:ss.length<=sizeLine)
  (hz:IsZip s.heap z TI TO .none) (hTI:TupO s.heap TI (ss.map fun u=>Value.ref u.1.i).toArray) (hTO:TupO s.heap TO arr) (hu:∀ u∈ss,u.1.At s.heap n/\u.1.Src s.heap u.2) (hx:∃ u∈ss,u.2[n]?=none)
  (hQ:∀ h',(∀ b o,b≠z->b≠TO->(∀ u∈ss,b≠u.1.i)->s.heap.get? b=some o->h'.get? b=some o)->Q none { s with heap:=h' }) :
  wpAny (model prog w) A (pyNext (.ref z)) Q E s:=by
 have hT:s.TypeIs (.ref z) "zip" := ⟨_,hz,rfl⟩
 unfold pyNext
 refine wpAny_bind (wpAny_attempt (wpAny_callSpecial?_slot (name:=Str.ofString "__next__") hT F.slot_zip_next (wpAny_call_entry F.slot_zip_next hT F.entry_zip_next ?_ (F.args_zip_next_1 _))))
 show wpAny _ _ (field (.ref z) 2>>=_) _ _ _; refine wpAny_bind (wpAny_field hz rfl (x:=.bool false) rfl ?_)
 show wpAny _ _ (field (.ref z) 3>>=_) _ _ _; refine wpAny_bind (wpAny_field hz rfl (x:=.ref TI) rfl ?_); refine wpAny_bind (wpAny_seqItems hTI rfl ?_)
 have e1:(ss.map fun u=>Value.ref u.1.i).toArray.isEmpty=false:=by
  obtain ⟨u,hm,_⟩:=hx
  cases ss with
  | nil=>exact nomatch hm
  | cons a b=>simp
 simp only [e1]
 refine wpAny_bind ?_; unfold Builtin.SmallTypes.ownedTupleIsFree; refine wpAny_bind (wpAny_field hz rfl (x:=.none) rfl (wpAny_pure ?_)); simp only [if_true]
 refine wpAny_bind (wpAny_rule ?_); refine wpAny_bind (wpAny_field hz rfl (x:=.ref TO) rfl ?_)
 refine wpAny_bind (wpAny_setField_rec hz (by simp) fun h1 z1 sb1=>?_); replace z1:IsZip h1 z TI TO .ellipsis:=z1
 refine wpAny_bind (draws_end (A:=A.in1) (TI:=TI) (n:=n) (z:=z) (TO:=TO) (show A.in1.handled=none from hh) ?_ ss 0 arr _ _ D z1 (sb1.extBut _ _ D.zTO.symm hTO) (by omega) (fun u hm=>?_) hx fun h2 e k2 he=>?_)
 ·intro v k s Q h
  refine wpAny_bind (wpAny_onRaise ?_)
  show wpAny _ _ (Builtin.SmallTypes.nextOf v>>=_) _ _ _
  refine wpAny_bind (wpAny_mono h (fun x s1 ⟨arr,hT1,hl,hq⟩=>wpAny_pure ?_) fun e s1 he=>he)
  refine wpAny_bind (wpAny_seqItems hT1 rfl ?_)
  refine wpAny_bind (wpAny_updateSeq hT1 rfl ?_ hl (by rw [Array.size_setIfInBounds]; omega))
  refine wpAny_bind (wpAny_letGo (wpAny_pure (hq _ ?_ (Heap.SameBut.update ..))))
  show Heap.get? _ _=_
  rw [Heap.get?_update_self _ hT1 rfl]; simp [Obj.mapSeq]
 ·obtain ⟨a,b⟩:=hu u hm
  exact ⟨a.keep fun o e=>sb1.extBut _ _ (D.zi u hm) e,b.keep fun o e=>sb1.extBut _ _ (D.lz u hm) e⟩
 ·obtain ⟨o,ho,hc⟩:=he
  refine wpAny_bind (wpAny_isInstance (T := "StopIteration") (b:=true) ⟨o,ho,hc⟩ isSubtype_stop ?_)
  exact wpAny_pure (hQ _ fun b o b1 b2 b3 e=>k2 b o b1 b2 b3 (sb1.extBut _ _ b1 e))
def SrcAt (h:Heap) (u:Bool×Addr×Array Value):Prop:=if u.1=true then h.IsTuple u.2.1 u.2.2 else h.IsList u.2.1 u.2.2
def subsFrom (n:Nat):List (Bool×Addr×Array Value)->List (Sub×Array Value)
 | []=>[]
 | u::r=>(⟨u.1,n,u.2.1⟩,u.2.2)::subsFrom (n+1) r
theorem iter_src {u:Bool×Addr×Array Value} {Q:Value->Shared->Prop} (hs:SrcAt s.heap u)
  (hQ:∀ h',(Sub.mk u.1 s.heap.objs.size u.2.1).At h' 0->h'.objs.size=s.heap.objs.size+1->(∀ b o,s.heap.get? b=some o->h'.get? b=some o)->Q (.ref s.heap.objs.size) { s with heap:=h' }) :
  wpAny (model prog w) A (pyIter (.ref u.2.1)) Q E s:=by
 unfold SrcAt at hs
 cases ht:u.1 with
 | true=>
  simp only [ht,if_true] at hs
  refine wpAny_pyIter_tuple hs (hQ _ ?_ (Heap.size_push ..) fun b o e=>Heap.get?_push_of_some _ e)
  unfold Sub.At
  simp only [ht,if_true]
  exact ⟨_,Heap.get?_push_size _ rfl,rfl,rfl⟩
 | false=>
  simp only [ht,Bool.false_eq_true,if_false] at hs
  refine wpAny_pyIter_list hs (hQ _ ?_ (Heap.size_push ..) fun b o e=>Heap.get?_push_of_some _ e)
  unfold Sub.At
  simp only [ht,Bool.false_eq_true,if_false]
  exact ⟨_,Heap.get?_push_size _ rfl,rfl,rfl⟩
theorem SrcAt.keep {h h':Heap} {u:Bool×Addr×Array Value} (x:SrcAt h u) (k:∀ b o,h.get? b=some o->h'.get? b=some o):SrcAt h' u:=by
 unfold SrcAt at x ⊢
 split at x <;> (rename_i ht; obtain ⟨o,e,r⟩:=x; simp only [ht,if_true,if_false,Bool.false_eq_true]; exact ⟨o,k _ o e,r⟩)
theorem iter_all_go:∀ (us:List (Bool×Addr×Array Value)) (acc:Array Value) (s:Shared) (Q:Array Value->Shared->Prop),(∀ u∈us,SrcAt s.heap u) ->
  (∀ h',(∀ v∈subsFrom s.heap.objs.size us,v.1.At h' 0)->h'.objs.size=s.heap.objs.size+us.length->(∀ b o,s.heap.get? b=some o->h'.get? b=some o) ->
   Q (acc++((subsFrom s.heap.objs.size us).map fun v=>Value.ref v.1.i).toArray) { s with heap:=h' }) ->
  wpAny (model prog w) A (forIn (us.map fun u=>Value.ref u.2.1) acc fun x r=>do let y <- holding r.toList (pyIter x); pure (ForInStep.yield (r.push y))) Q E s:=by
 intro us
 induction us with
 | nil=>
  intro acc s Q _ hQ
  simp only [List.map_nil,List.forIn_nil]
  have:=hQ s.heap (fun _ h=>absurd h List.not_mem_nil) rfl fun _ _ e=>e
  exact wpAny_pure (by simpa [subsFrom] using this)
 | cons u r ih=>
  intro acc s Q hs hQ
  simp only [List.map_cons,List.forIn_cons]
  refine wpAny_bind (wpAny_bind (wpAny_holding (iter_src (hs u List.mem_cons_self) fun h1 a1 s1 k1=>wpAny_pure ?_)))
  refine ih (acc.push (.ref s.heap.objs.size)) { s with heap:=h1 } Q (fun v hv=>(hs v (List.mem_cons_of_mem _ hv)).keep k1) fun h2 a2 s2 k2=>?_
  have e0:subsFrom h1.objs.size r=subsFrom (s.heap.objs.size+1) r:=by rw [s1]
  have q:=hQ h2 (fun v hv=>?_) (by rw [s2]; show h1.objs.size+_=_; rw [s1,List.length_cons]; omega) fun b o e=>k2 b o (k1 b o e)
  ·have e:acc.push (Value.ref s.heap.objs.size)++(List.map (fun v=>Value.ref v.1.i) (subsFrom h1.objs.size r)).toArray=acc++(List.map (fun v=>Value.ref v.1.i) (subsFrom s.heap.objs.size (u::r))).toArray:=by
    rw [e0]; simp [subsFrom]
   show Q (acc.push (Value.ref s.heap.objs.size)++(List.map (fun v=>Value.ref v.1.i) (subsFrom h1.objs.size r)).toArray) _
   rw [e]; exact q
  ·rcases List.mem_cons.mp hv with rfl | hv
   ·exact a1.keep fun o e=>k2 _ o e
   ·exact a2 v (by show v∈subsFrom h1.objs.size r; rw [e0]; exact hv)
theorem iter_all {us:List (Bool×Addr×Array Value)} {Q:List Value->Shared->Prop} (hs:∀ u∈us,SrcAt s.heap u)
  (hQ:∀ h',(∀ v∈subsFrom s.heap.objs.size us,v.1.At h' 0)->h'.objs.size=s.heap.objs.size+us.length->(∀ b o,s.heap.get? b=some o->h'.get? b=some o) ->
   Q ((subsFrom s.heap.objs.size us).map fun v=>Value.ref v.1.i) { s with heap:=h' }):wpAny (model prog w) A (Builtin.SmallTypes.iterAll (us.map fun u=>Value.ref u.2.1)) Q E s:=by
 unfold Builtin.SmallTypes.iterAll
 refine wpAny_bind (iter_all_go us #[] s _ hs fun h' a1 s1 k1=>wpAny_pure ?_)
 have:=hQ h' a1 s1 k1
 simpa using this
theorem subs_length:∀ (us:List (Bool×Addr×Array Value)) (n:Nat),(subsFrom n us).length=us.length:=by
 intro us
 induction us with
 | nil=>intro n; rfl
 | cons u r ih=>intro n; unfold subsFrom; rw [List.length_cons,ih,List.length_cons]
theorem meets_zip (us:List (Bool×Addr×Array Value)) (hl:us.length<=sizeLine) :
  Meets (Builtin.«zip.__new__» ⟨.type "zip" :: us.map fun u=>Value.ref u.2.1,[]⟩) (fun _ R s=>(∀ u∈us,SrcAt s.heap u) /\
   ∀ h',(∀ v∈subsFrom s.heap.objs.size us,v.1.At h' 0)->TupO h' (s.heap.objs.size+us.length) ((subsFrom s.heap.objs.size us).map fun v=>Value.ref v.1.i).toArray ->
    (∃ arr,TupO h' (s.heap.objs.size+us.length+1) arr/\arr.size=us.length)->IsZip h' (s.heap.objs.size+us.length+2) (s.heap.objs.size+us.length) (s.heap.objs.size+us.length+1) .none ->
    (∀ b o,s.heap.get? b=some o->h'.get? b=some o)->R (.ok (.ret (.ref (s.heap.objs.size+us.length+2)))) { s with heap:=h' }):=
 .of_wp fun prog w A R s h=>by
  obtain ⟨hs,h⟩:=h
  show wpAny _ _ (Builtin.SmallTypes.newClass "zip" _>>=_) _ _ _
  refine wpAny_bind ?_
  unfold Builtin.SmallTypes.newClass
  refine wpAny_bind (wpAny_of_eq (a:=true) rfl ?_)
  simp only [Bool.not_true,Bool.false_eq_true,if_false]
  refine wpAny_bind (wpAny_of_eq (a:=true) sub_zip ?_)
  simp only [Bool.not_true,Bool.false_eq_true,if_false]
  refine wpAny_pure ?_
  simp only [List.length_nil,show ¬ (0>1) by decide,if_false]
  refine wpAny_bind (iter_all hs fun h1 a1 s1 k1=>?_)
  refine wpAny_bind (wpAny_newTuple ?_ (by simp [subs_length,hl]))
  refine wpAny_bind (wpAny_newTuple ?_ (by simp [subs_length,hl]))
  generalize hI:((subsFrom s.heap.objs.size us).map fun v=>Value.ref v.1.i)=I at h ⊢
  have hIl:I.length=us.length:=by rw [<- hI,List.length_map,subs_length]
  refine wpAny_bind ?_
  show wpAny _ _ (newObj (.type "zip") (.fields #[.none,.bool false,.bool false,.ref h1.objs.size,.ref (h1.push { cls:=.type "tuple",data:=.seq I.toArray }).objs.size]) none) _ _ _
  refine wpAny_newObj_type (wpAny_pure ?_) (by size_fits)
  have z0:h1.objs.size=s.heap.objs.size+us.length:=s1
  have z1:(h1.push { cls:=.type "tuple",data:=.seq I.toArray }).objs.size=s.heap.objs.size+us.length+1:=by rw [Heap.size_push,s1]
  have z2:((h1.push { cls:=.type "tuple",data:=.seq I.toArray }).push { cls:=.type "tuple",data:=.seq (I.map fun _=>Value.none).toArray }).objs.size=s.heap.objs.size+us.length+2:=by rw [Heap.size_push,z1]
  refine ⟨_,rfl,?_⟩
  have g:=h (((h1.push { cls:=.type "tuple",data:=.seq I.toArray }).push { cls:=.type "tuple",data:=.seq (I.map fun _=>Value.none).toArray }).push { cls:=.type "zip",data:=.fields #[.none,.bool false,.bool false,.ref h1.objs.size,.ref (h1.push { cls:=.type "tuple",data:=.seq I.toArray }).objs.size] })
   (fun v hv=>(a1 v hv).keep fun o e=>Heap.get?_push_of_some _ (Heap.get?_push_of_some _ (Heap.get?_push_of_some _ e))) ?_ ⟨(I.map fun _=>Value.none).toArray,?_,by simp [hIl]⟩ ?_ fun b o e=>Heap.get?_push_of_some _ (Heap.get?_push_of_some _ (Heap.get?_push_of_some _ (k1 b o e)))
  ·rw [<- z2] at g
   exact g
  ·rw [<- z0]; exact Heap.get?_push_of_some _ (Heap.get?_push_of_some _ (Heap.get?_push_size _ rfl))
  ·rw [<- z1]; exact Heap.get?_push_of_some _ (Heap.get?_push_size _ rfl)
  ·rw [<- z2,<- z1,<- z0]; exact Heap.get?_push_size _ rfl
theorem tcall_zip3 (a b c:Value):checkTypeCall "zip" ⟨[a,b,c],[]⟩=pure ():=by kernel_rfl
theorem ncall_zip3 (a b c:Value):checkBuiltinCall "zip.__new__" ⟨[.type "zip",a,b,c],[]⟩=pure ():=by kernel_rfl
theorem args_init4 (a b c d:Value):argsOk "object.__init__" ⟨[a,b,c,d],[]⟩:=by
 unfold argsOk; rw [signature?_of (id := "object.__init__") (n:=['_','_','t','i','n','i','_','_']) (o:=['t','c','e','j','b','o']) (by kernel_rfl) F.owner_object]; kernel_rfl
theorem call_zip (us:List (Bool×Addr×Array Value)) (hl:us.length=2\/us.length=3) {Q:Value->Shared->Prop} (hs:∀ u∈us,SrcAt s.heap u)
  (h:∀ h',(∀ v∈subsFrom s.heap.objs.size us,v.1.At h' 0)->TupO h' (s.heap.objs.size+us.length) ((subsFrom s.heap.objs.size us).map fun v=>Value.ref v.1.i).toArray ->
    (∃ arr,TupO h' (s.heap.objs.size+us.length+1) arr/\arr.size=us.length)->IsZip h' (s.heap.objs.size+us.length+2) (s.heap.objs.size+us.length) (s.heap.objs.size+us.length+1) .none ->
    (∀ b o,s.heap.get? b=some o->h'.get? b=some o)->Q (.ref (s.heap.objs.size+us.length+2)) { s with heap:=h' }) :
  wpAny (model prog w) A (call (.type "zip") (us.map fun u=>Value.ref u.2.1)) Q E s:=by
 have hle:us.length<=sizeLine:=Nat.le_trans (show us.length<=3 by omega) (by decide)
 have k:∀ h',_->_->_->_->_->({ s with heap:=h' }:Shared).TypeIs (.ref (s.heap.objs.size+us.length+2)) "zip" /\ Q (.ref (s.heap.objs.size+us.length+2)) { s with heap:=h' }:=fun h' c1 c2 c3 c4 c5=>⟨⟨_,c4,rfl⟩,h h' c1 c2 c3 c4 c5⟩
 cases us with
 | nil=>rcases hl with hl | hl <;> cases hl
 | cons a us=>
  cases us with
  | nil=>rcases hl with hl | hl <;> cases hl
  | cons b us=>
   cases us with
   | nil=>exact callType_new F.called_zip (by decide) (F.typeCall_zip_2 _ _) (F.newCall_zip_2 _ _) (fun obj=>F.args_object_init_3 obj _ _) F.entry_zip_new (meets_zip [a,b] hle) ⟨hs,k⟩
   | cons c us=>
    cases us with
    | nil=>exact callType_new F.called_zip (by decide) (tcall_zip3 _ _ _) (ncall_zip3 _ _ _) (fun obj=>args_init4 obj _ _ _) F.entry_zip_new (meets_zip [a,b,c] hle) ⟨hs,k⟩
    | cons d us=>rcases hl with hl | hl <;> (simp only [List.length_cons] at hl; omega)
end
end L2
namespace L2
open PySem PySem.Spec PyProof.Rows
theorem choose_list {α β:Type} {R:α->β->Prop}:∀ {l:List α},(∀ a∈l,∃ b,R a b)->∃ l':List (α×β),l'.map (·.1)=l/\∀ p∈l',R p.1 p.2:=by
 intro l
 induction l with
 | nil=>exact fun _=>⟨[],rfl,fun _ h=>absurd h List.not_mem_nil⟩
 | cons a l ih=>
  intro h
  obtain ⟨b,hb⟩:=h a List.mem_cons_self
  obtain ⟨l',e,q⟩:=ih fun x hx=>h x (List.mem_cons_of_mem _ hx)
  refine ⟨(a,b)::l',by rw [List.map_cons,e],fun p hp=>?_⟩
  rcases List.mem_cons.mp hp with rfl | hp
  ·exact hb
  ·exact q p hp
def Sq (K:Frag) (H:Hp) (t:Bool) (a:Addr) (xs:List V):Prop:=if t=true then SqT K H a xs else SqL K H a xs
section
variable {X:Cx} {pins:List (Addr×Obj)} {σ:St} {H:Hp} {s:Shared}
theorem kne {b a:Addr} {o:Obj} (I:Inv X pins σ H s) (h:X.K.lookup a=some o) (f:FpOk X pins H b):a≠b:=by
 intro e
 subst e
 have hb:X.base.get? a=some o:=I.mod.kin a o h
 obtain ⟨f0,f1,f2,f3,f4,f5⟩:=f
 rcases f3 with z | z
 ·exact I.ok.noex a o hb z
 ·exact absurd (Nat.lt_of_lt_of_le (Heap.lt_size (I.ok.bs a o hb).1) z) (Nat.lt_irrefl _)
theorem Sq.ne {t:Bool} {a b:Addr} {xs:List V} (I:Inv X pins σ H s) (h:Sq X.K H t a xs) (f:FpOk X pins H b):a≠b:=by
 have tr:∀ {u:HO},Rd H a u->a≠b:=fun {u} r e=>by
  subst e
  have f0:=f.1
  rcases r with r | ⟨o,r⟩ <;> (rw [f0] at r; cases r)
 unfold Sq at h
 split at h
 ·rcases h with h | ⟨o,its,n,hk,_⟩
  ·exact tr h
  ·exact kne I hk f
 ·rcases h with h | ⟨o,its,n,hk,_⟩
  ·exact tr h
  ·exact kne I hk f
theorem Sq.src {t:Bool} {a:Addr} {xs:List V} (I:Inv X pins σ H s) (h:Sq X.K H t a xs):∃ its:List Value,Vals xs its/\(Sub.mk t 0 a).Src s.heap its.toArray:=by
 unfold Sq at h
 unfold Sub.Src
 split at h
 ·rename_i ht
  obtain ⟨its,r,p,_⟩:=I.tuple h
  exact ⟨its,r,by simp only [ht,if_true]; exact p⟩
 ·rename_i ht
  obtain ⟨its,r,p,_⟩:=I.list h
  exact ⟨its,r,by simp only [ht,if_false]; exact p.isList⟩
theorem Sq.inj {t:Bool} {a:Addr} {xs ys:List V} (I:Inv X pins σ H s) (h:Sq X.K H t a xs) (h':Sq X.K H t a ys):xs=ys:=by
 unfold Sq at h h'
 split at h
 ·rename_i ht; simp only [ht,if_true] at h'; exact I.tuple_inj h h'
 ·rename_i ht; simp only [ht,if_false] at h'; exact I.list_inj h h'
end
def ItZ (K:Frag) (us:List (Bool×Addr)):It:=
  ⟨fun i H=>∀ u∈us,∃ xs x,Sq K H u.1 u.2 xs/\xs[i]?=some x,
   fun i H x H'=>∃ p ys,x=.ref p/\H p=none/\H'=upd H p (.tup ys)/\Paired (fun (u:Bool×Addr) (y:V)=>∀ xs,Sq K H u.1 u.2 xs->xs[i]?=some y) us ys,
   fun i H=>(∀ u∈us,∃ xs,Sq K H u.1 u.2 xs)/\∃ u∈us,∃ xs,Sq K H u.1 u.2 xs/\xs.length<=i⟩
structure ZSt (z TI TO:Addr) (subs:List Sub):Prop where
 zTO:z≠TO
 TIz:TI≠z
 TITO:TI≠TO
 zi:∀ u∈subs,u.i≠z
 ti:∀ u∈subs,u.i≠TO
 Ii:∀ u∈subs,u.i≠TI
 nd:subs.Pairwise fun u v=>u.i≠v.i
abbrev zTn (z TI TO:Addr) (subs:List Sub) (i:Nat) (h:Heap):Prop:=
 IsZip h z TI TO .none/\TupO h TI (subs.map fun u=>Value.ref u.i).toArray/\(∃ arr,TupO h TO arr/\arr.size=subs.length)/\∀ u∈subs,u.At h i
theorem paired_map {α β γ:Type} {F:α->γ->Prop} {f:β->α} {g:β->γ}:∀ {l:List β},(∀ b∈l,F (f b) (g b))->Paired F (l.map f) (l.map g)
 | [],_=>.nil
 | _::_,h=>.cons (h _ List.mem_cons_self) (paired_map fun b hb=>h b (List.mem_cons_of_mem _ hb))
theorem turn_zip {P:Program} {w:World} {K:Frag} {elts:List Expr} {k:Nat} {tp:Pos} {z TI TO:Addr} {subs:List Sub} (D:ZSt z TI TO subs) (hne:subs ≠ []) (hln:subs.length<=sizeLine) :
  Turn P w K (.Tuple elts k tp) (ItZ K (subs.map fun u=>(u.t,u.l))) (z::TI::TO::subs.map (·.i)) z (zTn z TI TO subs) where
 mem:=by simp
 obj:=fun i h st b hb=>by
  obtain ⟨hz,hTI,⟨arr,hTO,_⟩,hs⟩:=st
  simp only [List.mem_cons,List.mem_map] at hb
  rcases hb with rfl | rfl | rfl | ⟨u,hu,rfl⟩
  ·exact ⟨_,hz,fun v q=>by cases q⟩
  ·exact ⟨_,hTI,fun v q=>by cases q⟩
  ·exact ⟨_,hTO,fun v q=>by cases q⟩
  ·obtain ⟨o,e,d⟩:=(hs u hu).obj
   exact ⟨o,e,fun v q=>by rw [d] at q; cases q⟩
 keep:=fun i h h' st kp=>by
  obtain ⟨hz,hTI,⟨arr,hTO,ha⟩,hs⟩:=st
  exact ⟨kp z (by simp) _ hz,kp TI (by simp) _ hTI,⟨arr,kp TO (by simp) _ hTO,ha⟩,fun u hu=>(hs u hu).keep fun o e=>kp u.i (by simp only [List.mem_cons,List.mem_map]; exact .inr (.inr (.inr ⟨u,hu,rfl⟩))) o e⟩
 item:=by
  intro X hP hw hK hc i pins s σ H E I hf st hg
  subst hP hw hK
  obtain ⟨hz,hTI,⟨arr,hTO,ha⟩,hs⟩:=st
  have fz:=hf z (by simp)
  have fT:=hf TO (by simp)
  have fi:∀ u∈subs,FpOk X pins H u.i:=fun u hu=>hf u.i (by simp only [List.mem_cons,List.mem_map]; exact .inr (.inr (.inr ⟨u,hu,rfl⟩)))
  obtain ⟨ss,ess,hss⟩:=choose_list (R:=fun (u:Sub) (q:List Value×List V×V)=>Sq X.K H u.t u.l q.2.1/\Vals q.2.1 q.1/\u.Src s.heap q.1.toArray/\q.2.1[i]?=some q.2.2) (l:=subs) (fun u hu=>by
   obtain ⟨xs,x,h1,h2⟩:=hg (u.t,u.l) (List.mem_map.mpr ⟨u,hu,rfl⟩)
   obtain ⟨its,r,hsrc⟩:=Sq.src I h1
   exact ⟨(its,xs,x),h1,r,hsrc,h2⟩)
  have mss:∀ v∈ss,v.1∈subs:=fun v hv=>by rw [<- ess]; exact List.mem_map.mpr ⟨v,hv,rfl⟩
  have nd2:ss.Pairwise fun u v=>u.1.i≠v.1.i:=by
   have:=D.nd
   rw [<- ess,List.pairwise_map] at this
   exact this
  have DA:Apart z TO (ss.map fun v=>(v.1,v.2.1.toArray)):=by
   refine ⟨D.zTO,?_,?_,?_,?_,?_,?_⟩
   ·rintro _ hu; obtain ⟨v,hv,rfl⟩:=List.mem_map.mp hu; exact D.zi _ (mss v hv)
   ·rintro _ hu; obtain ⟨v,hv,rfl⟩:=List.mem_map.mp hu; exact D.ti _ (mss v hv)
   ·rw [List.pairwise_map]; exact nd2
   ·rintro _ hu; obtain ⟨v,hv,rfl⟩:=List.mem_map.mp hu; exact Sq.ne I (hss v hv).1 fz
   ·rintro _ hu; obtain ⟨v,hv,rfl⟩:=List.mem_map.mp hu; exact Sq.ne I (hss v hv).1 fT
   ·rintro _ hu _ hu2; obtain ⟨v,hv,rfl⟩:=List.mem_map.mp hu; obtain ⟨v2,hv2,rfl⟩:=List.mem_map.mp hu2; exact Sq.ne I (hss v hv).1 (fi _ (mss v2 hv2))
  have el:(ss.map fun v=>(v.1,v.2.1.toArray)).length=subs.length:=by rw [List.length_map,<- ess,List.length_map]
  have eI:((ss.map fun v=>(v.1,v.2.1.toArray)).map fun u=>Value.ref u.1.i)=subs.map fun u=>Value.ref u.i:=by rw [<- ess,List.map_map,List.map_map]; rfl
  have ys:∀ v∈ss,∃ u,v.2.1.toArray[i]?=some u/\RelV v.2.2.2 u:=fun v hv=>by
   obtain ⟨u,e,r⟩:=(hss v hv).2.1.get (hss v hv).2.2.2
   exact ⟨u,by simpa using e,r⟩
  refine zip_item (n:=i) DA (by intro q; apply hne; have:=congrArg List.length q; rw [el] at this; exact List.length_eq_zero_iff.mp this) (by rw [ha,el]) (by rw [el]; exact hln) hz (by rw [eI]; exact hTI) hTO (fun u hu=>?_) fun h1 z1 T1 a1 p1 k1=>?_
  ·obtain ⟨v,hv,rfl⟩:=List.mem_map.mp hu
   obtain ⟨u,e,_⟩:=ys v hv
   exact ⟨hs _ (mss v hv),(hss v hv).2.2.1,u,e⟩
  refine ⟨_,rfl,wpAny_letOwnedTupleGo_zip z1 fun h2 z2 sb2=>?_⟩
  have hzl:z<s.heap.objs.size:=Heap.lt_size hz
  have kp:∀ b o,b≠z->b≠TO->(∀ u∈subs,b≠u.i)->s.heap.get? b=some o->h2.get? b=some o:=fun b o b1 b2 b3 e=>sb2.extBut _ _ b1 (k1 b o b1 b2 (fun u hu=>by obtain ⟨v,hv,rfl⟩:=List.mem_map.mp hu; exact b3 _ (mss v hv)) e)
  have hfr:H s.heap.objs.size=none:=I.hok.fresh (Nat.le_refl _)
  have trk:∀ b u,H b=some u->b≠z/\b≠TO/\∀ v∈subs,b≠v.i:=fun b u e=>⟨fun q=>(by subst q; rw [fz.1] at e; cases e),fun q=>(by subst q; rw [fT.1] at e; cases e),fun v hv q=>(by subst q; rw [(fi v hv).1] at e; cases e)⟩
  have hP2:TupO h2 s.heap.objs.size (ss.map fun v=>v.2.1.toArray.getD i .none).toArray:=by
   have:=sb2.extBut _ _ (Nat.ne_of_gt hzl) p1
   rw [List.map_map] at this
   exact this
  have rel:Vals (ss.map fun v=>v.2.2.2) (ss.map fun v=>v.2.1.toArray.getD i .none):=paired_map fun v hv=>by
   obtain ⟨u,e,r⟩:=ys v hv
   rw [show v.2.1.toArray.getD i Value.none=u by simp only [Array.getD_eq_getD_getElem?,e,Option.getD_some]]
   exact r
  have len:(ss.map fun v=>v.2.2.2).length<=sizeLine:=by rw [List.length_map,show ss.length=subs.length by rw [<- ess,List.length_map]]; exact hln
  refine ⟨.ref s.heap.objs.size,upd H s.heap.objs.size (.tup (ss.map fun v=>v.2.2.2)),?_,rfl,⟨_,_,rfl,hfr,rfl,?_⟩,⟨z2,?_,?_,fun u hu=>?_⟩,fun b hb=>?_⟩
  ·show Inv X pins σ _ { s with heap:=h2 }
   refine I.step (g':=s.gens) (t':=s.toks) (d':=s.drawn) (ch:=z::TO::subs.map (·.i)) (fun b hb=>?_) (fun b o _ _ hc e _=>kp b o ?_ ?_ ?_ e) (fun b o _ _ hc e _=>⟨o.slots,kp b o ?_ ?_ ?_ e⟩) (fun b o hc e n=>?_) (fun b o hc e=>⟨o,kp b o ?_ ?_ ?_ e⟩) (fun b xs e=>?_) (fun b o u e=>?_) (fun b ps e=>?_) (fun m hm=>?_) ?_ I.bare
   ·simp only [List.mem_cons,List.mem_map] at hb
    rcases hb with rfl | rfl | ⟨u,hu,rfl⟩
    ·exact ⟨fz.2.2.2.1,fz.2.1,fz.2.2.2.2.1,fz.2.2.2.2.2⟩
    ·exact ⟨fT.2.2.2.1,fT.2.1,fT.2.2.2.2.1,fT.2.2.2.2.2⟩
    ·have f:=fi u hu; exact ⟨f.2.2.2.1,f.2.1,f.2.2.2.2.1,f.2.2.2.2.2⟩
   all_goals first
    | (intro q; exact hc (by simp [q]; done))
    | (intro u hu q; exact hc (by rw [q]; exact List.mem_cons_of_mem _ (List.mem_cons_of_mem _ (List.mem_map.mpr ⟨u,hu,rfl⟩))))
    | skip
   ·rw [upd_ne (Nat.ne_of_lt (Heap.lt_size e))]; exact n
   ·rw [upd_ne (ne_of_none e hfr)]; exact e
   ·rw [upd_ne (ne_of_none e hfr)]; exact e
   ·rw [upd_ne (ne_of_none e hfr)]; exact e
   ·obtain ⟨o,es,ep,ho,r⟩:=hm
    exact ⟨o,es,ep,kp _ o (Ne.symm fz.2.1) (Ne.symm fT.2.1) (fun u hu=>Ne.symm (fi u hu).2.1) ho,r⟩
   ·intro b u e
    by_cases hb:b=s.heap.objs.size
    ·subst hb
     rw [upd_same] at e; cases e
     exact ⟨len,_,rel,⟨_,hP2,rfl,_,rfl⟩⟩
    ·rw [upd_ne hb] at e
     refine (I.hok b u e).stay (fun c v hcc q=>?_) (fun c q=>by rw [upd_ne (ne_of_none q hfr)]; exact q) fun c xs q=>by rw [upd_ne (ne_of_none q hfr)]; exact q
     rcases hcc with rfl | hcc
     ·exact kp _ v (trk _ _ e).1 (trk _ _ e).2.1 (trk _ _ e).2.2 q
     ·exact kp _ v (trk _ _ hcc).1 (trk _ _ hcc).2.1 (trk _ _ hcc).2.2 q
  ·rw [<- ess,List.map_map]
   exact paired_map fun v hv xs hx=>by rw [Sq.inj I hx (hss v hv).1]; exact (hss v hv).2.2.2
  ·exact kp TI _ D.TIz D.TITO (fun u hu=>Ne.symm (D.Ii u hu)) hTI
  ·obtain ⟨arr',hT',ha'⟩:=T1
   exact ⟨arr',sb2.extBut _ _ D.zTO.symm hT',by rw [ha',el]⟩
  ·have hv:∃ v∈ss,v.1=u:=by rw [<- ess] at hu; exact List.mem_map.mp hu
   obtain ⟨v,hv,rfl⟩:=hv
   exact (a1 (v.1,v.2.1.toArray) (List.mem_map.mpr ⟨v,hv,rfl⟩)).keep fun o e=>sb2.extBut _ _ (D.zi _ (mss v hv)) e
  ·have:b≠s.heap.objs.size:=by
    simp only [List.mem_cons,List.mem_map] at hb
    rcases hb with rfl | rfl | rfl | ⟨u,hu,rfl⟩
    ·exact Nat.ne_of_lt hzl
    ·exact Nat.ne_of_lt (Heap.lt_size hTI)
    ·exact Nat.ne_of_lt (Heap.lt_size hTO)
    ·obtain ⟨o,e,_⟩:=(hs u hu).obj; exact Nat.ne_of_lt (Heap.lt_size e)
   rw [upd_ne this]
   exact (hf b hb).1
 done:=by
  intro X hP hw hK hc i pins s σ H E I hf st hg
  subst hP hw hK
  obtain ⟨hz,hTI,⟨arr,hTO,ha⟩,hs⟩:=st
  obtain ⟨hall,u0,hu0,xs0,hq0,hl0⟩:=hg
  have fz:=hf z (by simp)
  have fT:=hf TO (by simp)
  have fi:∀ u∈subs,FpOk X pins H u.i:=fun u hu=>hf u.i (by simp only [List.mem_cons,List.mem_map]; exact .inr (.inr (.inr ⟨u,hu,rfl⟩)))
  obtain ⟨ss,ess,hss⟩:=choose_list (R:=fun (u:Sub) (q:List Value×List V)=>Sq X.K H u.t u.l q.2/\Vals q.2 q.1/\u.Src s.heap q.1.toArray) (l:=subs) (fun u hu=>by
   obtain ⟨xs,h1⟩:=hall (u.t,u.l) (List.mem_map.mpr ⟨u,hu,rfl⟩)
   obtain ⟨its,r,hsrc⟩:=Sq.src I h1
   exact ⟨(its,xs),h1,r,hsrc⟩)
  have mss:∀ v∈ss,v.1∈subs:=fun v hv=>by rw [<- ess]; exact List.mem_map.mpr ⟨v,hv,rfl⟩
  have nd2:ss.Pairwise fun u v=>u.1.i≠v.1.i:=by
   have:=D.nd
   rw [<- ess,List.pairwise_map] at this
   exact this
  have DA:Apart z TO (ss.map fun v=>(v.1,v.2.1.toArray)):=by
   refine ⟨D.zTO,?_,?_,?_,?_,?_,?_⟩
   ·rintro _ hu; obtain ⟨v,hv,rfl⟩:=List.mem_map.mp hu; exact D.zi _ (mss v hv)
   ·rintro _ hu; obtain ⟨v,hv,rfl⟩:=List.mem_map.mp hu; exact D.ti _ (mss v hv)
   ·rw [List.pairwise_map]; exact nd2
   ·rintro _ hu; obtain ⟨v,hv,rfl⟩:=List.mem_map.mp hu; exact Sq.ne I (hss v hv).1 fz
   ·rintro _ hu; obtain ⟨v,hv,rfl⟩:=List.mem_map.mp hu; exact Sq.ne I (hss v hv).1 fT
   ·rintro _ hu _ hu2; obtain ⟨v,hv,rfl⟩:=List.mem_map.mp hu; obtain ⟨v2,hv2,rfl⟩:=List.mem_map.mp hu2; exact Sq.ne I (hss v hv).1 (fi _ (mss v2 hv2))
  have el:(ss.map fun v=>(v.1,v.2.1.toArray)).length=subs.length:=by rw [List.length_map,<- ess,List.length_map]
  have eI:((ss.map fun v=>(v.1,v.2.1.toArray)).map fun u=>Value.ref u.1.i)=subs.map fun u=>Value.ref u.i:=by rw [<- ess,List.map_map,List.map_map]; rfl
  refine zip_stop (n:=i) (I.ok.hd hc) DA (by rw [ha,el]) (by rw [el]; exact hln) hz (by rw [eI]; exact hTI) hTO (fun u hu=>?_) ?_ fun h1 k1=>⟨rfl,?_⟩
  ·obtain ⟨v,hv,rfl⟩:=List.mem_map.mp hu
   exact ⟨hs _ (mss v hv),(hss v hv).2.2⟩
  ·obtain ⟨u,hu,e0⟩:=List.mem_map.mp hu0
   have hv:∃ v∈ss,v.1=u:=by rw [<- ess] at hu; exact List.mem_map.mp hu
   obtain ⟨v,hv,rfl⟩:=hv
   subst e0
   refine ⟨(v.1,v.2.1.toArray),List.mem_map.mpr ⟨v,hv,rfl⟩,?_⟩
   have e1:=Sq.inj I (hss v hv).1 hq0
   have e2:=(hss v hv).2.1.length
   rw [e1] at e2
   simp only [List.getElem?_toArray]
   exact List.getElem?_eq_none (by omega)
  ·have kp:∀ b o,b≠z->b≠TO->(∀ u∈subs,b≠u.i)->s.heap.get? b=some o->h1.get? b=some o:=fun b o b1 b2 b3 e=>k1 b o b1 b2 (fun u hu=>by obtain ⟨v,hv,rfl⟩:=List.mem_map.mp hu; exact b3 _ (mss v hv)) e
   have trk:∀ b u,H b=some u->b≠z/\b≠TO/\∀ v∈subs,b≠v.i:=fun b u e=>⟨fun q=>(by subst q; rw [fz.1] at e; cases e),fun q=>(by subst q; rw [fT.1] at e; cases e),fun v hv q=>(by subst q; rw [(fi v hv).1] at e; cases e)⟩
   refine I.step (g':=s.gens) (t':=s.toks) (d':=s.drawn) (ch:=z::TO::subs.map (·.i)) (fun b hb=>?_) (fun b o _ _ hc e _=>kp b o ?_ ?_ ?_ e) (fun b o _ _ hc e _=>⟨o.slots,kp b o ?_ ?_ ?_ e⟩) (fun b o hc e n=>n) (fun b o hc e=>⟨o,kp b o ?_ ?_ ?_ e⟩) (fun b xs e=>e) (fun b o u e=>e) (fun _ _ e=>e) (fun m hm=>?_) (fun b u e=>?_) I.bare
   ·simp only [List.mem_cons,List.mem_map] at hb
    rcases hb with rfl | rfl | ⟨u,hu,rfl⟩
    ·exact ⟨fz.2.2.2.1,fz.2.1,fz.2.2.2.2.1,fz.2.2.2.2.2⟩
    ·exact ⟨fT.2.2.2.1,fT.2.1,fT.2.2.2.2.1,fT.2.2.2.2.2⟩
    ·have f:=fi u hu; exact ⟨f.2.2.2.1,f.2.1,f.2.2.2.2.1,f.2.2.2.2.2⟩
   all_goals first
    | (intro q; exact hc (by simp [q]; done))
    | (intro u hu q; exact hc (by rw [q]; exact List.mem_cons_of_mem _ (List.mem_cons_of_mem _ (List.mem_map.mpr ⟨u,hu,rfl⟩))))
    | skip
   ·obtain ⟨o,es,ep,ho,r⟩:=hm
    exact ⟨o,es,ep,kp _ o (Ne.symm fz.2.1) (Ne.symm fT.2.1) (fun u hu=>Ne.symm (fi u hu).2.1) ho,r⟩
   ·refine (I.hok b u e).stay (fun c v hcc q=>?_) (fun c q=>q) fun c xs q=>q
    rcases hcc with rfl | hcc
    ·exact kp _ v (trk _ _ e).1 (trk _ _ e).2.1 (trk _ _ e).2.2 q
    ·exact kp _ v (trk _ _ hcc).1 (trk _ _ hcc).2.1 (trk _ _ hcc).2.2 q
 self:=fun _ _ _ _ _ st h=>wpAny_pyIter_zip st.1 h
def iZip (K:Frag) (ta:TA):TI:=fun σ H R=>ta σ H fun vs H1=>∃ us:List (Bool×Addr),vs=us.map (fun u=>V.ref u.2)/\(us.length=2\/us.length=3)/\(∀ u∈us,∃ xs,Sq K H1 u.1 u.2 xs)/\R (ItZ K us) H1
theorem neN {a b:Nat} (h:a≠b):(a:Addr)≠b:=h
theorem vals_refs:∀ {us:List (Bool×Addr)} {vs:List Value},Vals (us.map fun u=>V.ref u.2) vs->vs=us.map fun u=>Value.ref u.2:=by
 intro us
 induction us with
 | nil=>intro vs h; cases h; rfl
 | cons u us ih=>
  intro vs h
  cases h with
  | cons r t=>
   have r':_=Value.ref _:=r
   rw [r',ih t]; rfl
theorem subs_i:∀ (us:List (Bool×Addr×Array Value)) (n:Nat),∀ v∈subsFrom n us,n<=v.1.i/\n+us.length>v.1.i:=by
 intro us
 induction us with
 | nil=>exact fun _ _ h=>absurd h List.not_mem_nil
 | cons u r ih=>
  intro n v h
  rcases List.mem_cons.mp h with rfl | h
  ·exact ⟨Nat.le_refl _,by show n+(r.length+1)>n; omega⟩
  ·have:=ih (n+1) v h
   rw [List.length_cons]; omega
theorem subs_nd:∀ (us:List (Bool×Addr×Array Value)) (n:Nat),(subsFrom n us).Pairwise fun u v=>u.1.i≠v.1.i
 | [],_=>.nil
 | u::r,n=>by
  refine List.pairwise_cons.mpr ⟨fun v hv=>?_,subs_nd r (n+1)⟩
  have:=subs_i r (n+1) v hv
  show (n:Nat)≠v.1.i
  omega
theorem subs_src:∀ (us:List (Bool×Addr×Array Value)) (n:Nat),(subsFrom n us).map (fun u=>(u.1.t,u.1.l))=us.map fun u=>(u.1,u.2.1)
 | [],_=>rfl
 | u::r,n=>by unfold subsFrom; rw [List.map_cons,subs_src r,List.map_cons]
section
variable {X:Cx}
theorem pi_zip {a:Expr} {es elts:List Expr} {ta:TA} {p pos tp:Pos} {k:Nat} (hg:Gl X "zip") (hm:X.mg "zip" = none) (ha:PA X (a::es) ta) (hs:starEach (a::es) X.env=(false,eval a X.env)::starEach es X.env:=by rfl)
  (hpl:(backTo pos (starEach es X.env)).any (·.1)=false:=by rfl):PI X (.Tuple elts k tp) (.Call (.Name "zip" p) (a::es) [] pos) (iZip X.K ta):=by
 intro pins s σ H R I h
 refine Call_ (ld_blt I hg hm boot_zip (PyProof.Rows.callWith_type1 (thn (ha pos pins s σ H _ I h) fun vs s1 zz55=>?_) hs hpl))
 obtain ⟨xs,H1,I1,r1,us,e1,hl,hsq,q⟩:=zz55
 subst e1
 have e2:=vals_refs r1
 subst e2
 obtain ⟨ws,ew,hws⟩:=choose_list (R:=fun (u:Bool×Addr) (its:Array Value)=>SrcAt s1.heap (u.1,u.2,its)) (l:=us) (fun u hu=>by
  obtain ⟨ys,hy⟩:=hsq u hu
  obtain ⟨its,_,hsrc⟩:=Sq.src I1 hy
  exact ⟨its.toArray,by unfold SrcAt; unfold Sub.Src at hsrc; exact hsrc⟩)
 have ev:us.map (fun u=>Value.ref u.2)=(ws.map fun w=>(w.1.1,w.1.2,w.2)).map fun u=>Value.ref u.2.1:=by rw [<- ew,List.map_map,List.map_map]; rfl
 have el:(ws.map fun w=>(w.1.1,w.1.2,w.2)).length=us.length:=by rw [<- ew,List.length_map,List.length_map]
 rw [ev]
 generalize hW:(ws.map fun w=>(w.1.1,w.1.2,w.2))=W at el ev
 have hsw:∀ u∈W,SrcAt s1.heap u:=fun u hu=>by
  rw [<- hW] at hu
  obtain ⟨w,hw,rfl⟩:=List.mem_map.mp hu
  exact hws w hw
 refine call_zip W (by rw [el]; exact hl) hsw fun h' hA hTI hTO hz hk=>wpAny_pyIter_zip hz ?_
 have I2:Inv X pins σ H1 { s1 with heap:=h' }:=I1.kept (t':=s1.toks) hk
 have eS:((subsFrom s1.heap.objs.size W).map (·.1)).map (fun u=>(u.t,u.l))=us:=by
  rw [List.map_map]
  show (subsFrom s1.heap.objs.size W).map (fun u=>(u.1.t,u.1.l))=us
  rw [subs_src,<- hW,List.map_map,<- ew]
  rfl
 have D:ZSt (s1.heap.objs.size+W.length+2) (s1.heap.objs.size+W.length) (s1.heap.objs.size+W.length+1) ((subsFrom s1.heap.objs.size W).map (·.1)):=by
  refine ⟨neN (by omega),neN (by omega),neN (by omega),?_,?_,?_,?_⟩
  ·rintro _ hu; obtain ⟨v,hv,rfl⟩:=List.mem_map.mp hu; have:=subs_i W _ v hv; exact neN (by omega)
  ·rintro _ hu; obtain ⟨v,hv,rfl⟩:=List.mem_map.mp hu; have:=subs_i W _ v hv; exact neN (by omega)
  ·rintro _ hu; obtain ⟨v,hv,rfl⟩:=List.mem_map.mp hu; have:=subs_i W _ v hv; exact neN (by omega)
  ·rw [List.pairwise_map]; exact subs_nd W _
 have ls:((subsFrom s1.heap.objs.size W).map (·.1)).length=W.length:=by rw [List.length_map,subs_length]
 have TZ:=turn_zip (P:=X.prog) (w:=X.w) (K:=X.K) (elts:=elts) (k:=k) (tp:=tp) D (by intro q; have:=congrArg List.length q; rw [ls,el] at this; have h0:us.length=0:=this; omega) (by rw [ls,el]; exact Nat.le_trans (show us.length<=3 by omega) (by decide))
 rw [eS] at TZ
 refine ⟨_,_,_,_,H1,rfl,I2,TZ,⟨hz,?_,?_,fun u hu=>?_⟩,fun b hb=>?_,q⟩
 ·rw [List.map_map]; exact hTI
 ·obtain ⟨arr,h1,h2⟩:=hTO
  exact ⟨arr,h1,by rw [ls]; exact h2⟩
 ·obtain ⟨v,hv,rfl⟩:=List.mem_map.mp hu
  exact hA v hv
 ·have hb':s1.heap.objs.size<=b:=by
   simp only [List.mem_cons,List.mem_map] at hb
   rcases hb with rfl | rfl | rfl | ⟨_,⟨v,hv,rfl⟩,rfl⟩
   ·omega
   ·omega
   ·omega
   ·exact (subs_i W _ v hv).1
  have f:=I1.fpOk (H':=H1) hb' (I1.hok.fresh hb')
  exact f
end
end L2
namespace L2
open PySem PySem.Spec PyProof.Rows
theorem relabel_lookup (cs:Scope) (env:Env) (x:Str):(relabel cs env).names.lookup x=(cs.names.lookup x).map fun k=>if (k == .free&&env.scope.kind == .function&&env.kindOf x == some .cell)=true then .cell else k:=by
 unfold relabel
 show List.lookup x (cs.names.map _)=_
 induction cs.names with
 | nil=>rfl
 | cons p r ih=>
  obtain ⟨n,k⟩:=p
  by_cases hx:x=n
  ·subst hx
   rw [List.map_cons]
   simp only [List.lookup_cons]
   split <;> simp_all
  ·have hb:(x == n)=false:=by simpa using hx
   have er:List.lookup x ((n,k)::r)=List.lookup x r:=by rw [List.lookup_cons,hb]
   rw [List.map_cons,er]
   refine Eq.trans ?_ ih
   dsimp only
   by_cases hc:(k == NameKind.free&&env.scope.kind == ScopeKind.function&&env.kindOf n == some NameKind.cell)=true
   ·rw [if_pos hc,List.lookup_cons,hb]
   ·rw [if_neg hc,List.lookup_cons,hb]
theorem closure_of {env : Env} : ∀ (names : List (Str × NameKind)) (cs0 : List (Str × Addr)), (∀ x ∈ names, x.2 = .free -> ∃ c, env.cells.lookup x.1 = some c) -> (∀ x c, cs0.lookup x = some c -> env.cells.lookup x = some c) ->
    ∃ cl, (forIn (m := Sem) names cs0 fun x __s => if (x.snd == NameKind.free) = true then do
              let __do_lift <- cellOf env x.fst
              pure (ForInStep.yield ((x.fst, __do_lift) :: __s))
            else pure (ForInStep.yield __s)) = pure cl /\ (∀ x c, cl.lookup x = some c -> env.cells.lookup x = some c) /\ (∀ x, (x, NameKind.free) ∈ names -> ∃ c, cl.lookup x = some c) /\ ∀ x c, cs0.lookup x = some c -> ∃ c', cl.lookup x = some c' := by
  intro names
  induction names with
  | nil =>
    intro cs0 _ h0
    exact ⟨cs0, by simp only [List.forIn_nil], h0, fun _ h => absurd h List.not_mem_nil, fun _ c h => ⟨c, h⟩⟩
  | cons p r ih =>
    intro cs0 hf h0
    obtain ⟨n, k⟩ := p
    by_cases hk : k = .free
    · subst hk
      obtain ⟨c, hc⟩ := hf (n, .free) List.mem_cons_self rfl
      obtain ⟨cl, e, h1, h2, h3⟩ := ih ((n, c) :: cs0) (fun x hx => hf x (List.mem_cons_of_mem _ hx)) (fun x c' hx => by
        rw [List.lookup_cons] at hx
        split at hx
        · rename_i hb
          have hxn : x = n := by simpa using hb
          cases hx; rw [hxn]; exact hc
        · exact h0 x c' hx)
      have hn : ∃ c', cl.lookup n = some c' := h3 n c (by simp)
      refine ⟨cl, ?_, h1, fun x hx => ?_, fun x c' hx => ?_⟩
      · rw [List.forIn_cons]
        simp only [beq_self_eq_true, if_true, cellOf, hc]
        exact e
      · rcases List.mem_cons.mp hx with q | hx
        · cases q; exact hn
        · exact h2 x hx
      · by_cases hxn : x = n
        · subst hxn; exact hn
        · exact h3 x c' (by
            have hb : (x == n) = false := by simpa using hxn
            rw [List.lookup_cons, hb]; exact hx)
    · have hb : (k == NameKind.free) = false := by simpa using hk
      obtain ⟨cl, e, h1, h2, h3⟩ := ih cs0 (fun x hx => hf x (List.mem_cons_of_mem _ hx)) h0
      refine ⟨cl, ?_, h1, fun x hx => ?_, h3⟩
      · rw [List.forIn_cons]
        simp only [hb, Bool.false_eq_true, if_false]
        exact e
      · rcases List.mem_cons.mp hx with q | hx
        · cases q; exact absurd rfl hk
        · exact h2 x hx
structure CompScope (sc cs:Scope) (N N':List Str):Prop where
 kind:cs.kind=.function
 ncell:∀ x∈cs.names,x.2≠.cell
 loc:∀ x∈cs.names,x.2=.local->cs.names.lookup x.1=some .local
 free:∀ x∈cs.names,x.2=.free->sc.names.lookup x.1=some .cell\/sc.names.lookup x.1=some .free
 nd:N'.Nodup
 len:N.length<=N'.length
 same:∀ i∈List.range N.length,N'[i]?=N[i]?\/∀ x∈N'[i]?,cs.names.lookup x=none
 out:∀ x∈N'.take N.length,cs.names.lookup x≠some .local
abbrev cxComp (X:Cx) (cs:Scope) (cl:List (Str×Addr)) (N':List Str) (ex:List Addr) (s:Shared) (H:Hp):Cx:=
 { X with N:=N',s₀:=s,H₀:=H,env:=compEnvC cs cl s.heap.objs.size X.env,outer:=X.stack,stack:=X.stack,ex:=ex,fn:=fun _=>false,pn:=[],xe:=fun _ _=>False }
def inner (N':List Str) (σ:St):St:=σ++List.replicate (N'.length-σ.length) none
theorem inner_get {N':List Str} {σ:St} {i:Nat} {v:V} (h:(inner N' σ)[i]?=some (some v)):σ[i]?=some (some v):=by
 unfold inner at h
 by_cases hi:i<σ.length
 ·rwa [List.getElem?_append_left hi] at h
 ·rw [List.getElem?_append_right (by omega),List.getElem?_replicate] at h
  split at h <;> cases h
theorem comp_inv {X:Cx} {pins:List (Addr×Obj)} {σ:St} {H:Hp} {s3 s4:Shared} {cs:Scope} {cl:List (Str×Addr)} {N':List Str} {fp:List Addr} {m:Str->Option Value} (S:CompScope X.env.scope cs X.N N') (I:Inv X pins σ H s3)
  (hcl1:∀ x c,cl.lookup x=some c->X.env.cells.lookup x=some c) (hcl2:∀ x,(x,NameKind.free)∈cs.names->∃ c,cl.lookup x=some c) (hf:∀ b∈fp,FpOk X pins H b) (hlt:∀ b∈fp,b<s3.heap.objs.size)
  (kp:∀ b o,s3.heap.get? b=some o->s4.heap.get? b=some o) (hn:s4.heap.Ns s3.heap.objs.size m) (hos:s4.os=s3.os) (hg:s4.gens=s3.gens):Inv (cxComp X cs cl N' fp s3 H) [] (inner N' σ) H s4:=by
 have kcell:∀ {c:Addr} {v:Option Value},s3.heap.IsCell c v->s4.heap.IsCell c v:=fun {c v} z=>by obtain ⟨o,e,d⟩:=z; exact ⟨o,kp c o e,d⟩
 refine ⟨⟨I.ok.mod,S.kind,I.ok.glob,I.ok.blt,Nat.le_refl _,fun x y c h1 h2=>I.ok.inj x y c (hcl1 x c h1) (hcl1 y c h2),fun x hx=>?_,fun x c h _=>absurd (show false=true from h) (by decide),I.ok.hd,I.ok.frames,.inl rfl,fun b hb=>⟨?_,fun x c e=>(hf b hb).2.2.2.2.1 x c (hcl1 x c e)⟩,I.bs,Nat.le_trans I.ok.bsz I.sz,fun b o e hb=>?_,fun b hb hfs=>?_,I.stack,I.stkFree,I.tab⟩,
  hos,by rw [hg]; exact I.bare,Un.kept kp,⟨m,hn,fun i x v e1 e2 e3=>?_⟩,fun x c e=>?_,I.hok.fresh (Nat.le_refl _),fun x c e=>I.freeC x c (hcl1 x c e),fun p hp=>absurd (show p∈([]:List (Addr×Obj)) from hp) (by simp),I.hok.kept kp,?_⟩
 ·have hx':(relabel cs X.env).names.lookup x=some .cell\/(relabel cs X.env).names.lookup x=some .free:=hx
  rw [relabel_lookup] at hx'
  cases hl:cs.names.lookup x with
  | none=>rw [hl] at hx'; rcases hx' with h | h <;> cases h
  | some k=>
   have hm:=PySem.mem_of_lookup hl
   by_cases hk:k=.free
   ·subst hk; exact hcl2 x hm
   ·exfalso
    have hb:(k == NameKind.free)=false:=by simpa using hk
    rw [hl] at hx'
    simp only [Option.map_some,hb,Bool.false_and,Bool.false_eq_true,if_false] at hx'
    rcases hx' with h | h
    ·cases h; exact S.ncell _ hm rfl
    ·cases h; exact hk rfl
 ·intro q
  have hb':b=s3.heap.objs.size:=q
  exact absurd (hlt b hb) (by rw [hb']; exact Nat.lt_irrefl _)
 ·obtain ⟨f0,f1,f2,f3,f4,f5⟩:=hf b hb
  rcases f3 with z | z
  ·exact I.ok.noex b o e z
  ·exact absurd (Nat.lt_of_lt_of_le (Heap.lt_size (I.ok.bs b o e).1) z) (Nat.lt_irrefl _)
 ·have hfs':b∈frs X.stack:=hfs
  rcases List.mem_cons.mp (I.stkSub b hfs') with z | z
  ·exact (hf b hb).2.1 z
  ·exact (hf b hb).2.2.1 z
 ·have e2':=inner_get e2
  have hi:i<X.N.length:=by rw [<- I.len]; exact (List.getElem?_eq_some_iff.mp e2').1
  have e1':N'[i]?=some x:=e1
  have e3':Vis (relabel cs X.env) x:=e3
  have hv:∃ k,cs.names.lookup x=some k:=by
   unfold Vis at e3'
   rw [relabel_lookup] at e3'
   cases hl:cs.names.lookup x with
   | none=>rw [hl] at e3'; rcases e3' with h | h | h <;> cases h
   | some k=>exact ⟨k,rfl⟩
  obtain ⟨k,hk⟩:=hv
  have hN:X.N[i]?=some x:=by
   rcases S.same i (List.mem_range.mpr hi) with q | q
   ·rw [<- q]; exact e1'
   ·have:=q x (by rw [e1']; rfl)
    rw [hk] at this; cases this
  have hnl:k≠.local:=fun q=>by
   subst q
   exact S.out x (List.mem_of_getElem? (i:=i) (by rw [List.getElem?_take_of_lt hi]; exact e1')) hk
  have hm:=PySem.mem_of_lookup hk
  have hfree:k=.free:=by
   unfold Vis at e3'
   rw [relabel_lookup,hk] at e3'
   by_cases hkf:k=.free
   ·exact hkf
   ·exfalso
    have hb:(k == NameKind.free)=false:=by simpa using hkf
    simp only [Option.map_some,hb,Bool.false_and,Bool.false_eq_true,if_false] at e3'
    rcases e3' with h | h | h
    ·exact hnl (Option.some.inj h)
    ·exact S.ncell _ hm (Option.some.inj h)
    ·exact hkf (Option.some.inj h)
  subst hfree
  obtain ⟨m0,hn0,hl0⟩:=I.loc
  have hvis:Vis X.env.scope x:=by
   rcases S.free _ hm rfl with h | h
   ·exact .inr (.inl h)
   ·exact .inr (.inr h)
  obtain ⟨u,r,l⟩:=hl0 i x v hN e2' hvis
  refine ⟨u,r,.inr ⟨?_,?_⟩⟩
  ·show (relabel cs X.env).names.lookup x=some .cell\/(relabel cs X.env).names.lookup x=some .free
   rw [relabel_lookup,hk]
   show some (if _ then _ else _)=_\/some (if _ then _ else _)=_
   split
   ·exact .inl rfl
   ·exact .inr rfl
  ·obtain ⟨c,hc⟩:=hcl2 x hm
   have hc':=hcl1 x c hc
   rcases l with ⟨q,_⟩ | ⟨_,c',e,z⟩
   ·exfalso
    have q':X.env.scope.names.lookup x=some .local:=q
    rcases S.free _ hm rfl with h | h <;> (rw [q'] at h; cases h)
   ·rw [hc'] at e; cases e
    exact ⟨c,hc,kcell z⟩
 ·obtain ⟨v,z⟩:=I.cell x c (hcl1 x c e)
  exact ⟨v,kcell z⟩
 ·unfold inner
  rw [List.length_append,List.length_replicate,I.len]
  have:=S.len
  show _=N'.length
  omega
def GKeep (n:Nat) (g:TG):Prop:=∀ (v:V) (σ:St) (H:Hp) (Q:St->Hp->Prop),g v σ H Q->g v σ H fun σ2 H2=>Q σ2 H2/\σ2.length=σ.length/\∀ j,j<n->σ2[j]?=σ[j]?
def GKeeps (n:Nat) (g:TGs):Prop:=∀ (vs:List V) (σ:St) (H:Hp) (Q:St->Hp->Prop),g vs σ H Q->g vs σ H fun σ2 H2=>Q σ2 H2/\σ2.length=σ.length/\∀ j,j<n->σ2[j]?=σ[j]?
theorem gk_name {n i:Nat} (h:n<=i):GKeep n (gName i):=fun v σ H Q q=>⟨q,by simp,fun j hj=>List.getElem?_set_ne (by omega)⟩
theorem gk_nil {n:Nat}:GKeeps n gNil:=fun vs σ H Q zz56=>by obtain ⟨e,q⟩:=zz56; exact ⟨e,q,rfl,fun _ _=>rfl⟩
theorem gk_cons {n i:Nat} {u:TGs} (h:n<=i) (hu:GKeeps n u):GKeeps n (gCons (gName i) u):=fun vs σ H Q zz57=>by
 obtain ⟨v,r,e,q⟩:=zz57
 refine ⟨v,r,e,?_⟩
 have q':=hu r (σ.set i (some v)) H Q q
 show u r (σ.set i (some v)) H _
 have e1:∀ σ2:St,(σ2.length=(σ.set i (some v)).length/\∀ j,j<n->σ2[j]?=(σ.set i (some v))[j]?)=(σ2.length=σ.length/\∀ j,j<n->σ2[j]?=σ[j]?):=fun σ2=>by
  have:∀ j,j<n->(σ.set i (some v))[j]?=σ[j]?:=fun j hj=>List.getElem?_set_ne (by omega)
  rw [List.length_set]
  exact propext ⟨fun zz58=>by obtain ⟨a,b⟩:=zz58; exact ⟨a,fun j hj=>(b j hj).trans (this j hj)⟩,fun zz59=>by obtain ⟨a,b⟩:=zz59; exact ⟨a,fun j hj=>(b j hj).trans (this j hj).symm⟩⟩
 have e2:(fun (σ2:St) (H2:Hp)=>Q σ2 H2/\σ2.length=σ.length/\∀ j,j<n->σ2[j]?=σ[j]?)=fun σ2 H2=>Q σ2 H2/\σ2.length=(σ.set i (some v)).length/\∀ j,j<n->σ2[j]?=(σ.set i (some v))[j]?:=by
  funext σ2 H2; rw [e1]
 rw [e2]; exact q'
theorem gk_tup {K:Frag} {n k:Nat} {u:TGs} (hu:GKeeps n u):GKeep n (gTup K k u):=fun v σ H Q zz60=>by obtain ⟨a,xs,e,h1,h2,q⟩:=zz60; exact ⟨a,xs,e,h1,h2,hu xs σ H Q q⟩
def PIf (X:Cx) (ifs:List Expr) (t:TT):Prop:=
 ∀ (pins:List (Addr×Obj)) (s:Shared) (σ:St) (H:Hp) (Q:Bool->Hp->Prop),Inv X pins σ H s->t σ H Q ->
  wpAny (model X.prog X.w) X.A (forIn ifs true fun c r=>if r=true then do let ok <- isTrue c X.env (eval c X.env); pure (ForInStep.yield ok) else pure (ForInStep.yield r)) (TP X pins σ Q) X.xe s
def tYes:TT:=fun _ H Q=>Q true H
theorem pif_nil {X:Cx}:PIf X [] tYes:=fun _ _ _ H _ I h=>wpAny_tests_nil ⟨H,I,h⟩
theorem pif_one {X:Cx} {c:Expr} {t:TT} (h:PT X c t):PIf X [c] t:=fun pins s σ H Q I q=>wpAny_tests_one (h pins s σ H Q I q)
def CompW (J:It) (D:Addr) (g:TG) (tc:TT) (te:TE) (σ':St) (H1:Hp) (Q:Hp->Prop):Prop:=
 ∃ W:Nat->Nat->Hp->Prop,(∃ m,W 0 m (upd H1 D (.lst [])))/\∀ i m H2,W i m H2 ->
  (J.stop i H2/\Q H2)\/(J.go i H2/\∀ x H3,J.yld i H2 x H3->g x σ' H3 fun σ4 H4=>tc σ4 H4 fun b H5=>
   if b=true then te σ4 H5 fun y H6=>∃ ys,H6 D=some (.lst ys)/\ys.length<sizeLine/\∃ m',m'<m/\W (i+1) m' (upd H6 D (.lst (ys ++ [y])))
   else ∃ m',m'<m/\W (i+1) m' H5)
def tComp (N':List Str) (wi:TI) (g:TG) (tc:TT) (te:TE):TE:=fun σ H Q=>wi σ H fun J H1=>∀ D,H1 D=none->CompW J D g tc te (inner N' σ) H1 (Q (.ref D))
section
variable {X:Cx} {cs:Scope} {N':List Str} {tg iter elt:Expr} {ifs:List Expr} {wi:TI} {g:TG} {tc:TT} {te:TE} {pos:Pos}
theorem fp_in {cl:List (Str×Addr)} {pins:List (Addr×Obj)} {fp:List Addr} {H3 H':Hp} {s3:Shared} (hcl1:∀ x c,cl.lookup x=some c->X.env.cells.lookup x=some c) (stk:∀ b∈frs X.stack,b∈X.env.locals::X.fs)
  (hf3:∀ b∈fp,FpOk X pins H3 b) (hlt:∀ b∈fp,b<s3.heap.objs.size) (hn:∀ b∈fp,H' b=none):∀ b∈fp,FpOk (cxComp X cs cl N' fp s3 H3) [] H' b:=fun b hb=>by
 obtain ⟨f0,f1,f2,f3,f4,f5⟩:=hf3 b hb
 refine ⟨hn b hb,Nat.ne_of_lt (hlt b hb),fun hfs=>?_,.inl hb,fun x c e=>f4 x c (hcl1 x c e),fun p hp=>absurd (show p∈([]:List (Addr×Obj)) from hp) (by simp)⟩
 have hfs':b∈frs X.stack:=hfs
 rcases List.mem_cons.mp (stk b hfs') with z | z
 ·exact f1 z
 ·exact f2 z
theorem comp_loop {cl:List (Str×Addr)} {pins:List (Addr×Obj)} {σ:St} {R:Result->Shared->Prop} {Q:Hp->Prop} {s3 s4:Shared} {H3:Hp} {it D:Addr} {fp:List Addr} {tn:Nat->Heap->Prop} {J:It} {W:Nat->Nat->Hp->Prop} {m0:Nat}
  (hc:X.calm=true) (hg:PG (cxComp X cs cl N' fp s3 H3) tg g) (hk:GKeep X.N.length g) (ht:PIf (cxComp X cs cl N' fp s3 H3) ifs tc) (he:PE (cxComp X cs cl N' fp s3 H3) elt te)
  (hcl1:∀ x c,cl.lookup x=some c->X.env.cells.lookup x=some c)
  (I3:Inv X pins σ H3 s3) (I4:Inv (cxComp X cs cl N' fp s3 H3) [] (inner N' σ) H3 s4) (T:Turn X.prog X.w X.K tg J fp it tn) (st:tn 0 s4.heap) (hf3:∀ b∈fp,FpOk X pins H3 b) (hlt:∀ b∈fp,b<s3.heap.objs.size)
  (w0:W 0 m0 H3)
  (turn:∀ i m H2,W i m H2->(J.stop i H2/\Q H2)\/(J.go i H2/\∀ x H3,J.yld i H2 x H3->g x (inner N' σ) H3 fun σ4 H4=>tc σ4 H4 fun b H5=>
   if b=true then te σ4 H5 fun y H6=>∃ ys,H6 D=some (.lst ys)/\ys.length<sizeLine/\∃ m',m'<m/\W (i+1) m' (upd H6 D (.lst (ys ++ [y])))
   else ∃ m',m'<m/\W (i+1) m' H5))
  (hR:∀ (H':Hp) (s':Shared),Inv X pins σ H' s'->Q H'->(∃ m,s'.heap.Ns s3.heap.objs.size m)->FpOk X pins H' s3.heap.objs.size->R (.ok .next) s') :
  codeAny (model X.prog X.w) X.A (.compLoop (.ListComp elt [⟨tg,iter,ifs,0⟩] cs pos) 0 (.ref it) (.ref D) (cxComp X cs cl N' fp s3 H3).env) R s4:=by
 have fpx:∀ {H':Hp},(∀ b∈fp,H' b=none)->∀ b∈fp,FpOk (cxComp X cs cl N' fp s3 H3) [] H' b:=fun hn=>fp_in hcl1 I3.stkSub hf3 hlt hn
 have lσ:(inner N' σ).length=N'.length:=I4.len
 refine codeAny_loop rfl (fun n s'=>∃ i H',Inv (cxComp X cs cl N' fp s3 H3) [] (inner N' σ) H' s'/\tn i s'.heap/\(∀ b∈fp,H' b=none)/\W i n H') (fun n s5 hI=>?_) m0 ⟨0,H3,I4,st,fun b hb=>(hf3 b hb).1,w0⟩
 obtain ⟨i,H5,I5,st5,fr5,w5⟩:=hI
 show wpAny _ _ ((compTurn (.ListComp elt [⟨tg,iter,ifs,0⟩] cs pos) 0 (.ref it) (.ref D) (cxComp X cs cl N' fp s3 H3).env).onRaise _) _ _ s5
 refine wpAny_noted ?_
 rw [compTurn_list]
 refine wpAny_bind (wpAny_standAt (wpAny_bind ?_))
 have cvt:∀ {α:Type} {t:Sem α} {P:α->Shared->Prop} {E':Value->Shared->Prop} {s:Shared},wpAny (model X.prog X.w) X.A t P (fun _ _=>False) s->wpAny (model X.prog X.w) X.A t P E' s:=fun h=>wpAny_mono h (fun _ _ q=>q) fun _ _ q=>q.elim
 rcases turn i n H5 w5 with ⟨stop,q⟩ | ⟨go,step⟩
 ·refine thn (T.done (cxComp X cs cl N' fp s3 H3) rfl rfl rfl hc i [] s5 _ H5 _ I5 (fpx fr5) st5 stop) fun r s6 ⟨hr,I6⟩=>?_
  subst hr
  refine wpAny_pure ?_
  have J6:Inv X pins σ H5 s6:=I3.call' (H':=H5) (ch:=fp) I6.os I6.base I6.hok I6.bare fun b hb=>by
   obtain ⟨f0,f1,f2,f3,f4,f5⟩:=hf3 b hb
   exact ⟨f3,f1,f4,f5⟩
  obtain ⟨m,hn,_⟩:=I6.loc
  exact hR H5 s6 J6 q ⟨m,hn⟩ (I3.fpOk (Nat.le_refl _) I6.free)
 ·refine thn (T.item (cxComp X cs cl N' fp s3 H3) rfl rfl rfl hc i [] s5 _ H5 _ I5 (fpx fr5) st5 go) fun r s6 ⟨u,hr,h6⟩=>?_
  subst hr
  refine wpAny_bind (thn h6 fun _ s7 zz63=>?_)
  obtain ⟨x,H7,I7,r7,y7,st7,fr7⟩:=zz63
  have I7':=I7.pinned (fpx fr7) (T.obj _ _ st7)
  refine wpAny_bind (cvt (thn (hg _ s7 _ H7 x u _ I7' r7 (hk x _ H7 _ (step x H7 y7))) fun _ s8 zz64=>?_))
  obtain ⟨σ8,H8,I8,q8,l8,k8⟩:=zz64
  refine wpAny_bind (cvt (thn (ht _ s8 σ8 H8 _ I8 q8) fun b s9 zz65=>?_))
  obtain ⟨H9,I9,q9⟩:=zz65
  have again:∀ {s':Shared} {H':Hp},Inv (cxComp X cs cl N' fp s3 H3) ([]++pinsAt fp s7.heap) σ8 H' s'->(∃ m',m'<n/\W (i+1) m' H') ->
    ∃ m',m'<n/\∃ i H',Inv (cxComp X cs cl N' fp s3 H3) [] (inner N' σ) H' s'/\tn i s'.heap/\(∀ b∈fp,H' b=none)/\W i m' H':=fun {s' H'} I' zz66=>by
   obtain ⟨m',hm,w'⟩:=zz66
   refine ⟨m',hm,i+1,H',(I'.unpinned).weak (by rw [l8]) (fun j v e=>?_),T.keep _ _ _ st7 fun b hb o e=>(I'.pin (b,o) (List.mem_append_right _ (List.mem_append_right _ (mem_pinsAt hb e)))).1,fun b hb=>?_,w'⟩
   ·have hj:j<X.N.length:=by rw [<- I3.len]; exact (List.getElem?_eq_some_iff.mp (inner_get e)).1
    rw [k8 j hj]; exact e
   ·obtain ⟨o,e,d⟩:=T.obj _ _ st7 b hb
    exact (I'.pin (b,o) (List.mem_append_right _ (List.mem_append_right _ (mem_pinsAt hb e)))).2.1
  cases b with
  | false=>
   have q9':∃ m',m'<n/\W (i+1) m' H9:=q9
   exact wpAny_pure ⟨rfl,again I9 q9'⟩
  | true=>
   have q9':te σ8 H9 _:=q9
   refine wpAny_bind (wpAny_bind (cvt (thn (he _ s9 σ8 H9 _ I9 q9') fun v s10 zz67=>?_)))
   obtain ⟨y,H10,I10,r10,ys,hD,hy,q10⟩:=zz67
   refine wpAny_bind (cvt (thn (mt_append _ s10 σ8 H10 (.ref D) [y] (.ref D) [v] (fun _ H'=>∃ m',m'<n/\W (i+1) m' H') I10 rfl (.cons r10 .nil) ⟨D,ys,y,rfl,rfl,hD,hy,q10⟩) fun _ s11 zz68=>?_))
   obtain ⟨_,H11,I11,_,q11⟩:=zz68
   exact wpAny_pure (wpAny_pure ⟨rfl,again I11 q11⟩)
theorem comp_core {cl:List (Str×Addr)} {pins:List (Addr×Obj)} {σ:St} {R:Value->Addr->Result->Shared->Prop} {Q:V->Hp->Prop} {s2:Shared} {itv:Value} (S:CompScope X.env.scope cs X.N N') (hc:X.calm=true)
  (hg:∀ cl ex s H,PG (cxComp X cs cl N' ex s H) tg g) (hk:GKeep X.N.length g) (ht:∀ cl ex s H,PIf (cxComp X cs cl N' ex s H) ifs tc) (he:∀ cl ex s H,PE (cxComp X cs cl N' ex s H) elt te)
  (hcl1:∀ x c,cl.lookup x=some c->X.env.cells.lookup x=some c) (hcl2:∀ x,(x,NameKind.free)∈cs.names->∃ c,cl.lookup x=some c)
  (h:PIE X pins σ tg (fun J H1=>∀ D,H1 D=none->CompW J D g tc te (inner N' σ) H1 (Q (.ref D))) itv s2)
  (hR:∀ (D C:Addr) (H':Hp) (s':Shared),Inv X pins σ H' s'->Q (.ref D) H'->(∃ m,s'.heap.Ns C m)->FpOk X pins H' C->R (.ref D) C (.ok .next) s') :
  wpAny (model X.prog X.w) X.A (newList []) (fun acc s₃=>wpAny (model X.prog X.w) X.A (newFunctionEnv cs X.env.globals cl [] X.env.qual none .none (some X.env)) (fun cenv s₄=>
   codeAny (model X.prog X.w) X.A (.compStart (.ListComp elt [⟨tg,iter,ifs,0⟩] cs pos) 0 itv acc { cenv with scope:=relabel cs X.env }) (R acc cenv.locals) s₄) X.xe s₃) X.xe s2:=by
 obtain ⟨it,fp,tn,J,H2,e,I2,T,st2,f2,hw⟩:=h
 subst e
 refine wpAny_newObj_type (wpAny_newFunctionEnv S.ncell (by intro y hy; simp at hy) (fun h1 hns1 hsb1=>?_) S.kind)
 dsimp only at hns1 hsb1 ⊢
 have hD:=I2.hok.fresh (Nat.le_refl _)
 obtain ⟨W,⟨m0,w0⟩,turn⟩:=hw s2.heap.objs.size hD
 have I3:Inv X pins σ (upd H2 s2.heap.objs.size (.lst [])) { s2 with heap:=s2.heap.push { cls:=.type "list",dict:=none,data:=.seq ([]:List Value).toArray } }:=I2.lnew (t':=s2.toks) .nil (Nat.zero_le _)
 have hfp3:∀ b∈fp,b<s2.heap.objs.size:=fun b hb=>by
  obtain ⟨o,e,_⟩:=T.obj 0 _ st2 b hb
  exact Heap.lt_size e
 have hf3:∀ b∈fp,FpOk X pins (upd H2 s2.heap.objs.size (.lst [])) b:=fun b hb=>by
  obtain ⟨f0,r⟩:=f2 b hb
  exact ⟨by rw [upd_ne (Nat.ne_of_lt (hfp3 b hb))]; exact f0,r⟩
 have hlt:∀ b∈fp,b<(s2.heap.push { cls:=.type "list",dict:=none,data:=.seq ([]:List Value).toArray }).objs.size:=fun b hb=>by rw [Heap.size_push]; exact Nat.lt_succ_of_lt (hfp3 b hb)
 have kp:∀ b o,(s2.heap.push { cls:=.type "list",dict:=none,data:=.seq ([]:List Value).toArray }).get? b=some o->h1.get? b=some o:=fun b o e=>hsb1.extBut b o (Nat.ne_of_lt (Heap.lt_size e)) (Heap.get?_push_of_some _ e)
 have I4:=comp_inv (cs:=cs) (cl:=cl) (N':=N') (fp:=fp) (s4:={ s2 with heap:=h1,toks:=s2.toks+([]:List (Str×Value)).length }) S I3 hcl1 hcl2 hf3 hlt kp hns1 rfl rfl
 have st4:tn 0 h1:=T.keep 0 _ _ st2 fun b hb o e=>kp b o (Heap.get?_push_of_some _ e)
 have loop:=comp_loop (R:=R (.ref s2.heap.objs.size) (s2.heap.push { cls:=.type "list",dict:=none,data:=.seq ([]:List Value).toArray }).objs.size) (D:=s2.heap.objs.size) (iter:=iter) (pos:=pos) (it:=it) (Q:=Q (.ref s2.heap.objs.size)) hc (hg cl fp _ _) hk (ht cl fp _ _) (he cl fp _ _) hcl1 I3 I4 T st4 hf3 hlt w0 turn fun H' s' I' q n f=>hR _ _ H' s' I' q n f
 exact codeAny_compStart_list loop (T.self _ 0 _ _ _ st4 loop)
theorem pe_comp (S:CompScope X.env.scope cs X.N N') (hc:X.calm=true) (hi:PI X tg iter wi)
  (hg:∀ cl ex s H,PG (cxComp X cs cl N' ex s H) tg g) (hk:GKeep X.N.length g) (ht:∀ cl ex s H,PIf (cxComp X cs cl N' ex s H) ifs tc) (he:∀ cl ex s H,PE (cxComp X cs cl N' ex s H) elt te)
  (hs:∀ x,foldedSetIterable iter X.env x=pure x:=by intro _; rfl):PE X (.ListComp elt [⟨tg,iter,ifs,0⟩] cs pos) (tComp N' wi g tc te):=by
 intro pins s σ H Q I h
 obtain ⟨cl,e,h1,h2,_⟩:=closure_of (env:=X.env) cs.names [] (fun x hx hk=>I.ok.has x.1 (S.free x hx hk)) (fun _ _ z=>nomatch z)
 have hclos:closureFor cs X.env=pure cl:=by
  simp only [closureFor]
  rw [e]; rfl
 rw [eval_ListComp]
 refine wpAny_comprehension_free (use:=none) rfl hs hclos S.kind S.loc (thn (hi pins s σ H _ I h) fun v s1 q1=>thn q1 fun itv s2 q2=>?_)
 refine comp_core (R:=fun acc C=>compPost (model X.prog X.w) X.A X.xe none (EP X pins σ Q) acc C) (Q:=Q) S hc hg hk ht he h1 h2 q2 fun D C H' s' I' q n f=>?_
 obtain ⟨m,hn⟩:=n
 obtain ⟨f0,f1,f2,f3,f4,f5⟩:=f
 exact ⟨m,hn,fun h' sb=>⟨.ref D,H',I'.turned (t':=s'.toks) (fun b o hb e=>sb.extBut b o hb e) f0 f1 f3 f4 f5,rfl,q⟩⟩
theorem ps_setc {i:Nat} {y:Str} {py spos:Pos} (S:CompScope X.env.scope cs X.N N') (hc:X.calm=true) (hi:PI X tg iter wi)
  (hg:∀ cl ex s H,PG (cxComp X cs cl N' ex s H) tg g) (hk:GKeep X.N.length g) (ht:∀ cl ex s H,PIf (cxComp X cs cl N' ex s H) ifs tc) (he:∀ cl ex s H,PE (cxComp X cs cl N' ex s H) elt te)
  (hN:X.N.Nodup) (hy:X.N[i]?=some y) (hl:Loc X.env.scope y)
  (hsw:swapsWith (.ListComp elt [⟨tg,iter,ifs,0⟩] cs pos) (some (.Name y py)) spos.line X.env=pure true:=by rfl) (hf:X.fn y=true\/X.env.scope.names.lookup y=some .local:=by first | exact .inl rfl | exact .inr rfl | assumption)
  (hs:∀ x,foldedSetIterable iter X.env x=pure x:=by intro _; rfl):PS X (.Assign [.Name y py] (.ListComp elt [⟨tg,iter,ifs,0⟩] cs pos) spos) (tAsg (tComp N' wi g tc te) (gName i)):=by
 intro pins s σ H Q I h
 obtain ⟨cl,e,h1,h2,_⟩:=closure_of (env:=X.env) cs.names [] (fun x hx hk=>I.ok.has x.1 (S.free x hx hk)) (fun _ _ z=>nomatch z)
 have hclos:closureFor cs X.env=pure cl:=by
  simp only [closureFor]
  rw [e]; rfl
 rw [exec_Assign_Name_used _ _ _ _ hsw]
 refine wpAny_bind (wpAny_standAt (wpAny_bind ?_))
 show wpAny _ _ (comprehension (.ListComp elt [⟨tg,iter,ifs,0⟩] cs pos) cs X.env _ (newList []) false (eval iter X.env) (some (assign (.Name y py) X.env))>>=_) _ _ s
 refine wpAny_bind (thn (wpAny_comprehension_free (use:=some (assign (.Name y py) X.env)) (Q:=fun _ s'=>SP X pins Q .next s') rfl hs hclos S.kind S.loc (thn (hi pins s σ H _ I h) fun v s1 q1=>thn q1 fun itv s2 q2=>?_)) fun _ s' q=>wpAny_pure (wpAny_pure q))
 refine comp_core (R:=fun acc C=>compPost (model X.prog X.w) X.A X.xe (some (assign (.Name y py) X.env)) (fun _ s'=>SP X pins Q .next s') acc C) (Q:=fun x H1=>gName i x σ H1 Q.nx) S hc hg hk ht he h1 h2 q2 fun D C H' s' I' q n f=>?_
 obtain ⟨m,hn⟩:=n
 obtain ⟨f0,f1,f2,f3,f4,f5⟩:=f
 show wpAny _ _ (assign (.Name y py) X.env (.ref D)) _ _ _
 refine wpAny_assign_Name (store_ok2 (v:=.ref D) (u:=.ref D) I' hN hy hl rfl (fun s'' I'' zz69=>?_) hf)
 obtain ⟨a,sb,ha⟩:=zz69
 have hCa:C≠a:=by
  rcases ha with rfl | ha
  ·exact f1
  ·exact fun q=>f4 _ _ ha q.symm
 refine ⟨m,hn.sameBut sb hCa,fun h' sb'=>?_⟩
 exact ⟨_,H',I''.turned (t':=s''.toks) (fun b o hb e=>sb'.extBut b o hb e) f0 f1 f3 f4 f5,q⟩
end
end L2
namespace L2
open PySem PySem.Spec PyProof.Rows
theorem Sq.same {K:Frag} {H H':Hp} {t:Bool} {a:Addr} {xs:List V} (e:Same H H') (h:Sq K H t a xs):Sq K H' t a xs:=by
 unfold Sq at h ⊢
 split
 ·rename_i ht; rw [if_pos ht] at h
  rcases h with (h | ⟨o,h⟩) | h
  ·exact .inl (.inl (e _ _ h))
  ·exact .inl (.inr ⟨o,e _ _ h⟩)
  ·exact .inr h
 ·rename_i ht; rw [if_neg ht] at h
  exact e.seq h
def seqAt (K:Frag) (H:Hp) (p:Addr) (R:List V->Prop):Prop:=match H p with
 | some (.tup xs)=>R xs
 | some (.lst xs)=>R xs
 | _=>∃ t xs,Sq K H t p xs/\R xs
section
variable {X:Cx}
def ItQ (K:Frag) (t:Bool) (a:Addr):It:=if t=true then Itt K a else Itl K a
def iSq (K:Frag) (tl:TE):TI:=fun σ H R=>tl σ H fun x H1=>∃ a,x=.ref a/\∃ t xs,Sq K H1 t a xs/\R (ItQ K t a) H1
theorem pi_sq {tg l:Expr} {tl:TE} (hl:PE X l tl):PI X tg l (iSq X.K tl):=by
 intro pins s σ H R I h
 refine thn (hl pins s σ H _ I h) fun v s1 zz70=>?_
 obtain ⟨x,H1,I1,r1,q1⟩:=zz70
 obtain ⟨a,e,t,xs,hq,q⟩:=q1
 subst e
 cases r1
 cases t with
 | true=>
  have hq':SqT X.K H1 a xs:=by unfold Sq at hq; rw [if_pos rfl] at hq; exact hq
  obtain ⟨its,rv,p,hz⟩:=I1.tuple hq'
  refine wpAny_pyIter_tuple (show s1.heap.IsTuple a its.toArray from p) ?_
  refine ⟨s1.heap.objs.size,[s1.heap.objs.size],_,Itt X.K a,H1,rfl,I1.kept (t':=s1.toks) fun b o e=>Heap.get?_push_of_some _ e,turn_tuple a _,⟨_,Heap.get?_push_size _ rfl,rfl,rfl⟩,fun b hb=>?_,q⟩
  have e:b=s1.heap.objs.size:=by simpa using hb
  subst e
  exact I1.fpOk (Nat.le_refl _) (I1.hok.fresh (Nat.le_refl _))
 | false=>
  have hq':SqL X.K H1 a xs:=by unfold Sq at hq; rw [if_neg Bool.false_ne_true] at hq; exact hq
  obtain ⟨its,rv,p,hz⟩:=I1.list hq'
  refine wpAny_pyIter_list p.isList ?_
  refine ⟨s1.heap.objs.size,[s1.heap.objs.size],_,Itl X.K a,H1,rfl,I1.kept (t':=s1.toks) fun b o e=>Heap.get?_push_of_some _ e,turn_list a _,⟨_,Heap.get?_push_size _ rfl,rfl,rfl⟩,fun b hb=>?_,q⟩
  have e:b=s1.heap.objs.size:=by simpa using hb
  subst e
  exact I1.fpOk (Nat.le_refl _) (I1.hok.fresh (Nat.le_refl _))
theorem bt_bool:bootBuiltins "bool" = some (.type "bool"):=by decide +kernel
theorem bt_int:bootBuiltins "int" = some (.type "int"):=by decide +kernel
theorem bt_list:bootBuiltins "list" = some (.type "list"):=by decide +kernel
theorem bt_tuple:bootBuiltins "tuple" = some (.type "tuple"):=by decide +kernel
theorem bt_max:bootBuiltins "max" = some (.builtin "max"):=by decide +kernel
def tyO:Option HO->Option String
 | some (.lst _)=>some "list"
 | some (.tup _)=>some "tuple"
 | some (.dK _)=>some "dict"
 | _=>none
def tyB (H:Hp):V->Option String
 | .non=>some "NoneType"
 | .bl _=>some "bool"
 | .int _=>some "int"
 | .str _=>some "str"
 | .ref a=>tyO (H a)
 | _=>none
def isiB (A T:String):Option Bool:=
 if A=T then some true else if A = "bool" /\ T = "int" then some true
 else if (A = "NoneType" \/ A = "bool" \/ A = "int" \/ A = "str" \/ A = "list" \/ A = "tuple" \/ A = "dict")/\(T = "bool" \/ T = "int" \/ T = "list" \/ T = "tuple") then some false else none
theorem tyB_ok {K:Frag} {H:Hp} {x:V} {A:String} (h:tyB H x=some A):TyOf K H x (.type A):=by
 cases x with
 | non=>cases h; exact .non
 | bl _=>cases h; exact .bl _
 | int _=>cases h; exact .int _
 | str _=>cases h; exact .str _
 | ref a=>
  have h:tyO (H a)=some A:=h
  cases e:H a with
  | none=>rw [e] at h; cases h
  | some o=>
   rw [e] at h
   cases o <;> first | (cases h; exact .lst e) | (cases h; exact .tup e) | (cases h; exact .dK e) | cases h
 | _=>cases h
theorem isiB_ok {K:Frag} {A T:String} {b:Bool} (h:isiB A T=some b):PySem.W.kitOne K (.type A) (.type T)=some b:=by
 unfold isiB at h
 split at h
 ·rename_i e; subst e; cases h
  unfold PySem.W.kitOne
  rw [if_pos (by simp)]
 ·split at h
  ·rename_i e; obtain ⟨rfl,rfl⟩:=e; cases h; with_unfolding_all rfl
  ·split at h
   ·rename_i h1 h2 e
    obtain ⟨e1,e2⟩:=e
    cases h
    rcases e1 with rfl | rfl | rfl | rfl | rfl | rfl | rfl <;> rcases e2 with rfl | rfl | rfl | rfl <;>
     first | exact absurd rfl h1 | exact absurd ⟨rfl,rfl⟩ h2 | with_unfolding_all rfl
   ·cases h
def rIsi:List V->Hp->VK->Prop:=fun xs H Q=>∃ x T,xs = [x,.ty T]/\∃ A,tyB H x=some A/\∃ b,isiB A T=some b/\Q (.bl b) H
theorem call_isi:CallR X (.builtin "isinstance") rIsi:=by
 intro pins s σ H xs us Q I r h
 obtain ⟨x,T,rfl,A,ty,b,e,q⟩:=h
 obtain ⟨u,w',rfl,r1,r2⟩:=vals2 r
 have e2:w'=Value.type T:=r2
 subst e2
 exact isinst_ok I r1 (tyB_ok ty) (isiB_ok e) fun tk=>⟨.bl b,H,I.tok tk,rfl,q⟩
end
theorem isi_bb:isiB "bool" "bool" = some true:=by decide
theorem isi_bi:isiB "bool" "int" = some true:=by decide
theorem isi_ib:isiB "int" "bool" = some false:=by decide
theorem isi_ii:isiB "int" "int" = some true:=by decide
theorem isi_tt:isiB "tuple" "tuple" = some true:=by decide
theorem isi_ll:isiB "list" "list" = some true:=by decide
theorem isi_ni:isiB "NoneType" "int" = some false:=by decide
theorem isi_nb:isiB "NoneType" "bool" = some false:=by decide
theorem isi_si:isiB "str" "int" = some false:=by decide
theorem isi_sb:isiB "str" "bool" = some false:=by decide
theorem isi_li:isiB "list" "int" = some false:=by decide
theorem isi_lb:isiB "list" "bool" = some false:=by decide
theorem isi_ti:isiB "tuple" "int" = some false:=by decide
theorem isi_tb:isiB "tuple" "bool" = some false:=by decide
theorem ixN_int {n:Nat} {i:Int} (h0:0<=i) (h1:i<n):ixN n i=some i.toNat:=by unfold ixN; rw [if_pos h0,if_pos h1]
theorem mem_getD {ms:List Int} {P:Int->Prop} (h:∀ x∈ms,P x) {i:Nat} (hi:i<ms.length):P (ms.getD i 0):=by
 have:ms.getD i 0=ms[i]:=by simp [hi]
 rw [this]; exact h _ (List.getElem_mem hi)
structure Runs (J:It) (n:Nat) (H1:Hp) (Y:Nat->V->Hp->Hp->Prop):Prop where
 go:∀ i H,i<n->Same H1 H->J.go i H
 stop:∀ H,Same H1 H->J.stop n H
 yld:∀ i H x H',i<n->Same H1 H->J.yld i H x H'->Y i x H H'
theorem runs_zip2 {K:Frag} {t u:Bool} {a b:Addr} {xs ys:List V} {H1:Hp} (h:Sq K H1 t a xs) (h':Sq K H1 u b ys) :
  Runs (ItZ K [(t,a),(u,b)]) (min xs.length ys.length) H1 fun i x H H'=>∃ p y z,x=.ref p/\H p=none/\H'=upd H p (.tup [y,z])/\xs[i]?=some y/\ys[i]?=some z:=by
 refine ⟨fun i H hi s v hv=>?_,fun H s=>⟨fun v hv=>?_,?_⟩,fun i H x H' hi s hy=>?_⟩
 ·simp only [List.mem_cons,List.not_mem_nil,or_false] at hv
  rcases hv with rfl | rfl
  ·exact ⟨xs,xs[i]'(Nat.lt_of_lt_of_le hi (Nat.min_le_left _ _)),Sq.same s h,by simp⟩
  ·exact ⟨ys,ys[i]'(Nat.lt_of_lt_of_le hi (Nat.min_le_right _ _)),Sq.same s h',by simp⟩
 ·simp only [List.mem_cons,List.not_mem_nil,or_false] at hv
  rcases hv with rfl | rfl
  ·exact ⟨xs,Sq.same s h⟩
  ·exact ⟨ys,Sq.same s h'⟩
 ·rcases Nat.le_total xs.length ys.length with q | q
  ·exact ⟨(t,a),by simp,xs,Sq.same s h,by omega⟩
  ·exact ⟨(u,b),by simp,ys,Sq.same s h',by omega⟩
 ·obtain ⟨p,zs,e1,e2,e3,pr⟩:=hy
  cases pr with
  | cons r1 pr=>
   cases pr with
   | cons r2 pr=>
    cases pr
    exact ⟨p,_,_,e1,e2,e3,r1 xs (Sq.same s h),r2 ys (Sq.same s h')⟩
theorem runs_zip3 {K:Frag} {t u w:Bool} {a b c:Addr} {xs ys zs:List V} {H1:Hp} (h:Sq K H1 t a xs) (h':Sq K H1 u b ys) (h'':Sq K H1 w c zs) :
  Runs (ItZ K [(t,a),(u,b),(w,c)]) (min xs.length (min ys.length zs.length)) H1 fun i x H H'=>∃ p y z v,x=.ref p/\H p=none/\H'=upd H p (.tup [y,z,v])/\xs[i]?=some y/\ys[i]?=some z/\zs[i]?=some v:=by
 refine ⟨fun i H hi s v hv=>?_,fun H s=>⟨fun v hv=>?_,?_⟩,fun i H x H' hi s hy=>?_⟩
 ·simp only [List.mem_cons,List.not_mem_nil,or_false] at hv
  rcases hv with rfl | rfl | rfl
  ·exact ⟨xs,xs[i]'(Nat.lt_of_lt_of_le hi (Nat.min_le_left _ _)),Sq.same s h,by simp⟩
  ·exact ⟨ys,ys[i]'(Nat.lt_of_lt_of_le hi (Nat.le_trans (Nat.min_le_right _ _) (Nat.min_le_left _ _))),Sq.same s h',by simp⟩
  ·exact ⟨zs,zs[i]'(Nat.lt_of_lt_of_le hi (Nat.le_trans (Nat.min_le_right _ _) (Nat.min_le_right _ _))),Sq.same s h'',by simp⟩
 ·simp only [List.mem_cons,List.not_mem_nil,or_false] at hv
  rcases hv with rfl | rfl | rfl
  ·exact ⟨xs,Sq.same s h⟩
  ·exact ⟨ys,Sq.same s h'⟩
  ·exact ⟨zs,Sq.same s h''⟩
 ·have:min xs.length (min ys.length zs.length)=xs.length\/min xs.length (min ys.length zs.length)=ys.length\/min xs.length (min ys.length zs.length)=zs.length:=by omega
  rcases this with q | q | q
  ·exact ⟨(t,a),by simp,xs,Sq.same s h,by omega⟩
  ·exact ⟨(u,b),by simp,ys,Sq.same s h',by omega⟩
  ·exact ⟨(w,c),by simp,zs,Sq.same s h'',by omega⟩
 ·obtain ⟨p,vs,e1,e2,e3,pr⟩:=hy
  cases pr with
  | cons r1 pr=>
   cases pr with
   | cons r2 pr=>
    cases pr with
    | cons r3 pr=>
     cases pr
     exact ⟨p,_,_,_,e1,e2,e3,r1 xs (Sq.same s h),r2 ys (Sq.same s h'),r3 zs (Sq.same s h'')⟩
structure Def (K:Frag) (mg:Str->Option Value) (x:Str) (st:Stmt) (ps:List Str) (f:Addr) (fd:FuncData):Prop where
 F:Fun K x x st f fd
 m:mg x=some (.ref f)
 b:Binds K fd ps []
section
variable {X:Cx}
theorem pg_tupK (K:Frag) {es:List Expr} {pos:Pos} {k:Nat} {t:TGs} (n:Nat) (hc:X.calm=true) (h:PGs X es t) (hK:X.K=K:=by rfl)
  (hn:(assignEach es X.env).length=n:=by rfl) (hst:(assignEach es X.env).findIdx? (·.1)=none:=by rfl):PG X (.Tuple es k pos) (gTup K n t):=by subst hK; exact pg_tup hc h hn hst
def tApp (to:TE) (te:TE):TE:=fun σ H Q=>to σ H fun x H1=>∃ p,x=.ref p/\(∃ xs,H1 p=some (.lst xs))/\te σ H1 fun y H2=>match H2 p with
 | some (.lst xs)=>xs.length<sizeLine/\Q .non (upd H2 p (.lst (xs ++ [y])))
 | _=>False
theorem pe_append {o e:Expr} {to te:TE} {apos cpos:Pos} (ho:PE X o to) (ha:PE X e te)
  (hbase:attributeBase o "append" X.env (eval o X.env)=eval o X.env:=by rfl)
  (hfew:((backTo cpos (starEach [e] X.env)).all (fun x=>!x.1)&&(backToKw cpos (keywordEach [] X.env)).all (fun x=>x.1.isSome)
   && decide (([e]:List Expr).length+([]:List Keyword).length+(if ([]:List Keyword).isEmpty then 0 else 1)<30))=true:=by rfl)
  (hline:(apos.endLine == cpos.line)=true:=by rfl) (hs:starEach [e] X.env=(false,eval e X.env)::starEach [] X.env:=by rfl):PE X (.Call (.Attribute o "append" apos) [e] [] cpos) (tApp to te):=by
 intro pins s σ H Q I h
 refine wpAny_Call_method_late hbase hfew hline rfl (thn (ho pins s σ H _ I h) fun v s1 zz71=>?_)
 obtain ⟨x,H1,I1,r1,p,ex,⟨xs,e1⟩,q1⟩:=zz71
 subst ex
 obtain ⟨h1,h2⟩:=tyV_is (T := "list") I1 r1 (.inl ⟨rfl,xs,SqL.of e1⟩)
 refine ⟨"list", "list.append",PySem.F.plainAttrs_list,PySem.F.slot_list_append,PySem.F.type_list_append,h1,h2,?_⟩
 have hA:=pa_cons ha pa_nil hs cpos pins s1 σ H1 (fun vs H2=>∃ y,vs = [y]/\match H2 p with
  | some (.lst xs)=>xs.length<sizeLine/\Q .non (upd H2 p (.lst (xs ++ [y])))
  | _=>False) I1 (by
   have e:(fun (y:V) (H2:Hp)=>match H2 p with
     | some (.lst xs)=>xs.length<sizeLine/\Q .non (upd H2 p (.lst (xs ++ [y])))
     | _=>False)=fun (y:V) (H2:Hp)=>∃ y',[y] = [y']/\match H2 p with
     | some (.lst xs)=>xs.length<sizeLine/\Q .non (upd H2 p (.lst (xs ++ [y'])))
     | _=>False:=by
    funext y H2
    exact propext ⟨fun q=>⟨y,rfl,q⟩,fun zz72=>by obtain ⟨y',e,q⟩:=zz72; cases e; exact q⟩
   rw [e] at q1
   exact q1)
 rw [hs] at hA ⊢
 refine Calls.callWith_builtin rfl (Calls.evalArgs_plain ?_)
 refine thn hA fun us s2 zz73=>?_
 obtain ⟨vs,H2,I2,r2,y,ev,q2⟩:=zz73
 subst ev
 refine mt_append pins s2 σ H2 (.ref p) [y] v us Q I2 r1 r2 ?_
 split at q2
 ·rename_i ys e2; exact ⟨p,ys,y,rfl,rfl,e2,q2.1,q2.2⟩
 ·exact q2.elim
end
def rSlA (K:Frag):V->Option Int->Option Int->Hp->VK->Prop:=fun x lo hi H Q=>∃ p,x=.ref p/\∃ xs,SqL K H p xs/\∀ l,H l=none->Q (.ref l) (upd H l (.lst (cutV xs lo hi)))
section
variable {X:Cx}
end
def CPowB (i j:Int):Prop:=0<=j/\(Builtin.Int.intBits i:Int)*j<=2^27
theorem getD_of {ns:List Int} {i:Nat} {z:Int} (h:ns[i]?=some z):ns.getD i 0=z:=by rw [List.getD_eq_getElem?_getD,h]; rfl
theorem some_getD {ns:List Int} {i:Nat} (h:i<ns.length):ns[i]?=some (ns.getD i 0):=by rw [List.getD_eq_getElem?_getD]; simp [h]
end L2
namespace TP
open PySem L2
inductive W where
 | non | bl (b:Bool) | int (i:Int) | str (x:Str) | ty (n:String) | tup (ws:List W) | lst (ws:List W) | scr (ws:List W)
 | exc (c:Str) (i:Option Int) | cls (c:Str)
def XD (F:Hp) (od:Option Addr):Option Int->Prop
 | none=>od=none
 | some i=>∃ d,od=some d/\F d=some (.xd [("at",.int i)])
mutual
inductive Rep (K:Frag) (F:Hp):V->W->Prop where
 | non:Rep K F .non .non
 | bl {b:Bool}:Rep K F (.bl b) (.bl b)
 | int {i:Int}:Rep K F (.int i) (.int i)
 | str {x:Str}:Rep K F (.str x) (.str x)
 | ty {n:String}:Rep K F (.ty n) (.ty n)
 | tup {a:Addr} {vs:List V} {ws:List W}:F a=some (.tup vs)->Reps K F vs ws->Rep K F (.ref a) (.tup ws)
 | lst {a:Addr} {vs:List V} {ws:List W}:F a=some (.lst vs)->Reps K F vs ws->Rep K F (.ref a) (.lst ws)
 | scr {a:Addr} {vs:List V} {ws:List W}:SqL K F a vs->Reps K F vs ws->Rep K F (.ref a) (.scr ws)
 | exc {a C:Addr} {o:Obj} {vs:Array Value} {c:Str} {i:Option Int}:F a=some (.ext fun h=>h.get? a=some o)->o.cls=.ref C->o.data=.fields vs->PySem.W.nsIn K mainGlobals c=some (some (.ref C))->XD F o.dict i->Rep K F (.ref a) (.exc c i)
 | cls {C:Addr} {c:Str}:PySem.W.nsIn K mainGlobals c=some (some (.ref C))->Rep K F (.ref C) (.cls c)
inductive Reps (K:Frag) (F:Hp):List V->List W->Prop where
 | nil:Reps K F [] []
 | cons {v:V} {w:W} {vs:List V} {ws:List W}:Rep K F v w->Reps K F vs ws->Reps K F (v::vs) (w::ws)
end
section
variable {K:Frag} {F F':Hp}
theorem sqT_same {a:Addr} {xs:List V} (e:Same F F') (h:SqT K F a xs):SqT K F' a xs:=by
 rcases h with (h | ⟨o,h⟩) | h
 ·exact .inl (.inl (e _ _ h))
 ·exact .inl (.inr ⟨o,e _ _ h⟩)
 ·exact .inr h
theorem XD.same (e:Same F F') {od:Option Addr}:∀ {i:Option Int},XD F od i->XD F' od i:=by
 intro i h
 cases i with
 | none=>exact h
 | some _=>obtain ⟨d,h1,h2⟩:=h; exact ⟨d,h1,e _ _ h2⟩
theorem Rep.same (e:Same F F') {v:V} {w:W} (r:Rep K F v w):Rep K F' v w:=
 @Rep.rec K F (fun v w _=>Rep K F' v w) (fun vs ws _=>Reps K F' vs ws) .non .bl .int .str .ty (fun h _ r=>.tup (e _ _ h) r) (fun h _ r=>.lst (e _ _ h) r) (fun h _ r=>.scr (Same.seq e h) r) (fun h1 h2 h3 h4 h5=>.exc (e _ _ h1) h2 h3 h4 (XD.same e h5)) (fun h=>.cls h) .nil (fun _ _ a b=>.cons a b) v w r
theorem Reps.same (e:Same F F') {vs:List V} {ws:List W} (r:Reps K F vs ws):Reps K F' vs ws:=
 @Reps.rec K F (fun _ _ _=>True) (fun vs ws _=>Reps K F' vs ws) trivial trivial trivial trivial trivial (fun _ _ _=>trivial) (fun _ _ _=>trivial) (fun _ _ _=>trivial) (fun _ _ _ _ _=>trivial) (fun _=>trivial) .nil (fun h _ _ b=>.cons (Rep.same e h) b) vs ws r
theorem Reps.ind {P:List V->List W->Prop} (h0:P [] []) (h1:∀ {v:V} {w:W} {vs:List V} {ws:List W},Rep K F v w->Reps K F vs ws->P vs ws->P (v::vs) (w::ws)) {vs:List V} {ws:List W} (r:Reps K F vs ws):P vs ws:=
 @Reps.rec K F (fun _ _ _=>True) (fun vs ws _=>P vs ws) trivial trivial trivial trivial trivial (fun _ _ _=>trivial) (fun _ _ _=>trivial) (fun _ _ _=>trivial) (fun _ _ _ _ _=>trivial) (fun _=>trivial) h0 (fun h r _ b=>h1 h r b) vs ws r
def RepI (K:Frag) (F:Hp) (v:V):W->Prop
 | .non=>v=.non
 | .bl b=>v=.bl b
 | .int i=>v=.int i
 | .str x=>v=.str x
 | .ty n=>v=.ty n
 | .tup ws=>∃ a vs,v=.ref a/\F a=some (.tup vs)/\Reps K F vs ws
 | .lst ws=>∃ a vs,v=.ref a/\F a=some (.lst vs)/\Reps K F vs ws
 | .scr ws=>∃ a vs,v=.ref a/\SqL K F a vs/\Reps K F vs ws
 | .exc _ _=>True
 | .cls _=>True
theorem Rep.inv {v:V} {w:W} (r:Rep K F v w):RepI K F v w:=
 @Rep.rec K F (fun v w _=>RepI K F v w) (fun _ _ _=>True) rfl rfl rfl rfl rfl (fun h r _=>⟨_,_,rfl,h,r⟩) (fun h r _=>⟨_,_,rfl,h,r⟩) (fun h r _=>⟨_,_,rfl,h,r⟩) (fun _ _ _ _ _=>trivial) (fun _=>trivial) trivial (fun _ _ _ _=>trivial) v w r
def RepsI (K:Frag) (F:Hp) (vs:List V):List W->Prop
 | []=>vs = []
 | w::ws=>∃ v us,vs=v::us/\Rep K F v w/\Reps K F us ws
theorem Reps.length {vs:List V} {ws:List W} (r:Reps K F vs ws):vs.length=ws.length:=
 Reps.ind (P:=fun vs ws=>vs.length=ws.length) rfl (fun _ _ h=>congrArg (·+1) h) r
theorem Reps.get {vs:List V} {ws:List W} {i:Nat} {w:W} (r:Reps K F vs ws):ws[i]?=some w->∃ v,vs[i]?=some v/\Rep K F v w:=
 Reps.ind (P:=fun vs ws=>∀ (i:Nat) (w:W),ws[i]?=some w->∃ v,vs[i]?=some v/\Rep K F v w) (fun i w e=>by cases e) (fun h _ b i w e=>by
  cases i with
  | zero=>cases e; exact ⟨_,rfl,h⟩
  | succ i=>exact b i w e) r i w
theorem Reps.get' {vs:List V} {ws:List W} {i:Nat} {v:V} (r:Reps K F vs ws):vs[i]?=some v->∃ w,ws[i]?=some w/\Rep K F v w:=
 Reps.ind (P:=fun vs ws=>∀ (i:Nat) (v:V),vs[i]?=some v->∃ w,ws[i]?=some w/\Rep K F v w) (fun i w e=>by cases e) (fun h _ b i w e=>by
  cases i with
  | zero=>cases e; exact ⟨_,rfl,h⟩
  | succ i=>exact b i w e) r i v
theorem Reps.append {vs us:List V} {ws xs:List W} (r:Reps K F vs ws) (s:Reps K F us xs):Reps K F (vs++us) (ws++xs):=
 Reps.ind (P:=fun vs ws=>Reps K F (vs++us) (ws++xs)) s (fun h _ b=>.cons h b) r
theorem Reps.take {vs:List V} {ws:List W} (n:Nat) (r:Reps K F vs ws):Reps K F (vs.take n) (ws.take n):=
 Reps.ind (P:=fun vs ws=>∀ n,Reps K F (vs.take n) (ws.take n)) (fun n=>by simpa using .nil) (fun h _ b n=>by
  cases n with
  | zero=>exact .nil
  | succ n=>exact .cons h (b n)) r n
theorem Reps.drop {vs:List V} {ws:List W} (n:Nat) (r:Reps K F vs ws):Reps K F (vs.drop n) (ws.drop n):=
 Reps.ind (P:=fun vs ws=>∀ n,Reps K F (vs.drop n) (ws.drop n)) (fun n=>by simpa using .nil) (fun h r b n=>by
  cases n with
  | zero=>exact .cons h r
  | succ n=>exact b n) r n
theorem Reps.set {v:V} {w:W} (h:Rep K F v w) {vs:List V} {ws:List W} (i:Nat) (r:Reps K F vs ws):Reps K F (vs.set i v) (ws.set i w):=
 Reps.ind (P:=fun vs ws=>∀ i,Reps K F (vs.set i v) (ws.set i w)) (fun _=>.nil) (fun q t b i=>by
  cases i with
  | zero=>exact .cons h t
  | succ i=>exact .cons q (b i)) r i
theorem Reps.snoc {vs:List V} {ws:List W} {v:V} {w:W} (r:Reps K F vs ws) (h:Rep K F v w):Reps K F (vs ++ [v]) (ws ++ [w]):=r.append (.cons h .nil)
end
mutual
def noL:W->Bool
 | .lst _=>false
 | .scr _=>false
 | .tup ws=>noLs ws
 | _=>true
def noLs:List W->Bool
 | []=>true
 | w::ws=>noL w&&noLs ws
end
def isL:HO->Bool
 | .lst _=>true
 | .dT _=>true
 | .dK _=>true
 | .frz _ (.lst _)=>true
 | _=>false
def join (H0 G:Hp):Hp:=fun a=>match H0 a with
 | some o=>if isL o then some o else G a
 | none=>G a
inductive Sl where
 | un | val (w:W) | par (w:W) | own (ws:List W) | dic (ks:List (List Int)) | dik (ks:List Int) | iop (p:Addr) (ws:List W) | hz (w:W)
abbrev Rho:=List Sl
def noLG (G:Hp):Hp:=fun a=>match G a with
 | some o=>if isL o then none else some o
 | none=>none
theorem noLG_same {G G':Hp} (h:Same G G'):Same (noLG G) (noLG G'):=fun a o e=>by
 unfold noLG at e ⊢
 cases q:G a with
 | none=>rw [q] at e; cases e
 | some u=>rw [q] at e; rw [h a u q]; exact e
theorem noLG_sub {G:Hp}:Same (noLG G) G:=fun a o e=>by
 unfold noLG at e
 cases q:G a with
 | none=>rw [q] at e; cases e
 | some u=>
  rw [q] at e
  dsimp only at e
  cases hl:isL u
  ·rw [hl] at e; exact e
  ·rw [hl] at e; cases e
def SlR (K:Frag) (H0 G H:Hp):Sl->Option V->Prop
 | .un,_=>True
 | .val w,o=>∃ v,o=some v/\Rep K G v w
 | .par w,o=>∃ v,o=some v/\Rep K (join H0 G) v w
 | .own ws,o=>∃ a vs,o=some (.ref a)/\H a=some (.lst vs)/\G a=none/\H0 a=none/\Reps K G vs ws
 | .dic ks,o=>∃ (a:Addr) (kvs:List (List Key×V)),o=some (.ref a)/\H a=some (.dT kvs)/\G a=none/\H0 a=none/\kvs.map (·.1)=ks.map fun k=>k.map Sum.inl
 | .dik ks,o=>∃ (a:Addr) (kvs:List (Key×V)),o=some (.ref a)/\H a=some (.dK kvs)/\G a=none/\H0 a=none/\kvs.map (·.1)=ks.map Sum.inl
 | .iop p ws,o=>o=some (.ref p)/\∃ vs,H0 p=some (.lst vs)/\Reps K G vs ws
 | .hz w,o=>∃ v,o=some v/\Rep K (join H0 (noLG G)) v w
structure PIv (K:Frag) (H0 G:Hp) (ρ:Rho) (σ:St) (H:Hp):Prop where
 g0:∀ a o,H0 a=some o->isL o=false->G a=some o
 gl:∀ a o,H0 a=some o->isL o=true->G a=none
 gh:Same G H
 hh:Same H0 H
 len:ρ.length=σ.length
 sl:∀ (i:Nat) (x:Sl) (o:Option V),ρ[i]?=some x->σ[i]?=some o->SlR K H0 G H x o
 ne:∀ (i j:Nat) (ws us:List W) (a:Addr),i≠j->ρ[i]?=some (.own ws)->ρ[j]?=some (.own us)->σ[i]?=some (some (.ref a))->σ[j]?≠some (some (.ref a))
structure Ext (G H G' H':Hp):Prop where
 gg:Same G G'
 hh:Same H H'
 gh:Same G' H'
 keep:∀ a o,H a=some o->isL o=true->G a=none->G' a=none
theorem Ext.refl {G H:Hp} (h:Same G H):Ext G H G H:=⟨Same.refl G,Same.refl H,h,fun _ _ _ _ e=>e⟩
theorem Ext.trans {G H G1 H1 G2 H2:Hp} (a:Ext G H G1 H1) (b:Ext G1 H1 G2 H2):Ext G H G2 H2:=
 ⟨a.gg.trans b.gg,a.hh.trans b.hh,b.gh,fun x o h l e=>b.keep x o (a.hh x o h) l (a.keep x o h l e)⟩
section
variable {K:Frag} {H0 G H G' H':Hp} {ρ:Rho} {σ:St}
theorem join_same (h:Same G G'):Same (join H0 G) (join H0 G'):=fun a o e=>by
 unfold join at e ⊢
 cases q:H0 a with
 | none=>rw [q] at e; exact h a o e
 | some u=>
  rw [q] at e
  dsimp only at e ⊢
  by_cases hl:isL u=true
  ·rw [if_pos hl] at e ⊢; exact e
  ·rw [if_neg hl] at e ⊢; exact h a o e
theorem PIv.G_join (I:PIv K H0 G ρ σ H):Same G (join H0 G):=fun a o e=>by
 unfold join
 cases q:H0 a with
 | none=>exact e
 | some u=>
  dsimp only
  by_cases hl:isL u=true
  ·rw [I.gl a u q hl] at e; cases e
  ·rw [if_neg hl]; exact e
theorem PIv.join_H (I:PIv K H0 G ρ σ H):Same (join H0 G) H:=fun a o e=>by
 unfold join at e
 cases q:H0 a with
 | none=>rw [q] at e; exact I.gh a o e
 | some u=>
  rw [q] at e
  dsimp only at e
  by_cases hl:isL u=true
  ·rw [if_pos hl] at e; cases e; exact I.hh a _ q
  ·rw [if_neg hl] at e; exact I.gh a o e
theorem PIv.ext (I:PIv K H0 G ρ σ H) (x:Ext G H G' H'):PIv K H0 G' ρ σ H' where
 g0 a o e l:=x.gg a o (I.g0 a o e l)
 gl a o e l:=x.keep a o (I.hh a o e) l (I.gl a o e l)
 gh:=x.gh
 hh:=I.hh.trans x.hh
 len:=I.len
 sl i s o h1 h2:=by
  have:=I.sl i s o h1 h2
  cases s with
  | un=>trivial
  | val w=>obtain ⟨v,e,r⟩:=this; exact ⟨v,e,r.same x.gg⟩
  | par w=>obtain ⟨v,e,r⟩:=this; exact ⟨v,e,r.same (join_same x.gg)⟩
  | own ws=>
   obtain ⟨a,vs,e,h,g,h0,r⟩:=this
   exact ⟨a,vs,e,x.hh a _ h,x.keep a _ h rfl g,h0,r.same x.gg⟩
  | dic ks=>
   obtain ⟨a,kvs,e,h,g,h0,r⟩:=this
   exact ⟨a,kvs,e,x.hh a _ h,x.keep a _ h rfl g,h0,r⟩
  | dik ks=>
   obtain ⟨a,kvs,e,h,g,h0,r⟩:=this
   exact ⟨a,kvs,e,x.hh a _ h,x.keep a _ h rfl g,h0,r⟩
  | iop p ws=>
   obtain ⟨e,vs,h,r⟩:=this
   exact ⟨e,vs,h,r.same x.gg⟩
  | hz w=>obtain ⟨v,e,r⟩:=this; exact ⟨v,e,r.same (join_same (noLG_same x.gg))⟩
 ne:=I.ne
theorem join_noL {a:Addr} {o:HO} (h:join H0 G a=some o) (l:isL o=false):G a=some o:=by
 unfold join at h
 cases q:H0 a with
 | none=>rw [q] at h; exact h
 | some u=>
  rw [q] at h
  dsimp only at h
  by_cases hl:isL u=true
  ·rw [if_pos hl] at h; cases h; rw [hl] at l; cases l
  ·rw [if_neg hl] at h; exact h
theorem XD.clean {od:Option Addr}:∀ {i:Option Int},XD (join H0 G) od i->XD G od i
 | none,h=>h
 | some _,⟨d,h1,h2⟩=>⟨d,h1,join_noL h2 rfl⟩
theorem Rep.clean (I:PIv K H0 G ρ σ H) {v:V} {w:W} (r:Rep K (join H0 G) v w):noL w=true->Rep K G v w:=
 @Rep.rec K (join H0 G) (fun v w _=>noL w=true->Rep K G v w) (fun vs ws _=>noLs ws=true->Reps K G vs ws) (fun _=>.non) (fun _=>.bl) (fun _=>.int) (fun _=>.str) (fun _=>.ty)
  (fun h _ r n=>.tup (join_noL h rfl) (r n)) (fun _ _ _ n=>by cases n) (fun _ _ _ n=>by cases n) (fun h1 h2 h3 h4 h5 _=>.exc (join_noL h1 rfl) h2 h3 h4 (XD.clean h5)) (fun h _=>.cls h) (fun _=>.nil)
  (fun _ _ a b n=>by rw [noLs,Bool.and_eq_true] at n; exact .cons (a n.1) (b n.2)) v w r
theorem Reps.clean (I:PIv K H0 G ρ σ H) {vs:List V} {ws:List W} (r:Reps K (join H0 G) vs ws):noLs ws=true->Reps K G vs ws:=
 @Reps.rec K (join H0 G) (fun _ _ _=>True) (fun vs ws _=>noLs ws=true->Reps K G vs ws) trivial trivial trivial trivial trivial (fun _ _ _=>trivial) (fun _ _ _=>trivial) (fun _ _ _=>trivial) (fun _ _ _ _ _=>trivial) (fun _=>trivial) (fun _=>.nil)
  (fun h _ _ b n=>by rw [noLs,Bool.and_eq_true] at n; exact .cons (Rep.clean I h n.1) (b n.2)) vs ws r
end
structure XW where
 cls:Str
 at_:Option Int
inductive R (α:Type) where
 | ok (a:α) | ex (e:XW) | stuck
def R.bind {α β:Type} (x:R α) (f:α->R β):R β:=match x with
 | .ok a=>f a
 | .ex e=>.ex e
 | .stuck=>.stuck
instance:Monad R where
 pure:=R.ok
 bind:=R.bind
@[simp] theorem R.ok_bind {α β:Type} (a:α) (f:α->R β):((R.ok a:R α)>>=f)=f a:=rfl
@[simp] theorem R.stuck_bind {α β:Type} (f:α->R β):((R.stuck:R α)>>=f)=.stuck:=rfl
@[simp] theorem R.ex_bind {α β:Type} (e:XW) (f:α->R β):((R.ex e:R α)>>=f)=.ex e:=rfl
@[simp] theorem R.pure_eq {α:Type} (a:α):(pure a:R α)=.ok a:=rfl
inductive Mode where
 | F | V | U | C | B
def Md (K:Frag) (H0 H G' H':Hp) (v:V) (w:W):Mode->Prop
 | .V=>Rep K G' v w
 | .U=>Rep K (join H0 G') v w
 | .F=>match w with
  | .lst ws=>∃ a vs,v=.ref a/\H' a=some (.lst vs)/\G' a=none/\H a=none/\Reps K G' vs ws
  | w=>Rep K G' v w
 | .C=>Rep K G' v w\/∃ a vs ws,v=.ref a/\w=.lst ws/\H' a=some (.lst vs)/\Reps K G' vs ws
 | .B=>Rep K (join H0 G') v w\/∃ a vs ws,v=.ref a/\w=.lst ws/\H' a=some (.lst vs)/\Reps K G' vs ws
abbrev EXT:=XW->Hp->Prop
def Out {α β:Type} (EX:EXT) (G H:Hp) (md:α->β->Hp->Hp->Prop) (r:R α) (Q:β->Hp->Prop):Prop:=match r with
 | .ok w=>∀ v G' H',Ext G H G' H'->md w v G' H'->Q v H'
 | .ex e=>∀ H',Same H H'->EX e H'
 | .stuck=>False
abbrev mdW (K:Frag) (d:Mode) (H0 H:Hp):W->V->Hp->Hp->Prop:=fun w v G' H'=>Md K H0 H G' H' v w d
abbrev mdB:Bool->Bool->Hp->Hp->Prop:=fun b c _ _=>c=b
inductive MdA (K:Frag) (d:Mode) (H0 H G' H':Hp):List W->List V->Prop where
 | nil:MdA K d H0 H G' H' [] []
 | cons {w:W} {v:V} {ws:List W} {vs:List V}:Md K H0 H G' H' v w d->MdA K d H0 H G' H' ws vs->MdA K d H0 H G' H' (w::ws) (v::vs)
def MdAI (K:Frag) (d:Mode) (H0 H G' H':Hp) (vs:List V):List W->Prop
 | []=>vs = []
 | w::ws=>∃ v us,vs=v::us/\Md K H0 H G' H' v w d/\MdA K d H0 H G' H' ws us
abbrev mdA (K:Frag) (d:Mode) (H0 H:Hp):List W->List V->Hp->Hp->Prop:=fun ws vs G' H'=>MdA K d H0 H G' H' ws vs
def tM (K:Frag) (EX:EXT) (d:Mode) (m:Rho->R W):TE:=fun σ H Q=>∃ H0 G ρ,PIv K H0 G ρ σ H/\Out EX G H (mdW K d H0 H) (m ρ) Q
def tT (K:Frag) (EX:EXT) (m:Rho->R Bool):TT:=fun σ H Q=>∃ H0 G ρ,PIv K H0 G ρ σ H/\Out EX G H mdB (m ρ) Q
def tA (K:Frag) (EX:EXT) (d:Mode) (m:Rho->R (List W)):TA:=fun σ H Q=>∃ H0 G ρ,PIv K H0 G ρ σ H/\Out EX G H (mdA K d H0 H) (m ρ) Q
section
variable {K:Frag} {EX:EXT} {H0 G H G1 H1 G2 H2:Hp} {ρ:Rho} {σ:St}
theorem Out.bind {α β γ δ:Type} {md:α->β->Hp->Hp->Prop} {md':γ->δ->Hp->Hp->Prop} {m:R α} {k:α->R γ} {Q:δ->Hp->Prop} {Q1:β->Hp->Prop} (o:Out EX G H md' (m>>=k) Q)
  (h:∀ x G1 H1 w,Ext G H G1 H1->md w x G1 H1->Out EX G1 H1 md' (k w) Q->Q1 x H1):Out EX G H md m Q1:=by
 cases m with
 | ok w=>
  intro v G' H' e d
  refine h v G' H' w e d ?_
  rw [R.ok_bind] at o
  revert o
  cases k w with
  | ok u=>exact fun o v2 G2 H2 e2 d2=>o v2 G2 H2 (e.trans e2) d2
  | ex x=>exact fun o H2 s2=>o H2 (e.hh.trans s2)
  | stuck=>exact fun o=>o
 | ex x=>exact o
 | stuck=>exact o
theorem Md.start {v:V} {w:W} {d:Mode} (s:Same H H1) (h:Md K H0 H1 G2 H2 v w d):Md K H0 H G2 H2 v w d:=by
 cases d with
 | F=>
  cases w with
  | lst ws=>obtain ⟨a,vs,e,h1,h2,h3,r⟩:=h; exact ⟨a,vs,e,h1,h2,s.free h3,r⟩
  | _=>exact h
 | _=>exact h
theorem Md.move {v:V} {w:W} {d:Mode} (x:Ext G1 H1 G2 H2) (h:Md K H0 H G1 H1 v w d):Md K H0 H G2 H2 v w d:=by
 cases d with
 | V=>exact Rep.same x.gg h
 | U=>exact Rep.same (join_same x.gg) h
 | F=>
  cases w with
  | lst ws=>obtain ⟨a,vs,e,h1,h2,h3,r⟩:=h; exact ⟨a,vs,e,x.hh _ _ h1,x.keep _ _ h1 rfl h2,h3,r.same x.gg⟩
  | non=>exact Rep.same x.gg h
  | bl _=>exact Rep.same x.gg h
  | int _=>exact Rep.same x.gg h
  | str _=>exact Rep.same x.gg h
  | ty _=>exact Rep.same x.gg h
  | tup _=>exact Rep.same x.gg h
  | scr _=>exact Rep.same x.gg h
  | exc _ _=>exact Rep.same x.gg h
  | cls _=>exact Rep.same x.gg h
 | C=>
  rcases h with h | ⟨a,vs,ws,e,e2,h1,r⟩
  ·exact .inl (h.same x.gg)
  ·exact .inr ⟨a,vs,ws,e,e2,x.hh _ _ h1,r.same x.gg⟩
 | B=>
  rcases h with h | ⟨a,vs,ws,e,e2,h1,r⟩
  ·exact .inl (h.same (join_same x.gg))
  ·exact .inr ⟨a,vs,ws,e,e2,x.hh _ _ h1,r.same x.gg⟩
theorem Md.CB {v:V} {w:W} (I:PIv K H0 G1 ρ σ H1) (h:Md K H0 H G1 H1 v w .C):Md K H0 H G1 H1 v w .B:=by
 rcases h with h | h
 ·exact .inl (h.same I.G_join)
 ·exact .inr h
def sca:W->Bool
 | .tup _=>false
 | .scr _=>false
 | .lst _=>false
 | _=>true
theorem Md.sca {v:V} {w:W} (hs:sca w=true) (r:∀ F,Rep K F v w) (d:Mode):Md K H0 H G1 H1 v w d:=by
 cases d with
 | V=>exact r _
 | U=>exact r _
 | C=>exact .inl (r _)
 | B=>exact .inl (r _)
 | F=>cases w <;> first | exact r _ | cases hs
theorem Md.repB {v:V} {w:W} (h:Md K H0 H G1 H1 v w .B) (n:∀ us,w≠.lst us):Rep K (join H0 G1) v w:=Or.elim h id fun zz74=>by obtain ⟨_,_,us,_,e,_⟩:=zz74; exact absurd e (n us)
theorem Md.repC {v:V} {w:W} (h:Md K H0 H G1 H1 v w .C) (n:∀ us,w≠.lst us):Rep K G1 v w:=Or.elim h id fun zz75=>by obtain ⟨_,_,us,_,e,_⟩:=zz75; exact absurd e (n us)
theorem Md.lstB {v:V} {ws:List W} (I:PIv K H0 G1 ρ σ H1) (h:Md K H0 H G1 H1 v (.lst ws) .B):∃ a vs,v=.ref a/\H1 a=some (.lst vs)/\Reps K (join H0 G1) vs ws:=by
 rcases h with h | ⟨a,vs,us,e,e2,h1,r⟩
 ·obtain ⟨a,vs,e,s,r⟩:=h.inv; exact ⟨a,vs,e,I.join_H _ _ s,r⟩
 ·rw [W.lst.inj e2]; exact ⟨a,vs,e,h1,r.same I.G_join⟩
theorem Md.scrB {v:V} {ws:List W} (I:PIv K H0 G1 ρ σ H1) (h:Md K H0 H G1 H1 v (.scr ws) .B):∃ a vs,v=.ref a/\SqL K H1 a vs/\Reps K (join H0 G1) vs ws:=by
 obtain ⟨a,vs,e,s,r⟩:=(h.repB fun _=>W.noConfusion).inv; exact ⟨a,vs,e,Same.seq I.join_H s,r⟩
theorem Md.lstC {v:V} {ws:List W} (I:PIv K H0 G1 ρ σ H1) (h:Md K H0 H G1 H1 v (.lst ws) .C):∃ a vs,v=.ref a/\H1 a=some (.lst vs)/\Reps K G1 vs ws:=by
 rcases h with h | ⟨a,vs,us,e,e2,h1,r⟩
 ·obtain ⟨a,vs,e,s,r⟩:=h.inv; exact ⟨a,vs,e,I.gh _ _ s,r⟩
 ·rw [W.lst.inj e2]; exact ⟨a,vs,e,h1,r⟩
theorem Md.tupB {v:V} {ws:List W} (I:PIv K H0 G1 ρ σ H1) (h:Md K H0 H G1 H1 v (.tup ws) .B):∃ a vs,v=.ref a/\H1 a=some (.tup vs)/\Reps K (join H0 G1) vs ws:=by
 obtain ⟨a,vs,e,s,r⟩:=(h.repB fun _=>W.noConfusion).inv; exact ⟨a,vs,e,I.join_H _ _ s,r⟩
theorem Md.tupC {v:V} {ws:List W} (I:PIv K H0 G1 ρ σ H1) (h:Md K H0 H G1 H1 v (.tup ws) .C):∃ a vs,v=.ref a/\H1 a=some (.tup vs)/\Reps K G1 vs ws:=by
 obtain ⟨a,vs,e,s,r⟩:=(h.repC fun _=>W.noConfusion).inv; exact ⟨a,vs,e,I.gh _ _ s,r⟩
theorem Md.intB {v:V} {i:Int} (h:Md K H0 H G1 H1 v (.int i) .B):v=.int i:=(h.repB fun _=>W.noConfusion).inv
theorem Md.blB {v:V} {i:Bool} (h:Md K H0 H G1 H1 v (.bl i) .B):v=.bl i:=(h.repB fun _=>W.noConfusion).inv
theorem Md.strB {v:V} {i:Str} (h:Md K H0 H G1 H1 v (.str i) .B):v=.str i:=(h.repB fun _=>W.noConfusion).inv
theorem Md.nonB {v:V} (h:Md K H0 H G1 H1 v .non .B):v=.non:=(h.repB fun _=>W.noConfusion).inv
theorem Md.tyB {v:V} {n:String} (h:Md K H0 H G1 H1 v (.ty n) .B):v=.ty n:=(h.repB fun _=>W.noConfusion).inv
theorem mode_FV {m:Rho->R W} {Q:VK} (h:tM K EX .V m σ H Q):tM K EX .F m σ H Q:=by
 obtain ⟨H0,G,ρ,I,o⟩:=h
 refine ⟨H0,G,ρ,I,?_⟩
 revert o
 cases m ρ with
 | ex e=>exact id
 | stuck=>exact id
 | ok w=>
  intro o v G' H' e d
  cases w with
  | lst ws=>
   obtain ⟨a,vs,rfl,h1,h2,h3,r⟩:=d
   have s1:Same G' (upd G' a (.lst vs)):=fun b o q=>by rw [upd_ne (ne_of_none q h2)]; exact q
   refine o _ (upd G' a (.lst vs)) H' ⟨e.gg.trans s1,e.hh,fun b o q=>?_,fun b o q l g=>?_⟩ (.lst upd_same (r.same s1))
   ·by_cases hb:b=a
    ·subst hb; rw [upd_same] at q; cases q; exact h1
    ·rw [upd_ne hb] at q; exact e.gh b o q
   ·rw [upd_ne (ne_of_none q h3)]; exact e.keep b o q l g
  | _=>exact o v G' H' e d
theorem mode_VU {m:Rho->R W} {Q:VK} (h:tM K EX .U m σ H Q):tM K EX .V m σ H Q:=by
 obtain ⟨H0,G,ρ,I,o⟩:=h
 refine ⟨H0,G,ρ,I,?_⟩
 revert o
 cases m ρ with
 | ex e=>exact id
 | stuck=>exact id
 | ok w=>exact fun o v G' H' e d=>o v G' H' e (Rep.same (I.ext e).G_join d)
theorem mode_VC {m:Rho->R W} {Q:VK} (h:tM K EX .C m σ H Q):tM K EX .V m σ H Q:=by
 obtain ⟨H0,G,ρ,I,o⟩:=h
 refine ⟨H0,G,ρ,I,?_⟩
 revert o
 cases m ρ with
 | ex e=>exact id
 | stuck=>exact id
 | ok w=>exact fun o v G' H' e d=>o v G' H' e (.inl d)
theorem mode_UB {m:Rho->R W} {Q:VK} (h:tM K EX .B m σ H Q):tM K EX .U m σ H Q:=by
 obtain ⟨H0,G,ρ,I,o⟩:=h
 refine ⟨H0,G,ρ,I,?_⟩
 revert o
 cases m ρ with
 | ex e=>exact id
 | stuck=>exact id
 | ok w=>exact fun o v G' H' e d=>o v G' H' e (.inl d)
theorem mode_CB {m:Rho->R W} {Q:VK} (h:tM K EX .B m σ H Q):tM K EX .C m σ H Q:=by
 obtain ⟨H0,G,ρ,I,o⟩:=h
 refine ⟨H0,G,ρ,I,?_⟩
 revert o
 cases m ρ with
 | ex e=>exact id
 | stuck=>exact id
 | ok w=>exact fun o v G' H' e d=>o v G' H' e (Md.CB (H:=H) (I.ext e) d)
theorem mode_FC {m:Rho->R W} {Q:VK} (h:tM K EX .C m σ H Q):tM K EX .F m σ H Q:=by
 obtain ⟨H0,G,ρ,I,o⟩:=h
 refine ⟨H0,G,ρ,I,?_⟩
 revert o
 cases m ρ with
 | ex e=>exact id
 | stuck=>exact id
 | ok w=>
  intro o v G' H' e d
  cases w with
  | lst ws=>obtain ⟨a,vs,rfl,h1,h2,h3,r⟩:=d; exact o _ G' H' e (.inr ⟨a,vs,ws,rfl,rfl,h1,r⟩)
  | _=>exact o v G' H' e (.inl d)
def chk (w:W):R W:=if noL w then .ok w else .stuck
theorem noL_F {v:V} {w:W} (n:noL w=true) (r:Rep K G1 v w):Md K H0 H G1 H1 v w .F:=by
 cases w with
 | lst ws=>cases n
 | _=>exact r
theorem mode_chk {m:Rho->R W} {Q:VK} {d:Mode} (hd:d=.F\/d=.V) (h:tM K EX d (fun ρ=>m ρ>>=chk) σ H Q):tM K EX .U m σ H Q:=by
 obtain ⟨H0,G,ρ,I,o⟩:=h
 refine ⟨H0,G,ρ,I,Out.bind o fun x G1 H1 w e m1 o1=>?_⟩
 unfold chk at o1
 by_cases n:noL w=true
 ·rw [if_pos n] at o1
  have r:=Rep.clean (I.ext e) m1 n
  refine o1 x G1 H1 (Ext.refl e.gh) ?_
  rcases hd with rfl | rfl
  ·exact noL_F n r
  ·exact r
 ·rw [if_neg n] at o1; exact o1.elim
end
end TP
namespace TP
open PySem L2
section
variable {K:Frag} {EX:EXT} {H0 G H G1 H1 G2 H2:Hp} {ρ:Rho} {σ:St} {d:Mode} {Q:VK}
theorem c_const {v:V} {w:W} (hs:sca w=true) (r:∀ F,Rep K F v w) (h:tM K EX d (fun _=>.ok w) σ H Q):tC v σ H Q:=by
 obtain ⟨H0,G,ρ,I,o⟩:=h
 exact o v G H (Ext.refl I.gh) (Md.sca hs r d)
def mVar (d:Mode) (i:Nat):Rho->R W:=fun ρ=>match ρ[i]? with
 | some (.val w)=>(match d with | .F=>chk w | _=>.ok w)
 | some (.par w)=>(match d with | .F=>chk w | .V=>chk w | .C=>chk w | _=>.ok w)
 | some (.own ws)=>(match d with | .C=>.ok (.lst ws) | .B=>.ok (.lst ws) | _=>.stuck)
 | some (.iop _ ws)=>(match d with | .B=>.ok (.lst ws) | .U=>.ok (.lst ws) | _=>.stuck)
 | some (.hz w)=>(match d with | .B=>.ok w | .U=>.ok w | _=>.stuck)
 | _=>.stuck
theorem Out.chk {α:Type} {v:V} {w:W} {md:W->α->Hp->Hp->Prop} {Q:α->Hp->Prop} (o:Out EX G H md (chk w) Q):noL w=true/\Out EX G H md (.ok w) Q:=by
 unfold TP.chk at o
 by_cases n:noL w=true
 ·rw [if_pos n] at o; exact ⟨n,o⟩
 ·rw [if_neg n] at o; exact o.elim
theorem c_var {i:Nat} (h:tM K EX d (mVar d i) σ H Q):tVar i σ H Q:=by
 obtain ⟨H0,G,ρ,I,o⟩:=h
 unfold mVar at o
 cases e:ρ[i]? with
 | none=>rw [e] at o; exact o.elim
 | some s=>
  rw [e] at o
  have hi:i<σ.length:=by rw [<- I.len]; exact (List.getElem?_eq_some_iff.mp e).1
  have es:σ[i]?=some σ[i]:=by simp
  have r:=I.sl i s _ e es
  cases s with
  | un=>exact o.elim
  | val w=>
   obtain ⟨v,ev,r⟩:=r
   refine ⟨v,by rw [es,ev],?_⟩
   cases d with
   | F=>obtain ⟨n,o⟩:=Out.chk (v:=v) o; exact o v G H (Ext.refl I.gh) (noL_F n r)
   | V=>exact o v G H (Ext.refl I.gh) r
   | U=>exact o v G H (Ext.refl I.gh) (r.same I.G_join)
   | C=>exact o v G H (Ext.refl I.gh) (.inl r)
   | B=>exact o v G H (Ext.refl I.gh) (.inl (r.same I.G_join))
  | par w=>
   obtain ⟨v,ev,r⟩:=r
   refine ⟨v,by rw [es,ev],?_⟩
   cases d with
   | F=>obtain ⟨n,o⟩:=Out.chk (v:=v) o; exact o v G H (Ext.refl I.gh) (noL_F n (Rep.clean I r n))
   | V=>obtain ⟨n,o⟩:=Out.chk (v:=v) o; exact o v G H (Ext.refl I.gh) (Rep.clean I r n)
   | U=>exact o v G H (Ext.refl I.gh) r
   | C=>obtain ⟨n,o⟩:=Out.chk (v:=v) o; exact o v G H (Ext.refl I.gh) (.inl (Rep.clean I r n))
   | B=>exact o v G H (Ext.refl I.gh) (.inl r)
  | own ws=>
   obtain ⟨a,vs,ev,ha,hg,h0,r⟩:=r
   refine ⟨.ref a,by rw [es,ev],?_⟩
   cases d with
   | F=>exact o.elim
   | V=>exact o.elim
   | U=>exact o.elim
   | C=>exact o _ G H (Ext.refl I.gh) (.inr ⟨a,vs,ws,rfl,rfl,ha,r⟩)
   | B=>exact o _ G H (Ext.refl I.gh) (.inr ⟨a,vs,ws,rfl,rfl,ha,r⟩)
  | dic ks=>exact o.elim
  | dik ks=>exact o.elim
  | hz w=>
   obtain ⟨v,ev,r⟩:=r
   refine ⟨v,by rw [es,ev],?_⟩
   have rj:=r.same (join_same (H0:=H0) (noLG_sub (G:=G)))
   cases d with
   | F=>exact o.elim
   | V=>exact o.elim
   | C=>exact o.elim
   | U=>exact o v G H (Ext.refl I.gh) rj
   | B=>exact o v G H (Ext.refl I.gh) (.inl rj)
  | iop p ws=>
   obtain ⟨ev,vs,h0,r⟩:=r
   refine ⟨.ref p,by rw [es,ev],?_⟩
   have rj:Rep K (join H0 G) (.ref p) (.lst ws):=by
    refine .lst (vs:=vs) ?_ (r.same I.G_join)
    unfold join
    rw [h0]; rfl
   cases d with
   | F=>exact o.elim
   | V=>exact o.elim
   | U=>exact o _ G H (Ext.refl I.gh) rj
   | C=>exact o.elim
   | B=>exact o _ G H (Ext.refl I.gh) (.inl rj)
def Op2 (K:Frag) (b d:Mode) (r:R2) (f:W->W->R W):Prop:=∀ (EX:EXT) (H0 Hs G H:Hp) (ρ:Rho) (σ:St) (Ha Hb:Hp) (x y:V) (u v:W) (Q:VK),PIv K H0 G ρ σ H->Same Hs H->Md K H0 Ha G H x u b->Md K H0 Hb G H y v b ->
 Out EX G H (mdW K d H0 Hs) (f u v) Q->r x y H Q
theorem c_op {b:Mode} {r:R2} {f:W->W->R W} {ma mb:Rho->R W} (hr:Op2 K b d r f) (h:tM K EX d (fun ρ=>ma ρ>>=fun x=>mb ρ>>=fun y=>f x y) σ H Q):tOp r (tM K EX b ma) (tM K EX b mb) σ H Q:=by
 obtain ⟨H0,G,ρ,I,o⟩:=h
 refine ⟨H0,G,ρ,I,Out.bind o fun x G1 H1 u e1 m1 o1=>⟨H0,G1,ρ,I.ext e1,Out.bind o1 fun y G2 H2 v e2 m2 o2=>?_⟩⟩
 exact hr EX H0 H G2 H2 ρ σ H H1 x y u v Q ((I.ext e1).ext e2) (e1.hh.trans e2.hh) (m1.move e2) m2 o2
def Op1 (K:Frag) (b d:Mode) (r:V->Hp->VK->Prop) (f:W->R W):Prop:=∀ (EX:EXT) (H0 Hs G H:Hp) (ρ:Rho) (σ:St) (Ha:Hp) (x:V) (u:W) (Q:VK),PIv K H0 G ρ σ H->Same Hs H->Md K H0 Ha G H x u b ->
 Out EX G H (mdW K d H0 Hs) (f u) Q->r x H Q
theorem c_un {b:Mode} {r:V->Hp->VK->Prop} {f:W->R W} {ma:Rho->R W} (hr:Op1 K b d r f) (h:tM K EX d (fun ρ=>ma ρ>>=fun x=>f x) σ H Q):tUn r (tM K EX b ma) σ H Q:=by
 obtain ⟨H0,G,ρ,I,o⟩:=h
 exact ⟨H0,G,ρ,I,Out.bind o fun x G1 H1 u e1 m1 o1=>hr EX H0 H G1 H1 ρ σ H x u Q (I.ext e1) e1.hh m1 o1⟩
def fI (C:Int->Int->Prop) [∀ i j,Decidable (C i j)] (g:Int->Int->W):W->W->R W
 | .int i,.int j=>if C i j then .ok (g i j) else .stuck
 | _,_=>.stuck
def fI0 (g:Int->Int->W):W->W->R W
 | .int i,.int j=>.ok (g i j)
 | _,_=>.stuck
theorem o2_I {C:Int->Int->Prop} [∀ i j,Decidable (C i j)] {g:Int->Int->W} {gv:Int->Int->V} (hs:∀ i j,sca (g i j)=true) (hg:∀ i j F,Rep K F (gv i j) (g i j)):Op2 K .B d (rI C gv) (fI C g):=by
 intro EX H0 Hs G H ρ σ Ha Hb x y u v Q I s mx my o
 cases u <;> first | exact o.elim | skip
 all_goals (cases v <;> first | exact o.elim | skip)
 rename_i i j
 have o':Out EX G H (mdW K d H0 Hs) (if C i j then R.ok (g i j) else .stuck) Q:=o
 by_cases c:C i j
 ·rw [if_pos c] at o'
  exact ⟨i,j,mx.intB,my.intB,c,o' _ G H (Ext.refl I.gh) (Md.sca (hs i j) (hg i j) d)⟩
 ·rw [if_neg c] at o'; exact o'.elim
theorem o2_I0 {g:Int->Int->W} {gv:Int->Int->V} (hs:∀ i j,sca (g i j)=true) (hg:∀ i j F,Rep K F (gv i j) (g i j)):Op2 K .B d (rI0 gv) (fI0 g):=by
 intro EX H0 Hs G H ρ σ Ha Hb x y u v Q I s mx my o
 cases u <;> first | exact o.elim | skip
 all_goals (cases v <;> first | exact o.elim | skip)
 rename_i i j
 exact ⟨i,j,mx.intB,my.intB,o _ G H (Ext.refl I.gh) (Md.sca (hs i j) (hg i j) d)⟩
def fU (g:Int->W):W->R W
 | .int i=>.ok (g i)
 | _=>.stuck
theorem o1_U {g:Int->W} {gv:Int->V} (hs:∀ i,sca (g i)=true) (hg:∀ i F,Rep K F (gv i) (g i)):Op1 K .B d (rU gv) (fU g):=by
 intro EX H0 Hs G H ρ σ Ha x u Q I s mx o
 cases u <;> first | exact o.elim | skip
 rename_i i
 exact ⟨i,mx.intB,o _ G H (Ext.refl I.gh) (Md.sca (hs i) (hg i) d)⟩
def isN:W->Bool
 | .non=>true
 | _=>false
def fIsN (neg:Bool):W->W->R W
 | u,.non=>.ok (.bl (if neg then !isN u else isN u))
 | _,_=>.stuck
theorem isN_of {b:Mode} (hb:b=.B\/b=.U\/b=.V\/b=.C) {v:V} {w:W} {Hs:Hp} (h:Md K H0 Hs G1 H1 v w b):decide (v=.non)=isN w:=by
 have key:∀ F,Rep K F v w->decide (v=.non)=isN w:=fun F r=>by
  cases r <;> first | rfl | (apply decide_eq_false; intro z; cases z)
 rcases hb with rfl | rfl | rfl | rfl
 ·rcases h with h | ⟨a,vs,ws,rfl,rfl,_⟩
  ·exact key _ h
  ·apply decide_eq_false; intro z; cases z
 ·exact key _ h
 ·exact key _ h
 ·rcases h with h | ⟨a,vs,ws,rfl,rfl,_⟩
  ·exact key _ h
  ·apply decide_eq_false; intro z; cases z
theorem o2_isN:Op2 K .B d (fun x y H Q=>y=.non/\Q (.bl (decide (x=.non))) H) (fIsN false):=by
 intro EX H0 Hs G H ρ σ Ha Hb x y u v Q I s mx my o
 cases v <;> first | exact o.elim | skip
 refine ⟨my.nonB,?_⟩
 rw [isN_of (.inl rfl) mx]
 exact o _ G H (Ext.refl I.gh) (Md.sca rfl (fun _=>.bl) d)
theorem o2_notN:Op2 K .B d (fun x y H Q=>y=.non/\Q (.bl (!decide (x=.non))) H) (fIsN true):=by
 intro EX H0 Hs G H ρ σ Ha Hb x y u v Q I s mx my o
 cases v <;> first | exact o.elim | skip
 refine ⟨my.nonB,?_⟩
 rw [isN_of (.inl rfl) mx]
 exact o _ G H (Ext.refl I.gh) (Md.sca rfl (fun _=>.bl) d)
def toB:W->R Bool
 | .bl b=>.ok b
 | _=>.stuck
theorem c_test {ma:Rho->R W} {Q:Bool->Hp->Prop} (h:tT K EX (fun ρ=>ma ρ>>=toB) σ H Q):tTest (tM K EX .B ma) σ H Q:=by
 obtain ⟨H0,G,ρ,I,o⟩:=h
 refine ⟨H0,G,ρ,I,Out.bind o fun x G1 H1 u e1 m1 o1=>?_⟩
 cases u <;> first | exact o1.elim | skip
 rename_i b
 exact ⟨b,m1.blB,o1 b G1 H1 (Ext.refl e1.gh) rfl⟩
theorem c_tB {ma:Rho->R W} {Q:Bool->Hp->Prop} (h:tT K EX (fun ρ=>ma ρ>>=toB) σ H Q):tB (tM K EX .B ma) σ H Q:=c_test h
def rAnd (a b:R Bool):R Bool:=a>>=fun c=>if c then b else .ok false
def rOr (a b:R Bool):R Bool:=a>>=fun c=>if c then .ok true else b
def rNot (a:R Bool):R Bool:=a>>=fun c=>.ok (!c)
theorem c_and {ma mb:Rho->R Bool} {Q:Bool->Hp->Prop} (h:tT K EX (fun ρ=>rAnd (ma ρ) (mb ρ)) σ H Q):tAnd (tT K EX ma) (tT K EX mb) σ H Q:=by
 obtain ⟨H0,G,ρ,I,o⟩:=h
 refine ⟨H0,G,ρ,I,Out.bind o fun x G1 H1 u e1 m1 o1=>?_⟩
 cases m1
 cases x with
 | true=>exact ⟨H0,G1,ρ,I.ext e1,o1⟩
 | false=>exact o1 false G1 H1 (Ext.refl e1.gh) rfl
theorem c_or {ma mb:Rho->R Bool} {Q:Bool->Hp->Prop} (h:tT K EX (fun ρ=>rOr (ma ρ) (mb ρ)) σ H Q):tOr (tT K EX ma) (tT K EX mb) σ H Q:=by
 obtain ⟨H0,G,ρ,I,o⟩:=h
 refine ⟨H0,G,ρ,I,Out.bind o fun x G1 H1 u e1 m1 o1=>?_⟩
 cases m1
 cases x with
 | true=>exact o1 true G1 H1 (Ext.refl e1.gh) rfl
 | false=>exact ⟨H0,G1,ρ,I.ext e1,o1⟩
theorem c_not {ma:Rho->R Bool} {Q:Bool->Hp->Prop} (h:tT K EX (fun ρ=>rNot (ma ρ)) σ H Q):tNot (tT K EX ma) σ H Q:=by
 obtain ⟨H0,G,ρ,I,o⟩:=h
 refine ⟨H0,G,ρ,I,Out.bind o fun x G1 H1 u e1 m1 o1=>?_⟩
 cases m1
 exact o1 _ G1 H1 (Ext.refl e1.gh) rfl
def rAndV (a b:R W):R W:=a>>=fun x=>toB x>>=fun c=>if c then b else .ok (.bl false)
def rOrV (a b:R W):R W:=a>>=fun x=>toB x>>=fun c=>if c then .ok (.bl true) else b
def rNotV (a:R W):R W:=a>>=fun x=>toB x>>=fun c=>.ok (.bl (!c))
theorem c_andV {ma mb:Rho->R W} (h:tM K EX d (fun ρ=>rAndV (ma ρ) (mb ρ)) σ H Q):tAndV (tM K EX .B ma) (tM K EX d mb) σ H Q:=by
 obtain ⟨H0,G,ρ,I,o⟩:=h
 refine ⟨H0,G,ρ,I,Out.bind o fun x G1 H1 u e1 m1 o1=>?_⟩
 cases u <;> first | exact o1.elim | skip
 rename_i b
 refine ⟨b,m1.blB,?_⟩
 cases b with
 | true=>
  rw [if_pos rfl]
  refine ⟨H0,G1,ρ,I.ext e1,?_⟩
  have o2:Out EX G1 H1 (mdW K d H0 H) (mb ρ) Q:=o1
  revert o2
  cases mb ρ with
  | ok w=>exact fun o2 v G2 H2 e2 m2=>o2 v G2 H2 e2 (m2.start e1.hh)
  | ex _=>exact id
  | stuck=>exact id
 | false=>
  rw [if_neg Bool.false_ne_true]
  exact o1 _ G1 H1 (Ext.refl e1.gh) (Md.sca rfl (fun _=>.bl) d)
theorem c_orV {ma mb:Rho->R W} (h:tM K EX d (fun ρ=>rOrV (ma ρ) (mb ρ)) σ H Q):tOrV (tM K EX .B ma) (tM K EX d mb) σ H Q:=by
 obtain ⟨H0,G,ρ,I,o⟩:=h
 refine ⟨H0,G,ρ,I,Out.bind o fun x G1 H1 u e1 m1 o1=>?_⟩
 cases u <;> first | exact o1.elim | skip
 rename_i b
 refine ⟨b,m1.blB,?_⟩
 cases b with
 | false=>
  rw [if_neg Bool.false_ne_true]
  refine ⟨H0,G1,ρ,I.ext e1,?_⟩
  have o2:Out EX G1 H1 (mdW K d H0 H) (mb ρ) Q:=o1
  revert o2
  cases mb ρ with
  | ok w=>exact fun o2 v G2 H2 e2 m2=>o2 v G2 H2 e2 (m2.start e1.hh)
  | ex _=>exact id
  | stuck=>exact id
 | true=>
  rw [if_pos rfl]
  exact o1 _ G1 H1 (Ext.refl e1.gh) (Md.sca rfl (fun _=>.bl) d)
theorem Out.restart {r:R W} (s:Same H H1) (o:Out EX G1 H1 (mdW K d H0 H) r Q):Out EX G1 H1 (mdW K d H0 H1) r Q:=by
 revert o
 cases r with
 | ok w=>exact fun o v G2 H2 e2 m2=>o v G2 H2 e2 (m2.start s)
 | ex _=>exact id
 | stuck=>exact id
theorem c_if {mc:Rho->R Bool} {ma mb:Rho->R W} (h:tM K EX d (fun ρ=>mc ρ>>=fun c=>if c then ma ρ else mb ρ) σ H Q):tIf (tT K EX mc) (tM K EX d ma) (tM K EX d mb) σ H Q:=by
 obtain ⟨H0,G,ρ,I,o⟩:=h
 refine ⟨H0,G,ρ,I,Out.bind o fun x G1 H1 u e1 m1 o1=>?_⟩
 cases m1
 cases x with
 | true=>exact ⟨H0,G1,ρ,I.ext e1,Out.restart e1.hh o1⟩
 | false=>exact ⟨H0,G1,ρ,I.ext e1,Out.restart e1.hh o1⟩
theorem c_chain {b:Mode} {r r':R2} {f f':W->W->R W} {ma mb mc:Rho->R W} (hr:Op2 K b .B r f) (hr':Op2 K b d r' f')
  (h:tM K EX d (fun ρ=>ma ρ>>=fun x=>mb ρ>>=fun y=>f x y>>=fun z=>toB z>>=fun c=>if c then mc ρ>>=fun u=>f' y u else .ok (.bl false)) σ H Q) :
  (fun σ H Q=>tM K EX b ma σ H fun x H1=>tM K EX b mb σ H1 fun y H2=>r x y H2 fun z H3=>∃ k,z=.bl k/\if k=true then tM K EX b mc σ H3 fun u H4=>r' y u H4 Q else Q (.bl false) H3) σ H Q:=by
 obtain ⟨H0,G,ρ,I,o⟩:=h
 refine ⟨H0,G,ρ,I,Out.bind o fun x G1 H1 u e1 m1 o1=>⟨H0,G1,ρ,I.ext e1,Out.bind o1 fun y G2 H2 v e2 m2 o2=>?_⟩⟩
 have I2:=(I.ext e1).ext e2
 refine hr EX H0 H G2 H2 ρ σ H H1 x y u v _ I2 (e1.hh.trans e2.hh) (m1.move e2) m2 (Out.bind o2 fun z G3 H3 wz e3 m3 o3=>?_)
 cases wz <;> first | exact o3.elim | skip
 rename_i k
 refine ⟨k,m3.blB,?_⟩
 cases k with
 | true=>
  rw [if_pos rfl]
  refine ⟨H0,G3,ρ,I2.ext e3,Out.bind (k:=fun u=>f' v u) o3 fun t G4 H4 wt e4 m4 o4=>?_⟩
  exact hr' EX H0 H G4 H4 ρ σ H1 H3 y t v wt Q ((I2.ext e3).ext e4) (((e1.hh.trans e2.hh).trans e3.hh).trans e4.hh) ((m2.move e3).move e4) m4 o4
 | false=>
  rw [if_neg Bool.false_ne_true]
  exact o3 _ G3 H3 (Ext.refl e3.gh) (Md.sca rfl (fun _=>.bl) d)
theorem c_nil {QA:List V->Hp->Prop} (h:tA K EX d (fun _=>.ok []) σ H QA):tNil σ H QA:=by
 obtain ⟨H0,G,ρ,I,o⟩:=h
 exact o [] G H (Ext.refl I.gh) .nil
theorem c_cons {ma:Rho->R W} {mr:Rho->R (List W)} {QA:List V->Hp->Prop} (h:tA K EX d (fun ρ=>ma ρ>>=fun x=>mr ρ>>=fun xs=>.ok (x::xs)) σ H QA):tCons (tM K EX d ma) (tA K EX d mr) σ H QA:=by
 obtain ⟨H0,G,ρ,I,o⟩:=h
 refine ⟨H0,G,ρ,I,Out.bind o fun x G1 H1 u e1 m1 o1=>⟨H0,G1,ρ,I.ext e1,Out.bind o1 fun xs G2 H2 us e2 m2 o2=>?_⟩⟩
 refine o2 (x::xs) G2 H2 (Ext.refl e2.gh) (.cons (m1.move e2) ?_)
 have go:∀ {ws:List W} {vs:List V},MdA K d H0 H1 G2 H2 ws vs->MdA K d H0 H G2 H2 ws vs:=fun {ws vs} q=>by
  induction q with
  | nil=>exact .nil
  | cons a _ ih=>exact .cons (a.start e1.hh) ih
 exact go m2
theorem MdA.reps {ws:List W} {vs:List V} (h:MdA K .V H0 H G1 H1 ws vs):Reps K G1 vs ws:=
 @MdA.rec K .V H0 H G1 H1 (fun ws vs _=>Reps K G1 vs ws) .nil (fun h _ b=>.cons h b) ws vs h
theorem MdA.repsU {ws:List W} {vs:List V} (h:MdA K .U H0 H G1 H1 ws vs):Reps K (join H0 G1) vs ws:=
 @MdA.rec K .U H0 H G1 H1 (fun ws vs _=>Reps K (join H0 G1) vs ws) .nil (fun h _ b=>.cons h b) ws vs h
theorem new_ext {p:Addr} {o:HO} (hG:Same G H) (hp:H p=none):Ext G H G (upd H p o):=
 ⟨Same.refl G,fun b u q=>by rw [upd_ne (ne_of_none q hp)]; exact q,fun b u q=>by rw [upd_ne (ne_of_none (hG b u q) hp)]; exact hG b u q,fun _ _ _ _ e=>e⟩
theorem new_extG {p:Addr} {o:HO} (hG:Same G H) (hp:H p=none):Ext G H (upd G p o) (upd H p o):=by
 have gp:G p=none:=hG.free hp
 refine ⟨fun b u q=>by rw [upd_ne (ne_of_none q gp)]; exact q,fun b u q=>by rw [upd_ne (ne_of_none q hp)]; exact q,fun b u q=>?_,fun b u q l g=>?_⟩
 ·by_cases hb:b=p
  ·subst hb; rw [upd_same] at q ⊢; exact q
  ·rw [upd_ne hb] at q ⊢; exact hG b u q
 ·rw [upd_ne (ne_of_none q hp)]; exact g
theorem Out.newL {p:Addr} {vs:List V} {ws:List W} {Hs:Hp} (I:PIv K H0 G ρ σ H) (s:Same Hs H) (r:Reps K G vs ws) (hp:H p=none) (o:Out EX G H (mdW K .F H0 Hs) (.ok (.lst ws)) Q):Q (.ref p) (upd H p (.lst vs)):=
 o _ G _ (new_ext I.gh hp) ⟨p,vs,rfl,upd_same,I.gh.free hp,s.free hp,r⟩
theorem Out.newTF {p:Addr} {vs:List V} {ws:List W} {Hs:Hp} (I:PIv K H0 G ρ σ H) (r:Reps K G vs ws) (hp:H p=none) (o:Out EX G H (mdW K .F H0 Hs) (.ok (.tup ws)) Q):Q (.ref p) (upd H p (.tup vs)):=
 o _ (upd G p (.tup vs)) _ (new_extG I.gh hp) (.tup upd_same (r.same fun b u q=>by rw [upd_ne (ne_of_none q (I.gh.free hp))]; exact q))
def lim (n:Nat) (w:W):R W:=if n<=1000 then .ok w else .stuck
theorem Out.lim {α:Type} {n:Nat} {w:W} {md:W->α->Hp->Hp->Prop} {Q:α->Hp->Prop} (o:Out EX G H md (lim n w) Q):n<=1000/\Out EX G H md (.ok w) Q:=by
 unfold TP.lim at o
 by_cases n:n<=1000
 ·rw [if_pos n] at o; exact ⟨n,o⟩
 ·rw [if_neg n] at o; exact o.elim
theorem le_line {n:Nat} (h:n<=1000):n<=sizeLine:=Nat.le_trans h (by decide)
theorem c_tup {ma:Rho->R (List W)} (h:tM K EX .F (fun ρ=>ma ρ>>=fun ws=>lim ws.length (.tup ws)) σ H Q):tTup (tA K EX .V ma) σ H Q:=by
 obtain ⟨H0,G,ρ,I,o⟩:=h
 refine ⟨H0,G,ρ,I,Out.bind o fun xs G1 H1 ws e1 m1 o1=>?_⟩
 obtain ⟨hl,o2⟩:=Out.lim o1
 have r:=MdA.reps m1
 exact ⟨by rw [r.length]; exact le_line hl,fun p hp=>Out.newTF (I.ext e1) r hp o2⟩
theorem c_lst {ma:Rho->R (List W)} (h:tM K EX .F (fun ρ=>ma ρ>>=fun ws=>lim ws.length (.lst ws)) σ H Q):tLst (tA K EX .V ma) σ H Q:=by
 obtain ⟨H0,G,ρ,I,o⟩:=h
 refine ⟨H0,G,ρ,I,Out.bind o fun xs G1 H1 ws e1 m1 o1=>?_⟩
 obtain ⟨hl,o2⟩:=Out.lim o1
 have r:=MdA.reps m1
 exact ⟨by rw [r.length]; exact le_line hl,fun p hp=>Out.newL (I.ext e1) e1.hh r hp o2⟩
theorem join_upd {p:Addr} {o:HO} (h:H0 p=none):join H0 (upd G p o)=upd (join H0 G) p o:=by
 funext b
 by_cases hb:b=p
 ·subst hb; unfold join; rw [h]; dsimp only; rw [upd_same,upd_same]
 ·rw [upd_ne hb]; unfold join; cases H0 b with
  | none=>dsimp only; rw [upd_ne hb]
  | some u=>dsimp only; rw [upd_ne hb]
theorem c_tupU {ma:Rho->R (List W)} (h:tM K EX .U (fun ρ=>ma ρ>>=fun ws=>lim ws.length (.tup ws)) σ H Q):tTup (tA K EX .U ma) σ H Q:=by
 obtain ⟨H0,G,ρ,I,o⟩:=h
 refine ⟨H0,G,ρ,I,Out.bind o fun xs G1 H1 ws e1 m1 o1=>?_⟩
 obtain ⟨hl,o2⟩:=Out.lim o1
 have r:=MdA.repsU m1
 have I1:=I.ext e1
 refine ⟨by rw [r.length]; exact le_line hl,fun p hp=>o2 _ (upd G1 p (.tup xs)) _ (new_extG I1.gh hp) ?_⟩
 show Rep K (join H0 (upd G1 p (.tup xs))) _ _
 rw [join_upd (I1.hh.free hp)]
 exact .tup upd_same (r.same fun b u q=>by rw [upd_ne (ne_of_none (I1.join_H b u q) hp)]; exact q)
end
end TP
namespace TP
open PySem L2
inductive Fl where
 | nx (ρ:Rho) | rt (w:W) | bk (ρ:Rho) | ct (ρ:Rho)
def OutS (K:Frag) (EX:EXT) (d:Mode) (H0 G:Hp) (r:R Fl) (D:Ends):Prop:=match r with
 | .ok (.nx ρ)=>∀ G' σ' H',Same G G'->PIv K H0 G' ρ σ' H'->D.nx σ' H'
 | .ok (.bk ρ)=>∀ G' σ' H',Same G G'->PIv K H0 G' ρ σ' H'->D.bk σ' H'
 | .ok (.ct ρ)=>∀ G' σ' H',Same G G'->PIv K H0 G' ρ σ' H'->D.ct σ' H'
 | .ok (.rt w)=>∀ v G' H',Same G G'->Same G' H'->Same H0 H'->(∀ a o,H0 a=some o->isL o=true->G' a=none)->Md K H0 H0 G' H' v w d->D.rt v H'
 | .ex e=>∀ H',Same H0 H'->EX e H'
 | .stuck=>False
def tSt (K:Frag) (EX:EXT) (d:Mode) (m:Rho->R Fl):TS:=fun D σ H=>∃ H0 G ρ,PIv K H0 G ρ σ H/\OutS K EX d H0 G (m ρ) D
section
variable {K:Frag} {EX:EXT} {H0 G H G1 H1 G2 H2:Hp} {ρ:Rho} {σ:St} {d:Mode} {D:Ends}
theorem OutS.move {r:R Fl} (s:Same G G1) (o:OutS K EX d H0 G r D):OutS K EX d H0 G1 r D:=by
 cases r with
 | stuck=>exact o
 | ex e=>exact o
 | ok f=>
  cases f with
  | nx ρ'=>exact fun G' σ' H' s' I'=>o G' σ' H' (s.trans s') I'
  | bk ρ'=>exact fun G' σ' H' s' I'=>o G' σ' H' (s.trans s') I'
  | ct ρ'=>exact fun G' σ' H' s' I'=>o G' σ' H' (s.trans s') I'
  | rt w=>exact fun v G' H' s0 s1 s2 c md=>o v G' H' (s.trans s0) s1 s2 c md
theorem OutS.bind {α β:Type} {md:α->β->Hp->Hp->Prop} {m:R α} {k:α->R Fl} {Q1:β->Hp->Prop} (I:PIv K H0 G ρ σ H) (o:OutS K EX d H0 G (m>>=k) D)
  (h:∀ x G1 H1 w,Ext G H G1 H1->md w x G1 H1->OutS K EX d H0 G1 (k w) D->Q1 x H1):Out EX G H md m Q1:=by
 cases m with
 | ok w=>exact fun v G' H' e q=>h v G' H' w e q (OutS.move e.gg o)
 | ex e=>exact fun H' s=>o H' (I.hh.trans s)
 | stuck=>exact o
def mSeq (m n:Rho->R Fl):Rho->R Fl:=fun ρ=>m ρ>>=fun f=>match f with
 | .nx ρ'=>n ρ'
 | .rt w=>.ok (.rt w)
 | .bk ρ'=>.ok (.bk ρ')
 | .ct ρ'=>.ok (.ct ρ')
theorem c_next (h:tSt K EX d (fun ρ=>.ok (.nx ρ)) D σ H):tNext D σ H:=by
 obtain ⟨H0,G,ρ,I,o⟩:=h
 exact o G σ H (Same.refl G) I
theorem c_seq {m n:Rho->R Fl} (h:tSt K EX d (mSeq m n) D σ H):tSeq (tSt K EX d m) (tSt K EX d n) D σ H:=by
 obtain ⟨H0,G,ρ,I,o⟩:=h
 refine ⟨H0,G,ρ,I,?_⟩
 unfold mSeq at o
 revert o
 cases m ρ with
 | stuck=>exact id
 | ex e=>exact id
 | ok f=>
  cases f with
  | nx ρ'=>exact fun o G' σ' H' s' I'=>⟨H0,G',ρ',I',OutS.move s' o⟩
  | _=>exact id
theorem c_never (h:tSt K EX d (fun _=>.stuck) D σ H):tNever D σ H:=by
 obtain ⟨H0,G,ρ,I,o⟩:=h
 exact o
theorem c_drop {b:Mode} {m:Rho->R W} (h:tSt K EX d (fun ρ=>m ρ>>=fun _=>.ok (.nx ρ)) D σ H):tDrop (tM K EX b m) D σ H:=by
 obtain ⟨H0,G,ρ,I,o⟩:=h
 exact ⟨H0,G,ρ,I,OutS.bind I o fun x G1 H1 w e1 _ o1=>o1 G1 σ H1 (Same.refl _) (I.ext e1)⟩
theorem c_ret {m:Rho->R W} (h:tSt K EX d (fun ρ=>m ρ>>=fun w=>.ok (.rt w)) D σ H):tRet (tM K EX d m) D σ H:=by
 obtain ⟨H0,G,ρ,I,o⟩:=h
 refine ⟨H0,G,ρ,I,OutS.bind I o fun x G1 H1 w e1 m1 o1=>?_⟩
 have I1:=I.ext e1
 exact o1 x G1 H1 (Same.refl _) e1.gh I1.hh I1.gl (m1.start I.hh)
def mRetVar (d:Mode) (i:Nat):Rho->R Fl:=fun ρ=>match ρ[i]? with
 | some (.own ws)=>.ok (.rt (.lst ws))
 | _=>mVar d i ρ>>=fun w=>.ok (.rt w)
theorem c_retVar {i:Nat} (hd:d=.F\/d=.V) (h:tSt K EX d (mRetVar d i) D σ H):tRet (tVar i) D σ H:=by
 obtain ⟨H0,G,ρ,I,o⟩:=h
 unfold mRetVar at o
 by_cases ho:∃ ws,ρ[i]?=some (.own ws)
 ·obtain ⟨ws,e⟩:=ho
  rw [e] at o
  have hi:i<σ.length:=by rw [<- I.len]; exact (List.getElem?_eq_some_iff.mp e).1
  have es:σ[i]?=some σ[i]:=by simp
  obtain ⟨a,vs,ev,ha,hg,h0,r⟩:=I.sl i _ _ e es
  refine ⟨.ref a,by rw [es,ev],?_⟩
  rcases hd with rfl | rfl
  ·exact o _ G H (Same.refl _) I.gh I.hh I.gl ⟨a,vs,rfl,ha,hg,h0,r⟩
  ·have s1:Same G (upd G a (.lst vs)):=fun b o q=>by rw [upd_ne (ne_of_none q hg)]; exact q
   refine o _ (upd G a (.lst vs)) H s1 (fun b o q=>?_) I.hh (fun b u q l=>?_) (.lst upd_same (r.same s1))
   ·by_cases hb:b=a
    ·subst hb; rw [upd_same] at q; cases q; exact ha
    ·rw [upd_ne hb] at q; exact I.gh b o q
   ·rw [upd_ne (ne_of_none q h0)]; exact I.gl b u q l
 ·have o':OutS K EX d H0 G (mVar d i ρ>>=fun w=>.ok (.rt w)) D:=by
   revert o
   split
   ·rename_i ws e; exact absurd ⟨ws,e⟩ ho
   ·exact id
  have c:tRet (tM K EX d (mVar d i)) D σ H:=c_ret (m:=mVar d i) ⟨H0,G,ρ,I,o'⟩
  exact c_var c
theorem PIv.setV {i:Nat} {v:V} {w:W} (I:PIv K H0 G ρ σ H) (r:Rep K G v w):PIv K H0 G (ρ.set i (.val w)) (σ.set i (some v)) H where
 g0:=I.g0
 gl:=I.gl
 gh:=I.gh
 hh:=I.hh
 len:=by rw [List.length_set,List.length_set]; exact I.len
 sl j x o h1 h2:=by
  by_cases hj:i=j
  ·subst hj
   rw [List.getElem?_set] at h1 h2
   simp only [if_true] at h1 h2
   split at h1 <;> split at h2 <;> simp only [Option.some.injEq,reduceCtorEq] at h1 h2
   subst h1; subst h2
   exact ⟨v,rfl,r⟩
  ·rw [List.getElem?_set_ne hj] at h1 h2; exact I.sl j x o h1 h2
 ne a b ws us c hab h1 h2 h3 h4:=by
  have na:i≠a:=by
   rintro rfl
   rw [List.getElem?_set] at h1
   simp only [if_true] at h1
   split at h1 <;> simp at h1
  have nb:i≠b:=by
   rintro rfl
   rw [List.getElem?_set] at h2
   simp only [if_true] at h2
   split at h2 <;> simp at h2
  rw [List.getElem?_set_ne na] at h1 h3
  rw [List.getElem?_set_ne nb] at h2 h4
  exact I.ne a b ws us c hab h1 h2 h3 h4
theorem PIv.setU {i:Nat} {v:V} {w:W} (I:PIv K H0 G ρ σ H) (r:Rep K (join H0 G) v w):PIv K H0 G (ρ.set i (.par w)) (σ.set i (some v)) H where
 g0:=I.g0
 gl:=I.gl
 gh:=I.gh
 hh:=I.hh
 len:=by rw [List.length_set,List.length_set]; exact I.len
 sl j x o h1 h2:=by
  by_cases hj:i=j
  ·subst hj
   rw [List.getElem?_set] at h1 h2
   simp only [if_true] at h1 h2
   split at h1 <;> split at h2 <;> simp only [Option.some.injEq,reduceCtorEq] at h1 h2
   subst h1; subst h2
   exact ⟨v,rfl,r⟩
  ·rw [List.getElem?_set_ne hj] at h1 h2; exact I.sl j x o h1 h2
 ne a b ws us c hab h1 h2 h3 h4:=by
  have na:i≠a:=by
   rintro rfl
   rw [List.getElem?_set] at h1
   simp only [if_true] at h1
   split at h1 <;> simp at h1
  have nb:i≠b:=by
   rintro rfl
   rw [List.getElem?_set] at h2
   simp only [if_true] at h2
   split at h2 <;> simp at h2
  rw [List.getElem?_set_ne na] at h1 h3
  rw [List.getElem?_set_ne nb] at h2 h4
  exact I.ne a b ws us c hab h1 h2 h3 h4
theorem PIv.setO {i:Nat} {a:Addr} {vs:List V} {ws:List W} (I:PIv K H0 G ρ σ H) (ha:H a=some (.lst vs)) (hg:G a=none) (h0:H0 a=none) (r:Reps K G vs ws)
  (nw:∀ (j:Nat) (us:List W),ρ[j]?=some (Sl.own us)->σ[j]?≠some (some (V.ref a))):PIv K H0 G (ρ.set i (.own ws)) (σ.set i (some (.ref a))) H where
 g0:=I.g0
 gl:=I.gl
 gh:=I.gh
 hh:=I.hh
 len:=by rw [List.length_set,List.length_set]; exact I.len
 sl j x o h1 h2:=by
  by_cases hj:i=j
  ·subst hj
   rw [List.getElem?_set] at h1 h2
   simp only [if_true] at h1 h2
   split at h1 <;> split at h2 <;> simp only [Option.some.injEq,reduceCtorEq] at h1 h2
   subst h1; subst h2
   exact ⟨a,vs,rfl,ha,hg,h0,r⟩
  ·rw [List.getElem?_set_ne hj] at h1 h2; exact I.sl j x o h1 h2
 ne p q ws' us c hab h1 h2 h3 h4:=by
  by_cases hp:i=p
  ·subst hp
   rw [List.getElem?_set_ne hab] at h2 h4
   rw [List.getElem?_set] at h3
   simp only [if_true] at h3
   split at h3 <;> simp only [Option.some.injEq,reduceCtorEq,V.ref.injEq] at h3
   subst h3
   exact nw q us h2 h4
  ·rw [List.getElem?_set_ne hp] at h1 h3
   by_cases hq:i=q
   ·subst hq
    rw [List.getElem?_set] at h4
    simp only [if_true] at h4
    split at h4 <;> simp only [Option.some.injEq,reduceCtorEq,V.ref.injEq] at h4
    subst h4
    exact nw p ws' h1 h3
   ·rw [List.getElem?_set_ne hq] at h2 h4
    exact I.ne p q ws' us c hab h1 h2 h3 h4
def slotF:W->Sl
 | .lst ws=>.own ws
 | w=>.val w
theorem c_setV {i:Nat} {m:Rho->R W} (h:tSt K EX d (fun ρ=>m ρ>>=fun w=>.ok (.nx (ρ.set i (.val w)))) D σ H):tAsg (tM K EX .V m) (gName i) D σ H:=by
 obtain ⟨H0,G,ρ,I,o⟩:=h
 exact ⟨H0,G,ρ,I,OutS.bind I o fun x G1 H1 w e1 m1 o1=>o1 G1 _ H1 (Same.refl _) ((I.ext e1).setV m1)⟩
theorem c_setU {i:Nat} {m:Rho->R W} (h:tSt K EX d (fun ρ=>m ρ>>=fun w=>.ok (.nx (ρ.set i (.par w)))) D σ H):tAsg (tM K EX .U m) (gName i) D σ H:=by
 obtain ⟨H0,G,ρ,I,o⟩:=h
 exact ⟨H0,G,ρ,I,OutS.bind I o fun x G1 H1 w e1 m1 o1=>o1 G1 _ H1 (Same.refl _) ((I.ext e1).setU m1)⟩
theorem c_setF {i:Nat} {m:Rho->R W} (h:tSt K EX d (fun ρ=>m ρ>>=fun w=>.ok (.nx (ρ.set i (slotF w)))) D σ H):tAsg (tM K EX .F m) (gName i) D σ H:=by
 obtain ⟨H0,G,ρ,I,o⟩:=h
 refine ⟨H0,G,ρ,I,OutS.bind I o fun x G1 H1 w e1 m1 o1=>?_⟩
 have I1:=I.ext e1
 cases w with
 | lst ws=>
  obtain ⟨a,vs,rfl,h1,h2,h3,r⟩:=m1
  refine o1 G1 _ H1 (Same.refl _) (I1.setO h1 h2 (I.hh.free h3) r fun j us q z=>?_)
  obtain ⟨b,us',eb,hb,_⟩:=I.sl j _ _ q z
  cases eb
  rw [h3] at hb; cases hb
 | non=>exact o1 G1 _ H1 (Same.refl _) (I1.setV m1)
 | bl _=>exact o1 G1 _ H1 (Same.refl _) (I1.setV m1)
 | int _=>exact o1 G1 _ H1 (Same.refl _) (I1.setV m1)
 | str _=>exact o1 G1 _ H1 (Same.refl _) (I1.setV m1)
 | ty _=>exact o1 G1 _ H1 (Same.refl _) (I1.setV m1)
 | tup _=>exact o1 G1 _ H1 (Same.refl _) (I1.setV m1)
 | scr _=>exact o1 G1 _ H1 (Same.refl _) (I1.setV m1)
 | exc _ _=>exact o1 G1 _ H1 (Same.refl _) (I1.setV m1)
 | cls _=>exact o1 G1 _ H1 (Same.refl _) (I1.setV m1)
instance:DecidableEq Mode:=fun a b=>by cases a <;> cases b <;> first | exact isTrue rfl | exact isFalse (by intro h; cases h)
def Gt (K:Frag) (e:Mode) (g:TG) (mg:W->Rho->Option Rho):Prop:=∀ (H0 Hs G:Hp) (ρ:Rho) (σ:St) (H:Hp) (v:V) (w:W) (ρ':Rho) (Q:St->Hp->Prop),PIv K H0 G ρ σ H->Md K H0 Hs G H v w e->mg w ρ=some ρ' ->
 (∀ σ',PIv K H0 G ρ' σ' H->Q σ' H)->g v σ H Q
def Gts (K:Frag) (e:Mode) (g:TGs) (mg:List W->Rho->Option Rho):Prop:=∀ (H0 G:Hp) (ρ:Rho) (σ:St) (H:Hp) (vs:List V) (ws:List W) (ρ':Rho) (Q:St->Hp->Prop),PIv K H0 G ρ σ H->Reps K (if e=.V then G else join H0 G) vs ws->mg ws ρ=some ρ' ->
 (∀ σ',PIv K H0 G ρ' σ' H->Q σ' H)->g vs σ H Q
def gN (e:Mode) (i:Nat):W->Rho->Option Rho:=fun w ρ=>some (ρ.set i (if e=.V then .val w else .par w))
theorem gt_U {i:Nat}:Gt K .U (gName i) (gN .U i):=fun H0 Hs G ρ σ H v w ρ' Q I m e h=>by
 cases e; exact h _ (I.setU m)
def gsNil:List W->Rho->Option Rho
 | [],ρ=>some ρ
 | _,_=>none
def gsCons (f:W->Rho->Option Rho) (g:List W->Rho->Option Rho):List W->Rho->Option Rho
 | w::ws,ρ=>(f w ρ).bind (g ws)
 | [],_=>none
theorem gts_nil {e:Mode}:Gts K e gNil gsNil:=fun H0 G ρ σ H vs ws ρ' Q I r e h=>by
 cases r with
 | nil=>cases e; exact ⟨rfl,h _ I⟩
 | cons _ _=>cases e
theorem gts_cons {e:Mode} {t:TG} {u:TGs} {f:W->Rho->Option Rho} {g:List W->Rho->Option Rho} (he:e=.V\/e=.U) (h1:Gt K e t f) (h2:Gts K e u g):Gts K e (gCons t u) (gsCons f g):=fun H0 G ρ σ H vs ws ρ' Q I r q h=>by
 cases r with
 | nil=>cases q
 | cons a b=>
  unfold gsCons at q
  obtain ⟨ρ1,q1,q2⟩:=Option.bind_eq_some_iff.mp q
  refine ⟨_,_,rfl,h1 H0 H G ρ σ H _ _ ρ1 _ I ?_ q1 fun σ1 I1=>h2 H0 G ρ1 σ1 H _ _ ρ' Q I1 b q2 h⟩
  rcases he with rfl | rfl
  ·exact a
  ·exact a
def gT (n:Nat) (g:List W->Rho->Option Rho):W->Rho->Option Rho
 | .tup ws,ρ=>if ws.length=n then g ws ρ else none
 | _,_=>none
theorem gt_tup {e:Mode} {n:Nat} {u:TGs} {g:List W->Rho->Option Rho} (he:e=.V\/e=.U) (h:Gts K e u g):Gt K e (gTup K n u) (gT n g):=fun H0 Hs G ρ σ H v w ρ' Q I m q k=>by
 cases w <;> first | cases q | skip
 rename_i ws
 have q':(if ws.length=n then g ws ρ else none)=some ρ':=q
 by_cases hn:ws.length=n
 ·rw [if_pos hn] at q'
  rcases he with rfl | rfl
  ·obtain ⟨a,vs,e,s,r⟩:=Rep.inv m
   exact ⟨a,vs,e,SqT.of (I.gh _ _ s),by rw [r.length]; exact hn,h H0 G ρ σ H _ ws ρ' Q I (by rw [if_pos rfl]; exact r) q' k⟩
  ·obtain ⟨a,vs,e,s,r⟩:=Rep.inv m
   exact ⟨a,vs,e,SqT.of (I.join_H _ _ s),by rw [r.length]; exact hn,h H0 G ρ σ H _ ws ρ' Q I (by rw [if_neg (by intro z; cases z)]; exact r) q' k⟩
 ·rw [if_neg hn] at q'; cases q'
def toR {α:Type}:Option α->R α
 | some a=>.ok a
 | none=>.stuck
theorem c_asg {e:Mode} {g:TG} {mg:W->Rho->Option Rho} {m:Rho->R W} (hg:Gt K e g mg) (h:tSt K EX d (fun ρ=>m ρ>>=fun w=>toR (mg w ρ)>>=fun ρ'=>.ok (.nx ρ')) D σ H):tAsg (tM K EX e m) g D σ H:=by
 obtain ⟨H0,G,ρ,I,o⟩:=h
 refine ⟨H0,G,ρ,I,OutS.bind I o fun x G1 H1 w e1 m1 o1=>?_⟩
 cases q:mg w ρ with
 | none=>rw [q] at o1; exact o1.elim
 | some ρ'=>
  rw [q] at o1
  exact hg H0 H G1 ρ σ H1 x w ρ' _ (I.ext e1) m1 q fun σ' I'=>o1 G1 σ' H1 (Same.refl _) I'
theorem PIv.own_upd {i:Nat} {a:Addr} {vs':List V} {ws ws':List W} (I:PIv K H0 G ρ σ H) (e:ρ[i]?=some (.own ws)) (es:σ[i]?=some (some (.ref a))) (r:Reps K G vs' ws'):PIv K H0 G (ρ.set i (.own ws')) σ (upd H a (.lst vs')):=by
 obtain ⟨a',vs,ev,ha,hg,h0,_⟩:=I.sl i _ _ e es
 cases ev
 refine ⟨I.g0,I.gl,fun b o q=>by rw [upd_ne (ne_of_none q hg)]; exact I.gh b o q,fun b o q=>by rw [upd_ne (ne_of_none q h0)]; exact I.hh b o q,by rw [List.length_set]; exact I.len,fun j x o h1 h2=>?_,fun p q ws1 us c hab h1 h2 h3 h4=>?_⟩
 ·by_cases hj:i=j
  ·subst hj
   rw [List.getElem?_set] at h1
   simp only [if_true] at h1
   split at h1 <;> simp only [Option.some.injEq,reduceCtorEq] at h1
   subst h1
   rw [es] at h2; cases h2
   exact ⟨a,vs',rfl,upd_same,hg,h0,r⟩
  ·rw [List.getElem?_set_ne hj] at h1
   have:=I.sl j x o h1 h2
   cases x with
   | own us=>
    obtain ⟨b,us',eb,hb,hgb,h0b,rb⟩:=this
    subst eb
    have hne:b≠a:=by
     rintro rfl
     exact I.ne i j ws us b hj e h1 es h2
    exact ⟨b,us',rfl,by rw [upd_ne hne]; exact hb,hgb,h0b,rb⟩
   | dic ks=>
    obtain ⟨b,us',eb,hb,hgb,h0b,rb⟩:=this
    have hne:b≠a:=by
     rintro rfl
     rw [ha] at hb; cases hb
    exact ⟨b,us',eb,by rw [upd_ne hne]; exact hb,hgb,h0b,rb⟩
   | dik ks=>
    obtain ⟨b,us',eb,hb,hgb,h0b,rb⟩:=this
    have hne:b≠a:=by
     rintro rfl
     rw [ha] at hb; cases hb
    exact ⟨b,us',eb,by rw [upd_ne hne]; exact hb,hgb,h0b,rb⟩
   | un=>exact this
   | val _=>exact this
   | par _=>exact this
   | iop _ _=>exact this
   | hz _=>exact this
 ·have key:∀ {k:Nat} {us:List W},(ρ.set i (.own ws'))[k]?=some (.own us)->∃ us',ρ[k]?=some (.own us'):=fun {k us} hk=>by
   by_cases hik:i=k
   ·subst hik; exact ⟨ws,e⟩
   ·rw [List.getElem?_set_ne hik] at hk; exact ⟨us,hk⟩
  obtain ⟨w1,k1⟩:=key h1
  obtain ⟨w2,k2⟩:=key h2
  exact I.ne p q w1 w2 c hab k1 k2 h3 h4
theorem PIv.own_at {i:Nat} {ws:List W} (I:PIv K H0 G ρ σ H) (e:ρ[i]?=some (.own ws)):∃ a vs,σ[i]?=some (some (.ref a))/\H a=some (.lst vs)/\G a=none/\H0 a=none/\Reps K G vs ws:=by
 have hi:i<σ.length:=by rw [<- I.len]; exact (List.getElem?_eq_some_iff.mp e).1
 have es:σ[i]?=some σ[i]:=by simp
 obtain ⟨a,vs,ev,r⟩:=I.sl i _ _ e es
 exact ⟨a,vs,by rw [es,ev],r⟩
def mApp (i:Nat) (m:Rho->R W):Rho->R Fl:=fun ρ=>match ρ[i]? with
 | some (.own ws)=>m ρ>>=fun w=>if ws.length<1000 then .ok (.nx (ρ.set i (.own (ws ++ [w])))) else .stuck
 | _=>.stuck
theorem c_app {i:Nat} {m:Rho->R W} (h:tSt K EX d (mApp i m) D σ H):tDrop (tApp (tVar i) (tM K EX .V m)) D σ H:=by
 obtain ⟨H0,G,ρ,I,o⟩:=h
 unfold mApp at o
 split at o
 ·rename_i ws e
  obtain ⟨a,vs,es,ha,hg,h0,r⟩:=I.own_at e
  refine ⟨.ref a,es,a,rfl,⟨vs,ha⟩,H0,G,ρ,I,OutS.bind I o fun x G1 H1 w e1 m1 o1=>?_⟩
  by_cases hl:ws.length<1000
  ·rw [if_pos hl] at o1
   have h1:=e1.hh a _ ha
   dsimp only
   rw [h1]
   dsimp only
   have hlen:vs.length=ws.length:=r.length
   exact ⟨Nat.lt_of_lt_of_le (by omega:vs.length<1000) (by decide),o1 G1 σ _ (Same.refl _) ((I.ext e1).own_upd e es ((r.same e1.gg).snoc m1))⟩
  ·rw [if_neg hl] at o1; exact o1.elim
 ·exact o.elim
def mSet (i:Nat) (mk me:Rho->R W):Rho->R Fl:=fun ρ=>match ρ[i]? with
 | some (.own ws)=>me ρ>>=fun w=>mk ρ>>=fun k=>(match k with
  | .int k=>(match ixN ws.length k with
   | some j=>.ok (.nx (ρ.set i (.own (ws.set j w))))
   | none=>.stuck)
  | _=>.stuck)
 | _=>.stuck
theorem c_set {i:Nat} {mk me:Rho->R W} (h:tSt K EX d (mSet i mk me) D σ H):tAsg (tM K EX .V me) (gSub (tVar i) (tM K EX .B mk) rSetL) D σ H:=by
 obtain ⟨H0,G,ρ,I,o⟩:=h
 unfold mSet at o
 split at o
 ·rename_i ws e
  obtain ⟨a,vs,es,ha,hg,h0,r⟩:=I.own_at e
  refine ⟨H0,G,ρ,I,OutS.bind I o fun x G1 H1 w e1 m1 o1=>⟨.ref a,es,H0,G1,ρ,I.ext e1,OutS.bind (I.ext e1) o1 fun y G2 H2 k e2 m2 o2=>?_⟩⟩
  cases k <;> first | exact o2.elim | skip
  rename_i k
  dsimp only at o2
  cases q:ixN ws.length k with
  | none=>rw [q] at o2; exact o2.elim
  | some j=>
   rw [q] at o2
   refine ⟨a,vs,k,j,rfl,m2.intB,e2.hh _ _ (e1.hh _ _ ha),by rw [r.length]; exact q,?_⟩
   exact o2 G2 σ _ (Same.refl _) (((I.ext e1).ext e2).own_upd e es (Reps.set (Rep.same e2.gg m1) j ((r.same e1.gg).same e2.gg)))
 ·exact o.elim
def mAug (i:Nat) (f:Int->Int->Int) (m:Rho->R W):Rho->R Fl:=fun ρ=>mVar .B i ρ>>=fun x=>m ρ>>=fun y=>match x,y with
 | .int a,.int b=>.ok (.nx (ρ.set i (.val (.int (f a b)))))
 | _,_=>.stuck
def mIf (c:Rho->R Bool) (m n:Rho->R Fl):Rho->R Fl:=fun ρ=>c ρ>>=fun b=>if b then m ρ else n ρ
theorem c_ifS {c:Rho->R Bool} {m n:Rho->R Fl} (h:tSt K EX d (mIf c m n) D σ H):tIfS (tT K EX c) (tSt K EX d m) (tSt K EX d n) D σ H:=by
 obtain ⟨H0,G,ρ,I,o⟩:=h
 refine ⟨H0,G,ρ,I,OutS.bind I o fun x G1 H1 w e1 m1 o1=>?_⟩
 cases m1
 cases x with
 | true=>exact ⟨H0,G1,ρ,I.ext e1,o1⟩
 | false=>exact ⟨H0,G1,ρ,I.ext e1,o1⟩
def frz (i:Nat) (ρ:Rho):Rho:=match ρ[i]? with
 | some (.own ws)=>ρ.set i (.val (.lst ws))
 | _=>ρ
theorem PIv.frz {i:Nat} (I:PIv K H0 G ρ σ H):∃ G',Same G G'/\PIv K H0 G' (frz i ρ) σ H:=by
 unfold TP.frz
 split
 ·rename_i ws e
  obtain ⟨a,vs,es,ha,hg,h0,r⟩:=I.own_at e
  have s1:Same G (upd G a (.lst vs)):=fun b o q=>by rw [upd_ne (ne_of_none q hg)]; exact q
  refine ⟨upd G a (.lst vs),s1,?_⟩
  have I1:PIv K H0 G (ρ.set i .un) σ H:=by
   refine ⟨I.g0,I.gl,I.gh,I.hh,by rw [List.length_set]; exact I.len,fun j x o h1 h2=>?_,fun p q ws1 us c hab h1 h2 h3 h4=>?_⟩
   ·by_cases hj:i=j
    ·subst hj
     rw [List.getElem?_set] at h1
     simp only [if_true] at h1
     split at h1 <;> simp only [Option.some.injEq,reduceCtorEq] at h1
     subst h1; trivial
    ·rw [List.getElem?_set_ne hj] at h1; exact I.sl j x o h1 h2
   ·have na:i≠p:=by
     rintro rfl
     rw [List.getElem?_set] at h1
     simp only [if_true] at h1
     split at h1 <;> simp at h1
    have nb:i≠q:=by
     rintro rfl
     rw [List.getElem?_set] at h2
     simp only [if_true] at h2
     split at h2 <;> simp at h2
    rw [List.getElem?_set_ne na] at h1
    rw [List.getElem?_set_ne nb] at h2
    exact I.ne p q ws1 us c hab h1 h2 h3 h4
  have I2:PIv K H0 (upd G a (.lst vs)) (ρ.set i .un) σ H:=by
   refine ⟨fun b o q l=>s1 b o (I.g0 b o q l),fun b o q l=>by rw [upd_ne (ne_of_none q h0)]; exact I.gl b o q l,fun b o q=>?_,I.hh,I1.len,fun j x o h1 h2=>?_,I1.ne⟩
   ·by_cases hb:b=a
    ·subst hb; rw [upd_same] at q; cases q; exact ha
    ·rw [upd_ne hb] at q; exact I.gh b o q
   ·have:=I1.sl j x o h1 h2
    cases x with
    | un=>trivial
    | val w=>obtain ⟨v,e1,r1⟩:=this; exact ⟨v,e1,r1.same s1⟩
    | par w=>obtain ⟨v,e1,r1⟩:=this; exact ⟨v,e1,r1.same (join_same s1)⟩
    | own us=>
     obtain ⟨b,us',eb,hb,hgb,h0b,rb⟩:=this
     subst eb
     have hij:i≠j:=by
      rintro rfl
      rw [List.getElem?_set] at h1
      simp only [if_true] at h1
      split at h1 <;> simp at h1
     rw [List.getElem?_set_ne hij] at h1
     have hne:b≠a:=by
      rintro rfl
      exact I.ne i j ws us b hij e h1 es h2
     exact ⟨b,us',rfl,hb,by rw [upd_ne hne]; exact hgb,h0b,rb.same s1⟩
    | dic ks=>
     obtain ⟨b,us',eb,hb,hgb,h0b,rb⟩:=this
     have hne:b≠a:=by
      rintro rfl
      rw [ha] at hb; cases hb
     exact ⟨b,us',eb,hb,by rw [upd_ne hne]; exact hgb,h0b,rb⟩
    | dik ks=>
     obtain ⟨b,us',eb,hb,hgb,h0b,rb⟩:=this
     have hne:b≠a:=by
      rintro rfl
      rw [ha] at hb; cases hb
     exact ⟨b,us',eb,hb,by rw [upd_ne hne]; exact hgb,h0b,rb⟩
    | iop p us=>obtain ⟨e1,vs1,h1',r1⟩:=this; exact ⟨e1,vs1,h1',r1.same s1⟩
    | hz w=>obtain ⟨v,e,r⟩:=this; exact ⟨v,e,r.same (join_same (noLG_same s1))⟩
  have I3:=I2.setV (i:=i) (v:=.ref a) (w:=.lst ws) (.lst upd_same (r.same s1))
  have e3:σ.set i (some (V.ref a))=σ:=by
   apply List.ext_getElem?
   intro j
   by_cases hj:i=j
   ·subst hj; rw [es,List.getElem?_set]; simp only [if_true]; rw [if_pos (List.getElem?_eq_some_iff.mp es).1]
   ·rw [List.getElem?_set_ne hj]
  rw [e3,List.set_set] at I3
  exact I3
 ·exact ⟨G,Same.refl G,I⟩
theorem c_frz {i:Nat} {m:Rho->R Fl} (h:tSt K EX d (fun ρ=>m (frz i ρ)) D σ H):tSt K EX d m D σ H:=by
 obtain ⟨H0,G,ρ,I,o⟩:=h
 obtain ⟨G',s,I'⟩:=I.frz (i:=i)
 exact ⟨H0,G',_,I',OutS.move s o⟩
end
end TP
namespace TP
open PySem L2
section
variable {K:Frag} {EX:EXT} {H0 G H G1 H1 G2 H2:Hp} {ρ:Rho} {σ:St} {d:Mode} {D:Ends}
structure ItOk (K:Frag) (e:Mode) (H0 Z G:Hp) (J:It) (ws:List W):Prop where
 go:∀ i H,i<ws.length->Same Z H->J.go i H
 stop:∀ H,Same Z H->J.stop ws.length H
 yld:∀ i H x H' w,ws[i]?=some w->Same Z H->J.yld i H x H'->∀ G2 ρ σ,PIv K H0 G2 ρ σ H->Same G G2->∃ G3,Ext G2 H G3 H'/\Md K H0 H G3 H' x w e
def OutI (K:Frag) (EX:EXT) (lp:Bool) (e:Mode) (H0 G H:Hp) (r:R (List W)) (Rr:It->Hp->Prop):Prop:=match r with
 | .ok ws=>∀ J G' H',Ext G H G' H'->ItOk K e H0 (if lp then join H0 G' else H') G' J ws->Rr J H'
 | .ex x=>∀ H',Same H H'->EX x H'
 | .stuck=>False
def tIt (K:Frag) (EX:EXT) (lp:Bool) (e:Mode) (m:Rho->R (List W)):TI:=fun σ H Rr=>∃ H0 G ρ,PIv K H0 G ρ σ H/\OutI K EX lp e H0 G H (m ρ) Rr
def mFor (mg:W->Rho->Option Rho) (mb:Rho->R Fl):List W->Rho->R Fl
 | [],ρ=>.ok (.nx ρ)
 | w::ws,ρ=>toR (mg w ρ)>>=fun ρ1=>mb ρ1>>=fun f=>match f with
  | .nx ρ2=>mFor mg mb ws ρ2
  | .ct ρ2=>mFor mg mb ws ρ2
  | .bk ρ2=>.ok (.nx ρ2)
  | .rt w=>.ok (.rt w)
theorem c_for {e:Mode} {g:TG} {mg:W->Rho->Option Rho} {mi:Rho->R (List W)} {mb:Rho->R Fl} (hg:Gt K e g mg) (h:tSt K EX d (fun ρ=>mi ρ>>=fun ws=>mFor mg mb ws ρ) D σ H) :
  tFor (tIt K EX true e mi) g (tSt K EX d mb) D σ H:=by
 obtain ⟨H0,G,ρ,I,o⟩:=h
 refine ⟨H0,G,ρ,I,?_⟩
 replace o:OutS K EX d H0 G (mi ρ>>=fun ws=>mFor mg mb ws ρ) D:=o
 revert o
 cases mi ρ with
 | stuck=>exact id
 | ex x=>exact fun o H' s=>o H' (I.hh.trans s)
 | ok ws=>
  intro o J G1 H1 e1 T
  have o1:OutS K EX d H0 G1 (mFor mg mb ws ρ) D:=OutS.move e1.gg o
  refine ⟨fun i m σ H=>m=ws.length-i/\i<=ws.length/\∃ G2 ρ2,Same G1 G2/\PIv K H0 G2 ρ2 σ H/\OutS K EX d H0 G2 (mFor mg mb (ws.drop i) ρ2) D,⟨_,rfl,Nat.zero_le _,G1,ρ,Same.refl _,I.ext e1,o1⟩,?_⟩
  rintro i m σ2 Hh ⟨rfl,hi,G2,ρ2,s2,I2,o2⟩
  have hz:Same (join H0 G1) Hh:=(join_same s2).trans I2.join_H
  by_cases hlt:i<ws.length
  ·refine .inr ⟨T.go i Hh hlt hz,fun σ' H'=>∃ G4 ρ4,Same G1 G4/\PIv K H0 G4 ρ4 σ' H'/\OutS K EX d H0 G4 (mFor mg mb (ws.drop (i+1)) ρ4) D,fun σ' H' zz76=>by obtain ⟨G4,ρ4,s4,I4,o4⟩:=zz76; exact ⟨ws.length-(i+1),by omega,rfl,hlt,G4,ρ4,s4,I4,o4⟩,fun x H' y=>?_⟩
   obtain ⟨G3,e3,m3⟩:=T.yld i Hh x H' ws[i] (by simp) hz y G2 ρ2 σ2 I2 s2
   rw [List.drop_eq_getElem_cons hlt] at o2
   unfold mFor at o2
   cases q:mg ws[i] ρ2 with
   | none=>rw [q] at o2; exact o2.elim
   | some ρ'=>
    rw [q] at o2
    refine hg H0 Hh G3 ρ2 σ2 H' x _ ρ' _ (I2.ext e3) m3 q fun σ' I'=>⟨H0,G3,ρ',I',?_⟩
    have o3:OutS K EX d H0 G3 (mb ρ'>>=fun f=>match f with
     | .nx ρ2=>mFor mg mb (ws.drop (i+1)) ρ2
     | .ct ρ2=>mFor mg mb (ws.drop (i+1)) ρ2
     | .bk ρ2=>.ok (.nx ρ2)
     | .rt w=>.ok (.rt w)) D:=OutS.move e3.gg o2
    revert o3
    have s3:Same G1 G3:=s2.trans e3.gg
    cases mb ρ' with
    | stuck=>exact id
    | ex x=>exact id
    | ok f=>
     cases f with
     | nx ρ4=>exact fun o4 G4 σ4 H4 s4 I4=>⟨G4,ρ4,s3.trans s4,I4,OutS.move s4 o4⟩
     | ct ρ4=>exact fun o4 G4 σ4 H4 s4 I4=>⟨G4,ρ4,s3.trans s4,I4,OutS.move s4 o4⟩
     | bk ρ4=>exact id
     | rt w=>exact id
  ·have e:i=ws.length:=by omega
   subst e
   refine .inl ⟨T.stop Hh hz,?_⟩
   rw [List.drop_length] at o2
   exact o2 G2 σ2 Hh (Same.refl _) I2
def iterW (c:Rho->R Bool) (b:Rho->R Fl):Nat->Rho->Option (R Fl)
 | 0,_=>none
 | n+1,ρ=>match c ρ with
  | .ok false=>some (.ok (.nx ρ))
  | .ok true=>(match b ρ with
   | .ok (.nx ρ')=>iterW c b n ρ'
   | .ok (.ct ρ')=>iterW c b n ρ'
   | .ok (.bk ρ')=>some (.ok (.nx ρ'))
   | .ok (.rt w)=>some (.ok (.rt w))
   | .ex e=>some (.ex e)
   | .stuck=>some .stuck)
  | .ex e=>some (.ex e)
  | .stuck=>some .stuck
theorem iterW_more {c:Rho->R Bool} {b:Rho->R Fl}:∀ (n:Nat) (ρ:Rho) (r:R Fl),iterW c b n ρ=some r->∀ m,n<=m->iterW c b m ρ=some r:=by
 intro n
 induction n with
 | zero=>intro ρ r h; cases h
 | succ n ih=>
  intro ρ r h m hm
  obtain ⟨k,rfl⟩:∃ k,m=k+1:=⟨m-1,by omega⟩
  have hk:=Nat.le_of_succ_le_succ hm
  unfold iterW at h ⊢
  revert h
  cases c ρ with
  | ex e=>exact id
  | stuck=>exact id
  | ok t=>
   cases t with
   | false=>exact id
   | true=>
    cases b ρ with
    | ex e=>exact id
    | stuck=>exact id
    | ok f=>
     cases f with
     | nx ρ'=>exact fun h=>ih ρ' r h k hk
     | ct ρ'=>exact fun h=>ih ρ' r h k hk
     | bk ρ'=>exact id
     | rt w=>exact id
open Classical in
def mWhile (c:Rho->R Bool) (b:Rho->R Fl):Rho->R Fl:=fun ρ=>if h:∃ r n,iterW c b n ρ=some r then h.choose else .stuck
theorem mWhile_eq {c:Rho->R Bool} {b:Rho->R Fl} {n:Nat} {r:R Fl} (h:iterW c b n ρ=some r):mWhile c b ρ=r:=by
 unfold mWhile
 have hx:∃ r n,iterW c b n ρ=some r:=⟨r,n,h⟩
 rw [dif_pos hx]
 obtain ⟨m,hm⟩:=hx.choose_spec
 have a:=iterW_more n ρ r h (max n m) (Nat.le_max_left _ _)
 have b:=iterW_more m ρ _ hm (max n m) (Nat.le_max_right _ _)
 rw [a] at b
 exact (Option.some.inj b).symm
theorem c_while {c:Rho->R Bool} {b:Rho->R Fl} (h:tSt K EX d (mWhile c b) D σ H):tWhile (tT K EX c) (tSt K EX d b) D σ H:=by
 obtain ⟨H0,G,ρ,I,o⟩:=h
 by_cases hx:∃ r n,iterW c b n ρ=some r
 ·obtain ⟨r,n,hn⟩:=hx
  rw [mWhile_eq hn] at o
  refine ⟨fun m σ2 Hh=>∃ G2 ρ2,Same G G2/\PIv K H0 G2 ρ2 σ2 Hh/\iterW c b m ρ2=some r,⟨n,G,ρ,Same.refl _,I,hn⟩,?_⟩
  rintro m σ2 Hh ⟨G2,ρ2,s2,I2,h2⟩
  have o2:OutS K EX d H0 G2 r D:=OutS.move s2 o
  refine ⟨H0,G2,ρ2,I2,?_⟩
  cases m with
  | zero=>cases h2
  | succ m=>
   unfold iterW at h2
   revert h2
   cases c ρ2 with
   | stuck=>intro h2; cases h2; exact o2
   | ex x=>intro h2; cases h2; exact fun H' s=>o2 H' (I2.hh.trans s)
   | ok t=>
    cases t with
    | false=>
     intro h2; cases h2
     intro v G3 H3 e3 q
     cases q
     rw [if_neg Bool.false_ne_true]
     exact o2 G3 σ2 H3 e3.gg (I2.ext e3)
    | true=>
     intro h2 v G3 H3 e3 q
     cases q
     rw [if_pos rfl]
     refine ⟨fun σ' H'=>∃ G4 ρ4,Same G G4/\PIv K H0 G4 ρ4 σ' H'/\iterW c b m ρ4=some r,fun σ' H' zz77=>by obtain ⟨G4,ρ4,s4,I4,h4⟩:=zz77; exact ⟨m,Nat.lt_succ_self m,G4,ρ4,s4,I4,h4⟩,H0,G3,ρ2,I2.ext e3,?_⟩
     have o3:OutS K EX d H0 G3 r D:=OutS.move e3.gg o2
     have s3:Same G G3:=s2.trans e3.gg
     revert h2
     cases b ρ2 with
     | stuck=>intro h2; cases h2; exact o3
     | ex x=>intro h2; cases h2; exact o3
     | ok f=>
      cases f with
      | nx ρ4=>exact fun h2 G4 σ4 H4 s4 I4=>⟨G4,ρ4,s3.trans s4,I4,h2⟩
      | ct ρ4=>exact fun h2 G4 σ4 H4 s4 I4=>⟨G4,ρ4,s3.trans s4,I4,h2⟩
      | bk ρ4=>intro h2; cases h2; exact o3
      | rt w=>intro h2; cases h2; exact o3
 ·unfold mWhile at o
  rw [dif_neg hx] at o
  exact o.elim
theorem Md.whole {v:V} {w:W} {Hs:Hp} (I:PIv K H0 G ρ σ H) (h:Md K H0 Hs G H v w .B):Rep K H v w:=by
 rcases h with h | ⟨a,vs,ws,rfl,rfl,h1,r⟩
 ·exact h.same I.join_H
 ·exact .lst h1 (r.same I.gh)
theorem MdA.whole {Hs:Hp} (I:PIv K H0 G ρ σ H) {ws:List W} {vs:List V} (h:MdA K .B H0 Hs G H ws vs):Reps K H vs ws:=
 @MdA.rec K .B H0 Hs G H (fun ws vs _=>Reps K H vs ws) .nil (fun h _ b=>.cons (h.whole I) b) ws vs h
def XE (_:XK):EXT:=fun _ _=>False
def spM (K:Frag) (n:Nat) (d:Mode) (f:List W->R W):Sp:=fun vs H Q E=>vs.length=n/\∃ ws,Reps K H vs ws/\match f ws with
 | .ok w=>∀ v G' H',Same H H'->Same G' H'->(∀ a o,H a=some o->isL o=true->G' a=none)->Md K H H G' H' v w d->Q v H'
 | .ex e=>∀ H',Same H H'->XE E e H'
 | .stuck=>False
def runB (n N:Nat) (m:Rho->R Fl) (ws:List W):R W:=if ws.length=n then (m (ws.map Sl.par++List.replicate (N-n) Sl.un)>>=fun f=>match f with
 | .rt w=>.ok w
 | .nx _=>.ok .non
 | _=>.stuck) else .stuck
theorem runB_len {n N:Nat} {m:Rho->R Fl} (ws:List W) (h:runB n N m ws≠.stuck):ws.length=n:=by
 unfold runB at h
 by_cases e:ws.length=n
 ·exact e
 ·rw [if_neg e] at h; exact absurd rfl h
def both (G G':Hp):Hp:=fun b=>match G b with
 | some o=>some o
 | none=>G' b
theorem c_call {n:Nat} {f:List W->R W} {E:XK} {ma:Rho->R (List W)} {Q:VK} (hd:d=.F\/d=.V) (hf:∀ ws,f ws≠.stuck->ws.length=n) (hE:∀ e H,EX e H->XE E e H) (h:tM K EX d (fun ρ=>ma ρ>>=fun ws=>f ws) σ H Q) :
  tCall (spM K n d f) [] E (tA K EX .B ma) σ H Q:=by
 obtain ⟨H0,G,ρ,I,o⟩:=h
 refine ⟨H0,G,ρ,I,Out.bind o fun xs G1 H1 ws e1 m1 o1=>?_⟩
 have I1:=I.ext e1
 have r:=MdA.whole I1 m1
 rw [List.append_nil]
 refine ⟨?_,ws,r,?_⟩
 ·rw [r.length]
  refine hf ws fun z=>?_
  rw [z] at o1; exact o1
 ·revert o1
  cases f ws with
  | stuck=>exact id
  | ex e=>exact fun o1 H' s=>hE e H' (o1 H' s)
  | ok w=>
   intro o1 v G' H' sH gH cl md
   have sB:Same G1 (both G1 G'):=fun b o q=>by unfold both; rw [q]
   have sB':Same G' (both G1 G'):=fun b o q=>by
    unfold both
    cases q1:G1 b with
    | none=>exact q
    | some u=>
     have a1:=sH b u (I1.gh b u q1)
     rw [gH b o q] at a1
     exact a1.symm
   have sHB:Same (both G1 G') H':=fun b o q=>by
    unfold both at q
    cases q1:G1 b with
    | none=>rw [q1] at q; exact gH b o q
    | some u=>rw [q1] at q; cases q; exact sH b _ (I1.gh b _ q1)
   have ex:Ext G1 H1 (both G1 G') H':=⟨sB,sH,sHB,fun b o q l g=>by unfold both; rw [g]; exact cl b o q l⟩
   refine o1 v (both G1 G') H' ex ?_
   rcases hd with rfl | rfl
   ·cases w with
    | lst us=>
     obtain ⟨a,vs,rfl,h1,h2,h3,r3⟩:=md
     exact ⟨a,vs,rfl,h1,by unfold both; rw [I1.gh.free h3]; exact h2,e1.hh.free h3,r3.same sB'⟩
    | non=>exact Rep.same sB' md
    | bl _=>exact Rep.same sB' md
    | int _=>exact Rep.same sB' md
    | str _=>exact Rep.same sB' md
    | ty _=>exact Rep.same sB' md
    | tup _=>exact Rep.same sB' md
    | scr _=>exact Rep.same sB' md
    | exc _ _=>exact Rep.same sB' md
    | cls _=>exact Rep.same sB' md
   ·exact Rep.same sB' md
def noLH (H:Hp):Hp:=fun a=>match H a with
 | some o=>if isL o then none else some o
 | none=>none
theorem join_noLH:join H (noLH H)=H:=by
 funext a
 unfold join noLH
 cases q:H a with
 | none=>rfl
 | some o=>
  dsimp only
  cases isL o <;> rfl
theorem Reps.slots {vs:List V} {ws:List W} {i:Nat} {x:Sl} {o:Option V} {k k':Nat} (r:Reps K H vs ws):(ws.map Sl.par++List.replicate k Sl.un)[i]?=some x->(vs.map some++List.replicate k' none)[i]?=some o->x=.un\/∃ v w,x=.par w/\o=some v/\Rep K H v w:=
 Reps.ind (P:=fun vs ws=>∀ i,(ws.map Sl.par++List.replicate k Sl.un)[i]?=some x->(vs.map some++List.replicate k' none)[i]?=some o->x=.un\/∃ v w,x=.par w/\o=some v/\Rep K H v w) (fun i h1 h2=>by
  have h1:(List.replicate k Sl.un)[i]?=some x:=h1
  rw [List.getElem?_replicate] at h1
  by_cases hk:i<k
  ·rw [if_pos hk] at h1; exact .inl (Option.some.inj h1).symm
  ·rw [if_neg hk] at h1; cases h1) (fun r _ b i h1 h2=>by
  cases i with
  | zero=>exact .inr ⟨_,_,(Option.some.inj h1).symm,(Option.some.inj h2).symm,r⟩
  | succ i=>exact b i h1 h2) r i
theorem PIv.begin {vs:List V} {ws:List W} {k k':Nat} (r:Reps K H vs ws) (hk:k=k'):PIv K H (noLH H) (ws.map Sl.par++List.replicate k Sl.un) (vs.map some++List.replicate k' none) H where
 g0 a o e l:=by unfold noLH; rw [e]; dsimp only; rw [l]; rfl
 gl a o e l:=by unfold noLH; rw [e]; dsimp only; rw [l]; rfl
 gh a o e:=by
  unfold noLH at e
  cases q:H a with
  | none=>rw [q] at e; cases e
  | some u=>
   rw [q] at e
   dsimp only at e
   cases hl:isL u
   ·rw [hl] at e; exact e
   ·rw [hl] at e; cases e
 hh:=Same.refl H
 len:=by subst hk; simp [r.length]
 sl i x o h1 h2:=by
  rcases Reps.slots r h1 h2 with rfl | ⟨v,w,rfl,rfl,q⟩
  ·trivial
  ·exact ⟨v,rfl,by rw [join_noLH]; exact q⟩
 ne i j us xs a hij h1 _ _ _:=by
  have:∀ (i:Nat) (us:List W),(ws.map Sl.par++List.replicate k Sl.un)[i]?≠some (Sl.own us):=fun i us q=>by
   rw [List.getElem?_append] at q
   split at q
   ·rw [List.getElem?_map] at q
    cases hh:ws[i]? <;> rw [hh] at q <;> cases q
   ·rw [List.getElem?_replicate] at q
    split at q <;> cases q
  exact absurd h1 (this i us)
theorem c_body {n:Nat} {Nl:List Str} {m:Rho->R Fl} {vs:List V} {Q:VK} {E:XK} (hd:d=.F\/d=.V) (h:spM K n d (runB n Nl.length m) vs H Q E):tSt K (fun _ _=>False) d m { nx:=fun _ H'=>Q .non H',rt:=Q } (L2.start Nl vs) H:=by
 obtain ⟨hl,ws,r,o⟩:=h
 have hw:ws.length=n:=by rw [<- r.length]; exact hl
 unfold runB at o
 rw [if_pos hw] at o
 refine ⟨H,noLH H,_,PIv.begin (k:=Nl.length-n) r (by rw [hl]),?_⟩
 revert o
 cases m (ws.map Sl.par++List.replicate (Nl.length-n) Sl.un) with
 | stuck=>exact id
 | ex e=>exact fun o=>(o H (Same.refl H)).elim
 | ok f=>
  cases f with
  | nx ρ'=>exact fun o G' σ' H' s' I'=>o .non G' H' I'.hh I'.gh I'.gl (Md.sca rfl (fun _=>.non) d)
  | rt w=>exact fun o v G' H' _ s1 s2 c md=>o v G' H' s2 s1 c md
  | bk _=>exact fun o=>o.elim
  | ct _=>exact fun o=>o.elim
end
end TP
namespace TP
open PySem L2
section
variable {K:Frag} {EX:EXT} {H0 G H G1 H1 G2 H2:Hp} {ρ:Rho} {σ:St} {d:Mode} {D:Ends}
def elR (mg:W->Rho->Option Rho) (mc:Rho->R Bool) (me:Rho->R W) (ρ:Rho) (w:W):R (Option W):=match mg w ρ with
 | none=>.stuck
 | some ρ1=>(match mc ρ1 with
  | .ok true=>(match me ρ1 with
   | .ok y=>.ok (some y)
   | _=>.stuck)
  | .ok false=>.ok none
  | _=>.stuck)
def mapR (f:W->R (Option W)):List W->R (List W)
 | []=>.ok []
 | w::ws=>match f w,mapR f ws with
  | .ok (some y),.ok ys=>.ok (y::ys)
  | .ok none,.ok ys=>.ok ys
  | _,_=>.stuck
def mComp (N':Nat) (mg:W->Rho->Option Rho) (mc:Rho->R Bool) (me:Rho->R W) (ws:List W) (ρ:Rho):R W:=
 if ws.length<=1000 then (match mapR (elR mg mc me (ρ++List.replicate (N'-ρ.length) Sl.un)) ws with
  | .ok ys=>.ok (.lst ys)
  | _=>.stuck) else .stuck
theorem mapR_ok {f:W->R (Option W)}:∀ {ws ys:List W},mapR f ws=.ok ys->(∀ w∈ws,∃ o,f w=.ok o)/\ys=ws.filterMap fun w=>match f w with
  | .ok o=>o
  | _=>none:=by
 intro ws
 induction ws with
 | nil=>intro ys h; cases h; exact ⟨by simp,rfl⟩
 | cons w ws ih=>
  intro ys h
  unfold mapR at h
  cases hf:f w with
  | stuck=>rw [hf] at h; cases h
  | ex e=>rw [hf] at h; cases h
  | ok o=>
   rw [hf] at h
   cases hm:mapR f ws with
   | stuck=>rw [hm] at h; cases o <;> cases h
   | ex e=>rw [hm] at h; cases o <;> cases h
   | ok zs=>
    rw [hm] at h
    obtain ⟨h1,h2⟩:=ih hm
    refine ⟨fun u hu=>?_,?_⟩
    ·rcases List.mem_cons.mp hu with rfl | hu
     ·exact ⟨o,hf⟩
     ·exact h1 u hu
    ·cases o with
     | none=>cases h; rw [List.filterMap_cons,hf]; exact h2
     | some y=>cases h; rw [List.filterMap_cons,hf,h2]
theorem PIv.inner {N':List Str} (I:PIv K H0 G ρ σ H):PIv K H0 G (ρ++List.replicate (N'.length-ρ.length) Sl.un) (inner N' σ) H:=by
 have hl:=I.len
 unfold L2.inner
 rw [hl]
 refine ⟨I.g0,I.gl,I.gh,I.hh,by simp [hl],fun i x o h1 h2=>?_,fun p q ws us c hab h1 h2 h3 h4=>?_⟩
 ·by_cases hi:i<ρ.length
  ·rw [List.getElem?_append_left hi] at h1
   rw [List.getElem?_append_left (by omega)] at h2
   exact I.sl i x o h1 h2
  ·rw [List.getElem?_append_right (by omega),List.getElem?_replicate] at h1
   split at h1 <;> simp only [Option.some.injEq,reduceCtorEq] at h1
   subst h1; trivial
 ·have key:∀ {k:Nat} {us:List W},(ρ++List.replicate (N'.length-σ.length) Sl.un)[k]?=some (Sl.own us)->k<ρ.length/\ρ[k]?=some (Sl.own us):=fun {k us} hk=>by
   by_cases hi:k<ρ.length
   ·rw [List.getElem?_append_left hi] at hk; exact ⟨hi,hk⟩
   ·rw [List.getElem?_append_right (by omega),List.getElem?_replicate] at hk
    split at hk <;> simp at hk
  obtain ⟨l1,k1⟩:=key h1
  obtain ⟨l2,k2⟩:=key h2
  rw [List.getElem?_append_left (by omega)] at h3 h4
  exact I.ne p q ws us c hab k1 k2 h3 h4
open Classical in
def rest (G H:Hp) (Dd:Addr) (H':Hp):Hp:=fun b=>if b=Dd\/∃ o,H b=some o/\isL o=true/\G b=none then none else H' b
theorem rest_none {Dd b:Addr} {H':Hp} (h:b=Dd\/∃ o,H b=some o/\isL o=true/\G b=none):rest G H Dd H' b=none:=by unfold rest; rw [if_pos h]
theorem rest_some {Dd b:Addr} {H':Hp} (h:¬ (b=Dd\/∃ o,H b=some o/\isL o=true/\G b=none)):rest G H Dd H' b=H' b:=by unfold rest; rw [if_neg h]
theorem rest_of {Dd b:Addr} {H':Hp} {o:HO} (h:rest G H Dd H' b=some o):H' b=some o/\¬ (b=Dd\/∃ o,H b=some o/\isL o=true/\G b=none):=by
 by_cases c:b=Dd\/∃ o,H b=some o/\isL o=true/\G b=none
 ·rw [rest_none c] at h; cases h
 ·rw [rest_some c] at h; exact ⟨h,c⟩
theorem PIv.rest {Dd:Addr} {H':Hp} (I:PIv K H0 G ρ σ H) (hD:H Dd=none) (s:Same H H'):Same G (rest G H Dd H')/\PIv K H0 (rest G H Dd H') ρ σ H':=by
 have sG:Same G (TP.rest G H Dd H'):=fun b o q=>by
  rw [rest_some]
  ·exact s b o (I.gh b o q)
  ·rintro (rfl | ⟨u,h1,h2,h3⟩)
   ·rw [I.gh _ _ q] at hD; cases hD
   ·rw [q] at h3; cases h3
 refine ⟨sG,fun a o e l=>sG a o (I.g0 a o e l),fun a o e l=>rest_none (.inr ⟨o,I.hh a o e,l,I.gl a o e l⟩),fun b o q=>(rest_of q).1,I.hh.trans s,I.len,fun i x o h1 h2=>?_,I.ne⟩
 have:=I.sl i x o h1 h2
 cases x with
 | un=>trivial
 | val w=>obtain ⟨v,e,r⟩:=this; exact ⟨v,e,r.same sG⟩
 | par w=>obtain ⟨v,e,r⟩:=this; exact ⟨v,e,r.same (join_same sG)⟩
 | own ws=>
  obtain ⟨a,vs,e,h,g,h0,r⟩:=this
  exact ⟨a,vs,e,s a _ h,rest_none (.inr ⟨_,h,rfl,g⟩),h0,r.same sG⟩
 | dic ks=>
  obtain ⟨a,vs,e,h,g,h0,r⟩:=this
  exact ⟨a,vs,e,s a _ h,rest_none (.inr ⟨_,h,rfl,g⟩),h0,r⟩
 | dik ks=>
  obtain ⟨a,vs,e,h,g,h0,r⟩:=this
  exact ⟨a,vs,e,s a _ h,rest_none (.inr ⟨_,h,rfl,g⟩),h0,r⟩
 | iop p ws=>obtain ⟨e1,vs1,h1',r1⟩:=this; exact ⟨e1,vs1,h1',r1.same sG⟩
 | hz w=>obtain ⟨v,e,r⟩:=this; exact ⟨v,e,r.same (join_same (noLG_same sG))⟩
theorem rest_mono {Dd:Addr} {Ha Hb:Hp} (s:∀ b o,b≠Dd->Ha b=some o->Hb b=some o):Same (rest G H Dd Ha) (rest G H Dd Hb):=fun b o q=>by
 obtain ⟨h,c⟩:=rest_of q
 rw [rest_some c]
 exact s b o (fun z=>c (.inl z)) h
theorem rest_ext {Dd:Addr} {Ha Hb G':Hp} (hl:∃ ys,Ha Dd=some (.lst ys)) (s:Same H Ha) (e:Ext (rest G H Dd Ha) Ha G' Hb):Same G' (rest G H Dd Hb):=fun b o q=>by
 rw [rest_some]
 ·exact e.gh b o q
 ·rintro (rfl | ⟨u,h1,h2,h3⟩)
  ·obtain ⟨ys,hl⟩:=hl
   rw [e.keep _ _ hl rfl (rest_none (.inl rfl))] at q; cases q
  ·rw [e.keep _ _ (s _ _ h1) h2 (rest_none (.inr ⟨u,h1,h2,h3⟩))] at q; cases q
theorem c_comp {Q:VK} {e:Mode} {N':List Str} {g:TG} {mg:W->Rho->Option Rho} {mi:Rho->R (List W)} {mc:Rho->R Bool} {me:Rho->R W} (hg:Gt K e g mg) (h:tM K EX .F (fun ρ=>mi ρ>>=fun ws=>mComp N'.length mg mc me ws ρ) σ H Q) :
  tComp N' (tIt K EX false e mi) g (tT K EX mc) (tM K EX .V me) σ H Q:=by
 obtain ⟨H0,G,ρ,I,o⟩:=h
 refine ⟨H0,G,ρ,I,?_⟩
 replace o:Out EX G H (mdW K .F H0 H) (mi ρ>>=fun ws=>mComp N'.length mg mc me ws ρ) Q:=o
 revert o
 cases mi ρ with
 | stuck=>exact id
 | ex x=>exact id
 | ok ws=>
  intro o J G1 H1 e1 T Dd hD
  have I1:=I.ext e1
  replace o:Out EX G H (mdW K .F H0 H) (mComp N'.length mg mc me ws ρ) Q:=o
  unfold mComp at o
  by_cases hlen:ws.length<=1000
  ·rw [if_pos hlen] at o
   cases hm:mapR (elR mg mc me (ρ++List.replicate (N'.length-ρ.length) Sl.un)) ws with
   | stuck=>rw [hm] at o; exact o.elim
   | ex x=>rw [hm] at o; exact o.elim
   | ok ys=>
    rw [hm] at o
    obtain ⟨hall,hys⟩:=mapR_ok hm
    have T':ItOk K e H0 H1 G1 J ws:=by
     have:=T
     rw [if_neg Bool.false_ne_true] at this
     exact this
    generalize hρ:ρ++List.replicate (N'.length-ρ.length) Sl.un=ρi at hm hall hys
    refine ⟨fun i m H2=>m=ws.length-i/\i<=ws.length/\Same H1 H2/\∃ vs,H2 Dd=some (.lst vs)/\vs.length<=i/\Reps K (rest G1 H1 Dd H2) vs ((ws.take i).filterMap fun w=>match elR mg mc me ρi w with
     | .ok o=>o
     | _=>none),⟨_,rfl,Nat.zero_le _,fun b u q=>by rw [upd_ne (ne_of_none q hD)]; exact q,[],upd_same,Nat.le_refl _,.nil⟩,?_⟩
    rintro i m H2 ⟨rfl,hi,s2,vs,hDv,hvl,r2⟩
    by_cases hlt:i<ws.length
    ·refine .inr ⟨T'.go i H2 hlt s2,fun x H3 y=>?_⟩
     obtain ⟨sG,I2⟩:=I1.rest (Dd:=Dd) hD s2
     have I2i:=I2.inner (N':=N')
     obtain ⟨G3,e3,m3⟩:=T'.yld i H2 x H3 ws[i] (by simp) s2 y _ _ _ I2i sG
     obtain ⟨op,hop⟩:=hall ws[i] (List.getElem_mem hlt)
     have hop':=hop
     unfold elR at hop
     rw [<- hρ] at hop
     have htake:ws.take (i+1)=ws.take i ++ [ws[i]]:=by rw [List.take_succ_eq_append_getElem hlt]
     cases q:mg ws[i] (ρ++List.replicate (N'.length-ρ.length) Sl.un) with
     | none=>rw [q] at hop; cases hop
     | some ρ1=>
      rw [q] at hop
      dsimp only at hop
      refine hg H0 H2 G3 _ _ H3 x _ ρ1 _ (I2i.ext e3) m3 q fun σ4 I4=>⟨H0,G3,ρ1,I4,?_⟩
      cases hc:mc ρ1 with
      | stuck=>rw [hc] at hop; cases hop
      | ex x=>rw [hc] at hop; cases hop
      | ok b=>
       intro b' G5 H5 e5 eb
       cases eb
       rw [hc] at hop
       cases b with
       | false=>
        rw [if_neg Bool.false_ne_true]
        have hop2:op=none:=by cases hop; rfl
        have s5:Same H2 H5:=e3.hh.trans e5.hh
        refine ⟨ws.length-(i+1),by omega,rfl,hlt,s2.trans s5,vs,s5 _ _ hDv,by omega,?_⟩
        rw [htake,List.filterMap_append]
        have:([ws[i]].filterMap fun w=>match elR mg mc me ρi w with
         | .ok o=>o
         | _=>none) = []:=by
         rw [List.filterMap_cons,hop',hop2]; rfl
        rw [this,List.append_nil]
        exact r2.same (rest_mono fun b o _ q=>s5 b o q)
       | true=>
        dsimp only at hop
        rw [if_pos rfl]
        refine ⟨H0,G5,ρ1,I4.ext e5,?_⟩
        cases hme:me ρ1 with
        | stuck=>rw [hme] at hop; cases hop
        | ex x=>rw [hme] at hop; cases hop
        | ok z=>
         rw [hme] at hop
         have hop2:op=some z:=by cases hop; rfl
         intro yv G6 H6 e6 m6
         have e36:Ext (TP.rest G1 H1 Dd H2) H2 G6 H6:=(e3.trans e5).trans e6
         have s6:Same H2 H6:=e36.hh
         refine ⟨vs,s6 _ _ hDv,Nat.lt_of_le_of_lt hvl (Nat.lt_of_lt_of_le (by omega:i<1000) (by decide)),ws.length-(i+1),by omega,rfl,hlt,fun b u q=>by rw [upd_ne (ne_of_none q hD)]; exact s6 b u (s2 b u q),vs ++ [yv],upd_same,by rw [List.length_append]; simp; omega,?_⟩
         rw [htake,List.filterMap_append]
         have:([ws[i]].filterMap fun w=>match elR mg mc me ρi w with
          | .ok o=>o
          | _=>none) = [z]:=by
          rw [List.filterMap_cons,hop',hop2]; rfl
         rw [this]
         have k1:Same (TP.rest G1 H1 Dd H2) (TP.rest G1 H1 Dd (upd H6 Dd (.lst (vs ++ [yv])))):=rest_mono fun b o hb q=>by rw [upd_ne hb]; exact s6 b o q
         have k2:Same G6 (TP.rest G1 H1 Dd (upd H6 Dd (.lst (vs ++ [yv])))):=(rest_ext ⟨vs,hDv⟩ s2 e36).trans (rest_mono fun b o hb q=>by rw [upd_ne hb]; exact q)
         exact (r2.same k1).snoc (Rep.same k2 m6)
    ·have ei:i=ws.length:=by omega
     subst ei
     refine .inl ⟨T'.stop H2 s2,?_⟩
     rw [List.take_length,<- hys] at r2
     obtain ⟨sG,I2⟩:=I1.rest (Dd:=Dd) hD s2
     refine o _ (TP.rest G1 H1 Dd H2) H2 ⟨e1.gg.trans sG,e1.hh.trans s2,I2.gh,fun b u q l g=>rest_none (.inr ⟨u,e1.hh b u q,l,e1.keep b u q l g⟩)⟩ ⟨Dd,vs,rfl,hDv,rest_none (.inl rfl),e1.hh.free hD,r2⟩
  ·rw [if_neg hlen] at o; exact o.elim
def seqW:W->R (List W)
 | .lst ws=>.ok ws
 | .tup ws=>.ok ws
 | .scr ws=>.ok ws
 | _=>.stuck
theorem sq_same {t:Bool} {a:Addr} {xs:List V} (e:Same H H1) (h:Sq K H t a xs):Sq K H1 t a xs:=by
 unfold Sq at h ⊢
 split at h
 ·rename_i ht; rw [if_pos ht]; exact sqT_same e h
 ·rename_i ht; rw [if_neg ht]; exact Same.seq e h
theorem sqT {a:Addr} {xs:List V} (h:SqT K H a xs):Sq K H true a xs:=by unfold Sq; rw [if_pos rfl]; exact h
theorem sqL {a:Addr} {xs:List V} (h:SqL K H a xs):Sq K H false a xs:=by unfold Sq; rw [if_neg Bool.false_ne_true]; exact h
theorem Rep.sq {F:Hp} {x:V} {w:W} {ws:List W} (h:Rep K F x w) (hw:seqW w=.ok ws):∃ t a vs,x=.ref a/\Sq K F t a vs/\Reps K F vs ws:=by
 cases w <;> first | (cases hw; done) | skip
 ·obtain ⟨a,vs,e,s,r⟩:=h.inv; exact ⟨true,a,vs,e,sqT (SqT.of s),R.ok.inj hw ▸ r⟩
 ·obtain ⟨a,vs,e,s,r⟩:=h.inv; exact ⟨false,a,vs,e,sqL (SqL.of s),R.ok.inj hw ▸ r⟩
 ·obtain ⟨a,vs,e,s,r⟩:=h.inv; exact ⟨false,a,vs,e,sqL s,R.ok.inj hw ▸ r⟩
def srcM:Bool->Mode->Mode
 | true,e=>e
 | false,.V=>.C
 | false,_=>.B
def fz (e:Mode) (H0 G:Hp):Hp:=if e=.V then G else join H0 G
theorem Md.src {lp:Bool} {e:Mode} {Hs:Hp} {x:V} {w:W} {ws:List W} (he:e=.V\/e=.U) (I:PIv K H0 G ρ σ H) (m:Md K H0 Hs G H x w (srcM lp e)) (hw:seqW w=.ok ws) :
  ∃ t a vs,x=.ref a/\Sq K (if lp then join H0 G else H) t a vs/\Reps K (fz e H0 G) vs ws:=by
 unfold fz
 rcases he with rfl | rfl
 ·rw [if_pos rfl]
  cases lp with
  | true=>
   obtain ⟨t,a,vs,e1,e2,e3⟩:=Rep.sq m hw
   exact ⟨t,a,vs,e1,by rw [if_pos rfl]; exact sq_same I.G_join e2,e3⟩
  | false=>
   rw [if_neg Bool.false_ne_true]
   rcases m with m | ⟨a,vs,us,rfl,rfl,h1,r⟩
   ·obtain ⟨t,a,vs,e1,e2,e3⟩:=Rep.sq m hw
    exact ⟨t,a,vs,e1,sq_same I.gh e2,e3⟩
   ·cases hw; exact ⟨false,a,vs,rfl,sqL (SqL.of h1),r⟩
 ·rw [if_neg (show ¬ (Mode.U=Mode.V) by intro z; cases z)]
  cases lp with
  | true=>
   obtain ⟨t,a,vs,e1,e2,e3⟩:=Rep.sq m hw
   exact ⟨t,a,vs,e1,by rw [if_pos rfl]; exact e2,e3⟩
  | false=>
   rw [if_neg Bool.false_ne_true]
   rcases m with m | ⟨a,vs,us,rfl,rfl,h1,r⟩
   ·obtain ⟨t,a,vs,e1,e2,e3⟩:=Rep.sq m hw
    exact ⟨t,a,vs,e1,sq_same I.join_H e2,e3⟩
   ·cases hw; exact ⟨false,a,vs,rfl,sqL (SqL.of h1),r.same I.G_join⟩
theorem Md.of_fz {e:Mode} {Hs:Hp} {v:V} {w:W} (he:e=.V\/e=.U) (h:Rep K (fz e H0 G) v w):Md K H0 Hs G H v w e:=by
 unfold fz at h
 rcases he with rfl | rfl
 ·rw [if_pos rfl] at h; exact h
 ·rw [if_neg (show ¬ (Mode.U=Mode.V) by intro z; cases z)] at h; exact h
theorem fz_same {e:Mode} (s:Same G G1):Same (fz e H0 G) (fz e H0 G1):=by
 unfold fz
 split
 ·exact s
 ·exact join_same s
theorem itok_sq {e:Mode} {Z:Hp} {t:Bool} {a:Addr} {vs:List V} {ws:List W} (he:e=.V\/e=.U) (s:Sq K Z t a vs) (r:Reps K (fz e H0 G) vs ws):ItOk K e H0 Z G (ItQ K t a) ws:=by
 have hl:=r.length
 cases t with
 | true=>
  have hq:∀ H,Same Z H->SqT K H a vs:=fun H z=>by have:=sq_same z s; unfold Sq at this; rw [if_pos rfl] at this; exact this
  refine ⟨fun i H hi z=>⟨vs,vs[i]'(by omega),hq H z,by simp⟩,fun H z=>⟨vs,hq H z,by omega⟩,fun i H x H' w hw z zz78 G2 ρ σ I sg=>?_⟩
  obtain ⟨e1,y⟩:=zz78
  subst e1
  have hx:=y vs (hq _ z)
  obtain ⟨v,hv,rv⟩:=Reps.get r hw
  rw [hx] at hv; cases hv
  exact ⟨G2,Ext.refl I.gh,Md.of_fz he (rv.same (fz_same sg))⟩
 | false=>
  have hq:∀ H,Same Z H->SqL K H a vs:=fun H z=>by have:=sq_same z s; unfold Sq at this; rw [if_neg Bool.false_ne_true] at this; exact this
  refine ⟨fun i H hi z=>⟨vs,vs[i]'(by omega),hq H z,by simp⟩,fun H z=>⟨vs,hq H z,by omega⟩,fun i H x H' w hw z zz79 G2 ρ σ I sg=>?_⟩
  obtain ⟨e1,y⟩:=zz79
  subst e1
  have hx:=y vs (hq _ z)
  obtain ⟨v,hv,rv⟩:=Reps.get r hw
  rw [hx] at hv; cases hv
  exact ⟨G2,Ext.refl I.gh,Md.of_fz he (rv.same (fz_same sg))⟩
theorem lp_H {lp:Bool} (I:PIv K H0 G ρ σ H):Same (if lp then join H0 G else H) H:=by
 cases lp
 ·exact Same.refl H
 ·exact I.join_H
theorem c_iSq {lp:Bool} {e:Mode} {ml:Rho->R W} {Rr:It->Hp->Prop} (he:e=.V\/e=.U) (h:tIt K EX lp e (fun ρ=>ml ρ>>=seqW) σ H Rr):iSq K (tM K EX (srcM lp e) ml) σ H Rr:=by
 obtain ⟨H0,G,ρ,I,o⟩:=h
 refine ⟨H0,G,ρ,I,?_⟩
 replace o:OutI K EX lp e H0 G H (ml ρ>>=seqW) Rr:=o
 revert o
 cases ml ρ with
 | stuck=>exact id
 | ex x=>exact id
 | ok w=>
  intro o x G1 H1 e1 m1
  have I1:=I.ext e1
  have o':OutI K EX lp e H0 G H (seqW w) Rr:=o
  cases q:seqW w with
  | stuck=>rw [q] at o'; exact o'.elim
  | ex z=>cases w <;> cases q
  | ok ws=>
   rw [q] at o'
   obtain ⟨t,a,vs,ex,s,r⟩:=Md.src he I1 m1 q
   exact ⟨a,ex,t,vs,sq_same (lp_H I1) s,o' _ G1 H1 e1 (itok_sq he s r)⟩
def rngW (lo hi:Int):R (List W):=if -1000000<=lo/\lo<=1000000 /\ -1000000<=hi/\hi<=1000000 then .ok ((List.range (hi-lo).toNat).map fun k=>W.int (lo+(k:Nat))) else .stuck
def rng1:List W->R (List W)
 | [.int j]=>rngW 0 j
 | _=>.stuck
def rng2:List W->R (List W)
 | [.int i,.int j]=>rngW i j
 | _=>.stuck
theorem itok_rng {e:Mode} {Z:Hp} {lo:Int} {n:Nat} (he:e=.V\/e=.U):ItOk K e H0 Z G (Itr lo n) ((List.range n).map fun k=>W.int (lo+(k:Nat))):=by
 refine ⟨fun i H hi _=>by show i<n; simpa using hi,fun H _=>by simp [Itr],fun i H x H' w hw _ zz80 G2 ρ σ I _=>?_⟩
 obtain ⟨e1,e2⟩:=zz80
 subst e1; subst e2
 rw [List.getElem?_map] at hw
 cases q:(List.range n)[i]? with
 | none=>rw [q] at hw; cases hw
 | some k=>
  rw [q] at hw
  have hk:k=i:=by
   have:=List.getElem?_eq_some_iff.mp q
   obtain ⟨h1,h2⟩:=this
   simpa using h2.symm
  subst hk
  cases hw
  refine ⟨G2,Ext.refl I.gh,Md.sca rfl (fun _=>.int) e⟩
theorem tIt_bind {lp:Bool} {e b:Mode} {ma:Rho->R (List W)} {k:List W->R (List W)} {Rr:It->Hp->Prop} {Q:List V->Hp->Prop} (h:tIt K EX lp e (fun ρ=>ma ρ>>=k) σ H Rr)
  (hq:∀ H0 G ρ G1 H1 xs ws us,PIv K H0 G ρ σ H->Ext G H G1 H1->MdA K b H0 H G1 H1 ws xs->k ws=.ok us->(∀ J G' H',Ext G H G' H'->ItOk K e H0 (if lp then join H0 G' else H') G' J us->Rr J H')->Q xs H1)
  (hx:∀ ws e,k ws≠.ex e):tA K EX b ma σ H Q:=by
 obtain ⟨H0,G,ρ,I,o⟩:=h
 refine ⟨H0,G,ρ,I,?_⟩
 replace o:OutI K EX lp e H0 G H (ma ρ>>=k) Rr:=o
 revert o
 cases ma ρ with
 | stuck=>exact id
 | ex x=>exact id
 | ok ws=>
  intro o xs G1 H1 e1 m1
  have o':OutI K EX lp e H0 G H (k ws) Rr:=o
  cases q:k ws with
  | stuck=>rw [q] at o'; exact o'.elim
  | ex z=>exact absurd q (hx ws z)
  | ok us=>rw [q] at o'; exact hq H0 G ρ G1 H1 xs ws us I e1 m1 q o'
theorem rngW_ok {lo hi:Int} {us:List W} (h:rngW lo hi=.ok us):(-1000000<=lo/\lo<=1000000 /\ -1000000<=hi/\hi<=1000000)/\us=(List.range (hi-lo).toNat).map fun k=>W.int (lo+(k:Nat)):=by
 unfold rngW at h
 split at h
 ·cases h; rename_i c; exact ⟨c,rfl⟩
 ·cases h
theorem rngW_nex {lo hi:Int} {e:XW} (h:rngW lo hi=.ex e):False:=by
 unfold rngW at h
 by_cases c:-1000000<=lo/\lo<=1000000 /\ -1000000<=hi/\hi<=1000000
 ·rw [if_pos c] at h; cases h
 ·rw [if_neg c] at h; cases h
theorem c_rng1 {lp:Bool} {e:Mode} {ma:Rho->R (List W)} {Rr:It->Hp->Prop} (he:e=.V\/e=.U) (h:tIt K EX lp e (fun ρ=>ma ρ>>=rng1) σ H Rr):iRng1 (tA K EX .B ma) σ H Rr:=by
 refine tIt_bind h (fun H0 G ρ G1 H1 xs ws us I e1 m1 q o=>?_) (fun ws e z=>?_)
 ·cases m1 with
  | nil=>cases q
  | @cons w _ _ _ a t=>
   cases t with
   | cons _ _=>first | (cases q; done) | (cases w <;> cases q)
   | nil=>
    cases w <;> first | (cases q; done) | skip
    rename_i j
    obtain ⟨c,rfl⟩:=rngW_ok (show rngW 0 j=_ from q)
    refine ⟨j,by rw [Md.intB a],by omega,by omega,?_⟩
    have:=o (Itr 0 j.toNat) G1 H1 e1
    rw [Int.sub_zero] at this
    exact this (itok_rng he)
 ·cases ws with
  | nil=>cases z
  | cons w t=>
   cases t with
   | cons _ _=>first | (cases z; done) | (cases w <;> cases z)
   | nil=>
    cases w <;> first | (cases z; done) | skip
    exact rngW_nex (lo:=0) z
theorem c_rng2 {lp:Bool} {e:Mode} {ma:Rho->R (List W)} {Rr:It->Hp->Prop} (he:e=.V\/e=.U) (h:tIt K EX lp e (fun ρ=>ma ρ>>=rng2) σ H Rr):iRng2 (tA K EX .B ma) σ H Rr:=by
 refine tIt_bind h (fun H0 G ρ G1 H1 xs ws us I e1 m1 q o=>?_) (fun ws e z=>?_)
 ·cases m1 with
  | nil=>cases q
  | @cons w _ _ _ a t=>
   cases t with
   | nil=>first | (cases q; done) | (cases w <;> cases q)
   | @cons w2 _ _ _ b t=>
    cases t with
    | cons _ _=>first | (cases q; done) | (cases w <;> first | (cases q; done) | (cases w2 <;> cases q))
    | nil=>
     cases w <;> first | (cases q; done) | skip
     cases w2 <;> first | (cases q; done) | skip
     rename_i i j
     obtain ⟨c,rfl⟩:=rngW_ok (show rngW i j=_ from q)
     exact ⟨i,j,by rw [Md.intB a,Md.intB b],⟨by omega,by omega,by omega,by omega⟩,o _ G1 H1 e1 (itok_rng he)⟩
 ·cases ws with
  | nil=>cases z
  | cons w t=>
   cases t with
   | nil=>first | (cases z; done) | (cases w <;> cases z)
   | cons w2 t=>
    cases t with
    | cons _ _=>first | (cases z; done) | (cases w <;> first | (cases z; done) | (cases w2 <;> cases z))
    | nil=>
     cases w <;> first | (cases z; done) | skip
     cases w2 <;> first | (cases z; done) | skip
     exact rngW_nex z
def zipW:List (List W)->List (List W)
 | [xs,ys]=>xs.zipWith (fun x y=>[x,y]) ys
 | [xs,ys,zs]=>(xs.zip ys).zipWith (fun p z=>[p.1,p.2,z]) zs
 | _=>[]
def seqWs:List W->R (List (List W))
 | []=>.ok []
 | w::ws=>match seqW w,seqWs ws with
  | .ok x,.ok xs=>.ok (x::xs)
  | _,_=>.stuck
def zipR (ws:List W):R (List W):=if ws.length=2\/ws.length=3 then (match seqWs ws with
 | .ok xs=>.ok ((zipW xs).map W.tup)
 | _=>.stuck) else .stuck
theorem rep_new {e:Mode} {p:Addr} {vs:List V} {ws:List W} {Hs:Hp} (he:e=.V\/e=.U) (I:PIv K H0 G ρ σ H) (hp:H p=none) (r:Reps K (fz e H0 G) vs ws):Ext G H (upd G p (.tup vs)) (upd H p (.tup vs))/\Md K H0 Hs (upd G p (.tup vs)) (upd H p (.tup vs)) (.ref p) (.tup ws) e:=by
 refine ⟨new_extG I.gh hp,?_⟩
 have gp:G p=none:=I.gh.free hp
 rcases he with rfl | rfl
 ·unfold fz at r
  rw [if_pos rfl] at r
  exact .tup upd_same (r.same fun b u q=>by rw [upd_ne (ne_of_none q gp)]; exact q)
 ·unfold fz at r
  rw [if_neg (show ¬ (Mode.U=Mode.V) by intro z; cases z)] at r
  show Rep K (join H0 (upd G p (.tup vs))) _ _
  rw [join_upd (I.hh.free hp)]
  exact .tup upd_same (r.same fun b u q=>by rw [upd_ne (ne_of_none (I.join_H b u q) hp)]; exact q)
theorem itok_zip2 {e:Mode} {Z:Hp} {t u:Bool} {a b:Addr} {xs ys:List V} {us vs:List W} (he:e=.V\/e=.U) (s1:Sq K Z t a xs) (s2:Sq K Z u b ys) (r1:Reps K (fz e H0 G) xs us) (r2:Reps K (fz e H0 G) ys vs) :
  ItOk K e H0 Z G (ItZ K [(t,a),(u,b)]) ((us.zipWith (fun x y=>[x,y]) vs).map W.tup):=by
 have Rn:=runs_zip2 s1 s2
 have l1:=r1.length
 have l2:=r2.length
 have hl:((us.zipWith (fun x y=>[x,y]) vs).map W.tup).length=min xs.length ys.length:=by simp [l1,l2]
 refine ⟨fun i H hi z=>Rn.go i H (by omega) z,fun H z=>by rw [hl]; exact Rn.stop H z,fun i H x H' w hw z y G2 ρ σ I sg=>?_⟩
 have hi:i<min xs.length ys.length:=by
  rw [<- hl]; exact (List.getElem?_eq_some_iff.mp hw).1
 obtain ⟨p,y1,z1,rfl,hp,rfl,hy,hz⟩:=Rn.yld i H x H' hi z y
 obtain ⟨w1,e1,q1⟩:=Reps.get' r1 hy
 obtain ⟨w2,e2,q2⟩:=Reps.get' r2 hz
 have hw':w=.tup [w1,w2]:=by
  rw [List.getElem?_map,List.getElem?_zipWith,e1,e2] at hw
  cases hw; rfl
 subst hw'
 obtain ⟨x1,x2⟩:=rep_new (Hs:=H) he I hp (.cons (q1.same (fz_same sg)) (.cons (q2.same (fz_same sg)) .nil))
 exact ⟨_,x1,x2⟩
theorem itok_zip3 {e:Mode} {Z:Hp} {t u v:Bool} {a b c:Addr} {xs ys zs:List V} {us vs ts:List W} (he:e=.V\/e=.U) (s1:Sq K Z t a xs) (s2:Sq K Z u b ys) (s3:Sq K Z v c zs) (r1:Reps K (fz e H0 G) xs us) (r2:Reps K (fz e H0 G) ys vs) (r3:Reps K (fz e H0 G) zs ts) :
  ItOk K e H0 Z G (ItZ K [(t,a),(u,b),(v,c)]) (((us.zip vs).zipWith (fun p z=>[p.1,p.2,z]) ts).map W.tup):=by
 have Rn:=runs_zip3 s1 s2 s3
 have l1:=r1.length
 have l2:=r2.length
 have l3:=r3.length
 have hl:(((us.zip vs).zipWith (fun p z=>[p.1,p.2,z]) ts).map W.tup).length=min xs.length (min ys.length zs.length):=by simp [l1,l2,l3,Nat.min_assoc]
 refine ⟨fun i H hi z=>Rn.go i H (by omega) z,fun H z=>by rw [hl]; exact Rn.stop H z,fun i H x H' w hw z y G2 ρ σ I sg=>?_⟩
 have hi:i<min xs.length (min ys.length zs.length):=by
  rw [<- hl]; exact (List.getElem?_eq_some_iff.mp hw).1
 obtain ⟨p,y1,z1,t1,rfl,hp,rfl,hy,hz,ht⟩:=Rn.yld i H x H' hi z y
 obtain ⟨w1,e1,q1⟩:=Reps.get' r1 hy
 obtain ⟨w2,e2,q2⟩:=Reps.get' r2 hz
 obtain ⟨w3,e3,q3⟩:=Reps.get' r3 ht
 have hw':w=.tup [w1,w2,w3]:=by
  rw [List.getElem?_map,List.getElem?_zipWith,List.zip,List.getElem?_zipWith,e1,e2,e3] at hw
  cases hw; rfl
 subst hw'
 obtain ⟨x1,x2⟩:=rep_new (Hs:=H) he I hp (.cons (q1.same (fz_same sg)) (.cons (q2.same (fz_same sg)) (.cons (q3.same (fz_same sg)) .nil)))
 exact ⟨_,x1,x2⟩
theorem seqWs_cons {w:W} {ws:List W} {xs:List (List W)} (h:seqWs (w::ws)=.ok xs):∃ y ys,seqW w=.ok y/\seqWs ws=.ok ys/\xs=y::ys:=by
 unfold seqWs at h
 cases h1:seqW w with
 | stuck=>rw [h1] at h; cases h
 | ex _=>rw [h1] at h; cases h
 | ok y=>
  rw [h1] at h
  cases h2:seqWs ws with
  | stuck=>rw [h2] at h; cases h
  | ex _=>rw [h2] at h; cases h
  | ok ys=>rw [h2] at h; cases h; exact ⟨y,ys,rfl,rfl,rfl⟩
theorem c_zip {lp:Bool} {e:Mode} {ma:Rho->R (List W)} {Rr:It->Hp->Prop} (he:e=.V\/e=.U) (h:tIt K EX lp e (fun ρ=>ma ρ>>=zipR) σ H Rr):iZip K (tA K EX (srcM lp e) ma) σ H Rr:=by
 refine tIt_bind h (fun H0 G ρ G1 H1 xs ws us I e1 m1 q o=>?_) (fun ws e z=>?_)
 ·have I1:=I.ext e1
  unfold zipR at q
  split at q
  ·rename_i hn
   cases hs:seqWs ws with
   | stuck=>rw [hs] at q; cases q
   | ex _=>rw [hs] at q; cases q
   | ok ls=>
    rw [hs] at q
    cases q
    cases m1 with
    | nil=>simp at hn
    | cons a1 m1=>
     cases m1 with
     | nil=>simp at hn
     | cons a2 m1=>
      obtain ⟨y1,ys,h1,hs1,rfl⟩:=seqWs_cons hs
      obtain ⟨y2,ys,h2,hs2,rfl⟩:=seqWs_cons hs1
      obtain ⟨t1,p1,v1,rfl,q1,r1⟩:=Md.src he I1 a1 h1
      obtain ⟨t2,p2,v2,rfl,q2,r2⟩:=Md.src he I1 a2 h2
      have k1:=sq_same (lp_H I1) q1
      have k2:=sq_same (lp_H I1) q2
      cases m1 with
      | nil=>
       cases hs2
       refine ⟨[(t1,p1),(t2,p2)],rfl,.inl rfl,fun u hu=>?_,o _ G1 H1 e1 (itok_zip2 he q1 q2 r1 r2)⟩
       simp only [List.mem_cons,List.not_mem_nil,or_false] at hu
       rcases hu with rfl | rfl
       ·exact ⟨_,k1⟩
       ·exact ⟨_,k2⟩
      | cons a3 m1=>
       cases m1 with
       | cons _ _=>simp at hn
       | nil=>
        obtain ⟨y3,ys,h3,hs3,rfl⟩:=seqWs_cons hs2
        cases hs3
        obtain ⟨t3,p3,v3,rfl,q3,r3⟩:=Md.src he I1 a3 h3
        refine ⟨[(t1,p1),(t2,p2),(t3,p3)],rfl,.inr rfl,fun u hu=>?_,o _ G1 H1 e1 (itok_zip3 he q1 q2 q3 r1 r2 r3)⟩
        simp only [List.mem_cons,List.not_mem_nil,or_false] at hu
        rcases hu with rfl | rfl | rfl
        ·exact ⟨_,k1⟩
        ·exact ⟨_,k2⟩
        ·exact ⟨_,sq_same (lp_H I1) q3⟩
  ·cases q
 ·unfold zipR at z
  split at z
  ·split at z <;> cases z
  ·cases z
end
end TP
namespace TP
open PySem L2
section
variable {K:Frag} {EX:EXT} {H0 G H G1 H1 G2 H2:Hp} {ρ:Rho} {σ:St} {d:Mode} {D:Ends} {Q:VK}
theorem Reps.atI {F:Hp} {vs:List V} {ws:List W} {i:Int} {w:W} (r:Reps K F vs ws) (h:L2.atI ws i=some w):∃ v,L2.atI vs i=some v/\Rep K F v w:=by
 unfold L2.atI at h ⊢
 rw [r.length]
 cases q:ixN ws.length i with
 | none=>rw [q] at h; cases h
 | some j=>rw [q] at h; exact Reps.get r h
def fIx:W->W->R W
 | .lst ws,.int i=>toR (L2.atI ws i)
 | .tup ws,.int i=>toR (L2.atI ws i)
 | .scr ws,.int i=>toR (L2.atI ws i)
 | _,_=>.stuck
theorem o2_ixU:Op2 K .B .U (rIx K) fIx:=by
 intro EX H0 Hs G H ρ σ Ha Hb x y u v Q I s mx my o
 cases u <;> first | exact o.elim | skip
 all_goals (cases v <;> first | exact o.elim | skip)
 ·rename_i ws i
  obtain ⟨a,vs,rfl,hs,r⟩:=mx.tupB I
  replace o:Out EX G H (mdW K .U H0 Hs) (toR (L2.atI ws i)) Q:=o
  cases q:L2.atI ws i with
  | none=>rw [q] at o; exact o.elim
  | some w=>
   rw [q] at o
   obtain ⟨v,hv,rv⟩:=r.atI q
   exact .inr (.inl ⟨a,vs,i,v,rfl,my.intB,SqT.of hs,hv,o v G H (Ext.refl I.gh) rv⟩)
 ·rename_i ws i
  obtain ⟨a,vs,rfl,hs,r⟩:=mx.lstB I
  replace o:Out EX G H (mdW K .U H0 Hs) (toR (L2.atI ws i)) Q:=o
  cases q:L2.atI ws i with
  | none=>rw [q] at o; exact o.elim
  | some w=>
   rw [q] at o
   obtain ⟨v,hv,rv⟩:=r.atI q
   exact .inl ⟨a,vs,i,v,rfl,my.intB,SqL.of hs,hv,o v G H (Ext.refl I.gh) rv⟩
 ·rename_i ws i
  obtain ⟨a,vs,rfl,hs,r⟩:=mx.scrB I
  replace o:Out EX G H (mdW K .U H0 Hs) (toR (L2.atI ws i)) Q:=o
  cases q:L2.atI ws i with
  | none=>rw [q] at o; exact o.elim
  | some w=>
   rw [q] at o
   obtain ⟨v,hv,rv⟩:=r.atI q
   exact .inl ⟨a,vs,i,v,rfl,my.intB,hs,hv,o v G H (Ext.refl I.gh) rv⟩
theorem o2_ixV:Op2 K .C .V (rIx K) fIx:=by
 intro EX H0 Hs G H ρ σ Ha Hb x y u v Q I s mx my o
 cases u <;> first | exact o.elim | skip
 all_goals (cases v <;> first | exact o.elim | skip)
 ·rename_i ws i
  obtain ⟨a,vs,rfl,hs,r⟩:=mx.tupC I
  replace o:Out EX G H (mdW K .V H0 Hs) (toR (L2.atI ws i)) Q:=o
  cases q:L2.atI ws i with
  | none=>rw [q] at o; exact o.elim
  | some w=>
   rw [q] at o
   obtain ⟨v,hv,rv⟩:=r.atI q
   exact .inr (.inl ⟨a,vs,i,v,rfl,Md.intB (Md.CB I my),SqT.of hs,hv,o v G H (Ext.refl I.gh) rv⟩)
 ·rename_i ws i
  obtain ⟨a,vs,rfl,hs,r⟩:=mx.lstC I
  replace o:Out EX G H (mdW K .V H0 Hs) (toR (L2.atI ws i)) Q:=o
  cases q:L2.atI ws i with
  | none=>rw [q] at o; exact o.elim
  | some w=>
   rw [q] at o
   obtain ⟨v,hv,rv⟩:=r.atI q
   exact .inl ⟨a,vs,i,v,rfl,Md.intB (Md.CB I my),SqL.of hs,hv,o v G H (Ext.refl I.gh) rv⟩
 ·rename_i ws i
  obtain ⟨a,vs,rfl,hs,r⟩:=(Md.repC mx fun _=>W.noConfusion).inv
  replace o:Out EX G H (mdW K .V H0 Hs) (toR (L2.atI ws i)) Q:=o
  cases q:L2.atI ws i with
  | none=>rw [q] at o; exact o.elim
  | some w=>
    rw [q] at o
    obtain ⟨v,hv,rv⟩:=r.atI q
    exact .inl ⟨_,_,i,v,rfl,Md.intB (Md.CB I my),Same.seq I.gh hs,hv,o v G H (Ext.refl I.gh) rv⟩
def tOp_ (K:Frag) (EX:EXT) (m:Rho->R (Option Int)):TO:=fun σ H Q=>∃ H0 G ρ,PIv K H0 G ρ σ H/\Out EX G H (fun (b c:Option Int) _ _=>c=b) (m ρ) Q
def partW:W->R (Option Int)
 | .int i=>.ok (some i)
 | _=>.stuck
theorem c_noPart {Q:Option Int->Hp->Prop} (h:tOp_ K EX (fun _=>.ok none) σ H Q):tNoPart σ H Q:=by
 obtain ⟨H0,G,ρ,I,o⟩:=h
 exact o none G H (Ext.refl I.gh) rfl
theorem c_part {m:Rho->R W} {Q:Option Int->Hp->Prop} (h:tOp_ K EX (fun ρ=>m ρ>>=partW) σ H Q):tPart (tM K EX .B m) σ H Q:=by
 obtain ⟨H0,G,ρ,I,o⟩:=h
 refine ⟨H0,G,ρ,I,Out.bind o fun x G1 H1 u e1 m1 o1=>?_⟩
 cases u <;> first | exact o1.elim | skip
 rename_i i
 exact ⟨i,m1.intB,o1 _ G1 H1 (Ext.refl e1.gh) rfl⟩
def cutW (xs:List W) (lo hi:Option Int):List W:=(xs.drop (HT.sIx xs.length 0 lo)).take (HT.sIx xs.length xs.length hi-HT.sIx xs.length 0 lo)
theorem Reps.cut {F:Hp} {vs:List V} {ws:List W} (r:Reps K F vs ws) (lo hi:Option Int):Reps K F (cutV vs lo hi) (cutW ws lo hi):=by
 unfold cutV cutW
 rw [r.length]
 exact (r.drop _).take _
def lstOf:W->Option (List W)
 | .lst ws=>some ws
 | .scr ws=>some ws
 | _=>none
def chks (c:Bool) (ws:List W):R W:=if c||noLs ws then .ok (.lst ws) else .stuck
def cb (c:Bool):Mode:=if c then .C else .B
theorem Md.lstOf {c:Bool} {Ha:Hp} {x:V} {w:W} {ws:List W} (I:PIv K H0 G ρ σ H) (m:Md K H0 Ha G H x w (cb c)) (h:lstOf w=some ws):∃ a vs,x=.ref a/\SqL K H a vs/\Reps K (if c then G else join H0 G) vs ws:=by
 cases c with
 | true=>
  rw [if_pos rfl]
  cases w <;> first | cases h | skip
  ·obtain ⟨a,vs,e,hs,r⟩:=Md.lstC (H:=Ha) I m
   exact ⟨a,vs,e,SqL.of hs,r⟩
  ·obtain ⟨a,vs,e,hs,r⟩:=(Md.repC m fun _=>W.noConfusion).inv
   exact ⟨a,vs,e,Same.seq I.gh hs,r⟩
 | false=>
  rw [if_neg Bool.false_ne_true]
  cases w <;> first | cases h | skip
  ·obtain ⟨a,vs,e,hs,r⟩:=Md.lstB (H:=Ha) I m
   exact ⟨a,vs,e,SqL.of hs,r⟩
  ·exact Md.scrB (H:=Ha) I m
theorem Out.chks {c:Bool} {Hs:Hp} {vs:List V} {ws:List W} (I:PIv K H0 G ρ σ H) (s:Same Hs H) (r:Reps K (if c then G else join H0 G) vs ws) (o:Out EX G H (mdW K .F H0 Hs) (chks c ws) Q):∀ p,H p=none->Q (.ref p) (upd H p (.lst vs)):=by
 unfold TP.chks at o
 by_cases n:(c||noLs ws)=true
 ·rw [if_pos n] at o
  have r':Reps K G vs ws:=by
   cases c with
   | true=>rw [if_pos rfl] at r; exact r
   | false=>rw [if_neg Bool.false_ne_true] at r; exact Reps.clean I r (by simpa using n)
  exact fun p hp=>Out.newL I s r' hp o
 ·rw [if_neg n] at o; exact o.elim
theorem c_sl {c:Bool} {m:Rho->R W} {ml mh:Rho->R (Option Int)} (h:tM K EX .F (fun ρ=>m ρ>>=fun x=>ml ρ>>=fun l=>mh ρ>>=fun u=>toR (lstOf x)>>=fun ws=>chks c (cutW ws l u)) σ H Q) :
  tSl (rSlL K) (tM K EX (cb c) m) (tOp_ K EX ml) (tOp_ K EX mh) σ H Q:=by
 obtain ⟨H0,G,ρ,I,o⟩:=h
 refine ⟨H0,G,ρ,I,Out.bind o fun x G1 H1 w e1 m1 o1=>⟨H0,G1,ρ,I.ext e1,Out.bind o1 fun l' G2 H2 l e2 m2 o2=>⟨H0,G2,ρ,(I.ext e1).ext e2,Out.bind o2 fun u' G3 H3 u e3 m3 o3=>?_⟩⟩⟩
 subst m2; subst m3
 have I3:=((I.ext e1).ext e2).ext e3
 cases q:lstOf w with
 | none=>rw [q] at o3; exact o3.elim
 | some ws=>
  rw [q] at o3
  obtain ⟨a,vs,ex,hs,r⟩:=Md.lstOf I3 ((m1.move e2).move e3) q
  refine ⟨a,vs,ex,hs,Out.chks I3 ((e1.hh.trans e2.hh).trans e3.hh) (c:=c) ?_ o3⟩
  cases c with
  | true=>rw [if_pos rfl] at r ⊢; exact r.cut _ _
  | false=>rw [if_neg Bool.false_ne_true] at r ⊢; exact r.cut _ _
def Cal (K:Frag) (b d:Mode) (r:List V->Hp->VK->Prop) (f:List W->R W):Prop:=∀ (EX:EXT) (H0 Hs G H:Hp) (ρ:Rho) (σ:St) (Ha:Hp) (vs:List V) (ws:List W) (Q:VK),PIv K H0 G ρ σ H->Same Hs H->MdA K b H0 Ha G H ws vs ->
 Out EX G H (mdW K d H0 Hs) (f ws) Q->r vs H Q
theorem c_cb {b:Mode} {r:List V->Hp->VK->Prop} {f:List W->R W} {ma:Rho->R (List W)} (hr:Cal K b d r f) (h:tM K EX d (fun ρ=>ma ρ>>=fun ws=>f ws) σ H Q):tCB r (tA K EX b ma) σ H Q:=by
 obtain ⟨H0,G,ρ,I,o⟩:=h
 exact ⟨H0,G,ρ,I,Out.bind o fun xs G1 H1 ws e1 m1 o1=>hr EX H0 H G1 H1 ρ σ H xs ws Q (I.ext e1) e1.hh m1 o1⟩
def fLen:List W->R W
 | [w]=>seqW w>>=fun ws=>.ok (.int ws.length)
 | _=>.stuck
theorem b_len:Cal K .B d (fun xs H Q=>∃ p ys,xs = [.ref p]/\(SqL K H p ys\/SqT K H p ys)/\Q (.int ys.length) H) fLen:=by
 intro EX H0 Hs G H ρ σ Ha vs ws Q I s m o
 cases m with
 | nil=>exact o.elim
 | cons a t=>
  cases t with
  | cons _ _=>exact o.elim
  | nil=>
   rename_i w v
   cases w <;> first | exact o.elim | skip
   ·obtain ⟨p,ys,rfl,hs,r⟩:=a.tupB I
    exact ⟨p,ys,rfl,.inr (SqT.of hs),by rw [r.length]; exact o _ G H (Ext.refl I.gh) (Md.sca rfl (fun _=>.int) d)⟩
   ·obtain ⟨p,ys,rfl,hs,r⟩:=a.lstB I
    exact ⟨p,ys,rfl,.inl (SqL.of hs),by rw [r.length]; exact o _ G H (Ext.refl I.gh) (Md.sca rfl (fun _=>.int) d)⟩
   ·obtain ⟨p,ys,rfl,hs,r⟩:=a.scrB I
    exact ⟨p,ys,rfl,.inl hs,by rw [r.length]; exact o _ G H (Ext.refl I.gh) (Md.sca rfl (fun _=>.int) d)⟩
def fList (c:Bool):List W->R W
 | [w]=>seqW w>>=chks c
 | _=>.stuck
theorem b_list {c:Bool}:Cal K (cb c) .F (fun xs H Q=>∃ p ys,xs = [.ref p]/\(SqL K H p ys\/SqT K H p ys)/\∀ l,H l=none->Q (.ref l) (upd H l (.lst ys))) (fList c):=by
 intro EX H0 Hs G H ρ σ Ha vs ws Q I s m o
 cases m with
 | nil=>exact o.elim
 | cons a t=>
  cases t with
  | cons _ _=>exact o.elim
  | nil=>
   rename_i w v
   cases w <;> first | exact o.elim | skip
   ·rename_i us
    cases c with
    | true=>
     obtain ⟨p,ys,rfl,hs,r⟩:=Md.tupC (H:=Ha) I a
     exact ⟨p,ys,rfl,.inr (SqT.of hs),Out.chks (c:=true) I s r o⟩
    | false=>
     obtain ⟨p,ys,rfl,hs,r⟩:=Md.tupB (H:=Ha) I a
     exact ⟨p,ys,rfl,.inr (SqT.of hs),Out.chks (c:=false) I s r o⟩
   ·obtain ⟨p,ys,rfl,hs,r⟩:=Md.lstOf I a rfl
    exact ⟨p,ys,rfl,.inl hs,Out.chks I s r o⟩
   ·obtain ⟨p,ys,rfl,hs,r⟩:=Md.lstOf I a rfl
    exact ⟨p,ys,rfl,.inl hs,Out.chks I s r o⟩
def chkT (c:Bool) (ws:List W):R W:=if c||noLs ws then .ok (.tup ws) else .stuck
def fTup (c:Bool):List W->R W
 | [w]=>seqW w>>=chkT c
 | _=>.stuck
theorem b_tup {c:Bool}:Cal K (cb c) .F (fun xs H Q=>∃ p ys,xs = [.ref p]/\((SqL K H p ys/\∀ l,H l=none->Q (.ref l) (upd H l (.tup ys)))\/(SqT K H p ys/\Q (.ref p) H))) (fTup c):=by
 intro EX H0 Hs G H ρ σ Ha vs ws Q I s m o
 have key:∀ {vs:List V} {us:List W},Reps K (if c then G else join H0 G) vs us->Out EX G H (mdW K .F H0 Hs) (chkT c us) Q->Reps K G vs us/\Out EX G H (mdW K .F H0 Hs) (.ok (.tup us)) Q:=fun {vs us} r o=>by
  unfold chkT at o
  by_cases n:(c||noLs us)=true
  ·rw [if_pos n] at o
   refine ⟨?_,o⟩
   cases c with
   | true=>rw [if_pos rfl] at r; exact r
   | false=>rw [if_neg Bool.false_ne_true] at r; exact Reps.clean I r (by simpa using n)
  ·rw [if_neg n] at o; exact o.elim
 cases m with
 | nil=>exact o.elim
 | cons a t=>
  cases t with
  | cons _ _=>exact o.elim
  | nil=>
   rename_i w v
   cases w <;> first | exact o.elim | skip
   ·rename_i us
    have hx:∃ p ys,v=.ref p/\(if c then G else join H0 G) p=some (.tup ys)/\Reps K (if c then G else join H0 G) ys us:=by
     cases c with
     | true=>rw [if_pos rfl]; exact (Md.repC a fun _=>W.noConfusion).inv
     | false=>rw [if_neg Bool.false_ne_true]; exact (Md.repB a fun _=>W.noConfusion).inv
    obtain ⟨p,ys,rfl,hp,r⟩:=hx
    obtain ⟨r',o'⟩:=key r o
    have hH:H p=some (.tup ys):=by
     cases c with
     | true=>rw [if_pos rfl] at hp; exact I.gh _ _ hp
     | false=>rw [if_neg Bool.false_ne_true] at hp; exact I.join_H _ _ hp
    have hG:G p=some (.tup ys):=by
     cases c with
     | true=>rw [if_pos rfl] at hp; exact hp
     | false=>
      rw [if_neg Bool.false_ne_true] at hp
      unfold join at hp
      cases q:H0 p with
      | none=>rw [q] at hp; exact hp
      | some u=>
       rw [q] at hp
       dsimp only at hp
       by_cases hl:isL u=true
       ·rw [if_pos hl] at hp; cases hp; cases hl
       ·rw [if_neg hl] at hp; exact hp
    exact ⟨p,ys,rfl,.inr ⟨SqT.of hH,o' _ G H (Ext.refl I.gh) (.tup hG r')⟩⟩
   ·obtain ⟨p,ys,rfl,hs,r⟩:=Md.lstOf I a rfl
    obtain ⟨r',o'⟩:=key r o
    exact ⟨p,ys,rfl,.inl ⟨hs,fun l hl=>Out.newTF I r' hl o'⟩⟩
   ·obtain ⟨p,ys,rfl,hs,r⟩:=Md.lstOf I a rfl
    obtain ⟨r',o'⟩:=key r o
    exact ⟨p,ys,rfl,.inl ⟨hs,fun l hl=>Out.newTF I r' hl o'⟩⟩
def f2 (g:Int->Int->Int):List W->R W
 | [.int i,.int j]=>.ok (.int (g i j))
 | _=>.stuck
theorem b_2 {g:Int->Int->Int}:Cal K .B d (fun xs H Q=>∃ i j,xs = [.int i,.int j]/\Q (.int (g i j)) H) (f2 g):=by
 intro EX H0 Hs G H ρ σ Ha vs ws Q I s m o
 unfold f2 at o
 split at o
 ·cases m with
  | cons a t=>
   cases t with
   | cons b t=>
    cases t
    exact ⟨_,_,by rw [a.intB,b.intB],o _ G H (Ext.refl I.gh) (Md.sca rfl (fun _=>.int) d)⟩
 ·exact o.elim
def tyW:W->Option String
 | .non=>some "NoneType"
 | .bl _=>some "bool"
 | .int _=>some "int"
 | .str _=>some "str"
 | .tup _=>some "tuple"
 | .lst _=>some "list"
 | _=>none
def fIsi:List W->R W
 | [x,.ty T]=>toR ((tyW x).bind fun A=>isiB A T)>>=fun b=>.ok (.bl b)
 | _=>.stuck
theorem tyW_of {Ha:Hp} {v:V} {w:W} {A:String} (I:PIv K H0 G ρ σ H) (m:Md K H0 Ha G H v w .B) (h:tyW w=some A):L2.tyB H v=some A:=by
 cases w <;> first | cases h | skip
 ·rw [m.nonB]; rfl
 ·rw [m.blB]; rfl
 ·rw [m.intB]; rfl
 ·rw [m.strB]; rfl
 ·obtain ⟨a,vs,rfl,hs,r⟩:=m.tupB I
  show L2.tyO (H a)=_
  rw [hs]; rfl
 ·obtain ⟨a,vs,rfl,hs,r⟩:=m.lstB I
  show L2.tyO (H a)=_
  rw [hs]; rfl
theorem b_isi:Cal K .B d rIsi fIsi:=by
 intro EX H0 Hs G H ρ σ Ha vs ws Q I s m o
 cases m with
 | nil=>exact o.elim
 | @cons x _ _ _ a t=>
  cases t with
  | nil=>exact o.elim
  | @cons y _ _ _ b t=>
   cases t with
   | cons _ _=>first | exact o.elim | (cases y <;> exact o.elim)
   | nil=>
    cases y <;> first | exact o.elim | skip
    rename_i T
    replace o:Out EX G H (mdW K d H0 Hs) (toR ((tyW x).bind fun A=>isiB A T)>>=fun b=>.ok (.bl b)) Q:=o
    cases q:tyW x with
    | none=>rw [q] at o; exact o.elim
    | some A=>
     rw [q] at o
     replace o:Out EX G H (mdW K d H0 Hs) (toR (isiB A T)>>=fun b=>.ok (.bl b)) Q:=o
     cases q2:isiB A T with
     | none=>rw [q2] at o; exact o.elim
     | some c=>
      rw [q2] at o
      exact ⟨_,T,by rw [b.tyB],A,tyW_of I a q,c,q2,o _ G H (Ext.refl I.gh) (Md.sca rfl (fun _=>.bl) d)⟩
def fCat (c:Bool):W->W->R W
 | .lst us,.lst vs=>if us.length+vs.length<=1000 then chks c (us++vs) else .stuck
 | _,_=>.stuck
theorem o2_cat {c:Bool}:Op2 K (cb c) .F rCat (fCat c):=by
 intro EX H0 Hs G H ρ σ Ha Hb x y u v Q I s mx my o
 cases u <;> first | exact o.elim | skip
 all_goals (cases v <;> first | exact o.elim | skip)
 rename_i us vs
 replace o:Out EX G H (mdW K .F H0 Hs) (if us.length+vs.length<=1000 then chks c (us++vs) else .stuck) Q:=o
 by_cases hn:us.length+vs.length<=1000
 ·rw [if_pos hn] at o
  have h1:∃ a ws,x=.ref a/\H a=some (.lst ws)/\Reps K (if c then G else join H0 G) ws us:=by
   cases c with
   | true=>exact Md.lstC (H:=Ha) I mx
   | false=>exact Md.lstB (H:=Ha) I mx
  have h2:∃ a ws,y=.ref a/\H a=some (.lst ws)/\Reps K (if c then G else join H0 G) ws vs:=by
   cases c with
   | true=>exact Md.lstC (H:=Hb) I my
   | false=>exact Md.lstB (H:=Hb) I my
  obtain ⟨a,xs,rfl,ha,ra⟩:=h1
  obtain ⟨b,ys,rfl,hb,rb⟩:=h2
  exact ⟨a,b,xs,ys,rfl,rfl,ha,hb,by rw [ra.length,rb.length]; exact le_line hn,Out.chks I s (ra.append rb) o⟩
 ·rw [if_neg hn] at o; exact o.elim
theorem Reps.rep {F:Hp} {vs:List V} {ws:List W} (r:Reps K F vs ws):∀ k:Nat,Reps K F (List.replicate k vs).flatten (List.replicate k ws).flatten
 | 0=>.nil
 | k+1=>by rw [List.replicate_succ,List.replicate_succ,List.flatten_cons,List.flatten_cons]; exact r.append (Reps.rep r k)
def fRep (c:Bool):W->W->R W
 | .lst us,.int k=>if us.length*k.toNat<=1000 /\ -1000<=k/\k<=1000 then chks c (List.replicate k.toNat us).flatten else .stuck
 | _,_=>.stuck
theorem o2_rep {c:Bool}:Op2 K (cb c) .F rRep (fRep c):=by
 intro EX H0 Hs G H ρ σ Ha Hb x y u v Q I s mx my o
 cases u <;> first | exact o.elim | skip
 all_goals (cases v <;> first | exact o.elim | skip)
 rename_i us k
 replace o:Out EX G H (mdW K .F H0 Hs) (if us.length*k.toNat<=1000 /\ -1000<=k/\k<=1000 then chks c (List.replicate k.toNat us).flatten else .stuck) Q:=o
 by_cases hn:us.length*k.toNat<=1000 /\ -1000<=k/\k<=1000
 ·rw [if_pos hn] at o
  have h1:∃ a ws,x=.ref a/\H a=some (.lst ws)/\Reps K (if c then G else join H0 G) ws us:=by
   cases c with
   | true=>exact Md.lstC (H:=Ha) I mx
   | false=>exact Md.lstB (H:=Ha) I mx
  have h2:y=.int k:=by
   cases c with
   | true=>exact Md.intB (Md.CB (H:=Hb) I my)
   | false=>exact Md.intB (H:=Hb) my
  obtain ⟨a,xs,rfl,ha,ra⟩:=h1
  subst h2
  exact ⟨a,k,xs,rfl,rfl,ha,by omega,by omega,by rw [ra.length]; exact le_line hn.1,Out.chks I s (ra.rep _) o⟩
 ·rw [if_neg hn] at o; exact o.elim
end
end TP
namespace TP
open PySem L2
def mC (w:W):Rho->R W:=fun _=>.ok w
def b1 (f:W->R W) (ma:Rho->R W):Rho->R W:=fun ρ=>ma ρ>>=fun x=>f x
def b2 (f:W->W->R W) (ma mb:Rho->R W):Rho->R W:=fun ρ=>ma ρ>>=fun x=>mb ρ>>=fun y=>f x y
def bA (f:List W->R W) (ma:Rho->R (List W)):Rho->R W:=fun ρ=>ma ρ>>=fun ws=>f ws
def bI (f:List W->R (List W)) (ma:Rho->R (List W)):Rho->R (List W):=fun ρ=>ma ρ>>=f
def bS (ma:Rho->R W):Rho->R (List W):=fun ρ=>ma ρ>>=seqW
def aN:Rho->R (List W):=fun _=>.ok []
def aC (ma:Rho->R W) (mr:Rho->R (List W)):Rho->R (List W):=fun ρ=>ma ρ>>=fun x=>mr ρ>>=fun xs=>.ok (x::xs)
def bChk (ma:Rho->R W):Rho->R W:=fun ρ=>ma ρ>>=chk
def bTest (ma:Rho->R W):Rho->R Bool:=fun ρ=>ma ρ>>=toB
def tAnd' (a b:Rho->R Bool):Rho->R Bool:=fun ρ=>rAnd (a ρ) (b ρ)
def tOr' (a b:Rho->R Bool):Rho->R Bool:=fun ρ=>rOr (a ρ) (b ρ)
def tNot' (a:Rho->R Bool):Rho->R Bool:=fun ρ=>rNot (a ρ)
def vAnd (a b:Rho->R W):Rho->R W:=fun ρ=>rAndV (a ρ) (b ρ)
def vOr (a b:Rho->R W):Rho->R W:=fun ρ=>rOrV (a ρ) (b ρ)
def vNot (a:Rho->R W):Rho->R W:=fun ρ=>rNotV (a ρ)
def vIf (c:Rho->R Bool) (a b:Rho->R W):Rho->R W:=fun ρ=>c ρ>>=fun t=>if t then a ρ else b ρ
def vChain (f f':W->W->R W) (ma mb mc:Rho->R W):Rho->R W:=fun ρ=>ma ρ>>=fun x=>mb ρ>>=fun y=>f x y>>=fun z=>toB z>>=fun c=>if c then mc ρ>>=fun u=>f' y u else .ok (.bl false)
def vTup (ma:Rho->R (List W)):Rho->R W:=fun ρ=>ma ρ>>=fun ws=>lim ws.length (.tup ws)
def vLst (ma:Rho->R (List W)):Rho->R W:=fun ρ=>ma ρ>>=fun ws=>lim ws.length (.lst ws)
def pN:Rho->R (Option Int):=fun _=>.ok none
def pS (m:Rho->R W):Rho->R (Option Int):=fun ρ=>m ρ>>=partW
def vSl (c:Bool) (m:Rho->R W) (ml mh:Rho->R (Option Int)):Rho->R W:=fun ρ=>m ρ>>=fun x=>ml ρ>>=fun l=>mh ρ>>=fun u=>toR (lstOf x)>>=fun ws=>chks c (cutW ws l u)
def vComp (n:Nat) (mi:Rho->R (List W)) (mg:W->Rho->Option Rho) (mc:Rho->R Bool) (me:Rho->R W):Rho->R W:=fun ρ=>mi ρ>>=fun ws=>mComp n mg mc me ws ρ
def yes:Rho->R Bool:=fun _=>.ok true
def sNx:Rho->R Fl:=fun ρ=>.ok (.nx ρ)
def sDrop (m:Rho->R W):Rho->R Fl:=fun ρ=>m ρ>>=fun _=>.ok (.nx ρ)
def sRet (m:Rho->R W):Rho->R Fl:=fun ρ=>m ρ>>=fun w=>.ok (.rt w)
def sRetN:Rho->R Fl:=fun _=>.ok (.rt .non)
def sV (i:Nat) (m:Rho->R W):Rho->R Fl:=fun ρ=>m ρ>>=fun w=>.ok (.nx (ρ.set i (.val w)))
def sU (i:Nat) (m:Rho->R W):Rho->R Fl:=fun ρ=>m ρ>>=fun w=>.ok (.nx (ρ.set i (.par w)))
def sF (i:Nat) (m:Rho->R W):Rho->R Fl:=fun ρ=>m ρ>>=fun w=>.ok (.nx (ρ.set i (slotF w)))
def sG (mg:W->Rho->Option Rho) (m:Rho->R W):Rho->R Fl:=fun ρ=>m ρ>>=fun w=>toR (mg w ρ)>>=fun ρ'=>.ok (.nx ρ')
def sFor (mi:Rho->R (List W)) (mg:W->Rho->Option Rho) (mb:Rho->R Fl):Rho->R Fl:=fun ρ=>mi ρ>>=fun ws=>mFor mg mb ws ρ
def sFrz (i:Nat) (m:Rho->R Fl):Rho->R Fl:=fun ρ=>m (frz i ρ)
def sNever:Rho->R Fl:=fun _=>.stuck
def sBk:Rho->R Fl:=fun ρ=>.ok (.bk ρ)
def sCt:Rho->R Fl:=fun ρ=>.ok (.ct ρ)
section
variable {X:Cx} {e:Expr} {es:List Expr} {st:Stmt} {sts:List Stmt}
theorem _root_.L2.PE.mono {t t':TE} (h:PE X e t) (hm:∀ σ H Q,t' σ H Q->t σ H Q):PE X e t':=fun pins s σ H Q I q=>h pins s σ H Q I (hm σ H Q q)
theorem _root_.L2.PT.mono {t t':TT} (h:PT X e t) (hm:∀ σ H Q,t' σ H Q->t σ H Q):PT X e t':=fun pins s σ H Q I q=>h pins s σ H Q I (hm σ H Q q)
theorem _root_.L2.PW.mono {t t':TT} (h:PW X e t) (hm:∀ σ H Q,t' σ H Q->t σ H Q):PW X e t':=fun wh pins s σ H Q I q=>h wh pins s σ H Q I (hm σ H Q q)
theorem _root_.L2.PA.mono {t t':TA} (h:PA X es t) (hm:∀ σ H Q,t' σ H Q->t σ H Q):PA X es t':=fun pos pins s σ H Q I q=>h pos pins s σ H Q I (hm σ H Q q)
theorem _root_.L2.PS.mono {t t':TS} (h:PS X st t) (hm:∀ D σ H,t' D σ H->t D σ H):PS X st t':=fun pins s σ H D I q=>h pins s σ H D I (hm D σ H q)
theorem _root_.L2.PSs.mono {t t':TS} (h:PSs X sts t) (hm:∀ D σ H,t' D σ H->t D σ H):PSs X sts t':=fun pins s σ H D I q=>h pins s σ H D I (hm D σ H q)
theorem _root_.L2.PI.mono {tg:Expr} {t t':TI} (h:PI X tg e t) (hm:∀ σ H Q,t' σ H Q->t σ H Q):PI X tg e t':=fun pins s σ H Q I q=>h pins s σ H Q I (hm σ H Q q)
theorem _root_.L2.PO.mono {oe:Option Expr} {t t':TO} (h:PO X oe t) (hm:∀ σ H Q,t' σ H Q->t σ H Q):PO X oe t':=by
 intro pins s σ H Q I q
 exact h pins s σ H Q I (hm σ H Q q)
end
section
variable {X:Cx} {K:Frag} {EX:EXT} {d b:Mode} {a c e:Expr} {es rest:List Expr} {pos:Pos} {ma mb mc:Rho->R W} {ta tb:Rho->R Bool} {mr:Rho->R (List W)}
theorem q_FV (h:PE X e (tM K EX .F ma)):PE X e (tM K EX .V ma):=h.mono fun _ _ _ q=>mode_FV q
theorem q_VU (h:PE X e (tM K EX .V ma)):PE X e (tM K EX .U ma):=h.mono fun _ _ _ q=>mode_VU q
theorem q_VC (h:PE X e (tM K EX .V ma)):PE X e (tM K EX .C ma):=h.mono fun _ _ _ q=>mode_VC q
theorem q_FC (h:PE X e (tM K EX .F ma)):PE X e (tM K EX .C ma):=h.mono fun _ _ _ q=>mode_FC q
theorem q_UB (h:PE X e (tM K EX .U ma)):PE X e (tM K EX .B ma):=h.mono fun _ _ _ q=>mode_UB q
theorem q_CB (h:PE X e (tM K EX .C ma)):PE X e (tM K EX .B ma):=h.mono fun _ _ _ q=>mode_CB q
theorem q_chkV (h:PE X e (tM K EX .U ma)):PE X e (tM K EX .V (bChk ma)):=h.mono fun _ _ _ q=>mode_chk (.inr rfl) q
theorem q_chkF (h:PE X e (tM K EX .U ma)):PE X e (tM K EX .F (bChk ma)):=h.mono fun _ _ _ q=>mode_chk (.inl rfl) q
theorem qv (d:Mode) (i:Nat) {x:Str} (hN:X.N[i]?=some x:=by rfl) (hv:Vis X.env.scope x:=by first | exact Or.inl rfl | exact Or.inr (Or.inl rfl) | exact Or.inr (Or.inr rfl)) (hd:(x == ("__debug__" : Str))=false:=by decide)
  (hcd:(x == ("__classdict__" : Str))=false:=by decide):PE X (.Name x pos) (tM K EX d (mVar d i)):=(pe_var hN hv hd hcd).mono fun _ _ _ q=>c_var q
theorem q_int {i j}:PE X (.Constant (.int i) j pos) (tM K EX d (mC (.int i))):=pe_int.mono fun _ _ _ q=>c_const rfl (fun _=>.int) q
theorem q_bl {t j}:PE X (.Constant (.bool t) j pos) (tM K EX d (mC (.bl t))):=pe_bl.mono fun _ _ _ q=>c_const rfl (fun _=>.bl) q
theorem q_non {j}:PE X (.Constant .none j pos) (tM K EX d (mC .non)):=pe_non.mono fun _ _ _ q=>c_const rfl (fun _=>.non) q
theorem q_str {x j}:PE X (.Constant (.str x) j pos) (tM K EX d (mC (.str x))):=pe_str.mono fun _ _ _ q=>c_const rfl (fun _=>.str) q
theorem q_globI {x:Str} {i:Int} {t:Tok} (hg:Gl X x) (hm:X.mg x=some (.int i t)) (hd:(x == ("__debug__" : Str))=false:=by decide):PE X (.Name x pos) (tM K EX d (mC (.int i))):=
 (pe_glob (v:=.int i) hg hm ⟨t,rfl⟩ hd).mono fun _ _ _ q=>c_const rfl (fun _=>.int) q
theorem q_ty {x:Str} {n:String} (hg:Gl X x) (hm:X.mg x=none) (hv:bootBuiltins x=some (.type n)) (hn:x ≠ "__name__" := by decide) (hd:(x == ("__debug__" : Str))=false:=by decide):PE X (.Name x pos) (tM K EX d (mC (.ty n))):=
 (pe_bltn (v:=.ty n) hg hm hv rfl hn hd).mono fun _ _ _ q=>c_const rfl (fun _=>.ty) q
theorem q_op {op:Operator} {r:R2} {f:W->W->R W} (ho:OpR X (binaryOp op) r) (hr:Op2 K b d r f) (ha:PE X a (tM K EX b ma)) (hb:PE X c (tM K EX b mb)):PE X (.BinOp a op c pos) (tM K EX d (b2 f ma mb)):=
 (pe_op ho ha hb).mono fun _ _ _ q=>c_op hr q
theorem q_cmp {op:CmpOp} {r:R2} {f:W->W->R W} (ho:OpR X (compareOp op) r) (hr:Op2 K b d r f) (ha:PE X a (tM K EX b ma)) (hb:PE X c (tM K EX b mb)) (hm:behindInMarks op c=false:=by first | exact nomark _ | rfl):PE X (.Compare a [op] [c] pos) (tM K EX d (b2 f ma mb)):=
 (pe_cmpR ho ha hb hm).mono fun _ _ _ q=>c_op hr q
theorem q_tcmp {op:CmpOp} {r:R2} {f:W->W->R W} (ho:OpR X (compareOp op) r) (hr:Op2 K b .B r f) (ha:PE X a (tM K EX b ma)) (hb:PE X c (tM K EX b mb)) (hm:behindInMarks op c=false:=by first | exact nomark _ | rfl):PT X (.Compare a [op] [c] pos) (tT K EX (bTest (b2 f ma mb))):=
 (pt_cmpR ho ha hb hm).mono fun σ H Q q=>by
  obtain ⟨H0,G,ρ,I,o⟩:=q
  have:=c_test (ma:=b2 f ma mb) ⟨H0,G,ρ,I,o⟩
  exact c_op hr this
theorem q_un {op:UnaryOp} {r:V->Hp->VK->Prop} {f:W->R W} (ho:UnR X (unaryOp op) r) (hr:Op1 K b d r f) (ha:PE X a (tM K EX b ma)):PE X (.UnaryOp op a pos) (tM K EX d (b1 f ma)):=
 (pe_un ho ha).mono fun _ _ _ q=>c_un hr q
theorem q_val (ha:PE X a (tM K EX .B ma)) (he:∀ whole,isTrue a X.env whole=(do let v <- whole; standAt a.pos; holding [v] (truthy v)):=by intro _; rfl):PT X a (tT K EX (bTest ma)):=
 (pt_val ha he).mono fun _ _ _ q=>c_tB q
theorem q_tand1 (ha:PT X a (tT K EX ta)):PW X (.BoolOp .And [a] pos) (tT K EX ta):=pw_and1 ha
theorem q_tor1 (ha:PT X a (tT K EX ta)):PW X (.BoolOp .Or [a] pos) (tT K EX ta):=pw_or1 ha
theorem q_tand {b:Expr} (ha:PT X a (tT K EX ta)) (hb:PW X (.BoolOp .And (b::rest) pos) (tT K EX tb)):PW X (.BoolOp .And (a::b::rest) pos) (tT K EX (tAnd' ta tb)):=(pw_and ha hb).mono fun _ _ _ q=>c_and q
theorem q_tor {b:Expr} (ha:PT X a (tT K EX ta)) (hb:PW X (.BoolOp .Or (b::rest) pos) (tT K EX tb)):PW X (.BoolOp .Or (a::b::rest) pos) (tT K EX (tOr' ta tb)):=(pw_or ha hb).mono fun _ _ _ q=>c_or q
theorem q_tnot (ha:PT X a (tT K EX ta)):PT X (.UnaryOp .Not a pos) (tT K EX (tNot' ta)):=(pt_not ha).mono fun _ _ _ q=>c_not q
theorem q_one {op} (h:PE X a (tM K EX d ma)):PE X (.BoolOp op [a] pos) (tM K EX d ma):=pe_one h
theorem q_and {b:Expr} (ha:PE X a (tM K EX .B ma)) (hb:PE X (.BoolOp .And (b::rest) pos) (tM K EX d mb)):PE X (.BoolOp .And (a::b::rest) pos) (tM K EX d (vAnd ma mb)):=(pe_and ha hb).mono fun _ _ _ q=>c_andV q
theorem q_or {b:Expr} (ha:PE X a (tM K EX .B ma)) (hb:PE X (.BoolOp .Or (b::rest) pos) (tM K EX d mb)):PE X (.BoolOp .Or (a::b::rest) pos) (tM K EX d (vOr ma mb)):=(pe_or ha hb).mono fun _ _ _ q=>c_orV q
theorem q_if {t:Expr} (ht:PT X t (tT K EX ta)) (ha:PE X a (tM K EX d ma)) (hb:PE X c (tM K EX d mb)):PE X (.IfExp t a c pos) (tM K EX d (vIf ta ma mb)):=(pe_ifExp ht ha hb).mono fun _ _ _ q=>c_if q
theorem q_chain {op op':CmpOp} {r r':R2} {f f':W->W->R W} {x y z:Expr} (ho:OpR X (compareOp op) r) (hr:Op2 K b .B r f) (ho':OpR X (compareOp op') r') (hr':Op2 K b d r' f') (ha:PE X x (tM K EX b ma)) (hb:PE X y (tM K EX b mb)) (hc:PE X z (tM K EX b mc))
  (hm:lastMarks [op,op'] [y,z]=false:=by with_unfolding_all rfl):PE X (.Compare x [op,op'] [y,z] pos) (tM K EX d (vChain f f' ma mb mc)):=
 (pe_chain ho ho' ha hb hc hm).mono fun _ _ _ q=>c_chain hr hr' q
theorem q_tchain {op op':CmpOp} {r r':R2} {f f':W->W->R W} {x y z:Expr} (ho:OpR X (compareOp op) r) (hr:Op2 K b .B r f) (ho':OpR X (compareOp op') r') (hr':Op2 K b .B r' f') (ha:PE X x (tM K EX b ma)) (hb:PE X y (tM K EX b mb)) (hc:PE X z (tM K EX b mc))
  (hm:lastMarks [op,op'] [y,z]=false:=by with_unfolding_all rfl):PT X (.Compare x [op,op'] [y,z] pos) (tT K EX (bTest (vChain f f' ma mb mc))):=
 (pt_chain ho ho' ha hb hc hm).mono fun σ H Q q=>by
  obtain ⟨H0,G,ρ,I,o⟩:=q
  have:=c_test (ma:=vChain f f' ma mb mc) ⟨H0,G,ρ,I,o⟩
  exact c_chain hr hr' this
theorem q_anil:PA X [] (tA K EX d aN):=pa_nil.mono fun _ _ _ q=>c_nil q
theorem q_acons (ha:PE X e (tM K EX d ma)) (hr:PA X es (tA K EX d mr)) (hs:starEach (e::es) X.env=(false,eval e X.env)::starEach es X.env:=by rfl):PA X (e::es) (tA K EX d (aC ma mr)):=(pa_cons ha hr hs).mono fun _ _ _ q=>c_cons q
theorem q_tup {x1} (h:PA X es (tA K EX .V mr)):PE X (.Tuple es x1 pos) (tM K EX .F (vTup mr)):=(pe_tup h).mono fun _ _ _ q=>c_tup q
theorem q_tupU {x1} (h:PA X es (tA K EX .U mr)):PE X (.Tuple es x1 pos) (tM K EX .U (vTup mr)):=(pe_tup h).mono fun _ _ _ q=>c_tupU q
theorem q_lst (h:PA X es (tA K EX .V mr)):PE X (.List es pos) (tM K EX .F (vLst mr)):=(pe_lst h).mono fun _ _ _ q=>c_lst q
theorem q_ixU (ha:PE X a (tM K EX .B ma)) (hb:PE X c (tM K EX .B mb)) (hs:PlainIx c:=by exact fun _ _=>rfl) (hK:X.K=K:=by rfl):PE X (.Subscript a c pos) (tM K EX .U (b2 fIx ma mb)):=by
 subst hK; exact (pe_ix ix_seq ha hb hs).mono fun _ _ _ q=>c_op o2_ixU q
theorem q_ixV (ha:PE X a (tM K EX .C ma)) (hb:PE X c (tM K EX .C mb)) (hs:PlainIx c:=by exact fun _ _=>rfl) (hK:X.K=K:=by rfl):PE X (.Subscript a c pos) (tM K EX .V (b2 fIx ma mb)):=by
 subst hK; exact (pe_ix ix_seq ha hb hs).mono fun _ _ _ q=>c_op o2_ixV q
theorem q_pN:PO X none (tOp_ K EX pN):=po_none.mono fun _ _ _ q=>c_noPart q
theorem q_pS (h:PE X e (tM K EX .B ma)):PO X (some e) (tOp_ K EX (pS ma)):=(po_some h).mono fun _ _ _ q=>c_part q
theorem q_sl (k:Bool) {lo hi:Option Expr} {p2:Pos} {ml mh:Rho->R (Option Int)} (he:PE X e (tM K EX (cb k) ma)) (hl:PO X lo (tOp_ K EX ml)) (hu:PO X hi (tOp_ K EX mh)) (hK:X.K=K:=by rfl):PE X (.Subscript e (.Slice lo hi none p2) pos) (tM K EX .F (vSl k ma ml mh)):=by
 subst hK; exact (pe_slice sl_list he hl hu).mono fun _ _ _ q=>c_sl q
theorem q_cb {x:Str} {id:String} {r:List V->Hp->VK->Prop} {f:List W->R W} {p:Pos} (hc:CallR X (.builtin id) r) (hr:Cal K b d r f) (hg:Gl X x) (hm:X.mg x=none) (hv:bootBuiltins x=some (.builtin id)) (ha:PA X (e::es) (tA K EX b mr))
  (hn:x ≠ "__name__" := by decide) (hdb:(x == ("__debug__" : Str))=false:=by decide) (he:starEach (e::es) X.env=(false,eval e X.env)::starEach es X.env:=by rfl) (hpl:(backTo pos (starEach es X.env)).any (·.1)=false:=by rfl) :
  PE X (.Call (.Name x p) (e::es) [] pos) (tM K EX d (bA f mr)):=(pe_callB hc hg hm hv ha hn hdb he hpl).mono fun _ _ _ q=>c_cb hr q
theorem q_ct {x:Str} {T:String} {r:List V->Hp->VK->Prop} {f:List W->R W} {p:Pos} (hc:CallR X (.type T) r) (hr:Cal K b d r f) (hg:Gl X x) (hm:X.mg x=none) (hv:bootBuiltins x=some (.type T)) (ha:PA X (e::es) (tA K EX b mr))
  (hn:x ≠ "__name__" := by decide) (hdb:(x == ("__debug__" : Str))=false:=by decide) (he:starEach (e::es) X.env=(false,eval e X.env)::starEach es X.env:=by rfl) (hpl:(backTo pos (starEach es X.env)).any (·.1)=false:=by rfl) :
  PE X (.Call (.Name x p) (e::es) [] pos) (tM K EX d (bA f mr)):=(pe_callTy hc hg hm hv ha hn hdb he hpl).mono fun _ _ _ q=>c_cb hr q
theorem K_len (hK:X.K=K:=by rfl):CallR X (.builtin "len") (fun xs H Q=>∃ p ys,xs = [.ref p]/\(SqL K H p ys\/SqT K H p ys)/\Q (.int ys.length) H):=by subst hK; exact call_len_seq
theorem K_list (hK:X.K=K:=by rfl):CallR X (.type "list") (fun xs H Q=>∃ p ys,xs = [.ref p]/\(SqL K H p ys\/SqT K H p ys)/\∀ l,H l=none->Q (.ref l) (upd H l (.lst ys))):=by subst hK; exact call_list_of
theorem K_tup (hK:X.K=K:=by rfl):CallR X (.type "tuple") (fun xs H Q=>∃ p ys,xs = [.ref p]/\((SqL K H p ys/\∀ l,H l=none->Q (.ref l) (upd H l (.tup ys)))\/(SqT K H p ys/\Q (.ref p) H))):=by subst hK; exact call_tuple_of
theorem q_call {k:Nat} {f:Addr} {fd:FuncData} {ps:List Str} {x:Str} {p:Pos} {n N:Nat} {m:Rho->R Fl} (F:FnOk X.prog X.w X.K X.mg X.base CX0 k f fd ps (spM K n d (runB n N m))) (hd:d=.F\/d=.V) (hr:Room k X.A) (hg:Gl X x) (hm:X.mg x=some (.ref f)) (hk:PySem.W.keepIn X.K (.ref f)=true) (hb:Binds X.K fd ps [])
  (ha:PA X (e::es) (tA K (fun _ _=>False) .B mr)) (hdb:(x == ("__debug__" : Str))=false:=by decide) (he:starEach (e::es) X.env=(false,eval e X.env)::starEach es X.env:=by rfl) (hpl:(backTo pos (starEach es X.env)).any (·.1)=false:=by rfl) :
  PE X (.Call (.Name x p) (e::es) [] pos) (tM K (fun _ _=>False) d (bA (runB n N m) mr)):=
 (pe_call F hr hg hm hk hb .nil pass0 ha hdb he hpl).mono fun _ _ _ q=>c_call hd (fun ws h=>runB_len ws h) (fun _ _ z=>z) q
variable {tg:Expr} {lp:Bool}
theorem q_iSq (h:PE X e (tM K EX (srcM lp .U) ma)) (hK:X.K=K:=by rfl):PI X tg e (tIt K EX lp .U (bS ma)):=by subst hK; exact (pi_sq h).mono fun _ _ _ q=>c_iSq (.inr rfl) q
theorem q_rng1 {p:Pos} (hg:Gl X "range") (hm:X.mg "range" = none) (ha:PA X [a] (tA K EX .B mr)) (hs:starEach [a] X.env = [(false,eval a X.env)]:=by rfl):PI X tg (.Call (.Name "range" p) [a] [] pos) (tIt K EX lp .U (bI rng1 mr)):=
 (pi_range1 hg hm ha hs).mono fun _ _ _ q=>c_rng1 (.inr rfl) q
theorem q_rng2 {p:Pos} {b:Expr} (hg:Gl X "range") (hm:X.mg "range" = none) (ha:PA X [a,b] (tA K EX .B mr)) (hs:starEach [a,b] X.env = [(false,eval a X.env),(false,eval b X.env)]:=by rfl) (hs2:starEach [b] X.env = [(false,eval b X.env)]:=by rfl) :
  PI X tg (.Call (.Name "range" p) [a,b] [] pos) (tIt K EX lp .U (bI rng2 mr)):=(pi_range2 hg hm ha hs hs2).mono fun _ _ _ q=>c_rng2 (.inr rfl) q
theorem q_zip {elts:List Expr} {p tp:Pos} {k:Nat} (hg:Gl X "zip") (hm:X.mg "zip" = none) (ha:PA X (a::es) (tA K EX (srcM lp .U) mr)) (hK:X.K=K:=by rfl) (hs:starEach (a::es) X.env=(false,eval a X.env)::starEach es X.env:=by rfl) (hpl:(backTo pos (starEach es X.env)).any (·.1)=false:=by rfl) :
  PI X (.Tuple elts k tp) (.Call (.Name "zip" p) (a::es) [] pos) (tIt K EX lp .U (bI zipR mr)):=by subst hK; exact (pi_zip hg hm ha hs hpl).mono fun _ _ _ q=>c_zip (.inr rfl) q
end
section
variable {X:Cx} {K:Frag} {EX:EXT} {d b:Mode} {e:Expr} {st:Stmt} {sts:List Stmt} {pos:Pos} {ma mb:Rho->R W} {ta:Rho->R Bool} {m n:Rho->R Fl}
theorem q_comp {cs:Scope} {N':List Str} {tg iter elt:Expr} {ifs:List Expr} {dd:Mode} {g:TG} {mg:W->Rho->Option Rho} {mi:Rho->R (List W)} (S:CompScope X.env.scope cs X.N N') (hc:X.calm=true) (hi:PI X tg iter (tIt K EX false dd mi))
  (hg:∀ cl ex s H,PG (cxComp X cs cl N' ex s H) tg g) (hgt:Gt K dd g mg) (hk:GKeep X.N.length g) (ht:∀ cl ex s H,PIf (cxComp X cs cl N' ex s H) ifs (tT K EX ta)) (he:∀ cl ex s H,PE (cxComp X cs cl N' ex s H) elt (tM K EX .V ma))
  (hs:∀ x,foldedSetIterable iter X.env x=pure x:=by intro _; rfl):PE X (.ListComp elt [⟨tg,iter,ifs,0⟩] cs pos) (tM K EX .F (vComp N'.length mi mg ta ma)):=
 (pe_comp S hc hi hg hk ht he hs).mono fun _ _ _ q=>c_comp hgt q
theorem q_setc {i:Nat} {y:Str} {py:Pos} {cs:Scope} {N':List Str} {tg iter elt:Expr} {ifs:List Expr} {dd:Mode} {g:TG} {mg:W->Rho->Option Rho} {mi:Rho->R (List W)} {cpos:Pos} (S:CompScope X.env.scope cs X.N N') (hc:X.calm=true) (hi:PI X tg iter (tIt K EX false dd mi))
  (hg:∀ cl ex s H,PG (cxComp X cs cl N' ex s H) tg g) (hgt:Gt K dd g mg) (hk:GKeep X.N.length g) (ht:∀ cl ex s H,PIf (cxComp X cs cl N' ex s H) ifs (tT K EX ta)) (he:∀ cl ex s H,PE (cxComp X cs cl N' ex s H) elt (tM K EX .V ma))
  (hN:X.N.Nodup) (hy:X.N[i]?=some y) (hl:Loc X.env.scope y)
  (hsw:swapsWith (.ListComp elt [⟨tg,iter,ifs,0⟩] cs cpos) (some (.Name y py)) pos.line X.env=pure true:=by rfl) (hf:X.fn y=true\/X.env.scope.names.lookup y=some .local:=by first | exact .inl rfl | exact .inr rfl | assumption)
  (hs:∀ x,foldedSetIterable iter X.env x=pure x:=by intro _; rfl):PS X (.Assign [.Name y py] (.ListComp elt [⟨tg,iter,ifs,0⟩] cs cpos) pos) (tSt K EX d (sF i (vComp N'.length mi mg ta ma))):=
 (ps_setc S hc hi hg hk ht he hN hy hl hsw hf hs).mono fun D σ H q=>by
  have:=c_setF (m:=vComp N'.length mi mg ta ma) q
  exact c_comp hgt this
theorem q_pifN:PIf X [] (tT K EX yes):=fun pins s σ H Q I q=>pif_nil pins s σ H Q I (by obtain ⟨H0,G,ρ,I0,o⟩:=q; exact o true G H (Ext.refl I0.gh) rfl)
theorem q_pif1 {c:Expr} (h:PT X c (tT K EX ta)):PIf X [c] (tT K EX ta):=pif_one h
theorem q_nil:PSs X [] (tSt K EX d sNx):=pss_nil.mono fun _ _ _ q=>c_next q
theorem q_cons (h1:PS X st (tSt K EX d m)) (h2:PSs X sts (tSt K EX d n)):PSs X (st::sts) (tSt K EX d (mSeq m n)):=(pss_cons h1 h2).mono fun _ _ _ q=>c_seq q
theorem q_last (h1:PS X st (tSt K EX d m)):PSs X [st] (tSt K EX d m):=pss_one h1
theorem q_frz {i:Nat} (h:PS X st (tSt K EX d m)):PS X st (tSt K EX d (sFrz i m)):=h.mono fun _ _ _ q=>c_frz q
theorem q_never:PS X st (tSt K EX d sNever):=ps_never.mono fun _ _ _ q=>c_never q
theorem q_expr (he:PE X e (tM K EX b ma)) (hs:swapsWith e none pos.line X.env=pure false:=by rfl):PS X (.Expr e pos) (tSt K EX d (sDrop ma)):=(ps_expr he hs).mono fun _ _ _ q=>c_drop q
theorem q_ret (he:PE X e (tM K EX d ma)):PS X (.Return (some e) pos) (tSt K EX d (sRet ma)):=(ps_ret he).mono fun _ _ _ q=>c_ret q
theorem q_retv (i:Nat) {x:Str} {p:Pos} (hd:d=.F\/d=.V) (hN:X.N[i]?=some x:=by rfl) (hv:Vis X.env.scope x:=by first | exact Or.inl rfl | exact Or.inr (Or.inl rfl) | exact Or.inr (Or.inr rfl)) (hdd:(x == ("__debug__" : Str))=false:=by decide)
  (hcd:(x == ("__classdict__" : Str))=false:=by decide):PS X (.Return (some (.Name x p)) pos) (tSt K EX d (mRetVar d i)):=(ps_ret (pe_var hN hv hdd hcd)).mono fun _ _ _ q=>c_retVar hd q
theorem q_setV {i:Nat} {x:Str} {pos':Pos} (hN:X.N.Nodup) (hi:X.N[i]?=some x) (hx:Loc X.env.scope x) (he:PE X e (tM K EX .V ma)) (hs:swapsWith e (some (.Name x pos')) pos.line X.env=pure false:=by rfl) (hf:X.fn x=true\/X.env.scope.names.lookup x=some .local:=by first | exact .inl rfl | exact .inr rfl | assumption) :
  PS X (.Assign [.Name x pos'] e pos) (tSt K EX d (sV i ma)):=(ps_set hN hi hx he hs hf).mono fun _ _ _ q=>c_setV q
theorem q_setU {i:Nat} {x:Str} {pos':Pos} (hN:X.N.Nodup) (hi:X.N[i]?=some x) (hx:Loc X.env.scope x) (he:PE X e (tM K EX .U ma)) (hs:swapsWith e (some (.Name x pos')) pos.line X.env=pure false:=by rfl) (hf:X.fn x=true\/X.env.scope.names.lookup x=some .local:=by first | exact .inl rfl | exact .inr rfl | assumption) :
  PS X (.Assign [.Name x pos'] e pos) (tSt K EX d (sU i ma)):=(ps_set hN hi hx he hs hf).mono fun _ _ _ q=>c_setU q
theorem q_setF {i:Nat} {x:Str} {pos':Pos} (hN:X.N.Nodup) (hi:X.N[i]?=some x) (hx:Loc X.env.scope x) (he:PE X e (tM K EX .F ma)) (hs:swapsWith e (some (.Name x pos')) pos.line X.env=pure false:=by rfl) (hf:X.fn x=true\/X.env.scope.names.lookup x=some .local:=by first | exact .inl rfl | exact .inr rfl | assumption) :
  PS X (.Assign [.Name x pos'] e pos) (tSt K EX d (sF i ma)):=(ps_set hN hi hx he hs hf).mono fun _ _ _ q=>c_setF q
theorem q_asg {tg:Expr} {g:TG} {mg:W->Rho->Option Rho} (he:PE X e (tM K EX b ma)) (hg:PG X tg g) (hgt:Gt K b g mg) (hs:swapsWithSole [tg] e pos.line X.env=pure false:=by rfl) (hw:swappedStores [tg] e X.env=pure none:=by rfl) (h1:(assignEach [tg] X.env).map (·.2) = [assign tg X.env]:=by rfl):PS X (.Assign [tg] e pos) (tSt K EX d (sG mg ma)):=
 (ps_asg he hg hs hw h1).mono fun _ _ _ q=>c_asg hgt q
theorem q_app {i:Nat} {x:Str} {p apos cpos:Pos} (hN:X.N[i]?=some x) (hv:Vis X.env.scope x) (ha:PE X e (tM K EX .V ma)) (hd:(x == ("__debug__" : Str))=false:=by decide) (hcd:(x == ("__classdict__" : Str))=false:=by decide)
  (hbase:attributeBase (.Name x p) "append" X.env (eval (.Name x p) X.env)=eval (.Name x p) X.env:=by rfl)
  (hfew:((backTo cpos (starEach [e] X.env)).all (fun x=>!x.1)&&(backToKw cpos (keywordEach [] X.env)).all (fun x=>x.1.isSome)
   && decide (([e]:List Expr).length+([]:List Keyword).length+(if ([]:List Keyword).isEmpty then 0 else 1)<30))=true:=by rfl)
  (hline:(apos.endLine == cpos.line)=true:=by rfl) (hs:starEach [e] X.env=(false,eval e X.env)::starEach [] X.env:=by rfl) (hsw:swapsWith (.Call (.Attribute (.Name x p) "append" apos) [e] [] cpos) none pos.line X.env=pure false:=by rfl) :
  PS X (.Expr (.Call (.Attribute (.Name x p) "append" apos) [e] [] cpos) pos) (tSt K EX d (mApp i ma)):=(ps_expr (pe_append (pe_var hN hv hd hcd) ha hbase hfew hline hs) hsw).mono fun _ _ _ q=>c_app q
theorem q_if_ {c:Expr} {x y:List Stmt} (hc:PT X c (tT K EX ta)) (ha:PSs X x (tSt K EX d m)) (hb:PSs X y (tSt K EX d n)):PS X (.If c x y pos) (tSt K EX d (mIf ta m n)):=(ps_if hc ha hb).mono fun _ _ _ q=>c_ifS q
theorem q_while {c:Expr} {body:List Stmt} (hp:PassesOwn (model X.prog X.w) X.A X.env X.xe) (hc:PT X c (tT K EX ta)) (hb:PSs X body (tSt K EX d m)):PS X (.While c body [] pos) (tSt K EX d (mWhile ta m)):=(ps_while hp hc hb).mono fun _ _ _ q=>c_while q
theorem q_for {tg iter:Expr} {body:List Stmt} {dd:Mode} {g:TG} {mg:W->Rho->Option Rho} {mi:Rho->R (List W)} (hp:PassesOwn (model X.prog X.w) X.A X.env X.xe) (hc:X.calm=true) (hi:PI X tg iter (tIt K EX true dd mi)) (hg:PG X tg g) (hgt:Gt K dd g mg) (hb:PSs X body (tSt K EX d m))
  (hs:∀ x,foldedSetIterable iter X.env x=pure x:=by intro _; rfl):PS X (.For tg iter body [] pos) (tSt K EX d (sFor mi mg m)):=(ps_for hp hc hi hg hb hs).mono fun _ _ _ q=>c_for hgt q
theorem q_set {i:Nat} {x:Str} {k:Expr} {p p2:Pos} (hN:X.N[i]?=some x) (hv:Vis X.env.scope x) (hk:PE X k (tM K EX .B mb)) (he:PE X e (tM K EX .V ma)) (hd:(x == ("__debug__" : Str))=false:=by decide) (hcd:(x == ("__classdict__" : Str))=false:=by decide)
  (hg:PG X (.Subscript (.Name x p) k p2) (gSub (tVar i) (tM K EX .B mb) rSetL))
  (hs:swapsWithSole [.Subscript (.Name x p) k p2] e pos.line X.env=pure false:=by rfl) (hw:swappedStores [.Subscript (.Name x p) k p2] e X.env=pure none:=by rfl):PS X (.Assign [.Subscript (.Name x p) k p2] e pos) (tSt K EX d (mSet i mb ma)):=
 (ps_asg he hg hs hw).mono fun _ _ _ q=>c_set q
end
end TP
namespace TP
open PySem L2
abbrev gLt (i j:Int):W:=.bl (decide (i<j))
abbrev gLe (i j:Int):W:=.bl (decide (i<=j))
abbrev gGt (i j:Int):W:=.bl (decide (j<i))
abbrev gGe (i j:Int):W:=.bl (decide (j<=i))
abbrev gAdd (i j:Int):W:=.int (i+j)
abbrev gSub (i j:Int):W:=.int (i-j)
abbrev gMul (i j:Int):W:=.int (i*j)
abbrev gMod (i j:Int):W:=.int (i%j)
abbrev gDiv (i j:Int):W:=.int (i/j)
abbrev gPow (i j:Int):W:=.int (i^j.toNat)
abbrev gNeg (i:Int):W:=.int (-i)
abbrev gMax (i j:Int):Int:=if j>i then j else i
abbrev gMin (i j:Int):Int:=if j<i then j else i
abbrev gAdd_ (i j:Int):Int:=i+j
abbrev gSub_ (i j:Int):Int:=i-j
abbrev cMod (_ j:Int):Prop:=0<j
instance (i j:Int):Decidable (CMul i j):=by unfold CMul; infer_instance
instance (i j:Int):Decidable (CDiv i j):=by unfold CDiv; infer_instance
instance (i j:Int):Decidable (CPow i j):=by unfold CPow; infer_instance
instance (i j:Int):Decidable (CPowB i j):=by unfold CPowB; infer_instance
def vOf:W->Option V
 | .non=>some .non
 | .bl b=>some (.bl b)
 | .int i=>some (.int i)
 | .str x=>some (.str x)
 | _=>none
def eqSc (u v:W):Option Bool:=match vOf u,vOf v with
 | some x,some y=>if scal x y then some (decide (x=y)) else none
 | _,_=>none
def fEqS (neg:Bool) (u v:W):R W:=match eqSc u v with
 | some b=>.ok (.bl (if neg then !b else b))
 | none=>.stuck
section
variable {K:Frag} {H0 G H:Hp} {ρ:Rho} {σ:St} {d:Mode}
theorem vOf_B {Ha:Hp} {v:V} {w:W} {x:V} (h:Md K H0 Ha G H v w .B) (e:vOf w=some x):v=x:=by
 cases w <;> first | cases e | skip
 ·exact h.nonB
 ·exact h.blB
 ·exact h.intB
 ·exact h.strB
theorem o2_eqS:Op2 K .B d rEq (fEqS false):=by
 intro EX H0 Hs G H ρ σ Ha Hb x y u v Q I s mx my o
 unfold fEqS eqSc at o
 cases hu:vOf u with
 | none=>rw [hu] at o; exact o.elim
 | some p=>
  cases hv:vOf v with
  | none=>rw [hu,hv] at o; exact o.elim
  | some q=>
   rw [hu,hv] at o
   cases vOf_B mx hu
   cases vOf_B my hv
   dsimp only at o
   by_cases c:scal x y=true
   ·rw [if_pos c] at o
    exact ⟨c,o _ G H (Ext.refl I.gh) (Md.sca rfl (fun _=>.bl) d)⟩
   ·rw [if_neg c] at o; exact o.elim
theorem o2_neS:Op2 K .B d rNe (fEqS true):=by
 intro EX H0 Hs G H ρ σ Ha Hb x y u v Q I s mx my o
 unfold fEqS eqSc at o
 cases hu:vOf u with
 | none=>rw [hu] at o; exact o.elim
 | some p=>
  cases hv:vOf v with
  | none=>rw [hu,hv] at o; exact o.elim
  | some q=>
   rw [hu,hv] at o
   cases vOf_B mx hu
   cases vOf_B my hv
   dsimp only at o
   by_cases c:scal x y=true
   ·rw [if_pos c] at o
    exact ⟨c,o _ G H (Ext.refl I.gh) (Md.sca rfl (fun _=>.bl) d)⟩
   ·rw [if_neg c] at o; exact o.elim
end
end TP
namespace TP
open PySem L2
mutual
def pd:W->PyData
 | .non=>.none
 | .bl b=>.bool b
 | .int i=>.int i
 | .str x=>.str x
 | .ty _=>.none
 | .exc _ _=>.none
 | .cls _=>.none
 | .tup ws=>.tuple (pds ws)
 | .lst ws=>.list (pds ws)
 | .scr ws=>.list (pds ws)
def pds:List W->List PyData
 | []=>[]
 | w::ws=>pd w::pds ws
end
mutual
def shp:Nat->W->Bool
 | _,.non=>true
 | _,.bl _=>true
 | _,.int _=>true
 | _,.str x=>PyData.strOk x
 | n+1,.tup ws=>shps n ws
 | n+1,.lst ws=>shps n ws
 | n+1,.scr ws=>shps n ws
 | _,_=>false
def shps:Nat->List W->Bool
 | _,[]=>true
 | n,w::ws=>shp n w&&shps n ws
end
theorem shp_ok:∀ (w:W) (n:Nat),shp n w=true->(pd w).canLay0=true/\(pd w).depth<=n:=by
 intro w
 have tl:∀ (ws:List W) (c:List PyData->PyData),(∀ l,(c l).canLay0=PyData.canLayAll0 l)->(∀ l,(c l).depth=PyData.depthAll l+1)->(∀ n:Nat,shps n ws=true->PyData.canLayAll0 (pds ws)=true/\PyData.depthAll (pds ws)<=n)->∀ n:Nat,(match n with | 0=>false | n+1=>shps n ws)=true->(c (pds ws)).canLay0=true/\(c (pds ws)).depth<=n:=fun ws c h1 h2 ih n h=>by
  cases n with
  | zero=>cases h
  | succ n=>have:=ih n h; exact ⟨by rw [h1]; exact this.1,by rw [h2]; exact Nat.succ_le_succ this.2⟩
 have fl:∀ {n:Nat} {w:W} {P:Prop},shp n w=false->shp n w=true->P:=fun h1 h2=>by rw [h1] at h2; cases h2
 induction w using W.rec (motive_2:=fun ws=>∀ n:Nat,shps n ws=true->PyData.canLayAll0 (pds ws)=true/\PyData.depthAll (pds ws)<=n) with
 | non=>exact fun n _=>⟨rfl,Nat.zero_le _⟩
 | bl b=>exact fun n _=>⟨rfl,Nat.zero_le _⟩
 | int i=>exact fun n _=>⟨rfl,Nat.zero_le _⟩
 | str x=>exact fun n h=>⟨by cases n <;> exact h,Nat.zero_le _⟩
 | ty a=>exact fun n h=>fl (by cases n <;> rfl) h
 | exc a b=>exact fun n h=>fl (by cases n <;> rfl) h
 | cls a=>exact fun n h=>fl (by cases n <;> rfl) h
 | tup ws ih=>exact fun n h=>tl ws .tuple (fun _=>rfl) (fun _=>rfl) ih n (by cases n <;> exact h)
 | lst ws ih=>exact fun n h=>tl ws .list (fun _=>rfl) (fun _=>rfl) ih n (by cases n <;> exact h)
 | scr ws ih=>exact fun n h=>tl ws .list (fun _=>rfl) (fun _=>rfl) ih n (by cases n <;> exact h)
 | nil=>exact ⟨rfl,Nat.zero_le _⟩
 | cons w ws h1 h2=>
  rename_i n h
  have h':shp n w=true/\shps n ws=true:=(Bool.and_eq_true _ _).mp h
  have a:=h1 n h'.1
  have b:=h2 n h'.2
  exact ⟨by show (PyData.canLay0 _&&PyData.canLayAll0 _)=true; rw [a.1,b.1]; rfl,Nat.max_le.mpr ⟨a.2,b.2⟩⟩
section
variable {X:Cx} {pins:List (Addr×Obj)} {σ:St} {H:Hp} {s:Shared}
theorem Rep.reads (I:Inv X pins σ H s) {x:V} {w:W} {u:Value} (n:Nat) (r:Rep X.K H x w):shp n w=true->RelV x u->∃ as,Reads s.heap u (pd w) as:=by
 have fl:∀ {n:Nat} {w:W} {P:Prop},shp n w=false->shp n w=true->P:=fun h1 h2=>by rw [h1] at h2; cases h2
 induction r using Rep.rec (motive_2:=fun xs ws _=>∀ (us:List Value) (n:Nat),shps n ws=true->Vals xs us->∃ as,ReadsAll s.heap us (pds ws) as) generalizing u n with
 | non=>intro _ r; cases r; exact ⟨_,.none⟩
 | bl=>intro _ r; cases r; exact ⟨_,.bool _⟩
 | int=>intro _ r; obtain ⟨t,rfl⟩:=r; exact ⟨_,.int _ _⟩
 | str=>intro _ r; obtain ⟨t,rfl⟩:=r; exact ⟨_,.str _ _⟩
 | ty=>exact fun h _=>fl (by cases n <;> rfl) h
 | exc=>exact fun h _=>fl (by cases n <;> rfl) h
 | cls=>exact fun h _=>fl (by cases n <;> rfl) h
 | tup ha _ ih=>
  intro h r
  cases r
  cases n with
  | zero=>cases h
  | succ n=>
   obtain ⟨its,rv,⟨o,e,c,k,dd⟩,_⟩:=I.tuple (SqT.of ha)
   obtain ⟨as,q⟩:=ih _ n h rv
   exact ⟨_,.tuple e c dd (by simpa using q)⟩
 | lst ha _ ih=>
  intro h r
  cases r
  cases n with
  | zero=>cases h
  | succ n=>
   obtain ⟨its,rv,pl,_⟩:=I.list (SqL.of ha)
   obtain ⟨o,e,c,k,dd⟩:=pl.isList
   obtain ⟨as,q⟩:=ih _ n h rv
   exact ⟨_,.list e c dd (by simpa using q)⟩
 | scr ha _ ih=>
  intro h r
  cases r
  cases n with
  | zero=>cases h
  | succ n=>
   obtain ⟨its,rv,pl,_⟩:=I.list ha
   obtain ⟨o,e,c,k,dd⟩:=pl.isList
   obtain ⟨as,q⟩:=ih _ n h rv
   exact ⟨_,.list e c dd (by simpa using q)⟩
 | nil=>rename_i us n _ r; cases r; exact ⟨_,.nil⟩
 | cons _ _ h1 h2=>
  rename_i us n h r
  cases r with
  | cons r1 r2=>
   have h':=(Bool.and_eq_true _ _).mp h
   obtain ⟨as,q1⟩:=h1 n h'.1 r1
   obtain ⟨bs,q2⟩:=h2 _ n h'.2 r2
   exact ⟨_,.cons q1 q2⟩
def eqW (u v:W):Bool:=PyData.eqv (pd u) (pd v)
def rEqD (K:Frag) (neg:Bool):R2:=fun x y H Q=>∃ u v,Rep K H x u/\Rep K H y v/\shp 8 u=true/\shp 8 v=true/\Q (.bl (if neg then !eqW u v else eqW u v)) H
theorem shaped_of {w:W} (h:shp 8 w=true):SeqAt.shaped (pd w)=true:=by
 obtain ⟨a,b⟩:=shp_ok w 8 h
 unfold SeqAt.shaped
 rw [a,Bool.true_and]
 exact decide_eq_true (Nat.le_trans b (by decide))
theorem op_eqD (hu:X.A.units+64<cLine):OpR X (compareOp .Eq) (rEqD X.K false):=by
 intro pins s σ H x y v u Q I rx ry h
 obtain ⟨a,b,ra,rb,sa,sb,q⟩:=h
 obtain ⟨as,qa⟩:=Rep.reads I 8 ra sa rx
 obtain ⟨bs,qb⟩:=Rep.reads I 8 rb sb ry
 exact PyProof.Rows.eq_dataH qa qb (shaped_of sa) (shaped_of sb) hu ⟨.bl (eqW a b),H,I,rfl,q⟩
theorem op_neD (hu:X.A.units+64<cLine):OpR X (compareOp .NotEq) (rEqD X.K true):=by
 intro pins s σ H x y v u Q I rx ry h
 obtain ⟨a,b,ra,rb,sa,sb,q⟩:=h
 obtain ⟨as,qa⟩:=Rep.reads I 8 ra sa rx
 obtain ⟨bs,qb⟩:=Rep.reads I 8 rb sb ry
 exact PyProof.Rows.ne_dataH qa qb (shaped_of sa) (shaped_of sb) hu ⟨.bl (!eqW a b),H,I,rfl,q⟩
def fEq (neg:Bool) (u v:W):R W:=if shp 8 u&&shp 8 v then .ok (.bl (if neg then !eqW u v else eqW u v)) else .stuck
theorem o2_eqD {K:Frag} {d:Mode} {neg:Bool}:Op2 K .B d (rEqD K neg) (fEq neg):=by
 intro EX H0 Hs G H ρ σ Ha Hb x y u v Q I s mx my o
 unfold fEq at o
 by_cases c:(shp 8 u&&shp 8 v)=true
 ·rw [if_pos c] at o
  have c':shp 8 u=true/\shp 8 v=true:=by simpa using c
  exact ⟨u,v,mx.whole I,my.whole I,c'.1,c'.2,o _ G H (Ext.refl I.gh) (Md.sca rfl (fun _=>.bl) d)⟩
 ·rw [if_neg c] at o; exact o.elim
def isBW:W->Bool->Bool
 | .bl a,b=>a == b
 | _,_=>false
def fIsB (neg:Bool):W->W->R W
 | u,.bl b=>.ok (.bl (if neg then !isBW u b else isBW u b))
 | _,_=>.stuck
end
theorem hu64 {A:Around} {k:Nat} (hr:Room k A):A.units+64<cLine:=hr.units
end TP
namespace TP
open PySem L2
section
variable {X:Cx} {pins:List (Addr×Obj)} {σ:St} {H:Hp} {s:Shared}
theorem vals_one {x:V} {us:List Value} (r:Vals [x] us):∃ u,us = [u]/\RelV x u:=by
 cases r with
 | cons a t=>cases t; exact ⟨_,rfl,a⟩
theorem keep_push {h':Heap} {o:Obj} (hk:∀ b u,b ∉ [s.heap.objs.size]->(s.heap.push o).get? b=some u->h'.get? b=some u):∀ b u,s.heap.get? b=some u->h'.get? b=some u:=fun b u e=>
 hk b u (by simp; exact Nat.ne_of_lt (Heap.lt_size e)) (Heap.get?_push_of_some _ e)
theorem val_at {α:Type} {f:α->V} {g:α->Value->Prop} (hg:∀ a u,RelV (f a) u->g a u) {as:List α} {its:List Value} (r:Vals (as.map f) its) {i:Nat} {v:Value} (h:its.toArray[i]?=some v):∃ a,as[i]?=some a/\g a v:=by
 have h':its[i]?=some v:=by simpa using h
 induction as generalizing its i with
 | nil=>cases r; simp at h'
 | cons a as ih=>
  cases r with
  | cons q t=>
   cases i with
   | zero=>simp at h'; subst h'; exact ⟨a,rfl,hg _ _ q⟩
   | succ i=>simpa using ih t (i:=i) (by simpa using h') (by simpa using h')
theorem walk_list {p:Addr} {xs:List V} (I:Inv X pins σ H s) (hc:X.calm=true) (hp:H p=some (.lst xs)):∃ its:List Value,Vals xs its/\s.heap.IsList p its.toArray/\xs.length=its.toArray.size/\p≠s.heap.objs.size /\
  Walks X.prog X.w X.A.in1 s.heap.objs.size [s.heap.objs.size,p] [s.heap.objs.size] its.toArray.size (fun i v=>its.toArray[i]?=some v) (fun i h=>h.IsListIter s.heap.objs.size p i/\h.IsList p its.toArray):=by
 obtain ⟨its,rv,pl,hz⟩:=I.list (SqL.of hp)
 obtain ⟨o,e,_⟩:=pl.isList
 have hne:p≠s.heap.objs.size:=Nat.ne_of_lt (Heap.lt_size e)
 exact ⟨its,rv,pl.isList,by rw [List.size_toArray]; exact rv.length,hne,Walks.list (show X.A.in1.handled=none from I.ok.hd hc) _ p hne _⟩
theorem all_range {bs:List Bool}:(List.range bs.length).all (fun i=>bs.getD i false)=bs.all id:=by
 rw [Bool.eq_iff_iff,List.all_eq_true,List.all_eq_true]
 constructor
 ·intro h x hx
  obtain ⟨i,hi,e⟩:=List.mem_iff_getElem.mp hx
  have:=h i (by simpa using hi)
  rw [List.getD_eq_getElem?_getD] at this
  simpa [hi,e] using this
 ·intro h i hi
  have hi:i<bs.length:=by simpa using hi
  rw [List.getD_eq_getElem?_getD]
  simpa [hi] using h bs[i] (List.getElem_mem hi)
theorem truth_bl {A:Around} {bs:List Bool} {its:List Value} (rv:Vals (bs.map V.bl) its):TruthOf X.prog X.w A (fun i v=>its.toArray[i]?=some v) (fun i=>bs.getD i false):=fun i v s' Q' E hv hq=>by
 obtain ⟨b,hb,e⟩:=val_at (f:=V.bl) (g:=fun b u=>u=.bool b) (fun b u r=>r) rv hv
 subst e
 have:bs.getD i false=b:=by rw [List.getD_eq_getElem?_getD,hb]; rfl
 have hq':Q' (bs.getD i false) s':=hq
 rw [this] at hq'
 exact wpAny_truthy_bool hq'
theorem call_allL (hc:X.calm=true):CallR X (.builtin "all") (fun xs H Q=>∃ (p:Addr) (bs:List Bool),xs = [.ref p]/\H p=some (.lst (bs.map V.bl))/\Q (.bl (bs.all id)) H):=by
 intro pins s σ H xs us Q I r h
 obtain ⟨p,bs,rfl,hp,q⟩:=h
 obtain ⟨u,rfl,rx⟩:=vals_one r
 cases rx
 obtain ⟨its,rv,hl,hlen,hne,Wk⟩:=walk_list I hc hp
 rw [List.length_map] at hlen
 refine call_all_walk (wpAny_pyIter_list hl ⟨_,_,_,_,_,_,_,rfl,Wk,⟨⟨_,Heap.get?_push_size _ rfl,rfl,rfl⟩,hl.push _⟩,truth_bl rv,fun h' tk hk=>?_⟩)
 rw [<- hlen,all_range]
 exact ⟨.bl (bs.all id),H,I.kept (t':=tk) (keep_push hk),rfl,q⟩
def blsW:List W->Option (List Bool)
 | []=>some []
 | .bl b::ws=>(blsW ws).map (b::·)
 | _=>none
theorem bls_map (bs:List Bool):blsW (bs.map W.bl)=some bs:=by
 induction bs with
 | nil=>rfl
 | cons b bs ih=>rw [List.map_cons,blsW,ih]; rfl
theorem Reps.bls {K:Frag} {F:Hp} {vs:List V} {ws:List W} {bs:List Bool} (r:Reps K F vs ws):blsW ws=some bs->vs=bs.map V.bl:=
 Reps.ind (P:=fun vs ws=>∀ bs,blsW ws=some bs->vs=bs.map V.bl) (fun bs h=>by cases h; rfl) (fun {v w vs ws} r _ ih bs h=>by
  cases w <;> first | cases h | skip
  rename_i b
  have e:v=.bl b:=r.inv
  subst e
  have h':(blsW ws).map (b::·)=some bs:=h
  cases q:blsW ws with
  | none=>rw [q] at h'; cases h'
  | some cs=>rw [q] at h'; cases h'; rw [ih cs q]; rfl) r bs
def fBools (g:List Bool->Bool):List W->R W
 | [.lst ws]=>toR (blsW ws)>>=fun bs=>.ok (.bl (g bs))
 | _=>.stuck
theorem b_bools {K:Frag} {d:Mode} {g:List Bool->Bool}:Cal K .B d (fun xs H Q=>∃ (p:Addr) (bs:List Bool),xs = [.ref p]/\H p=some (.lst (bs.map V.bl))/\Q (.bl (g bs)) H) (fBools g):=by
 intro EX H0 Hs G H ρ σ Ha vs ws Q I s m o
 cases m with
 | nil=>exact o.elim
 | @cons w v ws2 vs2 a t=>
  cases t with
  | cons _ _=>first | exact o.elim | (cases w <;> exact o.elim)
  | nil=>
   cases w <;> first | exact o.elim | skip
   rename_i ws
   obtain ⟨p,ys,rfl,hs,r⟩:=a.lstB I
   replace o:Out EX G H (mdW K d H0 Hs) (toR (blsW ws)>>=fun bs=>.ok (.bl (g bs))) Q:=o
   cases q:blsW ws with
   | none=>rw [q] at o; exact o.elim
   | some bs=>
    rw [q] at o
    rw [Reps.bls r q] at hs
    exact ⟨p,bs,rfl,hs,o _ G H (Ext.refl I.gh) (Md.sca rfl (fun _=>.bl) d)⟩
def gAll (bs:List Bool):Bool:=bs.all id
end
theorem bt_all:bootBuiltins "all" = some (.builtin "all"):=by decide +kernel
theorem bt_sum:bootBuiltins "sum" = some (.builtin "sum"):=by decide +kernel
section
variable {X:Cx} {K:Frag} {d:Mode}
theorem call_sumL (hc:X.calm=true):CallR X (.builtin "sum") (fun xs H Q=>∃ (p:Addr) (ns:List Int),xs = [.ref p]/\H p=some (.lst (ns.map V.int))/\Q (.int ns.sum) H):=by
 intro pins s σ H xs us Q I r h
 obtain ⟨p,ns,rfl,hp,q⟩:=h
 obtain ⟨u,rfl,rx⟩:=vals_one r
 cases rx
 obtain ⟨its,rv,hl,hlen,hne,Wk⟩:=walk_list I hc hp
 rw [List.length_map] at hlen
 have pre:∀ (ms:List Int) (k:Nat),k<=ms.length->preSum (fun i=>ms.getD i 0) k=(ms.take k).sum:=by
  intro ms k
  induction k with
  | zero=>intro _; simp [preSum]
  | succ k ih=>
   intro hk
   rw [preSum,ih (by omega),List.take_succ_eq_append_getElem (by omega:k<ms.length),List.sum_append]
   have hk':k<ms.length:=by omega
   simp [List.getD_eq_getElem?_getD,hk']
 refine call_sum_walkAnyS (wpAny_pyIter_list hl ⟨_,_,_,_,_,_,_,(fun i=>ns.getD i 0),rfl,Wk.toS,⟨⟨_,Heap.get?_push_size _ rfl,rfl,rfl⟩,hl.push _⟩,fun b hb=>?_,fun i v hv=>?_,fun s' t' mv=>?_⟩)
 ·obtain ⟨o,e,_⟩:=id hl
  have hlt:=Heap.lt_size e
  simp at hb
  rcases hb with rfl | rfl
  ·simp [Heap.push]
  ·exact Nat.lt_of_lt_of_le hlt (by simp [Heap.push])
 ·obtain ⟨n,hn,t,e⟩:=val_at (f:=V.int) (g:=fun n u=>∃ t,u=.int n t) (fun b u r=>r) rv hv
  refine ⟨t,?_⟩
  show v=Value.int (ns.getD i 0) t
  rw [e,List.getD_eq_getElem?_getD,hn]; rfl
 ·rw [<- hlen,pre ns ns.length (Nat.le_refl _),List.take_length]
  obtain ⟨hh,g,dd,tk,os⟩:=s'
  obtain rfl:g=s.gens:=mv.gens
  obtain rfl:dd=s.drawn:=mv.drawn
  obtain rfl:os=s.os:=mv.os
  exact ⟨.int ns.sum,H,I.kept (t':=tk) (keep_push mv.heap),⟨t',rfl⟩,q⟩
def intsW:List W->Option (List Int)
 | []=>some []
 | .int b::ws=>(intsW ws).map (b::·)
 | _=>none
theorem ints_map (bs:List Int):intsW (bs.map W.int)=some bs:=by
 induction bs with
 | nil=>rfl
 | cons b bs ih=>rw [List.map_cons,intsW,ih]; rfl
theorem Reps.ints {F:Hp} {vs:List V} {ws:List W} {bs:List Int} (r:Reps K F vs ws):intsW ws=some bs->vs=bs.map V.int:=
 Reps.ind (P:=fun vs ws=>∀ bs,intsW ws=some bs->vs=bs.map V.int) (fun bs h=>by cases h; rfl) (fun {v w vs ws} r _ ih bs h=>by
  cases w <;> first | cases h | skip
  rename_i b
  have e:v=.int b:=r.inv
  subst e
  have h':(intsW ws).map (b::·)=some bs:=h
  cases q:intsW ws with
  | none=>rw [q] at h'; cases h'
  | some cs=>rw [q] at h'; cases h'; rw [ih cs q]; rfl) r bs
def fInts (g:List Int->Int):List W->R W
 | [.lst ws]=>toR (intsW ws)>>=fun bs=>.ok (.int (g bs))
 | _=>.stuck
theorem b_ints {g:List Int->Int}:Cal K .B d (fun xs H Q=>∃ (p:Addr) (ns:List Int),xs = [.ref p]/\H p=some (.lst (ns.map V.int))/\Q (.int (g ns)) H) (fInts g):=by
 intro EX H0 Hs G H ρ σ Ha vs ws Q I s m o
 cases m with
 | nil=>exact o.elim
 | @cons w v ws2 vs2 a t=>
  cases t with
  | cons _ _=>first | exact o.elim | (cases w <;> exact o.elim)
  | nil=>
   cases w <;> first | exact o.elim | skip
   rename_i ws
   obtain ⟨p,ys,rfl,hs,r⟩:=a.lstB I
   replace o:Out EX G H (mdW K d H0 Hs) (toR (intsW ws)>>=fun bs=>.ok (.int (g bs))) Q:=o
   cases q:intsW ws with
   | none=>rw [q] at o; exact o.elim
   | some bs=>
    rw [q] at o
    rw [Reps.ints r q] at hs
    exact ⟨p,bs,rfl,hs,o _ G H (Ext.refl I.gh) (Md.sca rfl (fun _=>.int) d)⟩
def gSum (ns:List Int):Int:=ns.sum
def fAbs:List W->R W
 | [.int i]=>.ok (.int (if i<0 then -i else i))
 | _=>.stuck
def fInt:List W->R W
 | [.int i]=>.ok (.int i)
 | [.bl k]=>.ok (.int (if k then 1 else 0))
 | _=>.stuck
theorem b_int:Cal K .B d (fun xs H Q=>(∃ i,xs = [.int i]/\Q (.int i) H)\/∃ k:Bool,xs = [.bl k]/\Q (.int (if k then 1 else 0)) H) fInt:=by
 intro EX H0 Hs G H ρ σ Ha vs ws Q I s m o
 cases m with
 | nil=>exact o.elim
 | @cons w v ws2 vs2 a t=>
  cases t with
  | cons _ _=>first | exact o.elim | (cases w <;> exact o.elim)
  | nil=>
   cases w <;> first | exact o.elim | skip
   ·exact .inr ⟨_,by rw [a.blB],o _ G H (Ext.refl I.gh) (Md.sca rfl (fun _=>.int) d)⟩
   ·exact .inl ⟨_,by rw [a.intB],o _ G H (Ext.refl I.gh) (Md.sca rfl (fun _=>.int) d)⟩
def fStr:List W->R W
 | [.int i]=>if i.natAbs.log2<1920 then .ok (.str (toString i)) else .stuck
 | _=>.stuck
end
end TP
namespace TP
open PySem L2
def mExt (i:Nat) (c:Bool) (m:Rho->R W):Rho->R Fl:=fun ρ=>match ρ[i]? with
 | some (.own ws)=>m ρ>>=fun w=>(match w with
  | .lst us=>if ws.length+us.length<=1000 then (if c||noLs us then .ok (.nx (ρ.set i (.own (ws++us)))) else .stuck) else .stuck
  | _=>.stuck)
 | _=>.stuck
def mRev (i:Nat):Rho->R Fl:=fun ρ=>match ρ[i]? with
 | some (.own ws)=>.ok (.nx (ρ.set i (.own ws.reverse)))
 | _=>.stuck
section
variable {K:Frag} {EX:EXT} {H0 G H:Hp} {ρ:Rho} {σ:St} {d:Mode} {D:Ends}
end
section
variable {X:Cx} {K:Frag} {EX:EXT} {d:Mode} {e:Expr} {pos:Pos} {ma:Rho->R W}
end
section
variable {X:Cx} {K:Frag} {EX:EXT} {a e tg:Expr} {es:List Expr} {pos:Pos} {ma:Rho->R W} {mr:Rho->R (List W)}
theorem q_iSqB (h:PE X e (tM K EX .B ma)) (hK:X.K=K:=by rfl):PI X tg e (tIt K EX false .U (bS ma)):=q_iSq (lp:=false) h hK
theorem q_iSqU (h:PE X e (tM K EX .U ma)) (hK:X.K=K:=by rfl):PI X tg e (tIt K EX true .U (bS ma)):=q_iSq (lp:=true) h hK
theorem q_zipB {elts:List Expr} {p tp:Pos} {k:Nat} (hg:Gl X "zip") (hm:X.mg "zip" = none) (ha:PA X (a::es) (tA K EX .B mr)) (hK:X.K=K:=by rfl) (hs:starEach (a::es) X.env=(false,eval a X.env)::starEach es X.env:=by rfl) (hpl:(backTo pos (starEach es X.env)).any (·.1)=false:=by rfl) :
  PI X (.Tuple elts k tp) (.Call (.Name "zip" p) (a::es) [] pos) (tIt K EX false .U (bI zipR mr)):=q_zip (lp:=false) hg hm ha hK hs hpl
theorem q_zipU {elts:List Expr} {p tp:Pos} {k:Nat} (hg:Gl X "zip") (hm:X.mg "zip" = none) (ha:PA X (a::es) (tA K EX .U mr)) (hK:X.K=K:=by rfl) (hs:starEach (a::es) X.env=(false,eval a X.env)::starEach es X.env:=by rfl) (hpl:(backTo pos (starEach es X.env)).any (·.1)=false:=by rfl) :
  PI X (.Tuple elts k tp) (.Call (.Name "zip" p) (a::es) [] pos) (tIt K EX true .U (bI zipR mr)):=q_zip (lp:=true) hg hm ha hK hs hpl
end
end TP
namespace TP
open PySem L2
section
variable {K:Frag} {EX:EXT} {H0 G H G1 H1:Hp} {ρ:Rho} {σ:St} {d:Mode} {D:Ends}
def isOwn:Sl->Bool
 | .own _=>true
 | .dic _=>true
 | .dik _=>true
 | _=>false
def noOwn (ρ:Rho):Bool:=ρ.all fun s=>!isOwn s
def sCU (i:Nat) (f:List W->R W) (ma:Rho->R (List W)):Rho->R Fl:=fun ρ=>if noOwn ρ then (ma ρ>>=fun ws=>f ws>>=fun w=>.ok (.nx (ρ.set i (.par w)))) else .stuck
end
section
variable {X:Cx} {K:Frag} {d:Mode} {e:Expr} {es:List Expr} {pos:Pos} {mr:Rho->R (List W)}
end
end TP
namespace TP
open PySem L2
def ItRv (K:Frag) (a:Addr) (n:Nat):It:=
 ⟨fun i H=>i<n/\∃ xs x,SqL K H a xs/\xs.length=n/\xs[n-1-i]?=some x,fun i H x H'=>H'=H/\∀ xs,SqL K H a xs->xs[n-1-i]?=some x,fun i H=>i=n/\∃ xs,SqL K H a xs/\xs.length=n⟩
theorem turn_rev {P:Program} {w:World} {K:Frag} {tg:Expr} (a it:Addr) (n:Nat):Turn P w K tg (ItRv K a n) [it] it (fun i h=>i<=n/\h.IsRevIter it a ((n:Int)-1-(i:Int))) where
 mem:=by simp
 obj:=fun i h st b hb=>by
  have e:b=it:=by simpa using hb
  subst e
  obtain ⟨_,o,e,c,d⟩:=st
  exact ⟨o,e,fun v z=>by rw [d] at z; cases z⟩
 keep:=fun i h h' st k=>⟨st.1,st.2.at fun o e=>k it (by simp) o e⟩
 item:=by
  intro X hP hw hK hc i pins s σ H E I hf st hg
  subst hP hw hK
  obtain ⟨hi,xs,x,hq,hn,hx⟩:=hg
  obtain ⟨its,rv,p,hz⟩:=I.list hq
  obtain ⟨u,hu,ru⟩:=rv.get hx
  obtain ⟨f0,f1,f2,f3,f4,f5⟩:=hf it (by simp)
  have e1:(n:Int)-1-(i:Int)=((n-1-i:Nat):Int):=by omega
  have st2:=st.2
  rw [e1] at st2
  refine wpAny_pyNext_rev_item st2 p.isList (x:=u) (by simpa using hu) fun h' st' sb=>?_
  have I1:Inv X pins σ H { s with heap:=h' }:=I.turned (t':=s.toks) (fun b o hb e=>(sb.2 b hb).trans e) f0 f1 f3 f4 f5
  have e2:((n-1-i:Nat):Int)-1=(n:Int)-1-((i+1:Nat):Int):=by omega
  rw [e2] at st'
  obtain ⟨o,e,c,d⟩:=id st'
  exact ⟨u,rfl,go_of (s:={ s with heap:=h' }) e c d (by decide) ⟨x,H,I1,ru,⟨rfl,fun ys hy=>by rw [I.list_inj hy hq]; exact hx⟩,⟨hi,st'⟩,fun b hb=>(hf b hb).1⟩⟩
 done:=by
  intro X hP hw hK hc i pins s σ H E I hf st hg
  subst hP hw hK
  obtain ⟨rfl,xs,hq,hn⟩:=hg
  obtain ⟨f0,f1,f2,f3,f4,f5⟩:=hf it (by simp)
  have e1:(i:Int)-1-(i:Int) = -1:=by omega
  have st2:=st.2
  rw [e1] at st2
  exact wpAny_pyNext_rev_end (I.ok.hd hc) st2 fun h' eb=>⟨rfl,I.turned (t':=s.toks) (fun b o hb e=>eb b o hb e) f0 f1 f3 f4 f5⟩
 self:=fun _ _ _ _ _ st h=>wpAny_pyIter_revIter st.2 h
def iRev (K:Frag) (ta:TA):TI:=fun σ H R=>ta σ H fun vs H1=>∃ a,vs = [.ref a]/\∃ xs,SqL K H1 a xs/\R (ItRv K a xs.length) H1
theorem bt_reversed:bootBuiltins "reversed" = some (.type "reversed"):=by decide +kernel
section
variable {X:Cx} {tg:Expr}
theorem pi_rev {a:Expr} {ta:TA} {p pos:Pos} (hg:Gl X "reversed") (hm:X.mg "reversed" = none) (ha:PA X [a] ta) (hs:starEach [a] X.env = [(false,eval a X.env)]:=by rfl):PI X tg (.Call (.Name "reversed" p) [a] [] pos) (iRev X.K ta):=by
 intro pins s σ H R I h
 refine wpAny_Call_Name_kw (ld_blt I hg hm bt_reversed ?_ (by decide) (by decide))
 refine PyProof.Rows.callWith_type1 (thn (ha pos pins s σ H _ I h) fun us s1 zz81=>?_) hs (by rfl)
 obtain ⟨vs,H1,I1,r1,q1⟩:=zz81
 obtain ⟨b,e,xs,hq,q⟩:=q1
 subst e
 obtain ⟨u,rfl,ru⟩:=vals_one r1
 cases ru
 obtain ⟨its,rv,pl,hz⟩:=I1.list hq
 have hl:=rv.length
 refine call_reversed_list pl.isList ?_
 have hit:(s1.heap.push (revObj b ((its.toArray.size:Int)-1))).IsRevIter s1.heap.objs.size b ((xs.length:Int)-1-((0:Nat):Int)):=by
  refine ⟨_,Heap.get?_push_size _ rfl,rfl,?_⟩
  have:((xs.length:Int)-1-((0:Nat):Int))=((its.toArray.size:Int)-1):=by simp; omega
  rw [this]; rfl
 refine wpAny_pyIter_revIter hit ?_
 refine ⟨s1.heap.objs.size,[s1.heap.objs.size],_,ItRv X.K b xs.length,H1,rfl,I1.kept (t':=s1.toks) fun b o e=>Heap.get?_push_of_some _ e,turn_rev b _ _,⟨Nat.zero_le _,hit⟩,fun c hc=>?_,q⟩
 have e:c=s1.heap.objs.size:=by simpa using hc
 subst e
 exact I1.fpOk (Nat.le_refl _) (I1.hok.fresh (Nat.le_refl _))
end
def revW:List W->R (List W)
 | [.lst ws]=>.ok ws.reverse
 | _=>.stuck
section
variable {K:Frag} {EX:EXT} {H0 G H:Hp} {ρ:Rho} {σ:St}
theorem itok_rev {e:Mode} {Z:Hp} {a:Addr} {vs:List V} {ws:List W} (he:e=.V\/e=.U) (s:SqL K Z a vs) (r:Reps K (fz e H0 G) vs ws):ItOk K e H0 Z G (ItRv K a vs.length) ws.reverse:=by
 have hl:=r.length
 have hq:∀ H,Same Z H->SqL K H a vs:=fun H z=>Same.seq z s
 refine ⟨fun i H hi z=>?_,fun H z=>⟨by rw [List.length_reverse,hl],vs,hq H z,rfl⟩,fun i H x H' w hw z ⟨e1,y⟩ G2 ρ σ I sg=>?_⟩
 ·rw [List.length_reverse] at hi
  exact ⟨by omega,vs,vs[vs.length-1-i]'(Nat.lt_of_le_of_lt (Nat.sub_le _ _) (Nat.sub_lt (hl ▸ Nat.lt_of_le_of_lt (Nat.zero_le i) hi) (by decide))),hq H z,rfl,by simp⟩
 ·subst e1
  have hi:i<ws.length:=by have:=(List.getElem?_eq_some_iff.mp hw).1; simpa using this
  have hx:=y vs (hq _ z)
  rw [List.getElem?_reverse hi] at hw
  obtain ⟨v,hv,rv⟩:=Reps.get r hw
  rw [hl,hv] at hx
  cases hx
  exact ⟨G2,Ext.refl I.gh,Md.of_fz he (rv.same (fz_same sg))⟩
theorem Md.srcL {lp:Bool} {Hs:Hp} {x:V} {ws:List W} (I:PIv K H0 G ρ σ H) (m:Md K H0 Hs G H x (.lst ws) (srcM lp .U)):∃ a vs,x=.ref a/\SqL K (if lp then join H0 G else H) a vs/\Reps K (fz .U H0 G) vs ws:=by
 have ez:fz .U H0 G=join H0 G:=by unfold fz; rw [if_neg (show ¬ (Mode.U=Mode.V) by intro z; cases z)]
 rw [ez]
 cases lp with
 | true=>
  rw [if_pos rfl]
  obtain ⟨a,vs,e,s,r⟩:=Rep.inv m
  exact ⟨a,vs,e,SqL.of s,r⟩
 | false=>
  rw [if_neg Bool.false_ne_true]
  rcases m with m | ⟨a,vs,us,rfl,e2,h1,r⟩
  ·obtain ⟨a,vs,e,s,r⟩:=Rep.inv m
   exact ⟨a,vs,e,SqL.of (I.join_H _ _ s),r⟩
  ·rw [W.lst.inj e2]; exact ⟨a,vs,rfl,SqL.of h1,r.same I.G_join⟩
theorem c_rvs {lp:Bool} {ma:Rho->R (List W)} {Rr:It->Hp->Prop} (h:tIt K EX lp .U (fun ρ=>ma ρ>>=revW) σ H Rr):iRev K (tA K EX (srcM lp .U) ma) σ H Rr:=by
 refine tIt_bind h (fun H0 G ρ G1 H1 xs ws us I e1 m1 q o=>?_) (fun ws e z=>?_)
 ·have I1:=I.ext e1
  unfold revW at q
  split at q
  ·rename_i ws'
   cases q
   cases m1 with
   | cons a1 t=>
    cases t
    obtain ⟨p,vs,rfl,hL,r⟩:=Md.srcL I1 a1
    exact ⟨p,rfl,vs,Same.seq (lp_H I1) hL,o _ G1 H1 e1 (itok_rev (.inr rfl) hL r)⟩
  ·cases q
 ·unfold revW at z
  split at z <;> cases z
end
section
variable {X:Cx} {K:Frag} {EX:EXT} {a tg:Expr} {pos:Pos} {mr:Rho->R (List W)}
theorem q_rvU {p:Pos} (hg:Gl X "reversed") (hm:X.mg "reversed" = none) (ha:PA X [a] (tA K EX .U mr)) (hK:X.K=K:=by rfl) (hs:starEach [a] X.env = [(false,eval a X.env)]:=by rfl):PI X tg (.Call (.Name "reversed" p) [a] [] pos) (tIt K EX true .U (bI revW mr)):=by
 subst hK; exact (pi_rev hg hm ha hs).mono fun _ _ _ q=>c_rvs (lp:=true) q
end
end TP
namespace TP
open PySem L2
def maxL (ns:List Int):Int:=ns.getD (argBest (fun i j=>decide (ns.getD j 0<ns.getD i 0)) (ns.length-1)) 0
section
variable {X:Cx} {pins:List (Addr×Obj)} {σ:St} {H:Hp} {s:Shared}
theorem int_at {ns:List Int} {its:List Value} (rv:Vals (ns.map V.int) its) {i:Nat} {v:Value} (h:its.toArray[i]?=some v):∃ t,v=.int (ns.getD i 0) t:=by
 obtain ⟨n,hn,t,e⟩:=val_at (f:=V.int) (g:=fun n u=>∃ t,u=.int n t) (fun b u r=>r) rv h
 exact ⟨t,by rw [e,List.getD_eq_getElem?_getD,hn]; rfl⟩
theorem cmp_gt {A:Around} {ns:List Int} {its:List Value} (rv:Vals (ns.map V.int) its):CmpOf X.prog X.w A .Gt (fun i v=>its.toArray[i]?=some v) (fun i j=>decide (ns.getD j 0<ns.getD i 0)):=fun i j vi vj s' Q' E hi hj hq=>by
 obtain ⟨t,rfl⟩:=int_at rv hi
 obtain ⟨u,rfl⟩:=int_at rv hj
 exact PyProof.Rows.gt_int hq
theorem lt2 {p:Addr} {o:Obj} {u:Obj} (e:s.heap.get? p=some u):∀ b ∈ [s.heap.objs.size,p],b<(s.heap.push o).objs.size:=fun b hb=>by
 have hlt:=Heap.lt_size e
 simp at hb
 rcases hb with rfl | rfl
 ·simp [Heap.push]
 ·exact Nat.lt_of_lt_of_le hlt (by simp [Heap.push])
theorem call_maxQ (hc:X.calm=true):CallR X (.builtin "max") (fun xs H Q=>∃ (p:Addr) (ns:List Int),xs = [.ref p]/\(H p=some (.lst (ns.map V.int))\/H p=some (.tup (ns.map V.int)))/\0<ns.length/\Q (.int (maxL ns)) H):=by
 intro pins s σ H xs us Q I r h
 obtain ⟨p,ns,rfl,hp,hn,q⟩:=h
 obtain ⟨u,rfl,rx⟩:=vals_one r
 cases rx
 have hd:X.A.in1.handled=none:=I.ok.hd hc
 rcases hp with hp | hp
 ·obtain ⟨its,rv,hl,hlen,hne,Wk⟩:=walk_list I hc hp
  rw [List.length_map] at hlen
  obtain ⟨o,e,_⟩:=id hl
  refine call_max_walk (wpAny_pyIter_list hl ⟨_,_,_,_,_,_,_,rfl,Wk,⟨⟨_,Heap.get?_push_size _ rfl,rfl,rfl⟩,hl.push _⟩,lt2 e,by omega,cmp_gt rv,fun v h' tk hv hk=>?_⟩)
  obtain ⟨t,rfl⟩:=int_at rv hv
  rw [<- hlen]
  exact ⟨.int (maxL ns),H,I.kept (t':=tk) (keep_push hk),⟨t,rfl⟩,q⟩
 ·obtain ⟨its,rv,pl,hz⟩:=I.tuple (SqT.of hp)
  have hlen:ns.length=its.toArray.size:=by rw [List.size_toArray,<- rv.length,List.length_map]
  have ht:s.heap.IsTuple p its.toArray:=pl
  obtain ⟨o,e,_⟩:=id ht
  have hne:p≠s.heap.objs.size:=Nat.ne_of_lt (Heap.lt_size e)
  refine call_max_walk (wpAny_pyIter_tuple ht ⟨_,_,_,_,_,_,_,rfl,Walks.tuple hd _ p hne its.toArray,⟨⟨_,Heap.get?_push_size _ rfl,rfl,rfl⟩,ht.push _⟩,lt2 e,by omega,cmp_gt rv,fun v h' tk hv hk=>?_⟩)
  obtain ⟨t,rfl⟩:=int_at rv hv
  rw [<- hlen]
  exact ⟨.int (maxL ns),H,I.kept (t':=tk) (keep_push hk),⟨t,rfl⟩,q⟩
end
def seqI:W->Option (List Int)
 | .lst ws=>intsW ws
 | .tup ws=>intsW ws
 | _=>none
def fBest (g:List Int->Int):List W->R W
 | [w]=>toR (seqI w)>>=fun ns=>if 0<ns.length then .ok (.int (g ns)) else .stuck
 | _=>.stuck
theorem b_best {K:Frag} {d:Mode} {g:List Int->Int}:Cal K .B d (fun xs H Q=>∃ (p:Addr) (ns:List Int),xs = [.ref p]/\(H p=some (.lst (ns.map V.int))\/H p=some (.tup (ns.map V.int)))/\0<ns.length/\Q (.int (g ns)) H) (fBest g):=by
 intro EX H0 Hs G H ρ σ Ha vs ws Q I s m o
 unfold fBest at o
 split at o
 ·rename_i w
  cases m with
  | cons a t=>
   cases t
   cases q:seqI w with
   | none=>rw [q] at o; exact o.elim
   | some ns=>
    rw [q] at o
    replace o:Out EX G H (mdW K d H0 Hs) (if 0<ns.length then R.ok (W.int (g ns)) else .stuck) Q:=o
    by_cases hn:0<ns.length
    ·rw [if_pos hn] at o
     cases w <;> first | cases q | skip
     ·obtain ⟨p,ys,rfl,hs,r⟩:=a.tupB I
      rw [Reps.ints r q] at hs
      exact ⟨p,ns,rfl,.inr hs,hn,o _ G H (Ext.refl I.gh) (Md.sca rfl (fun _=>.int) d)⟩
     ·obtain ⟨p,ys,rfl,hs,r⟩:=a.lstB I
      rw [Reps.ints r q] at hs
      exact ⟨p,ns,rfl,.inl hs,hn,o _ G H (Ext.refl I.gh) (Md.sca rfl (fun _=>.int) d)⟩
    ·rw [if_neg hn] at o; exact o.elim
 ·exact o.elim
end TP
namespace HT
open PySem PySem.Spec PyProof.Rows
theorem look_tuple_rmul:typeLookup (.type "tuple") (dunderR "mul")=pure (some (.builtin "tuple.__rmul__")):=by rw [typeLookup_type,builtinLookup_eq_fast]; kernel_rfl
theorem noFill_tuple_mul:fillsNumberSlot (.type "tuple") "mul" = pure false:=
 PySem.fillsNumberSlot_seq (id := "tuple.__mul__") (r:=some (.builtin "tuple.__rmul__")) F.slot_tuple_mul.lookup (by decide +kernel) look_tuple_rmul (by decide +kernel)
theorem repeat_tuple:seqRepeat? (.type "tuple")=pure (some (.builtin "tuple.__mul__")):=by
 unfold seqRepeat?
 rw [PySem.seqSlot_of (T := "tuple") (name := "__mul__") (id := "tuple.__mul__") F.slot_tuple_mul.lookup (by decide +kernel),PySem.seqSlot_of (T := "tuple") (name := "__rmul__") (id := "tuple.__rmul__") look_tuple_rmul (by decide +kernel)]
 rfl
theorem rmul_declines (a:Int) (t:Tok) (l:Addr) (items:Array Value) (n:Nat) (dd:Option Addr) (sl:Array (Option Value)) :
  Meets (Builtin.«int.__rmul__» ⟨[.int a t,.ref l],[]⟩) (fun _ R s=>s.heap.get? l=some { cls:=.type "tuple",dict:=dd,data:=.seq items n,slots:=sl }/\R (.ok (.ret Value.notImplemented)) s):=
 .of_wp fun prog w A R s h=>by obtain ⟨hp,g,d,tk,os⟩:=s; obtain ⟨hl,h⟩:=h; wp_walk; exact ⟨_,rfl,h⟩
theorem tuple_mul1 (l:Addr) (items:Array Value) (n:Nat) (dd:Option Addr) (sl:Array (Option Value)) (u:Tok) :
  Meets (Builtin.«tuple.__mul__» ⟨[.ref l,.int 1 u],[]⟩) (fun _ R s=>s.heap.get? l=some { cls:=.type "tuple",dict:=dd,data:=.seq items n,slots:=sl }/\R (.ok (.ret (.ref l))) s):=
 .of_wp fun prog w A R s h=>by
  obtain ⟨hp,g,d,tk,os⟩:=s; obtain ⟨hl,h⟩:=h
  have f1:=AutoSeq1.idx_int
  wp_walk using wpAny_loadPart' hl; exact ⟨_,rfl,h⟩
theorem tuple_mul2 (l:Addr) (items:Array Value) (n:Nat) (dd:Option Addr) (sl:Array (Option Value)) (k:Int) (u:Tok) (hc:¬ (decide (k < -(2^63))||decide (k≥2^63))=true)
  (hi:¬ (items.isEmpty||k == 1)=true) (h0:¬ (decide (k<=0)||items.isEmpty)=true) (hm:¬ (items.size*k>(2^63-1)/8)) (hz:¬ Builtin.Tuple.tupleTooMany (items.size*k)=true) (hs0:((List.replicate k.toNat items).foldl (·++·) #[]).size<=sizeLine) :
  Meets (Builtin.«tuple.__mul__» ⟨[.ref l,.int k u],[]⟩) (fun _ R s=>s.heap.get? l=some { cls:=.type "tuple",dict:=dd,data:=.seq items n,slots:=sl }/\R (.ok (.ret (.ref s.heap.objs.size))) { s with heap:=s.heap.push { cls:=.type "tuple",data:=.seq ((List.replicate k.toNat items).foldl (·++·) #[]) } }):=
 .of_wp fun prog w A R s h=>by
  obtain ⟨hp,g,d,tk,os⟩:=s; obtain ⟨hl,h⟩:=h
  have f1:=AutoSeq1.idx_int
  wp_walk using wpAny_loadPart' hl
  rw [if_neg hc]
  wp_walk using wpAny_loadPart' hl
  rw [if_neg hm]
  wp_walk using wpAny_loadPart' hl
  exact ⟨_,rfl,h⟩
end HT
namespace TP
open PySem L2 PySem.Spec PyProof.Rows
theorem len_reps {α:Type} (xs:List α):∀ k:Nat,(List.replicate k xs).flatten.length=k*xs.length
 | 0=>by simp
 | k+1=>by rw [List.replicate_succ,List.flatten_cons,List.length_append,len_reps xs k,Nat.succ_mul,Nat.add_comm]
theorem foldl_reps (its:List Value):∀ (m:Nat) (acc:List Value),List.foldl (fun x1 x2=>x1++x2) acc.toArray (List.replicate m its.toArray)=(acc++(List.replicate m its).flatten).toArray
 | 0,acc=>by simp
 | m+1,acc=>by rw [List.replicate_succ,List.foldl_cons,List.append_toArray,foldl_reps its m (acc++its),List.replicate_succ,List.flatten_cons,List.append_assoc]
def rRepT (K:Frag):R2:=fun x y H Q=>∃ a k xs,x=.ref a/\y=.int k/\SqT K H a xs/\xs ≠ []/\1<=k/\k<2^63/\xs.length*k.toNat<=sizeLine /\
 (k=1->Q (.ref a) H)/\(k≠1->∀ l,H l=none->Q (.ref l) (upd H l (.tup (List.replicate k.toNat xs).flatten)))
variable {X:Cx} {K:Frag}
theorem op_repT (hK:X.K=K:=by rfl):OpR X (binaryOp .Mult) (rRepT K):=by
 subst hK
 intro pins s σ H x y v u Q I rx ry h
 obtain ⟨l,k,xs,rfl,rfl,hH,hne,h1,h2,hz,q1,q2⟩:=h
 cases rx
 obtain ⟨t,rfl⟩:=ry
 obtain ⟨its,r,p,_⟩:=I.tuple hH
 obtain ⟨⟨cls,dd,data,sl⟩,ho,hc,n,hd⟩:=id p
 simp only at hc hd
 subst hc hd
 have hin:its ≠ []:=fun z=>hne (r.nil_iff.mp z)
 refine wpAny_binaryOp_repeat_ref (T := "tuple") (U := "int") (by decide) ⟨_,ho,rfl⟩ (fun s'=>typeIs_int s' k t) HT.noFill_tuple_mul F.fills_int_mul F.slot_int_rmul HT.repeat_tuple F.slot_int_index.lookup
  (call_meets F.slot_int_rmul (typeIs_int s k t) F.entry_int_rmul (F.args_int_rmul_2 _ _) (HT.rmul_declines k t l its.toArray n dd sl)
   ⟨ho,rfl,⟨_,ho,rfl⟩,?_⟩)
 by_cases e:k=1
 ·subst e
  exact call_meets F.slot_tuple_mul ⟨_,ho,rfl⟩ F.entry_tuple_mul (F.args_tuple_mul_2 _ _) (HT.tuple_mul1 l its.toArray n dd sl t) ⟨ho,.ref l,H,I,rfl,q1 rfl⟩
 ·have hnew:List.foldl (fun x1 x2=>x1++x2) #[] (List.replicate k.toNat its.toArray)=(List.replicate k.toNat its).flatten.toArray:=by
   have:=foldl_reps its k.toNat []
   rw [List.nil_append] at this
   exact this
  have hlen:its.length*k.toNat<=sizeLine:=by rw [<- r.length]; exact hz
  have hsz:(its.toArray.size:Int)*k<=(sizeLine:Nat):=by
   have e2:((its.length*k.toNat:Nat):Int)=(its.toArray.size:Int)*k:=by
    rw [Int.natCast_mul,Int.toNat_of_nonneg (by omega),List.size_toArray]
   rw [<- e2]; exact_mod_cast hlen
  have hcap:((sizeLine:Nat):Int)<=(2^63-1)/8:=by decide
  refine call_meets F.slot_tuple_mul ⟨_,ho,rfl⟩ F.entry_tuple_mul (F.args_tuple_mul_2 _ _) (HT.tuple_mul2 l its.toArray n dd sl k t ?_ ?_ ?_ ?_ ?_ ?_) ⟨ho,?_⟩
  ·simp only [Bool.or_eq_true,decide_eq_true_eq]; omega
  ·simp [hin,e]
  ·simp only [Bool.or_eq_true,decide_eq_true_eq]
   rintro (z | z)
   ·omega
   ·simp [hin] at z
  ·omega
  ·simp only [Builtin.Tuple.tupleTooMany,decide_eq_true_eq]; omega
  ·rw [hnew,List.size_toArray,len_reps,Nat.mul_comm]; exact hlen
  ·rw [hnew]
   refine ⟨.ref s.heap.objs.size,_,I.laid (t':=s.toks) (o:=.tup (List.replicate k.toNat xs).flatten) (fun b ob q=>Heap.get?_push_of_some _ q) (Nat.le_refl _) ?_,rfl,q2 e _ (I.hok.fresh (Nat.le_refl _))⟩
   exact ⟨by rw [len_reps,Nat.mul_comm]; exact hz,_,r.rep k.toNat,IsTup.new _ _⟩
def fRepT:W->W->R W
 | .tup us,.int k=>if us ≠ []/\us.length*k.toNat<=1000/\1<=k/\k<=1000 then .ok (.tup (List.replicate k.toNat us).flatten) else .stuck
 | _,_=>.stuck
theorem o2_repT:Op2 K .C .F (rRepT K) fRepT:=by
 intro EX H0 Hs G H ρ σ Ha Hb x y u v Q I s mx my o
 cases u <;> first | exact o.elim | skip
 all_goals (cases v <;> first | exact o.elim | skip)
 rename_i us k
 replace o:Out EX G H (mdW K .F H0 Hs) (if us ≠ []/\us.length*k.toNat<=1000/\1<=k/\k<=1000 then .ok (.tup (List.replicate k.toNat us).flatten) else .stuck) Q:=o
 by_cases hn:us ≠ []/\us.length*k.toNat<=1000/\1<=k/\k<=1000
 ·rw [if_pos hn] at o
  obtain ⟨hne,hz,h1,h2⟩:=hn
  have hy:y=.int k:=Md.intB (Md.CB (H:=Hb) I my)
  subst hy
  obtain ⟨a,vs,rfl,h,r⟩:=(Md.repC mx fun _=>W.noConfusion).inv
  refine ⟨_,k,_,rfl,rfl,SqT.of (I.gh _ _ h),?_,h1,by omega,by rw [r.length]; exact le_line hz,?_,?_⟩
  ·intro z
   have:=r.length
   rw [z] at this
   exact hne (List.eq_nil_of_length_eq_zero this.symm)
  ·intro e
   subst e
   refine o _ G H (Ext.refl I.gh) (.tup h ?_)
   simpa using r
  ·intro _ l hl
   exact Out.newTF I (r.rep _) hl o
 ·rw [if_neg hn] at o; exact o.elim
end TP
namespace TP
open PySem PySem.W PyProof.Rows
section
variable (r:Nat->Int)
def ky (p:Array Nat) (k:Nat):Int:=r (p.getD k 0)
def up (p:Array Nat) (n:Nat):Prop:=∀ k,k+1<n->ky r p k<=ky r p (k+1)
end
end TP
namespace TP
open PySem L2
section
variable {prog:Program} {w:World} {A:Around} {E:Value->Shared->Prop} {s:Shared}
theorem sub_draws (hh:A.handled=none) (u:Sub) (hne:u.l≠u.i) (its:Array Value) :
  Draws prog w A u.i [u.i,u.l] its.size (fun i v=>its[i]?=some v) (fun i h=>u.At h i/\u.Src h its) where
 live:=fun _ _ st=>by obtain ⟨o,e,_⟩:=st.1.obj; exact ⟨o,e⟩
 frame:=fun _ _ _ st hk=>⟨st.1.keep fun o e=>hk u.i (by simp) o e,st.2.keep fun o e=>hk u.l (by simp) o e⟩
 item:=fun i s Q E hi st hQ=>Sub.item st.1 st.2 (x:=its[i]) (by simp [hi]) fun h' a sb=>hQ _ h' s.toks (by simp [hi]) ⟨a,st.2.keep fun o e=>sb.extBut _ _ hne e⟩ sb
 done:=fun s Q E st hE=>Sub.ends hh st.1 st.2 (by simp) hE
theorem meets_enumT (l:Addr) (its:Array Value) (m:Nat) (dct:Option Addr) (sl:Array (Option Value)) :
  Meets (Builtin.«enumerate.__new__» ⟨[.type "enumerate",.ref l],[]⟩) (fun _ R s=>s.heap.get? l=some { cls:=.type "tuple",dict:=dct,data:=.seq its m,slots:=sl } /\
   R (.ok (.ret (.ref (s.heap.push { cls:=.type "tuple_iterator",data:=.fields #[.ref l,.int 0 0] }).objs.size)))
    { s with heap:=(s.heap.push { cls:=.type "tuple_iterator",data:=.fields #[.ref l,.int 0 0] }).push { cls:=.type "enumerate",data:=.fields #[.none,.bool false,.ref s.heap.objs.size,rawInt 0,.none,.none] } }):=
 .of_wp fun prog w A R s hyp=>by
  obtain ⟨hp,g,d,tk,os⟩:=s; obtain ⟨hl,hyp⟩:=hyp
  have hsb:=sub_enumerate
  have hT:Heap.IsTuple (Shared.heap ⟨hp,g,d,tk,os⟩) l its:=⟨_,hl,rfl,m,rfl⟩
  wp_walk using AutoSeq1.wpAny_loadPart' hl
  refine wpAny_stack_any fun stk=>wpAny_pure ?_
  split
  ·rename_i cc _ _ _ _ _
   cases (cc == Value.type "enumerate") <;>
   ·wp_walk using AutoSeq1.wpAny_loadPart' hl,wpAny_pyIter_tuple hT
    exact ⟨_,rfl,hyp⟩
  ·wp_walk using AutoSeq1.wpAny_loadPart' hl,wpAny_pyIter_tuple hT
   exact ⟨_,rfl,hyp⟩
theorem call_enumT {l:Addr} {its:Array Value} {Q:Value->Shared->Prop} (hL:s.heap.IsTuple l its)
  (hyp:∀ h',IsEnum h' (s.heap.objs.size+1) s.heap.objs.size 0 .none->h'.IsTupleIter s.heap.objs.size l 0->(∀ b o,s.heap.get? b=some o->h'.get? b=some o)->Q (.ref (s.heap.objs.size+1)) { s with heap:=h' }) :
  wpAny (model prog w) A (call (.type "enumerate") [.ref l]) Q E s:=by
 obtain ⟨⟨c,dct,dt,sl⟩,hl,hc,m,hd⟩:=hL
 have hc':c=.type "tuple" := hc; have hd':dt=.seq its m:=hd; subst hc' hd'
 refine callType_new F.called_enumerate (by decide) (F.typeCall_enumerate_1 _) (F.newCall_enumerate_1 _) (fun obj=>F.args_object_init_2 obj _) F.entry_enumerate_new (meets_enumT l its m dct sl) ⟨hl,?_⟩
 generalize hP:s.heap.push { cls:=.type "tuple_iterator",data:=.fields #[.ref l,.int 0 0] }=P
 have hz:P.objs.size=s.heap.objs.size+1:=by rw [<- hP]; exact Heap.size_push ..
 have hi:P.get? s.heap.objs.size=some { cls:=.type "tuple_iterator",data:=.fields #[.ref l,.int 0 0] }:=by rw [<- hP]; exact Heap.get?_push_size _ rfl
 have hk:∀ b o,s.heap.get? b=some o->P.get? b=some o:=fun b o e=>by rw [<- hP]; exact Heap.get?_push_of_some _ e
 show _/\_
 have en:IsEnum (P.push { cls:=.type "enumerate",data:=.fields #[.none,.bool false,.ref s.heap.objs.size,rawInt 0,.none,.none] }) (s.heap.objs.size+1) s.heap.objs.size 0 .none:=by rw [<- hz]; exact Heap.get?_push_size _ rfl
 rw [hz]
 exact ⟨⟨_,en,rfl⟩,hyp _ en ⟨_,Heap.get?_push_of_some _ hi,rfl,rfl⟩ fun b o e=>Heap.get?_push_of_some _ (hk b o e)⟩
theorem call_enum {t:Bool} {l:Addr} {its:Array Value} {Q:Value->Shared->Prop} (hL:SrcAt s.heap (t,l,its))
  (hyp:∀ h',IsEnum h' (s.heap.objs.size+1) s.heap.objs.size 0 .none->(L2.Sub.mk t s.heap.objs.size l).At h' 0->(∀ b o,s.heap.get? b=some o->h'.get? b=some o)->Q (.ref (s.heap.objs.size+1)) { s with heap:=h' }) :
  wpAny (model prog w) A (call (.type "enumerate") [.ref l]) Q E s:=by
 unfold SrcAt at hL
 cases t with
 | true=>exact call_enumT hL fun h' a b c=>hyp h' a (by unfold Sub.At; exact b) c
 | false=>exact call_enumerate_list hL fun h' a b _ c=>hyp h' a (by unfold Sub.At; exact b) c
end
def ItE (K:Frag) (t:Bool) (a:Addr):It:=
  ⟨fun i H=>∃ xs x,Sq K H t a xs/\xs[i]?=some x,
   fun i H x H'=>∃ p y,x=.ref p/\H p=none/\H'=upd H p (.tup [.int (i:Int),y])/\∀ xs,Sq K H t a xs->xs[i]?=some y,
   fun i H=>∃ xs,Sq K H t a xs/\xs.length=i⟩
abbrev eTn (e:Addr) (u:Sub) (i:Nat) (h:Heap):Prop:=(∃ old,IsEnum h e u.i (i:Int) old)/\u.At h i
theorem turn_enum {P:Program} {w:World} {K:Frag} {elts:List Expr} {k:Nat} {tp:Pos} {e:Addr} {u:Sub} (hne:e≠u.i) :
  Turn P w K (.Tuple elts k tp) (ItE K u.t u.l) [e,u.i] e (eTn e u) where
 mem:=by simp
 obj:=fun i h st b hb=>by
  obtain ⟨⟨old,he⟩,ha⟩:=st
  simp only [List.mem_cons,List.not_mem_nil,or_false] at hb
  rcases hb with rfl | rfl
  ·exact ⟨_,he,fun v q=>by cases q⟩
  ·obtain ⟨o,q,d⟩:=ha.obj
   exact ⟨o,q,fun v z=>by rw [d] at z; cases z⟩
 keep:=fun i h h' st kp=>⟨st.1.imp fun old he=>kp e (by simp) _ he,st.2.keep fun o q=>kp u.i (by simp) o q⟩
 item:=by
  intro X hP hw hK hc i pins s σ H E I hf st hg
  subst hP hw hK
  obtain ⟨⟨old,he⟩,ha⟩:=st
  obtain ⟨xs,x,hq,hx⟩:=hg
  obtain ⟨its,rv,hsrc⟩:=Sq.src I hq
  obtain ⟨v,hv,rx⟩:=rv.get hx
  have fe:=hf e (by simp)
  have fi:=hf u.i (by simp)
  have hli:u.l≠u.i:=Sq.ne I hq fi
  have hle:u.l≠e:=Sq.ne I hq fe
  have hi:i<its.toArray.size:=by have:=(List.getElem?_eq_some_iff.mp hv).1; simpa using this
  refine wpAny_pyNext_enum_itemD (sub_draws (prog:=X.prog) (w:=X.w) (show X.A.in1.handled=none from I.ok.hd hc) u hli its.toArray) he ⟨ha,hsrc⟩ hi hne (by simp only [List.mem_cons,List.not_mem_nil,or_false,not_or]; exact ⟨hne,Ne.symm hle⟩) fun y h1 tk hy z1 s1 p1 z2 k1=>?_
  have ey:y=v:=by
   have e1:its[i]?=some y:=by simpa using hy
   rw [hv] at e1; cases e1; rfl
  subst ey
  refine ⟨_,rfl,wpAny_letOwnedTupleGo_enum z1 fun h2 e2 sb2=>?_⟩
  have hzl:e<s.heap.objs.size:=Heap.lt_size he
  have hil:u.i<s.heap.objs.size:=by obtain ⟨o,q,_⟩:=ha.obj; exact Heap.lt_size q
  have kp:∀ b o,b≠e->b≠u.i->s.heap.get? b=some o->h2.get? b=some o:=fun b o b1 b2 q=>sb2.extBut _ _ b1 (k1 b o b1 b2 q)
  have hfr:H s.heap.objs.size=none:=I.hok.fresh (Nat.le_refl _)
  have trk:∀ b c,H b=some c->b≠e/\b≠u.i:=fun b c q=>⟨fun z=>(by subst z; rw [fe.1] at q; cases q),fun z=>(by subst z; rw [fi.1] at q; cases q)⟩
  have hP2:h2.get? s.heap.objs.size=some { cls:=.type "tuple",data:=.seq #[.int i tk,y] }:=sb2.extBut _ _ (Nat.ne_of_gt hzl) p1
  have rel:Vals [.int (i:Int),x] [.int i tk,y]:=.cons ⟨tk,rfl⟩ (.cons rx .nil)
  refine ⟨.ref s.heap.objs.size,upd H s.heap.objs.size (.tup [.int (i:Int),x]),?_,rfl,⟨_,_,rfl,hfr,rfl,?_⟩,⟨⟨y,?_⟩,?_⟩,fun b hb=>?_⟩
  ·show Inv X pins σ _ { s with heap:=h2,toks:=tk+1 }
   refine I.step (g':=s.gens) (t':=tk+1) (d':=s.drawn) (ch:=[e,u.i]) (fun b hb=>?_) (fun b o _ _ hc q _=>kp b o ?_ ?_ q) (fun b o _ _ hc q _=>⟨o.slots,kp b o ?_ ?_ q⟩) (fun b o hc q n=>?_) (fun b o hc q=>⟨o,kp b o ?_ ?_ q⟩) (fun b ys q=>?_) (fun b o c q=>?_) (fun b ps q=>?_) (fun m hm=>?_) ?_ I.bare
   ·simp only [List.mem_cons,List.not_mem_nil,or_false] at hb
    rcases hb with rfl | rfl
    ·exact ⟨fe.2.2.2.1,fe.2.1,fe.2.2.2.2.1,fe.2.2.2.2.2⟩
    ·exact ⟨fi.2.2.2.1,fi.2.1,fi.2.2.2.2.1,fi.2.2.2.2.2⟩
   all_goals first
    | (intro z; exact hc (by simp [z]; done))
    | skip
   ·rw [upd_ne (Nat.ne_of_lt (Heap.lt_size q))]; exact n
   ·rw [upd_ne (ne_of_none q hfr)]; exact q
   ·rw [upd_ne (ne_of_none q hfr)]; exact q
   ·rw [upd_ne (ne_of_none q hfr)]; exact q
   ·obtain ⟨o,es,ep,ho,r⟩:=hm
    exact ⟨o,es,ep,kp _ o (Ne.symm fe.2.1) (Ne.symm fi.2.1) ho,r⟩
   ·intro b c q
    by_cases hb:b=s.heap.objs.size
    ·subst hb
     rw [upd_same] at q; cases q
     exact ⟨(show 2<=sizeLine by decide),_,rel,⟨_,hP2,rfl,_,rfl⟩⟩
    ·rw [upd_ne hb] at q
     refine (I.hok b c q).stay (fun d v hcc z=>?_) (fun d z=>by rw [upd_ne (ne_of_none z hfr)]; exact z) fun d ys z=>by rw [upd_ne (ne_of_none z hfr)]; exact z
     rcases hcc with rfl | hcc
     ·exact kp _ v (trk _ _ q).1 (trk _ _ q).2 z
     ·exact kp _ v (trk _ _ hcc).1 (trk _ _ hcc).2 z
  ·intro ys hy2
   rw [Sq.inj I hy2 hq]; exact hx
  ·have:((i+1:Nat):Int)=(i:Int)+1:=by omega
   rw [this]; exact e2
  ·exact s1.1.keep fun o q=>sb2.extBut _ _ (Ne.symm hne) q
  ·have:b≠s.heap.objs.size:=by
    simp only [List.mem_cons,List.not_mem_nil,or_false] at hb
    rcases hb with rfl | rfl
    ·exact Nat.ne_of_lt hzl
    ·exact Nat.ne_of_lt hil
   rw [upd_ne this]
   exact (hf b hb).1
 done:=by
  intro X hP hw hK hc i pins s σ H E I hf st hg
  subst hP hw hK
  obtain ⟨⟨old,he⟩,ha⟩:=st
  obtain ⟨xs,hq,hn⟩:=hg
  obtain ⟨its,rv,hsrc⟩:=Sq.src I hq
  have fe:=hf e (by simp)
  have fi:=hf u.i (by simp)
  have hli:u.l≠u.i:=Sq.ne I hq fi
  have hsz:its.toArray.size=i:=by have:=rv.length; simp; omega
  subst hsz
  refine wpAny_pyNext_enum_endD (sub_draws (prog:=X.prog) (w:=X.w) (show X.A.in1.handled=none from I.ok.hd hc) u hli its.toArray) he ⟨ha,hsrc⟩ fun h' eb=>⟨rfl,?_⟩
  obtain ⟨f0,f1,f2,f3,f4,f5⟩:=fi
  exact I.turned (t':=s.toks) (fun b o hb q=>eb b o hb q) f0 f1 f3 f4 f5
 self:=fun A i s Q E st h=>by
  obtain ⟨⟨old,he⟩,_⟩:=st
  exact wpAny_pyIter_enum he h
def iEnum (K:Frag) (ta:TA):TI:=fun σ H R=>ta σ H fun vs H1=>∃ t a xs,vs = [.ref a]/\Sq K H1 t a xs/\R (ItE K t a) H1
theorem bt_enumerate:bootBuiltins "enumerate" = some (.type "enumerate"):=by decide +kernel
section
variable {X:Cx}
theorem pi_enum {a:Expr} {elts:List Expr} {ta:TA} {p pos tp:Pos} {k:Nat} (hg:Gl X "enumerate") (hm:X.mg "enumerate" = none) (ha:PA X [a] ta) (hs:starEach [a] X.env = [(false,eval a X.env)]:=by rfl):PI X (.Tuple elts k tp) (.Call (.Name "enumerate" p) [a] [] pos) (iEnum X.K ta):=by
 intro pins s σ H R I h
 refine wpAny_Call_Name_kw (ld_blt I hg hm bt_enumerate ?_ (by decide) (by decide))
 refine PyProof.Rows.callWith_type1 (thn (ha pos pins s σ H _ I h) fun us s1 zz83=>?_) hs (by rfl)
 obtain ⟨vs,H1,I1,r1,t,b,xs,e1,hq,q⟩:=zz83
 subst e1
 obtain ⟨u,rfl,ru⟩:=vals_one r1
 cases ru
 obtain ⟨its,rv,hsrc⟩:=Sq.src I1 hq
 refine call_enum (t:=t) (its:=its.toArray) (by unfold SrcAt; unfold Sub.Src at hsrc; exact hsrc) fun h' he hA hk=>wpAny_pyIter_enum he ?_
 have I2:Inv X pins σ H1 { s1 with heap:=h' }:=I1.kept (t':=s1.toks) hk
 have TE:=turn_enum (P:=X.prog) (w:=X.w) (K:=X.K) (elts:=elts) (k:=k) (tp:=tp) (e:=s1.heap.objs.size+1) (u:=⟨t,s1.heap.objs.size,b⟩) (neN (by show s1.heap.objs.size+1≠s1.heap.objs.size; omega))
 refine ⟨_,_,_,_,H1,rfl,I2,TE,⟨⟨_,he⟩,hA⟩,fun c hc=>?_,q⟩
 have hb':s1.heap.objs.size<=c:=by
  simp only [List.mem_cons,List.not_mem_nil,or_false] at hc
  rcases hc with rfl | rfl
  ·omega
  ·exact Nat.le_refl _
 exact I1.fpOk (H':=H1) hb' (I1.hok.fresh hb')
end
def enuW:List W->R (List W)
 | [w]=>match seqW w with
  | .ok xs=>.ok (xs.mapIdx fun i x=>W.tup [.int (i:Int),x])
  | _=>.stuck
 | _=>.stuck
section
variable {K:Frag} {EX:EXT} {H0 G H:Hp} {ρ:Rho} {σ:St}
theorem itok_enum {e:Mode} {Z:Hp} {t:Bool} {a:Addr} {xs:List V} {us:List W} (he:e=.V\/e=.U) (s1:Sq K Z t a xs) (r1:Reps K (fz e H0 G) xs us):ItOk K e H0 Z G (ItE K t a) (us.mapIdx fun i x=>W.tup [.int (i:Int),x]):=by
 have l1:=r1.length
 have hq:∀ H,Same Z H->Sq K H t a xs:=fun H z=>Sq.same z s1
 refine ⟨fun i H hi z=>?_,fun H z=>⟨xs,hq H z,by rw [List.length_mapIdx,l1]⟩,fun i H x H' w hw z y G2 ρ σ I sg=>?_⟩
 ·rw [List.length_mapIdx] at hi
  exact ⟨xs,xs[i]'(by omega),hq H z,by simp⟩
 ·obtain ⟨p,y1,rfl,hp,rfl,hy⟩:=y
  obtain ⟨w1,e1,q1⟩:=Reps.get' r1 (hy xs (hq H z))
  have hw':w=.tup [.int (i:Int),w1]:=by
   rw [List.getElem?_mapIdx,e1] at hw
   cases hw; rfl
  subst hw'
  obtain ⟨x1,x2⟩:=rep_new (Hs:=H) he I hp (.cons .int (.cons (q1.same (fz_same sg)) .nil))
  exact ⟨_,x1,x2⟩
theorem c_enum {lp:Bool} {e:Mode} {ma:Rho->R (List W)} {Rr:It->Hp->Prop} (he:e=.V\/e=.U) (h:tIt K EX lp e (fun ρ=>ma ρ>>=enuW) σ H Rr):iEnum K (tA K EX (srcM lp e) ma) σ H Rr:=by
 refine tIt_bind h (fun H0 G ρ G1 H1 xs ws us I e1 m1 q o=>?_) (fun ws e z=>?_)
 ·have I1:=I.ext e1
  unfold enuW at q
  split at q
  ·rename_i w
   cases hw:seqW w with
   | stuck=>rw [hw] at q; cases q
   | ex _=>rw [hw] at q; cases q
   | ok ls=>
    rw [hw] at q
    cases q
    cases m1 with
    | cons a1 m1=>
     cases m1
     obtain ⟨t1,p1,v1,rfl,q1,r1⟩:=Md.src he I1 a1 hw
     exact ⟨t1,p1,v1,rfl,sq_same (lp_H I1) q1,o _ G1 H1 e1 (itok_enum he q1 r1)⟩
  ·cases q
 ·unfold enuW at z
  split at z
  ·split at z <;> cases z
  ·cases z
end
section
variable {X:Cx} {K:Frag} {EX:EXT} {a:Expr} {pos:Pos} {mr:Rho->R (List W)}
theorem q_enuB {elts:List Expr} {p tp:Pos} {k:Nat} (hg:Gl X "enumerate") (hm:X.mg "enumerate" = none) (ha:PA X [a] (tA K EX .B mr)) (hK:X.K=K:=by rfl) (hs:starEach [a] X.env = [(false,eval a X.env)]:=by rfl):PI X (.Tuple elts k tp) (.Call (.Name "enumerate" p) [a] [] pos) (tIt K EX false .U (bI enuW mr)):=by
 subst hK; exact (pi_enum hg hm ha hs).mono fun _ _ _ q=>c_enum (lp:=false) (.inr rfl) q
theorem q_enuU {elts:List Expr} {p tp:Pos} {k:Nat} (hg:Gl X "enumerate") (hm:X.mg "enumerate" = none) (ha:PA X [a] (tA K EX .U mr)) (hK:X.K=K:=by rfl) (hs:starEach [a] X.env = [(false,eval a X.env)]:=by rfl):PI X (.Tuple elts k tp) (.Call (.Name "enumerate" p) [a] [] pos) (tIt K EX true .U (bI enuW mr)):=by
 subst hK; exact (pi_enum hg hm ha hs).mono fun _ _ _ q=>c_enum (lp:=true) (.inr rfl) q
end
section
variable {X:Cx}
end
end TP
namespace TP
open PySem L2
def lexLt:List Int->List Int->Bool
 | [],[]=>false
 | [],_::_=>true
 | _::_,[]=>false
 | a::as,b::bs=>if a=b then lexLt as bs else decide (a<b)
def rankL (ss:List (List Int)) (i:Nat):Int:=((ss.countP fun x=>lexLt x (ss.getD i [])):Nat)
def allLt (n:Nat) (p:Array Nat):Prop:=∀ x∈p,x<n
section
open PySem.W PyProof.Rows
variable {n:Nat} (h0:0<n)
include h0
end
section
open PySem.W PyProof.Rows
variable {prog:Program} {w:World} {A:Around} {E:Value->Shared->Prop} {s:Shared}
end
section
open PySem.W PyProof.Rows
variable {prog:Program} {w:World} {A:Around} {E:Value->Shared->Prop} {s:Shared}
end
section
variable {X:Cx} {K:Frag}
end
section
variable {K:Frag}
end
end TP
namespace TP
open PySem L2
set_option maxHeartbeats 2000000
theorem tup_add0 (l b:Addr) (its2:Array Value) (m m2:Nat) (dd dd2:Option Addr) (sl sl2:Array (Option Value)) :
  Meets (Builtin.«tuple.__add__» ⟨[.ref l,.ref b],[]⟩) (fun _ R s=>s.heap.get? l=some { cls:=.type "tuple",dict:=dd,data:=.seq #[] m,slots:=sl }/\s.heap.get? b=some { cls:=.type "tuple",dict:=dd2,data:=.seq its2 m2,slots:=sl2 }/\R (.ok (.ret (.ref b))) s):=
 .of_wp fun prog w A R s hyp=>by
  obtain ⟨hp,g,d,tk,os⟩:=s; obtain ⟨hl,hb,hyp⟩:=hyp; have g1:=AutoSeq1.sub_tuple_tuple
  wp_walk using AutoSeq1.wpAny_loadPart' hl,AutoSeq1.wpAny_loadPart' hb
  exact ⟨_,rfl,hyp⟩
section
variable {X:Cx} {K:Frag}
def rCat3 (K:Frag):R2:=fun x y H Q=>rCatT K x y H Q\/∃ a b ys,x=.ref a/\y=.ref b/\SqT K H a []/\SqT K H b ys/\Q (.ref b) H
theorem op_cat3 (hK:X.K=K:=by rfl):OpR X (binaryOp .Add) (rCat3 K):=by
 subst hK
 intro pins s σ H x y v u Q I rx ry h
 rcases h with h | ⟨a,b,ys,rfl,rfl,ha,hb,q⟩
 ·exact op_catT pins s σ H x y v u Q I rx ry h
 ·cases rx
  cases ry
  obtain ⟨its,r1,⟨⟨c1,d1,t1,sl1⟩,o1,hc1,n1,hd1⟩,_⟩:=I.tuple ha
  obtain ⟨its2,r2,⟨⟨c2,d2,t2,sl2⟩,o2,hc2,n2,hd2⟩,_⟩:=I.tuple hb
  cases r1
  simp only at hc1 hd1 hc2 hd2
  subst hc1 hd1 hc2 hd2
  exact concat_meets ⟨_,o1,rfl⟩ ⟨_,o2,rfl⟩ noFill_tuple_add seq_tuple_add PySem.F.slot_tuple_add PySem.F.entry_tuple_add (PySem.F.args_tuple_add_2 _ _) (tup_add0 a b its2.toArray n1 n2 d1 d2 sl1 sl2) ⟨o1,o2,.ref b,H,I,rfl,q⟩
end
def fCatT:W->W->R W
 | .tup us,.tup vs=>if us.length+vs.length<=1000/\noLs us=true/\noLs vs=true then .ok (.tup (us++vs)) else .stuck
 | _,_=>.stuck
section
variable {K:Frag}
theorem o2_catT:Op2 K .B .F (rCat3 K) fCatT:=by
 intro EX H0 Hs G H ρ σ Ha Hb x y u v Q I s mx my o
 cases u <;> first | exact o.elim | skip
 all_goals (cases v <;> first | exact o.elim | skip)
 rename_i us vs
 replace o:Out EX G H (mdW K .F H0 Hs) (if us.length+vs.length<=1000/\noLs us=true/\noLs vs=true then .ok (.tup (us++vs)) else .stuck) Q:=o
 by_cases hn:us.length+vs.length<=1000/\noLs us=true/\noLs vs=true
 ·rw [if_pos hn] at o
  obtain ⟨hz,n1,n2⟩:=hn
  rcases mx with mx | ⟨_,_,_,_,e2,_⟩
  ·rcases my with my | ⟨_,_,_,_,e2,_⟩
   ·have cx:=Rep.clean I mx (by simpa [noL] using n1)
    have cy:=Rep.clean I my (by simpa [noL] using n2)
    cases cx with
    | tup ha ra=>
     cases cy with
     | tup hb rb=>
      have l1:=ra.length
      have l2:=rb.length
      by_cases he:us = []
      ·subst he
       cases ra
       exact .inr ⟨_,_,_,rfl,rfl,SqT.of (I.gh _ _ ha),SqT.of (I.gh _ _ hb),o _ G H (Ext.refl I.gh) (.tup hb rb)⟩
      ·refine .inl ⟨_,_,_,_,rfl,rfl,SqT.of (I.gh _ _ ha),SqT.of (I.gh _ _ hb),fun z=>?_,by rw [l1,l2]; exact le_line hz,fun z=>?_,fun _ p hp=>?_⟩
       ·subst z; cases ra; exact he rfl
       ·subst z
        cases rb
        rw [List.append_nil] at o
        exact o _ G H (Ext.refl I.gh) (.tup ha ra)
       ·exact Out.newTF I (ra.append rb) hp o
   ·cases e2
  ·cases e2
 ·rw [if_neg hn] at o; exact o.elim
end
end TP
namespace L2
open PySem PySem.Spec PyProof.Rows
section
variable {X:Cx} {pins:List (Addr×Obj)} {σ:St} {H:Hp} {s:Shared} {A:Around} {E:Value->Shared->Prop} {Q:Value->Shared->Prop} {b:Bool}
theorem isinstT_ok {x:V} {u:Value} {T:String} {a:Addr} {its:List Value} (I:Inv X pins σ H s) (rx:RelV x u) (ty:tyB H x=some T) (ht:IsTup s.heap a its.toArray) (e:PySem.W.kitAny X.K (.type T) its=some b)
  (h:∀ tk,Q (.bool b) { s with toks:=tk }):wpAny (model X.prog X.w) A (call (.builtin "isinstance") [u,.ref a]) Q E s:=by
 obtain ⟨⟨c,dd,da,sl⟩,ho,hc,n,hd⟩:=ht
 replace hc:c=.type "tuple" := hc
 replace hd:da=.seq its.toArray n:=hd
 subst hc hd
 unfold tyB at ty
 split at ty
 ·cases ty; cases (show u=Value.none from rx); exact PySem.W.kia_tup PySem.W.kitx_none I.kIn True.intro ho e (fun z=>nomatch z) h
 ·rename_i y; cases ty; cases (show u=Value.bool y from rx); exact PySem.W.kia_tup PySem.W.kitx_bool I.kIn True.intro ho e (fun z=>nomatch z) h
 ·rename_i i; cases ty; obtain ⟨t,q⟩:=(show ∃ t,u=Value.int i t from rx); cases q; exact PySem.W.kia_tup PySem.W.kitx_int I.kIn True.intro ho e (fun z=>nomatch z) h
 ·rename_i y; cases ty; obtain ⟨t,q⟩:=(show ∃ t,u=Value.str y t from rx); cases q; exact PySem.W.kia_tup PySem.W.kitx_str I.kIn True.intro ho e (fun z=>nomatch z) h
 ·rename_i p
  cases (show u=Value.ref p from rx)
  unfold tyO at ty
  split at ty
  ·rename_i xs ea; cases ty
   obtain ⟨_,_,n,_,h1⟩:=(show ObjOk X.prog X.w H s.heap p (.lst xs) from I.hok p _ ea)
   exact PySem.W.kia_tup PySem.W.kitx_list I.kIn ⟨_,h1,rfl⟩ ho e (fun z=>nomatch z) h
  ·rename_i xs ea; cases ty
   obtain ⟨_,_,_,q⟩:=(show ObjOk X.prog X.w H s.heap p (.tup xs) from I.hok p _ ea)
   obtain ⟨o,h1,h2,_⟩:=q
   exact PySem.W.kia_tup PySem.W.kitx_tuple I.kIn ⟨o,h1,h2⟩ ho e (fun z=>nomatch z) h
  ·rename_i kvs ea; cases ty
   obtain ⟨_,_,vs,_,q⟩:=(show ObjOk X.prog X.w H s.heap p (.dK kvs) from I.hok p _ ea)
   obtain ⟨o,es,ep,h1,h2,_⟩:=q
   exact PySem.W.kia_tup PySem.W.kitx_dict I.kIn ⟨o,h1,h2.1⟩ ho e (fun z=>nomatch z) h
  ·cases ty
 ·cases ty
def rIsiT:List V->Hp->VK->Prop:=fun xs H Q=>∃ x a,xs = [x,.ref a]/\H a=some (.tup [.ty "list",.ty "tuple"])/\∃ T,tyB H x=some T/\∃ p q,isiB T "list" = some p/\isiB T "tuple" = some q/\Q (.bl (p||q)) H
theorem call_isiT:CallR X (.builtin "isinstance") rIsiT:=by
 intro pins s σ H xs us Q I r h
 obtain ⟨x,a,rfl,ha,T,ty,p,q,e1,e2,k⟩:=h
 obtain ⟨u,w',rfl,r1,r2⟩:=vals2 r
 have e3:w'=Value.ref a:=r2
 subst e3
 obtain ⟨its,rv,ht,_⟩:=I.tuple (SqT.of ha)
 obtain ⟨v1,v2,rfl,s1,s2⟩:=vals2 rv
 have f1:v1=Value.type "list" := s1
 have f2:v2=Value.type "tuple" := s2
 subst f1 f2
 have e:PySem.W.kitAny X.K (.type T) [.type "list",.type "tuple"]=some (p||q):=by
  unfold PySem.W.kitAny
  rw [isiB_ok e1]
  cases p with
  | true=>rfl
  | false=>
   show PySem.W.kitAny X.K (.type T) [.type "tuple"]=_
   unfold PySem.W.kitAny
   rw [isiB_ok e2]
   cases q <;> rfl
 exact isinstT_ok I r1 ty ht e fun tk=>⟨.bl (p||q),H,I.tok tk,rfl,k⟩
end
end L2
namespace TP
open PySem L2
def fIsiT:List W->R W
 | [x,.tup [.ty p,.ty q]]=>if p = "list" /\ q = "tuple" then (match tyW x with
  | some A=>(match isiB A "list",isiB A "tuple" with
   | some u,some v=>.ok (.bl (u||v))
   | _,_=>.stuck)
  | none=>.stuck) else .stuck
 | _=>.stuck
section
variable {K:Frag} {d:Mode}
theorem b_isiT:Cal K .B d rIsiT fIsiT:=by
 intro EX H0 Hs G H ρ σ Ha vs ws Q I s m o
 unfold fIsiT at o
 split at o
 ·rename_i x p q
  split at o
  ·rename_i hpq
   obtain ⟨rfl,rfl⟩:=hpq
   cases m with
   | cons a t=>
    cases t with
    | cons b t=>
     cases t
     cases q:tyW x with
     | none=>rw [q] at o; exact o.elim
     | some A=>
      rw [q] at o
      cases q2:isiB A "list" with
      | none=>simp only [q2] at o; exact o.elim
      | some u=>
       cases q3:isiB A "tuple" with
       | none=>simp only [q2,q3] at o; exact o.elim
       | some v=>
        simp only [q2,q3] at o
        obtain ⟨c,ks,rfl,hc,rc⟩:=Md.tupB I b
        cases rc with
        | cons r1 rc=>
         cases rc with
         | cons r2 rc=>
          cases rc
          cases r1
          cases r2
          exact ⟨_,c,rfl,hc,A,tyW_of I a q,u,v,q2,q3,o _ G H (Ext.refl I.gh) (Md.sca rfl (fun _=>.bl) d)⟩
  ·exact o.elim
 ·exact o.elim
end
end TP
namespace HT
open PySem PyProof.Rows
section
variable {prog:Program} {w:World} {A:Around} {E:Value->Shared->Prop} {s:Shared}
theorem getItem_tuple_all {t sl:Addr} {items:Array Value} {vl vu:Value} {lo hi:Option Int} {Q:Value->Shared->Prop} (ht:IsTup s.heap t items) (hs:s.heap.IsSliceOf sl vl vu .none) (pl:IsPart vl lo) (pu:IsPart vu hi)
  (hw:sIx items.size 0 lo=0/\sIx items.size items.size hi=items.size)
  (h:Q (.ref t) s)
  (hsz:items.size<=sizeLine):wpAny (model prog w) A (getItem (.ref t) (.ref sl)) Q E s:=by
 have hj:sIx items.size items.size hi<=items.size:=sIx_le _ _ (Nat.le_refl _) hi
 obtain ⟨os,hos,hcs,hds⟩:=id hs
 have hTs:s.TypeIs (.ref sl) "slice" := ⟨os,hos,hcs⟩
 unfold getItem
 try with_reducible refine wpAny_holding ?_
 first | refine wpAny_bind (wpAny_pure ?_) | skip
 refine wpAny_bind (wpAny_sequenceKey ht.typeIs (by decide) ?_)
 refine wpAny_bind (wpAny_callSpecial?_slot (name:=Str.ofString "__getitem__") ht.typeIs PyProof.Rows.slot_tuple_getitem
  (wpAny_call_entry PyProof.Rows.slot_tuple_getitem ht.typeIs entry_tuple_getitem ?_ (args_tuple_getitem _ _)))
 show wpAny _ _ (Builtin.Tuple.tupleItemsOf (.ref t)>>=_) _ _ s
 refine wpAny_bind (tupleItemsOf_ ht ?_)
 refine wpAny_bind (wpAny_typeOf hTs ?_)
 rw [if_pos (by decide)]
 refine wpAny_bind (sliceApplied_gen hs pl pu ?_)
 have hyes:(((sIx items.size 0 lo:Nat):Int) == 0&&(1:Int) == 1&&(sIx items.size items.size hi-sIx items.size 0 lo) == items.size)=true:=by
  rw [hw.1,hw.2]; simp
 show wpAny _ _ (if (((sIx items.size 0 lo:Nat):Int) == 0&&(1:Int) == 1&&(sIx items.size items.size hi-sIx items.size 0 lo) == items.size)=true then _ else _) _ _ s
 rw [if_pos hyes]
 unfold Builtin.Tuple.tupleIsExact
 wp_walk using wpAny_typeOf ht.typeIs
 exact ⟨_,rfl,wpAny_pure h⟩
end
end HT
namespace TP
open PySem L2
section
variable {X:Cx}
def rSlA (K:Frag):V->Option Int->Option Int->Hp->VK->Prop:=fun x lo hi H Q=>∃ a xs,x=.ref a/\SqT K H a xs/\(HT.sIx xs.length 0 lo=0/\HT.sIx xs.length xs.length hi=xs.length)/\Q (.ref a) H
theorem sl_tupA:L2.SlR X (rSlA X.K):=by
 intro pins s σ H x v vl vu lo hi sl Q I rx hs pl pu h
 obtain ⟨a,xs,rfl,hx,hw,q⟩:=h
 cases rx
 obtain ⟨its,r,ht,hz⟩:=I.tuple hx
 have hlen:its.toArray.size=xs.length:=by rw [List.size_toArray]; exact r.length.symm
 refine ⟨"tuple",_,PyProof.Rows.slot_tuple_getitem.lookup,ht.typeIs,?_⟩
 exact HT.getItem_tuple_all ht hs pl pu (by rw [hlen]; exact hw) ⟨.ref a,H,I,rfl,q⟩ (by rw [hlen]; exact hz)
def rSlB (K:Frag):V->Option Int->Option Int->Hp->VK->Prop:=fun x lo hi H Q=>rSlT K x lo hi H Q\/rSlA K x lo hi H Q
theorem sl_tupB:L2.SlR X (rSlB X.K):=L2.SlR.or sl_tup sl_tupA
end
def Rst (x:R W) (l u:R (Option Int)):R W:=x>>=fun x=>l>>=fun l=>u>>=fun u=>(match x with
 | .tup ws=>if noLs ws=true then .ok (.tup (cutW ws l u)) else .stuck
 | _=>.stuck)
def vSlT (m:Rho->R W) (ml mh:Rho->R (Option Int)):Rho->R W:=fun ρ=>Rst (m ρ) (ml ρ) (mh ρ)
theorem cutW_all {ws:List W} {lo hi:Option Int} (h:HT.sIx ws.length 0 lo=0/\HT.sIx ws.length ws.length hi=ws.length):cutW ws lo hi=ws:=by
 unfold cutW
 rw [h.1,h.2,List.drop_zero,Nat.sub_zero,List.take_length]
section
variable {K:Frag} {EX:EXT} {H0 G H:Hp} {ρ:Rho} {σ:St} {Q:VK}
theorem c_slT {m:Rho->R W} {ml mh:Rho->R (Option Int)} (h:tM K EX .F (vSlT m ml mh) σ H Q):tSl (rSlB K) (tM K EX .B m) (tOp_ K EX ml) (tOp_ K EX mh) σ H Q:=by
 obtain ⟨H0,G,ρ,I,o⟩:=h
 unfold vSlT Rst at o
 refine ⟨H0,G,ρ,I,Out.bind o fun x G1 H1 w e1 m1 o1=>⟨H0,G1,ρ,I.ext e1,Out.bind o1 fun l' G2 H2 l e2 m2 o2=>⟨H0,G2,ρ,(I.ext e1).ext e2,Out.bind o2 fun u' G3 H3 u e3 m3 o3=>?_⟩⟩⟩
 subst m2; subst m3
 have I3:=((I.ext e1).ext e2).ext e3
 cases w <;> first | exact o3.elim | skip
 rename_i ws
 dsimp only at o3
 by_cases hn:noLs ws=true
 ·rw [if_pos hn] at o3
  have mx:=(m1.move e2).move e3
  rcases mx with mx | ⟨_,_,_,_,z,_⟩
  ·have cx:=Rep.clean I3 mx (by simpa [noL] using hn)
   cases cx with
   | tup ha ra=>
    rename_i a vs
    have l1:=ra.length
    by_cases hw:HT.sIx vs.length 0 l'=0/\HT.sIx vs.length vs.length u'=vs.length
    ·refine .inr ⟨a,vs,rfl,SqT.of (I3.gh _ _ ha),hw,?_⟩
     rw [cutW_all (by rw [<- l1]; exact hw)] at o3
     exact o3 _ G3 H3 (Ext.refl I3.gh) (.tup ha ra)
    ·exact .inl ⟨a,vs,rfl,SqT.of (I3.gh _ _ ha),hw,fun p hp=>Out.newTF I3 (ra.cut l' u') hp o3⟩
  ·cases z
 ·rw [if_neg hn] at o3; exact o3.elim
end
section
variable {X:Cx} {K:Frag} {EX:EXT} {e:Expr} {pos:Pos} {ma:Rho->R W}
theorem q_slT {lo hi:Option Expr} {p2:Pos} {ml mh:Rho->R (Option Int)} (he:PE X e (tM K EX .B ma)) (hl:PO X lo (tOp_ K EX ml)) (hu:PO X hi (tOp_ K EX mh)) (hK:X.K=K:=by rfl):PE X (.Subscript e (.Slice lo hi none p2) pos) (tM K EX .F (vSlT ma ml mh)):=by
 subst hK; exact (pe_slice sl_tupB he hl hu).mono fun _ _ _ q=>c_slT q
end
theorem vSlT_ap (m:Rho->R W) (ml mh:Rho->R (Option Int)) (ρ:Rho):vSlT m ml mh ρ=Rst (m ρ) (ml ρ) (mh ρ):=rfl
theorem Rst_ok {ws:List W} (h:noLs ws=true) (l u:Option Int):Rst (.ok (.tup ws)) (.ok l) (.ok u)=.ok (.tup (cutW ws l u)):=by
 show (if noLs ws=true then _ else _)=_
 rw [if_pos h]
end TP
namespace TP
open PySem L2
section
variable {K:Frag} {EX:EXT} {H0 G H G1 H1 F:Hp} {ρ:Rho} {σ:St} {d:Mode} {D:Ends}
end
section
variable {X:Cx} {K:Frag} {EX:EXT} {d:Mode} {e k v:Expr} {pos:Pos} {mk me:Rho->R W}
end
end TP
namespace TP
open PySem L2
set_option maxHeartbeats 2000000
section
variable {X:Cx} {K:Frag}
end
section
variable {K:Frag}
end
end TP
namespace TP
open PySem L2
section
variable {X:Cx} {K:Frag} {EX:EXT} {d:Mode} {p:Pos} {es:List Expr} {mr:Rho->R (List W)}
theorem q_aint {i j} (hr:PA X es (tA K EX d mr)):PA X (.Constant (.int i) j p::es) (tA K EX d (aC (mC (.int i)) mr)):=q_acons q_int hr (by rfl)
end
end TP
namespace TB
open PySem PySem.W
theorem bits_of {ns:List Int} (h:WData.layableAll [WData.list (ns.map WData.int)]=true):∀ x∈ns,Builtin.Int.intBits x<=1048576:=fun x hx=>by
 have h1:(WData.list (ns.map WData.int)).layable=true:=by simpa [WData.layableAll] using h
 have h2:(WData.list (ns.map WData.int)).weight<=2^20:=(layableW_iff.mp h1).2.2
 have key:∀ ms:List Int,x∈ms->Builtin.Int.intBits x<=WData.weightAll (ms.map WData.int):=by
  intro ms
  induction ms with
  | nil=>intro z; cases z
  | cons m ms ih=>
   intro z
   rw [List.map_cons]
   show _<=WData.weight (.int m)+1+WData.weightAll (ms.map WData.int)
   rcases List.mem_cons.mp z with e | e
   ·subst e
    have:WData.weight (.int x)=Builtin.Int.intBits x:=by rfl
    omega
   ·have:=ih e
    omega
 exact Nat.le_trans (key ns hx) (by simpa [WData.weight] using h2)
end TB
namespace Att
open PySem PySem.W PySem.Calls PyProof.Rows
theorem attach_callB {l:OpenLaw} {n:Nat} {q:Program} {loose:List Str} {XP:(Str->Option Value)->Heap->Prop} {YP:World->Heap->Prop} {d:DefRec}
  (hn:l.most=some n) (hdf:d.params.defaults = [])
  (call:∀ (w:World) (s₀ s₁:Shared) (mg mb:Str->Option Value) (fa:Addr) (o:Obj) (pm cd doc:Value) (a:Addr) (vs:List Value) (ns:List Int),
   Ground q loose [] XP w s₀ mg mb s₁.heap->YP w s₁.heap ->
   s₁.heap.get? fa=some o->o.data=.func (docDef d.name d.params d.body d.scope pm cd doc)->s₁.heap.CodeRec cd d.name->mg d.name=some (.ref fa) ->
   s₁.heap.get? a=some { cls:=.type "list",data:=.seq vs.toArray }->IntsAre vs ns->ns.length<=n->(∀ x∈ns,Builtin.Int.intBits x<=1048576)->s₁.gens=#[] ->
   codeAny (model l.prog w) callerA (.call (.ref fa) ⟨[.ref a],[]⟩) (fun r s'=>r=.ok (.ret (.bool true))/\OldK s₁.heap s'.heap/\s'.os=s₁.os/\AllBare s'.gens) s₁) :
  WalkO q loose XP YP l.row.toRowW d [] (fun f vs=>PySem.call f vs):=by
 intro w s₀ s₁ mg mb G Y fa o pm cd doc dV kV ho hd hcd hD hmg hg args vals as hpre hlay hrd hwl hlo
 obtain rfl:dV=.none:=Dflts.none hD hdf
 obtain rfl:kV=.none:=Dflts.noKw hD
 obtain ⟨a,vs,ns,rfl,rfl,hobj,hints,hlen⟩:=script_of hn hpre hwl
 refine enter_call (codeAny_mono (call w s₀ s₁ mg mb fa o pm cd doc a vs ns G Y ho (fd_plain hd) hcd hmg hobj hints hlen (TB.bits_of hlay) hg) fun r s' hq=>?_)
 obtain ⟨rfl,h2,h3,h4⟩:=hq
 exact ⟨.inl ⟨.bool true,.bool true,[],rfl,fun _=>rfl,.bool true,post_true l _,fun _=>⟨List.Pairwise.nil,fun _ hm=>(nomatch hm)⟩⟩,h2,h3,h4⟩
end Att
namespace L2
open PySem PySem.Spec PyProof.Rows
theorem walk_ofB {l:PySem.W.OpenLaw} {n k:Nat} {q:Program} {loose:List Str} {XP:(Str->Option Value)->Heap->Prop} {YP:World->Heap->Prop} {d:DefRec} {K:Params->Frag} {CX:World->CXT} {sp:World->Sp} {x:Str}
  (hn:l.most=some n) (hn2:n<=sizeLine) (hdf:d.params.defaults = []) (hr:Room k callerA)
  (hY:∀ (w:World) (h:Heap),YP w h->(K w.params).In h)
  (hT:∀ (w:World) (h:Heap),YP w h->∀ p∈lamT,h.get? p.1=some { cls:=.none,data:=.fields #[] }/\isCodeTable h p.1/\(K w.params).lookup p.1=none/\lamT.lookup p.1=some p.2)
  (F:∀ (w:World) (mg:Str->Option Value) (fa:Addr) (h:Heap),(K w.params).In h->h.Ns mainGlobals mg->mg d.name=some (.ref fa) ->
   ∃ fd:FuncData,(∀ (s:Shared) (u:Value),BindsTo s fd ⟨[u],[]⟩ [(x,u)]) /\
    ∀ base:Heap,(K w.params).In base->base.Ns mainGlobals mg->FnOk l.prog w (K w.params) mg base (CX w) k fa fd [x] (sp w))
  (hsp:∀ (w:World) (H:Hp) (a:Addr) (ns:List Int),ns.length<=n->(∀ x∈ns,Builtin.Int.intBits x<=1048576)->Only H->SqL (K w.params) H a (ns.map V.int)->sp w [.ref a] H (fun v _=>v=.bl true) fun _ _ _=>False)
  (hCX:∀ (w:World) (H:Hp) (s:Shared) (e:Value) (s':Shared),CX w [] H s (fun _ _ _=>False) e s'->False) :
  PySem.W.WalkO q loose XP YP l.row.toRowW d [] (fun f vs=>PySem.call f vs):=by
 refine Att.attach_callB hn hdf fun w s₀ s₁ mg mb fa o pm cd doc a vs ns G Y ho hd hcd hmg hobj hints hlen hbi hg=>?_
 have KX:=hY w _ Y
 obtain ⟨fd,hb,hF⟩:=F w mg fa _ KX G.T.g hmg
 exact law_call KX G.T.g G.T.b G.T.builtins G.T.nolimit hg G.T.bmain (hT w _ Y) hobj hints (Nat.le_trans hlen hn2) hr hF hb (fun H hO hS=>hsp w H a ns hlen hbi hO hS) fun H e s'=>hCX w H s₁ e s'
theorem walk_ofKB {l:PySem.W.OpenLaw} {n k:Nat} {q:Program} {loose:List Str} {XP:(Str->Option Value)->Heap->Prop} {YP:World->Heap->Prop} {d:DefRec} {K:Params->Frag} {CX:CXT} {sp:Frag->Sp} {x:Str}
  (hn:l.most=some n) (hn2:n<=sizeLine) (hdf:d.params.defaults = []) (hr:Room k callerA)
  (hY:∀ (w:World) (h:Heap),YP w h->(K w.params).In h)
  (hT:∀ (w:World) (h:Heap),YP w h->∀ p∈lamT,h.get? p.1=some { cls:=.none,data:=.fields #[] }/\isCodeTable h p.1/\(K w.params).lookup p.1=none/\lamT.lookup p.1=some p.2)
  (F:∀ (w:World) (mg:Str->Option Value) (fa:Addr) (h:Heap),(K w.params).In h->h.Ns mainGlobals mg->mg d.name=some (.ref fa) ->
   ∃ fd:FuncData,(∀ (s:Shared) (u:Value),BindsTo s fd ⟨[u],[]⟩ [(x,u)]) /\
    ∀ base:Heap,(K w.params).In base->base.Ns mainGlobals mg->FnOk l.prog w (K w.params) mg base CX k fa fd [x] (sp (K w.params)))
  (hsp:∀ (K:Frag) (H:Hp) (a:Addr) (ns:List Int),ns.length<=n->(∀ x∈ns,Builtin.Int.intBits x<=1048576)->Only H->SqL K H a (ns.map V.int)->sp K [.ref a] H (fun v _=>v=.bl true) fun _ _ _=>False)
  (hCX:∀ (H:Hp) (s:Shared) (e:Value) (s':Shared),CX [] H s (fun _ _ _=>False) e s'->False) :
  PySem.W.WalkO q loose XP YP l.row.toRowW d [] (fun f vs=>PySem.call f vs):=
 walk_ofB (K:=K) (CX:=fun _=>CX) (sp:=fun w=>sp (K w.params)) hn hn2 hdf hr hY hT F (fun w H a ns h1 hb h2 h3=>hsp (K w.params) H a ns h1 hb h2 h3) fun _ H s e s'=>hCX H s e s'
end L2
namespace TP
open PySem L2
def CMulB (i j:Int):Prop:=CMul i j\/Builtin.Int.intBits i+Builtin.Int.intBits j<=134217728
instance (i j:Int):Decidable (CMulB i j):=by unfold CMulB; infer_instance
theorem CMulB.ok {i j:Int} (h:CMulB i j):IntMulOk i j:=by
 rcases h with h | h
 ·exact h.ok
 ·exact IntMulOk.of_le (Nat.le_refl _) (Nat.le_refl _) h
section
variable {X:Cx}
theorem op_mulB:OpR X (binaryOp .Mult) (rI CMulB fun i j=>.int (i*j)):=opI fun _ _ _ _ _ _ _ hc q=>PyProof.Rows.mul_int q hc.ok
end
theorem mulB_L {i j:Int} (h:-18446744073709551616<i/\i<18446744073709551616):fI CMulB gMul (.int i) (.int j)=.ok (.int (i*j)):=by
 show (if CMulB i j then _ else _)=_
 exact if_pos (.inl (.inl h))
theorem mulB_R {i j:Int} (h:-18446744073709551616<j/\j<18446744073709551616):fI CMulB gMul (.int i) (.int j)=.ok (.int (i*j)):=by
 show (if CMulB i j then _ else _)=_
 exact if_pos (.inl (.inr h))
theorem mulB_b {i j:Int} (h:Builtin.Int.intBits i+Builtin.Int.intBits j<=134217728):fI CMulB gMul (.int i) (.int j)=.ok (.int (i*j)):=by
 show (if CMulB i j then _ else _)=_
 exact if_pos (.inr h)
theorem law_ofB {P:Program} {w:World} {K:Frag} {mg:Str->Option Value} {base:Heap} {k:Nat} {f:Addr} {fd:FuncData} {ps:List Str} {d:Mode} {F:List W->R W} (G:FnOk P w K mg base CX0 k f fd ps (spM K 1 d F))
  (h:∀ ns:List Int,ns.length<=63->(∀ x∈ns,Builtin.Int.intBits x<=1048576)->F [.scr (ns.map W.int)]=.ok (.bl true)):FnOk P w K mg base CX0 k f fd ps (fun vs H Q _=>∃ (a:Addr) (ns:List Int),vs = [.ref a]/\SqL K H a (ns.map V.int)/\ns.length<=63/\(∀ x∈ns,Builtin.Int.intBits x<=1048576)/\∀ H',Q (.bl true) H'):=
 G.imp fun vs H Q E zz84=>by
  obtain ⟨a,ns,e,hs,hl,hb,q⟩:=zz84
  subst e
  refine ⟨rfl,[.scr (ns.map W.int)],.cons (.scr hs ?_) .nil,?_⟩
  ·clear hs hl hb
   induction ns with
   | nil=>exact .nil
   | cons n ns ih=>exact .cons .int ih
  ·rw [h ns hl hb]
   intro v G' H' _ _ _ m
   have e:v=.bl true:=by
    cases d <;> first | (cases m; rfl) | (rcases m with m | ⟨_,_,_,_,z,_⟩ <;> first | (cases m; rfl) | cases z)
   subst e
   exact q H'
end TP
namespace TL
open PySem
section
variable {prog:Program} {w:World} {A:Around} {E:Value->Shared->Prop} {s:Shared}
end
end TL
namespace TP
open PySem L2
section
variable {X:Cx}
end
section
variable {K:Frag} {EX:EXT} {σ:St} {H:Hp} {Q:VK}
end
section
variable {X:Cx} {K:Frag} {EX:EXT} {a:Expr} {pos:Pos} {mr:Rho->R (List W)}
end
end TP
namespace TP
open PySem L2
section
variable {X:Cx}
end
section
variable {K:Frag} {EX:EXT} {d:Mode} {σ:St} {H:Hp} {Q:VK}
end
section
variable {X:Cx} {K:Frag} {EX:EXT} {d:Mode} {o e:Expr} {apos cpos:Pos} {mo me:Rho->R W}
end
end TP
namespace TP
open PySem L2
def OutW (K:Frag) (EX:EXT) (d:Mode) (H0:Hp) (r:R Fl) (D:Ends):Prop:=match r with
 | .ok (.nx ρ)=>∀ G' σ' H',PIv K H0 G' ρ σ' H'->D.nx σ' H'
 | .ok (.bk ρ)=>∀ G' σ' H',PIv K H0 G' ρ σ' H'->D.bk σ' H'
 | .ok (.ct ρ)=>∀ G' σ' H',PIv K H0 G' ρ σ' H'->D.ct σ' H'
 | .ok (.rt w)=>∀ v G' H',Same G' H'->Same H0 H'->(∀ a o,H0 a=some o->isL o=true->G' a=none)->Md K H0 H0 G' H' v w d->D.rt v H'
 | .ex e=>∀ H',Same H0 H'->EX e H'
 | .stuck=>False
def tStW (K:Frag) (EX:EXT) (d:Mode) (m:Rho->R Fl):TS:=fun D σ H=>∃ H0 G ρ,PIv K H0 G ρ σ H/\OutW K EX d H0 (m ρ) D
section
variable {K:Frag} {EX:EXT} {H0 G H G1 H1 G2 H2:Hp} {ρ:Rho} {σ:St} {d:Mode} {D:Ends}
def clS:Sl->Sl
 | .un=>.un
 | .val w=>if noL w=true then .val w else .un
 | .par w=>if noL w=true then .val w else .un
 | .own ws=>if noLs ws=true then .own ws else .un
 | .dic ks=>.dic ks
 | .dik ks=>.dik ks
 | .iop p ws=>if noLs ws=true then .iop p ws else .un
 | .hz _=>.un
def subS (i j:Nat) (us ws':List W) (ρ:Rho):Rho:=(ρ.map clS).set i (.val (.tup (us.set j (.lst ws'))))
end
section
variable {X:Cx} {K:Frag} {EX:EXT} {d:Mode} {e:Expr} {pos:Pos} {ma:Rho->R W} {m n:Rho->R Fl} {ta:Rho->R Bool} {st:Stmt} {sts:List Stmt}
end
end TP
namespace TP
open PySem L2
set_option maxHeartbeats 2000000
section
variable {X:Cx} {K:Frag}
end
section
variable {K:Frag}
end
end TP
namespace TP
open PySem L2
def Hx (p:Addr) (H0 H1:Hp):Prop:=(∀ a,a≠p->H1 a=H0 a)/\∃ vs,H1 p=some (.lst vs)
def OutIo (K:Frag) (EX:EXT) (p:Addr) (H0:Hp) (r:R Fl) (D:Ends):Prop:=match r with
 | .ok (.nx ρ)=>∀ H0' G' σ' H',Hx p H0 H0'->PIv K H0' G' ρ σ' H'->D.nx σ' H'
 | .ok (.bk ρ)=>∀ H0' G' σ' H',Hx p H0 H0'->PIv K H0' G' ρ σ' H'->D.rt .non H'
 | .ex e=>∀ H',EX e H'
 | _=>False
def tStI (K:Frag) (EX:EXT) (p:Addr) (m:Rho->R Fl):TS:=fun D σ H=>∃ H0 G ρ,PIv K H0 G ρ σ H/\(∃ vs,H0 p=some (.lst vs))/\OutIo K EX p H0 (m ρ) D
def nbR:R Fl->R Fl
 | .ok (.nx ρ)=>.ok (.nx ρ)
 | .ex e=>.ex e
 | _=>.stuck
def nb (m:Rho->R Fl):Rho->R Fl:=fun ρ=>nbR (m ρ)
section
variable {K:Frag} {EX:EXT} {H0 H0' G H G1 H1 G2 H2:Hp} {ρ:Rho} {σ:St} {d:Mode} {D:Ends} {p:Addr}
def clI:Sl->Sl
 | .un=>.un
 | .val w=>.val w
 | .par w=>if noL w=true then .val w else .un
 | .own ws=>.own ws
 | .dic ks=>.dic ks
 | .dik ks=>.dik ks
 | .iop _ _=>.un
 | .hz _=>.un
def ioR (p:Addr) (ρ:Rho):R (List W):=match (ρ[1]?:Option Sl) with
 | some (.iop q cs)=>if q=p then .ok cs else .stuck
 | _=>.stuck
def runIO (n N:Nat) (m:Addr->Rho->R Fl) (p:Addr) (w1:W) (cs wr:List W):R (List W):=if wr.length+2=n/\noLs cs=true then (match m p (.par w1::.iop p cs::(wr.map Sl.par++List.replicate (N-n) Sl.un)) with
 | .ok (.nx ρ)=>ioR p ρ
 | .ok (.bk ρ)=>ioR p ρ
 | _=>.stuck) else .stuck
open Classical in
def runIOA (n N:Nat) (m:Addr->Rho->R Fl) (w1:W) (cs wr:List W):R (List W):=if h:∃ cs',∀ p,runIO n N m p w1 cs wr=.ok cs' then .ok (Classical.choose h) else .stuck
end
section
variable {X:Cx} {K:Frag} {EX:EXT} {d:Mode} {e:Expr} {es:List Expr} {pos:Pos} {ma:Rho->R W} {m n:Rho->R Fl} {ta:Rho->R Bool} {st:Stmt} {sts:List Stmt} {p:Addr} {mr:Rho->R (List W)}
end
end TP
namespace TP
open PySem L2
section
variable {K:Frag} {EX:EXT} {H0 G H:Hp} {ρ:Rho} {σ:St}
end
section
variable {X:Cx} {K:Frag} {e:Expr} {es:List Expr} {pos:Pos} {mr:Rho->R (List W)}
end
end TP
namespace TP
open PySem L2
section
variable {X:Cx}
end
section
variable {K:Frag} {EX:EXT} {H0 G H:Hp} {ρ:Rho} {σ:St} {d:Mode} {D:Ends}
end
section
variable {X:Cx} {K:Frag} {EX:EXT} {d:Mode} {e:Expr} {pos:Pos} {ma:Rho->R W}
end
end TP
namespace TP
open PySem L2
section
open PySem.W PyProof.Rows
variable {prog:Program} {w:World} {A:Around} {E:Value->Shared->Prop} {s:Shared}
theorem items_int:∀ {xs:List Int} {its:List Value},Vals (xs.map V.int) its->ItemsAre (intKind prog w) xs its:=by
 intro xs
 induction xs with
 | nil=>intro its h; cases h; exact .nil
 | cons x xs ih=>
  intro its h
  cases h with
  | cons r t=>
   obtain ⟨tk,rfl⟩:=r
   exact .cons (by simp [intKind,Value.isInt]) (ih t)
end
end TP
namespace TP
open PySem L2
section
variable {X:Cx} {pins:List (Addr×Obj)} {σ:L2.St} {H:Hp} {s:Shared}
end
section
open PySem.W PyProof.Rows
variable {Y:Cx} {K:Frag} {pn:List (Addr×Obj)} {σ:L2.St}
end
end TP
namespace TP
open PySem L2
section
open PySem.W PyProof.Rows
variable {Y:Cx} {K:Frag} {pins:List (Addr×Obj)} {σ:L2.St}
end
section
open PySem.W PyProof.Rows
variable {X:Cx} {K:Frag}
end
section
variable {K:Frag}
end
section
variable {X:Cx} {K:Frag} {EX:EXT} {e:Expr} {pos:Pos} {mr:Rho->R (List W)}
end
end TP
namespace TP
open PySem L2
section
open PySem.W PyProof.Rows
variable {X:Cx} {e:Expr} {te:TE} {st:Expr} {tk:TO} {pos p2:Pos}
end
section
variable {K:Frag} {EX:EXT} {σ:St} {H:Hp} {Q:VK}
end
section
variable {X:Cx} {K:Frag} {EX:EXT} {e:Expr} {pos:Pos} {ma:Rho->R W}
end
end TP
namespace TP
open PySem L2
section
variable {K:Frag} {EX:EXT} {H0 G H:Hp} {ρ:Rho} {σ:St} {d:Mode} {D:Ends}
end
section
variable {X:Cx} {K:Frag} {EX:EXT} {d:Mode} {e:Expr} {pos:Pos} {ma:Rho->R W}
end
end TP
namespace TP
open PySem L2
section
variable {K:Frag} {EX:EXT} {H0 G H G1 H1 F:Hp} {ρ:Rho} {σ:St} {d:Mode} {D:Ends}
end
section
variable {X:Cx} {K:Frag} {EX:EXT} {d:Mode} {e k v:Expr} {pos:Pos} {mk me:Rho->R W}
end
end TP
namespace TP
open PySem PyProof.Rows
def kk (rk:Keyed->Int) (xs:Array Keyed) (i:Nat):Int:=match xs[i]? with
 | some p=>rk p
 | none=>0
theorem sb1 {A n:Nat} (h0:0<n) (h:n<=A):A-(n-1)=A-n+1:=by
 cases n with
 | zero=>exact absurd h0 (Nat.lt_irrefl _)
 | succ m=>exact (Nat.succ_pred_eq_of_pos (Nat.sub_pos_of_lt h)).symm
theorem sb2 {A n k:Nat} (h:n<=A) (hk:k<=n):A-k=A-n+(n-k):=(Nat.sub_add_sub_cancel h hk).symm
theorem sb3 {lo x q k:Nat} (hq:q<=x) (h:lo+x-q<=k):x-q<=k-lo:=by rw [Nat.add_sub_assoc hq] at h; exact Nat.le_sub_of_add_le' h
theorem sb4 {lo x q k:Nat} (hq:q<=x) (h:lo+x-q<=k):lo+(k-lo)=k:=Nat.add_sub_cancel' (Nat.le_trans (by rw [Nat.add_sub_assoc hq]; exact Nat.le_add_right _ _) h)
theorem sb5 {lo j:Nat} (h:0<j):lo+(j-1)=lo+j-1:=(Nat.add_sub_assoc h lo).symm
section
variable {prog:Program} {w:World} {A:Around} {E:Value->Shared->Prop} {s:Shared} {a₀:Array Keyed} {κ:SortKind} {rk:Keyed->Int}
end
def upL (rk:Keyed->Int) (l:List Keyed):Prop:=l.Pairwise fun x y=>rk x<=rk y
structure Mg (rk:Keyed->Int) (t:List Keyed) (out ra rb:List Keyed):Prop where
 perm:(out++(ra++rb)).Perm t
 up:upL rk out
 le:∀ x∈out,∀ y∈ra++rb,rk x<=rk y
def Gd (rk:Keyed->Int) (t res:List Keyed):Prop:=res.Perm t/\upL rk res
section
variable {rk:Keyed->Int} {t out p ra rb:List Keyed}
end
section
variable {prog:Program} {w:World} {A:Around} {E:Value->Shared->Prop} {s:Shared} {a₀:Array Keyed} {κ:SortKind} {rk:Keyed->Int}
abbrev gS (st:SortSt) (g:Nat):SortSt:=SortSt.mk' (kindOf st) (arrOf st) (pendingOf st) g (failedOf st)
end
section
variable {prog:Program} {w:World} {A:Around} {E:Value->Shared->Prop} {s:Shared} {a₀:Array Keyed} {κ:SortKind} {rk:Keyed->Int}
abbrev rn (rk:Keyed->Int) (x:Keyed):Int:=-rk x
abbrev rv (a:Array Keyed):List Keyed:=a.toList.reverse
end
section
variable {prog:Program} {w:World} {A:Around} {E:Value->Shared->Prop} {s:Shared} {a₀:Array Keyed} {κ:SortKind} {rk:Keyed->Int}
end
section
variable {prog:Program} {w:World} {A:Around} {E:Value->Shared->Prop} {s:Shared} {a₀:Array Keyed} {κ:SortKind} {rk:Keyed->Int} {arr:Array Keyed} {pd:Array (Nat×Nat×Nat)} {g lo:Nat}
structure Rl (lo:Nat) (arr arr':Array Keyed):Prop where
 perm:arr'.toList.Perm arr.toList
 same:∀ k,k<lo->arr'[k]?=arr[k]?
end
section
variable {prog:Program} {w:World} {A:Around} {E:Value->Shared->Prop} {s:Shared} {a₀:Array Keyed} {κ:SortKind} {rk:Keyed->Int} {arr:Array Keyed} {pd:Array (Nat×Nat×Nat)} {g lo:Nat}
end
end TP
namespace TP
open PySem L2
section
open PySem.W PyProof.Rows
variable {prog:Program} {w:World} {A:Around} {E:Value->Shared->Prop} {s:Shared}
open Classical in
def rkV (vs:List Value) (ss:List (List Int)) (p:Keyed):Int:=if h:∃ i,i<vs.length/\vs.getD i Value.none=p.1 then rankL ss h.choose else 0
end
section
variable {X:Cx} {K:Frag}
end
section
variable {K:Frag}
end
end TP
namespace TP
open PySem L2
section
variable {K:Frag} {EX:EXT} {H0 G H G1 H1 F:Hp} {ρ:Rho} {σ:St} {d:Mode} {D:Ends}
end
section
variable {X:Cx} {K:Frag} {d:Mode} {e:Expr} {es:List Expr} {pos:Pos} {mr:Rho->R (List W)}
end
end TP
namespace TP
open PySem L2
section
variable {K:Frag} {EX:EXT} {X:Cx} {tg e:Expr} {ma:Rho->R W}
end
end TP
namespace TP
open PySem L2
def NoLst (H:Hp):Prop:=∀ a vs,H a≠some (.lst vs)
def OutN (K:Frag) (d:Mode) (Hb:Hp) (r:R Fl) (D:Ends):Prop:=match r with
 | .ok (.nx ρ)=>∀ H0 G' σ' H',Same Hb H0->PIv K H0 G' ρ σ' H'->D.nx σ' H'
 | .ok (.rt w)=>∀ v G' H',Same G' H'->Same Hb H'->(∀ a o,Hb a=some o->isL o=true->G' a=none)->Md K Hb Hb G' H' v w d->D.rt v H'
 | _=>False
def tStN (K:Frag) (EX:EXT) (d:Mode) (m:Rho->R Fl):TS:=fun D σ H=>∃ Hb H0 G ρ,NoLst Hb/\Same Hb H0/\PIv K H0 G ρ σ H/\OutN K d Hb (m ρ) D
section
variable {K:Frag} {EX:EXT} {Hb H0 G H G1 H1 G2 H2:Hp} {ρ:Rho} {σ:St} {d:Mode} {D:Ends}
end
section
variable {X:Cx} {K:Frag} {EX:EXT} {d:Mode} {e:Expr} {es:List Expr} {pos:Pos} {ma:Rho->R W} {mr:Rho->R (List W)} {m n:Rho->R Fl} {ta:Rho->R Bool} {st:Stmt} {sts:List Stmt}
end
end TP
namespace TP
open PySem L2
open PyProof.Rows (envOfC)
def XE1 (K:Frag) (E:XK):EXT:=fun e H=>∀ (C:Addr) (od:Option Addr),PySem.W.nsIn K mainGlobals e.cls=some (some (.ref C))->XD H od e.at_->E (.ref C) od H
def spR (K:Frag) (n:Nat) (d:Mode) (f:List W->R W):Sp:=fun vs H Q E=>vs.length=n/\∃ ws,Reps K H vs ws/\match f ws with
 | .ok w=>∀ v G' H',Same H H'->Same G' H'->(∀ a o,H a=some o->isL o=true->G' a=none)->Md K H H G' H' v w d->Q v H'
 | .ex e=>∀ H',Same H H'->XE1 K E e H'
 | .stuck=>False
def calm (f:List W->R W):List W->R W:=fun ws=>match f ws with
 | .ok w=>.ok w
 | _=>.stuck
section
variable {K:Frag} {EX:EXT} {H0 G H G1 H1 G2 H2:Hp} {ρ:Rho} {σ:St} {d:Mode} {D:Ends}
def flUn (j:Nat):Fl->R Fl
 | .nx ρ=>.ok (.nx (ρ.set j .un))
 | .bk ρ=>.ok (.bk (ρ.set j .un))
 | .ct ρ=>.ok (.ct (ρ.set j .un))
 | .rt w=>.ok (.rt w)
def mExc (c:Str) (j:Nat) (mb:Rho->R Fl) (e:XW) (ρ:Rho):R Fl:=if e.cls=c then mb (ρ.set j (.val (.exc e.cls e.at_)))>>=flUn j else .stuck
end
section
variable {X:Cx} {K:Frag} {EX:EXT} {d:Mode} {e:Expr} {es:List Expr} {pos:Pos} {ma:Rho->R W} {mr:Rho->R (List W)} {mb:Rho->R Fl}
end
section
variable {P:Program} {w:World} {K:Frag} {mg:Str->Option Value} {base:Heap} {N:List Str} {qual:Str} {scope:Scope} {f0:Addr} {cd:Value} {A:Around} {outer:List Env} {s0:Shared} {H0:Hp} {E:XK} {d:Mode} {e:Expr} {es:List Expr} {pos:Pos} {mr:Rho->R (List W)}
end
end TP
namespace TP
open PySem L2
def big8:Int:=2^2000
def CDivL (_ j:Int):Prop:=0<j/\j<big8
instance (i j:Int):Decidable (CDivL i j):=by unfold CDivL; infer_instance
theorem op_fdivL {X:Cx}:OpR X (binaryOp .FloorDiv) (rI CDivL fun i j=>.int (i/j)):=opI fun i j _ _ _ _ _ hc q=>by
 have h1:(0:Int)<j:=hc.1
 have h2:j<big8:=hc.2
 refine PyProof.Rows.floordiv_int (by omega) (by rw [Int.fdiv_eq_ediv_of_nonneg i (by omega)]; exact q) (.inl (PyProof.noPylong_of_log2 ?_))
 have h3:j.natAbs<2^9000:=by
  have:j.natAbs<2^2000:=by
   have h4:(j.natAbs:Int)<2^2000:=by
    rw [Int.natAbs_of_nonneg (by omega)]; exact h2
   exact_mod_cast h4
  exact Nat.lt_of_lt_of_le this (Nat.pow_le_pow_right (by decide) (by decide))
 by_cases h0:j.natAbs=0
 ·omega
 ·exact (Nat.log2_lt h0).mpr h3
end TP
namespace TP
open PySem L2
section
variable {X:Cx}
end
section
variable {K:Frag} {EX:EXT} {H0 G H:Hp} {ρ:Rho} {σ:St} {d:Mode} {D:Ends} {Q:VK}
end
section
variable {X:Cx} {K:Frag} {EX:EXT} {d:Mode} {a e:Expr} {pos:Pos} {ma:Rho->R W} {mr:Rho->R (List W)}
end
end TP
namespace TP
open PySem L2
section
variable {X:Cx}
end
section
variable {K:Frag} {EX:EXT} {H0 G H:Hp} {ρ:Rho} {σ:St} {d:Mode} {D:Ends}
end
section
variable {X:Cx} {K:Frag} {EX:EXT} {d:Mode} {e1 e:Expr} {pos:Pos} {mk ma:Rho->R W}
end
end TP
namespace HT
open PySem PySem.Spec PyProof.Rows PySem.W
section
variable {prog:Program} {w:World} {A:Around} {E:Value->Shared->Prop} {s:Shared}
end
end HT
namespace TP
open PySem L2
section
open PySem.W PyProof.Rows
variable {X:Cx} {e:Expr} {te:TE} {st:Expr} {tk:TO} {pos p2:Pos}
end
section
variable {K:Frag} {EX:EXT} {σ:St} {H:Hp} {Q:VK}
end
section
variable {X:Cx} {K:Frag} {EX:EXT} {e:Expr} {pos:Pos} {ma:Rho->R W}
end
end TP
namespace TP
open PySem L2
section
variable {K:Frag} {H0 G H G1 H1:Hp} {ρ:Rho} {σ:St} {d:Mode} {D:Ends}
end
section
variable {X:Cx} {K:Frag} {d:Mode} {e:Expr} {es:List Expr} {pos:Pos} {mr:Rho->R (List W)} {mt:Rho->R Bool}
end
end TP
namespace TP
open PySem L2
theorem look_map (c:Str->NameKind->Bool) (hc:∀ n k,c n k=true->k=.free) (y:Str):∀ ns:List (Str×NameKind),ns.lookup y=some .cell\/ns.lookup y=some .free->(ns.map fun (n,k)=>if c n k then (n,NameKind.cell) else (n,k)).lookup y=some .cell\/(ns.map fun (n,k)=>if c n k then (n,NameKind.cell) else (n,k)).lookup y=some .free
 | [],h=>h
 | (n,k)::ns,h=>by
  rw [List.map_cons]
  dsimp only
  rw [List.lookup_cons] at h
  by_cases q:c n k=true
  ·rw [if_pos q,List.lookup_cons]
   cases e:y == n with
   | true=>exact .inl rfl
   | false=>
    rw [e] at h
    exact look_map c hc y ns h
  ·rw [if_neg q,List.lookup_cons]
   cases e:y == n with
   | true=>rw [e] at h; exact h
   | false=>
    rw [e] at h
    exact look_map c hc y ns h
section
variable {K:Frag} {EX:EXT} {D:Ends} {d:Mode} {σ:St} {H:Hp}
end
section
variable {X:Cx} {K:Frag} {EX:EXT} {d:Mode} {e k v:Expr} {pos:Pos} {mk me:Rho->R W}
end
end TP
namespace TP
open PySem L2
section
variable {K:Frag} {EX:EXT} {Hb H0 G H G1 H1 G2 H2:Hp} {ρ:Rho} {σ:St} {d:Mode} {D:Ends}
end
section
variable {X:Cx} {K:Frag} {EX:EXT} {d:Mode} {e:Expr} {pos:Pos} {ma:Rho->R W}
end
end TP
namespace L2
open PySem PySem.Spec PyProof.Rows
structure CompScopeC (sc cs:Scope) (N N':List Str) (y:Str):Prop where
 kind:cs.kind=.function
 lay:(∀ n cl,cellsFrom n cs.names cl=(y,n)::cl)/\∀ h:Heap,pushCells h cs.names=h.push { cls:=.type "cell",data:=.cell none }
 cellY:∀ x∈cs.names,x.2=.cell->x.1=y
 isY:cs.names.lookup y=some .cell
 loc:∀ x∈cs.names,x.2=.local->cs.names.lookup x.1=some .local
 free:∀ x∈cs.names,x.2=.free->sc.names.lookup x.1=some .cell\/sc.names.lookup x.1=some .free
 nd:N'.Nodup
 len:N.length<=N'.length
 same:∀ i∈List.range N.length,N'[i]?=N[i]?\/∀ x∈N'[i]?,cs.names.lookup x=none
 out:∀ x∈N'.take N.length,cs.names.lookup x≠some .local/\cs.names.lookup x≠some .cell
abbrev cxCompC (X:Cx) (cs:Scope) (y:Str) (cl:List (Str×Addr)) (N':List Str) (ex:List Addr) (s:Shared) (H:Hp):Cx:=
 { X with N:=N',s₀:=s,H₀:=H,env:=compEnvC cs ((y,s.heap.objs.size+1)::cl) s.heap.objs.size X.env,outer:=X.stack,stack:=X.stack,ex:=ex,fn:=fun x=>x == y,pn:=[],xe:=fun _ _=>False }
theorem look2 {y x:Str} {c d:Addr} {cl:List (Str×Addr)} (h:((y,c)::cl).lookup x=some d):(x=y/\d=c)\/(x≠y/\cl.lookup x=some d):=by
 rw [List.lookup_cons] at h
 split at h
 ·rename_i hb
  cases h
  exact .inl ⟨by simpa using hb,rfl⟩
 ·rename_i hb
  exact .inr ⟨by simpa using hb,h⟩
theorem comp_invC {X:Cx} {pins:List (Addr×Obj)} {σ:St} {H:Hp} {s3 s4:Shared} {cs:Scope} {cl:List (Str×Addr)} {N':List Str} {y:Str} {fp:List Addr} {m:Str->Option Value} (S:CompScopeC X.env.scope cs X.N N' y) (I:Inv X pins σ H s3)
  (hcl1:∀ x c,cl.lookup x=some c->X.env.cells.lookup x=some c) (hcl2:∀ x,(x,NameKind.free)∈cs.names->∃ c,cl.lookup x=some c) (hf:∀ b∈fp,FpOk X pins H b) (hlt:∀ b∈fp,b<s3.heap.objs.size)
  (kp:∀ b o,s3.heap.get? b=some o->s4.heap.get? b=some o) (hn:s4.heap.Ns s3.heap.objs.size m) (hce:s4.heap.IsCell (s3.heap.objs.size+1) none) (hos:s4.os=s3.os) (hg:s4.gens=s3.gens):Inv (cxCompC X cs y cl N' fp s3 H) [] (inner N' σ) H s4:=by
 have kcell:∀ {c:Addr} {v:Option Value},s3.heap.IsCell c v->s4.heap.IsCell c v:=fun {c v} z=>by obtain ⟨o,e,d⟩:=z; exact ⟨o,kp c o e,d⟩
 have lt3:∀ x c,cl.lookup x=some c->c<s3.heap.objs.size:=fun x c e=>by
  obtain ⟨v,z⟩:=I.cell x c (hcl1 x c e)
  exact z.lt
 have hasY:∃ c,((y,s3.heap.objs.size+1)::cl).lookup y=some c:=⟨s3.heap.objs.size+1,by rw [List.lookup_cons]; simp⟩
 refine ⟨⟨I.ok.mod,S.kind,I.ok.glob,I.ok.blt,Nat.le_refl _,fun x z c h1 h2=>?_,fun x hx=>?_,fun x c h e=>?_,I.ok.hd,I.ok.frames,.inl rfl,fun b hb=>⟨?_,fun x c e=>?_⟩,I.bs,Nat.le_trans I.ok.bsz I.sz,fun b o e hb=>?_,fun b hb hfs=>?_,I.stack,I.stkFree,I.tab⟩,
  hos,by rw [hg]; exact I.bare,Un.kept kp,⟨m,hn,fun i x v e1 e2 e3=>?_⟩,fun x c e=>?_,I.hok.fresh (Nat.le_refl _),fun x c e=>?_,fun p hp=>absurd (show p∈([]:List (Addr×Obj)) from hp) (by simp),I.hok.kept kp,?_⟩
 ·rcases look2 h1 with ⟨a1,a2⟩ | ⟨a1,a2⟩ <;> rcases look2 h2 with ⟨b1,b2⟩ | ⟨b1,b2⟩
  ·rw [a1,b1]
  ·have:=lt3 _ _ b2; rw [a2] at this; exact absurd this (Nat.not_lt.mpr (Nat.le_succ _))
  ·have:=lt3 _ _ a2; rw [b2] at this; exact absurd this (Nat.not_lt.mpr (Nat.le_succ _))
  ·exact I.ok.inj x z c (hcl1 x c a2) (hcl1 z c b2)
 ·have hx':(relabel cs X.env).names.lookup x=some .cell\/(relabel cs X.env).names.lookup x=some .free:=hx
  rw [relabel_lookup] at hx'
  show ∃ c,((y,s3.heap.objs.size+1)::cl).lookup x=some c
  by_cases hxy:x=y
  ·rw [hxy]; exact hasY
  ·have hb:(x == y)=false:=by simpa using hxy
   rw [List.lookup_cons,hb]
   cases hl:cs.names.lookup x with
   | none=>rw [hl] at hx'; rcases hx' with h | h <;> cases h
   | some k=>
    have hm:=PySem.mem_of_lookup hl
    by_cases hk:k=.free
    ·subst hk; exact hcl2 x hm
    ·exfalso
     have hb:(k == NameKind.free)=false:=by simpa using hk
     rw [hl] at hx'
     simp only [Option.map_some,hb,Bool.false_and,Bool.false_eq_true,if_false] at hx'
     rcases hx' with h | h
     ·cases h; exact hxy (S.cellY _ hm rfl)
     ·cases h; exact hk rfl
 ·have hxy:x=y:=by simpa using h
  rcases look2 e with ⟨_,a2⟩ | ⟨a1,_⟩
  ·rw [a2]; exact Nat.le_succ _
  ·exact absurd hxy a1
 ·intro q
  have hb':b=s3.heap.objs.size:=q
  exact absurd (hlt b hb) (by rw [hb']; exact Nat.lt_irrefl _)
 ·rcases look2 e with ⟨_,a2⟩ | ⟨_,a2⟩
  ·intro z
   rw [a2] at z
   have:=hlt b hb
   rw [<- z] at this
   exact absurd this (Nat.not_lt.mpr (Nat.le_succ _))
  ·exact (hf b hb).2.2.2.2.1 x c (hcl1 x c a2)
 ·obtain ⟨f0,f1,f2,f3,f4,f5⟩:=hf b hb
  rcases f3 with z | z
  ·exact I.ok.noex b o e z
  ·exact absurd (Nat.lt_of_lt_of_le (Heap.lt_size (I.ok.bs b o e).1) z) (Nat.lt_irrefl _)
 ·have hfs':b∈frs X.stack:=hfs
  rcases List.mem_cons.mp (I.stkSub b hfs') with z | z
  ·exact (hf b hb).2.1 z
  ·exact (hf b hb).2.2.1 z
 ·have e2':=inner_get e2
  have hi:i<X.N.length:=by rw [<- I.len]; exact (List.getElem?_eq_some_iff.mp e2').1
  have e1':N'[i]?=some x:=e1
  have e3':Vis (relabel cs X.env) x:=e3
  have hv:∃ k,cs.names.lookup x=some k:=by
   unfold Vis at e3'
   rw [relabel_lookup] at e3'
   cases hl:cs.names.lookup x with
   | none=>rw [hl] at e3'; rcases e3' with h | h | h <;> cases h
   | some k=>exact ⟨k,rfl⟩
  obtain ⟨k,hk⟩:=hv
  have hN:X.N[i]?=some x:=by
   rcases S.same i (List.mem_range.mpr hi) with q | q
   ·rw [<- q]; exact e1'
   ·have:=q x (by rw [e1']; rfl)
    rw [hk] at this; cases this
  have ho:=S.out x (List.mem_of_getElem? (i:=i) (by rw [List.getElem?_take_of_lt hi]; exact e1'))
  have hnl:k≠.local:=fun q=>by subst q; exact ho.1 hk
  have hnc:k≠.cell:=fun q=>by subst q; exact ho.2 hk
  have hm:=PySem.mem_of_lookup hk
  have hfree:k=.free:=by
   unfold Vis at e3'
   rw [relabel_lookup,hk] at e3'
   by_cases hkf:k=.free
   ·exact hkf
   ·exfalso
    have hb:(k == NameKind.free)=false:=by simpa using hkf
    simp only [Option.map_some,hb,Bool.false_and,Bool.false_eq_true,if_false] at e3'
    rcases e3' with h | h | h
    ·exact hnl (Option.some.inj h)
    ·exact hnc (Option.some.inj h)
    ·exact hkf (Option.some.inj h)
  subst hfree
  obtain ⟨m0,hn0,hl0⟩:=I.loc
  have hvis:Vis X.env.scope x:=by
   rcases S.free _ hm rfl with h | h
   ·exact .inr (.inl h)
   ·exact .inr (.inr h)
  obtain ⟨u,r,l⟩:=hl0 i x v hN e2' hvis
  refine ⟨u,r,.inr ⟨?_,?_⟩⟩
  ·show (relabel cs X.env).names.lookup x=some .cell\/(relabel cs X.env).names.lookup x=some .free
   rw [relabel_lookup,hk]
   show some (if _ then _ else _)=_\/some (if _ then _ else _)=_
   split
   ·exact .inl rfl
   ·exact .inr rfl
  ·obtain ⟨c,hc⟩:=hcl2 x hm
   have hc':=hcl1 x c hc
   have hxy:x≠y:=by
    rintro rfl
    rw [S.isY] at hk; cases hk
   rcases l with ⟨q,_⟩ | ⟨_,c',e,z⟩
   ·exfalso
    have q':X.env.scope.names.lookup x=some .local:=q
    rcases S.free _ hm rfl with h | h <;> (rw [q'] at h; cases h)
   ·rw [hc'] at e; cases e
    exact ⟨c,by
     have hb:(x == y)=false:=by simpa using hxy
     show ((y,s3.heap.objs.size+1)::cl).lookup x=some c
     rw [List.lookup_cons,hb]; exact hc,kcell z⟩
 ·rcases look2 e with ⟨_,a2⟩ | ⟨_,a2⟩
  ·rw [a2]; exact ⟨none,hce⟩
  ·obtain ⟨v,z⟩:=I.cell x c (hcl1 x c a2)
   exact ⟨v,kcell z⟩
 ·rcases look2 e with ⟨_,a2⟩ | ⟨_,a2⟩
  ·rw [a2]; exact I.hok.fresh (Nat.le_succ _)
  ·exact I.freeC x c (hcl1 x c a2)
 ·unfold inner
  rw [List.length_append,List.length_replicate,I.len]
  have:=S.len
  show _=N'.length
  omega
section
variable {X:Cx} {cs:Scope} {N':List Str} {y:Str} {tg iter elt:Expr} {ifs:List Expr} {wi:TI} {g:TG} {tc:TT} {te:TE} {pos:Pos}
theorem wpAny_envC {A:Around} {cl:List (Str×Addr)} {s:Shared} {M:Model} {E:Value->Shared->Prop} {Q:Env->Shared->Prop} (S:CompScopeC X.env.scope cs X.N N' y)
  (h:Q { compEnvC cs ((y,s.heap.objs.size+1)::cl) s.heap.objs.size X.env with scope:=cs } { s with heap:=(s.heap.push { cls:=.type "dict",data:=.dict #[] }).push { cls:=.type "cell",data:=.cell none } }) :
  wpAny M A (newFunctionEnv cs X.env.globals cl [] X.env.qual none .none (some X.env)) Q E s:=by
 simp only [newFunctionEnv,Option.isSome_some,if_true]
 refine wpAny_bind (wpAny_alloc ?_)
 refine wpAny_bind (wpAny_layCells _ (fun name kind cells=>by cases hkc:kind == NameKind.cell <;> simp [hkc]) _ _ _ _ ?_)
 rw [S.lay.1,S.lay.2,show ({ s with heap:=s.heap.push { cls:=.type "dict",data:=.dict #[] } }:Shared).heap.objs.size=s.heap.objs.size+1 from Heap.size_push ..]
 rw [List.forIn_nil]
 exact wpAny_bind (wpAny_pure (wpAny_pure h))
theorem fp_inC {cl:List (Str×Addr)} {pins:List (Addr×Obj)} {fp:List Addr} {H3 H':Hp} {s3:Shared} (hcl1:∀ x c,cl.lookup x=some c->X.env.cells.lookup x=some c) (stk:∀ b∈frs X.stack,b∈X.env.locals::X.fs)
  (hf3:∀ b∈fp,FpOk X pins H3 b) (hlt:∀ b∈fp,b<s3.heap.objs.size) (hn:∀ b∈fp,H' b=none):∀ b∈fp,FpOk (cxCompC X cs y cl N' fp s3 H3) [] H' b:=fun b hb=>by
 obtain ⟨f0,f1,f2,f3,f4,f5⟩:=hf3 b hb
 refine ⟨hn b hb,Nat.ne_of_lt (hlt b hb),fun hfs=>?_,.inl hb,fun x c e=>?_,fun p hp=>absurd (show p∈([]:List (Addr×Obj)) from hp) (by simp)⟩
 ·have hfs':b∈frs X.stack:=hfs
  rcases List.mem_cons.mp (stk b hfs') with z | z
  ·exact f1 z
  ·exact f2 z
 ·rcases look2 e with ⟨_,a2⟩ | ⟨_,a2⟩
  ·intro z
   rw [a2] at z
   have:=hlt b hb
   rw [<- z] at this
   exact absurd this (Nat.not_lt.mpr (Nat.le_succ _))
  ·exact f4 x c (hcl1 x c a2)
theorem comp_loopC {cl:List (Str×Addr)} {pins:List (Addr×Obj)} {σ:St} {R:Result->Shared->Prop} {Q:Hp->Prop} {s3 s4:Shared} {H3:Hp} {it D:Addr} {fp:List Addr} {tn:Nat->Heap->Prop} {J:It} {W:Nat->Nat->Hp->Prop} {m0:Nat}
  (hc:X.calm=true) (hg:PG (cxCompC X cs y cl N' fp s3 H3) tg g) (hk:GKeep X.N.length g) (ht:PIf (cxCompC X cs y cl N' fp s3 H3) ifs tc) (he:PE (cxCompC X cs y cl N' fp s3 H3) elt te)
  (hcl1:∀ x c,cl.lookup x=some c->X.env.cells.lookup x=some c)
  (I3:Inv X pins σ H3 s3) (I4:Inv (cxCompC X cs y cl N' fp s3 H3) [] (inner N' σ) H3 s4) (T:Turn X.prog X.w X.K tg J fp it tn) (st:tn 0 s4.heap) (hf3:∀ b∈fp,FpOk X pins H3 b) (hlt:∀ b∈fp,b<s3.heap.objs.size)
  (w0:W 0 m0 H3)
  (turn:∀ i m H2,W i m H2->(J.stop i H2/\Q H2)\/(J.go i H2/\∀ x H3,J.yld i H2 x H3->g x (inner N' σ) H3 fun σ4 H4=>tc σ4 H4 fun b H5=>
   if b=true then te σ4 H5 fun y H6=>∃ ys,H6 D=some (.lst ys)/\ys.length<sizeLine/\∃ m',m'<m/\W (i+1) m' (upd H6 D (.lst (ys ++ [y])))
   else ∃ m',m'<m/\W (i+1) m' H5))
  (hR:∀ (H':Hp) (s':Shared),Inv X pins σ H' s'->Q H'->(∃ m,s'.heap.Ns s3.heap.objs.size m)->FpOk X pins H' s3.heap.objs.size->R (.ok .next) s') :
  codeAny (model X.prog X.w) X.A (.compLoop (.ListComp elt [⟨tg,iter,ifs,0⟩] cs pos) 0 (.ref it) (.ref D) (cxCompC X cs y cl N' fp s3 H3).env) R s4:=by
 have fpx:∀ {H':Hp},(∀ b∈fp,H' b=none)->∀ b∈fp,FpOk (cxCompC X cs y cl N' fp s3 H3) [] H' b:=fun hn=>fp_inC hcl1 I3.stkSub hf3 hlt hn
 have lσ:(inner N' σ).length=N'.length:=I4.len
 refine codeAny_loop rfl (fun n s'=>∃ i H',Inv (cxCompC X cs y cl N' fp s3 H3) [] (inner N' σ) H' s'/\tn i s'.heap/\(∀ b∈fp,H' b=none)/\W i n H') (fun n s5 hI=>?_) m0 ⟨0,H3,I4,st,fun b hb=>(hf3 b hb).1,w0⟩
 obtain ⟨i,H5,I5,st5,fr5,w5⟩:=hI
 show wpAny _ _ ((compTurn (.ListComp elt [⟨tg,iter,ifs,0⟩] cs pos) 0 (.ref it) (.ref D) (cxCompC X cs y cl N' fp s3 H3).env).onRaise _) _ _ s5
 refine wpAny_noted ?_
 rw [compTurn_list]
 refine wpAny_bind (wpAny_standAt (wpAny_bind ?_))
 have cvt:∀ {α:Type} {t:Sem α} {P:α->Shared->Prop} {E':Value->Shared->Prop} {s:Shared},wpAny (model X.prog X.w) X.A t P (fun _ _=>False) s->wpAny (model X.prog X.w) X.A t P E' s:=fun h=>wpAny_mono h (fun _ _ q=>q) fun _ _ q=>q.elim
 rcases turn i n H5 w5 with ⟨stop,q⟩ | ⟨go,step⟩
 ·refine thn (T.done (cxCompC X cs y cl N' fp s3 H3) rfl rfl rfl hc i [] s5 _ H5 _ I5 (fpx fr5) st5 stop) fun r s6 ⟨hr,I6⟩=>?_
  subst hr
  refine wpAny_pure ?_
  have J6:Inv X pins σ H5 s6:=I3.call' (H':=H5) (ch:=fp) I6.os I6.base I6.hok I6.bare fun b hb=>by
   obtain ⟨f0,f1,f2,f3,f4,f5⟩:=hf3 b hb
   exact ⟨f3,f1,f4,f5⟩
  obtain ⟨m,hn,_⟩:=I6.loc
  exact hR H5 s6 J6 q ⟨m,hn⟩ (I3.fpOk (Nat.le_refl _) I6.free)
 ·refine thn (T.item (cxCompC X cs y cl N' fp s3 H3) rfl rfl rfl hc i [] s5 _ H5 _ I5 (fpx fr5) st5 go) fun r s6 ⟨u,hr,h6⟩=>?_
  subst hr
  refine wpAny_bind (thn h6 fun _ s7 zz87=>?_)
  obtain ⟨x,H7,I7,r7,y7,st7,fr7⟩:=zz87
  have I7':=I7.pinned (fpx fr7) (T.obj _ _ st7)
  refine wpAny_bind (cvt (thn (hg _ s7 _ H7 x u _ I7' r7 (hk x _ H7 _ (step x H7 y7))) fun _ s8 zz88=>?_))
  obtain ⟨σ8,H8,I8,q8,l8,k8⟩:=zz88
  refine wpAny_bind (cvt (thn (ht _ s8 σ8 H8 _ I8 q8) fun b s9 zz89=>?_))
  obtain ⟨H9,I9,q9⟩:=zz89
  have again:∀ {s':Shared} {H':Hp},Inv (cxCompC X cs y cl N' fp s3 H3) ([]++pinsAt fp s7.heap) σ8 H' s'->(∃ m',m'<n/\W (i+1) m' H') ->
    ∃ m',m'<n/\∃ i H',Inv (cxCompC X cs y cl N' fp s3 H3) [] (inner N' σ) H' s'/\tn i s'.heap/\(∀ b∈fp,H' b=none)/\W i m' H':=fun {s' H'} I' zz90=>by
   obtain ⟨m',hm,w'⟩:=zz90
   refine ⟨m',hm,i+1,H',(I'.unpinned).weak (by rw [l8]) (fun j v e=>?_),T.keep _ _ _ st7 fun b hb o e=>(I'.pin (b,o) (List.mem_append_right _ (List.mem_append_right _ (mem_pinsAt hb e)))).1,fun b hb=>?_,w'⟩
   ·have hj:j<X.N.length:=by rw [<- I3.len]; exact (List.getElem?_eq_some_iff.mp (inner_get e)).1
    rw [k8 j hj]; exact e
   ·obtain ⟨o,e,d⟩:=T.obj _ _ st7 b hb
    exact (I'.pin (b,o) (List.mem_append_right _ (List.mem_append_right _ (mem_pinsAt hb e)))).2.1
  cases b with
  | false=>
   have q9':∃ m',m'<n/\W (i+1) m' H9:=q9
   exact wpAny_pure ⟨rfl,again I9 q9'⟩
  | true=>
   have q9':te σ8 H9 _:=q9
   refine wpAny_bind (wpAny_bind (cvt (thn (he _ s9 σ8 H9 _ I9 q9') fun v s10 zz91=>?_)))
   obtain ⟨y,H10,I10,r10,ys,hD,hy,q10⟩:=zz91
   refine wpAny_bind (cvt (thn (mt_append _ s10 σ8 H10 (.ref D) [y] (.ref D) [v] (fun _ H'=>∃ m',m'<n/\W (i+1) m' H') I10 rfl (.cons r10 .nil) ⟨D,ys,y,rfl,rfl,hD,hy,q10⟩) fun _ s11 zz92=>?_))
   obtain ⟨_,H11,I11,_,q11⟩:=zz92
   exact wpAny_pure (wpAny_pure ⟨rfl,again I11 q11⟩)
theorem comp_coreC {cl:List (Str×Addr)} {pins:List (Addr×Obj)} {σ:St} {R:Value->Addr->Result->Shared->Prop} {Q:V->Hp->Prop} {s2:Shared} {itv:Value} (S:CompScopeC X.env.scope cs X.N N' y) (hc:X.calm=true)
  (hg:∀ cl ex s H,PG (cxCompC X cs y cl N' ex s H) tg g) (hk:GKeep X.N.length g) (ht:∀ cl ex s H,PIf (cxCompC X cs y cl N' ex s H) ifs tc) (he:∀ cl ex s H,PE (cxCompC X cs y cl N' ex s H) elt te)
  (hcl1:∀ x c,cl.lookup x=some c->X.env.cells.lookup x=some c) (hcl2:∀ x,(x,NameKind.free)∈cs.names->∃ c,cl.lookup x=some c)
  (h:PIE X pins σ tg (fun J H1=>∀ D,H1 D=none->CompW J D g tc te (inner N' σ) H1 (Q (.ref D))) itv s2)
  (hR:∀ (D C:Addr) (H':Hp) (s':Shared),Inv X pins σ H' s'->Q (.ref D) H'->(∃ m,s'.heap.Ns C m)->FpOk X pins H' C->R (.ref D) C (.ok .next) s') :
  wpAny (model X.prog X.w) X.A (newList []) (fun acc s₃=>wpAny (model X.prog X.w) X.A (newFunctionEnv cs X.env.globals cl [] X.env.qual none .none (some X.env)) (fun cenv s₄=>
   codeAny (model X.prog X.w) X.A (.compStart (.ListComp elt [⟨tg,iter,ifs,0⟩] cs pos) 0 itv acc { cenv with scope:=relabel cs X.env }) (R acc cenv.locals) s₄) X.xe s₃) X.xe s2:=by
 obtain ⟨it,fp,tn,J,H2,e,I2,T,st2,f2,hw⟩:=h
 subst e
 refine wpAny_newObj_type (wpAny_envC S ?_)
 have hD:=I2.hok.fresh (Nat.le_refl _)
 obtain ⟨W,⟨m0,w0⟩,turn⟩:=hw s2.heap.objs.size hD
 have I3:Inv X pins σ (upd H2 s2.heap.objs.size (.lst [])) { s2 with heap:=s2.heap.push { cls:=.type "list",dict:=none,data:=.seq ([]:List Value).toArray } }:=I2.lnew (t':=s2.toks) .nil (Nat.zero_le _)
 have hfp3:∀ b∈fp,b<s2.heap.objs.size:=fun b hb=>by
  obtain ⟨o,e,_⟩:=T.obj 0 _ st2 b hb
  exact Heap.lt_size e
 have hf3:∀ b∈fp,FpOk X pins (upd H2 s2.heap.objs.size (.lst [])) b:=fun b hb=>by
  obtain ⟨f0,r⟩:=f2 b hb
  exact ⟨by rw [upd_ne (Nat.ne_of_lt (hfp3 b hb))]; exact f0,r⟩
 have hlt:∀ b∈fp,b<(s2.heap.push { cls:=.type "list",dict:=none,data:=.seq ([]:List Value).toArray }).objs.size:=fun b hb=>by rw [Heap.size_push]; exact Nat.lt_succ_of_lt (hfp3 b hb)
 have kp:∀ b o,(s2.heap.push { cls:=.type "list",dict:=none,data:=.seq ([]:List Value).toArray }).get? b=some o->(((s2.heap.push { cls:=.type "list",dict:=none,data:=.seq ([]:List Value).toArray }).push { cls:=.type "dict",data:=.dict #[] }).push { cls:=.type "cell",data:=.cell none }).get? b=some o:=fun b o e=>Heap.get?_push_of_some _ (Heap.get?_push_of_some _ e)
 have I4:=comp_invC (cs:=cs) (cl:=cl) (N':=N') (fp:=fp) (s4:={ s2 with heap:=((s2.heap.push { cls:=.type "list",dict:=none,data:=.seq ([]:List Value).toArray }).push { cls:=.type "dict",data:=.dict #[] }).push { cls:=.type "cell",data:=.cell none } }) S I3 hcl1 hcl2 hf3 hlt kp ((Heap.Ns.new _ (.type "dict")).keeps fun b o e=>Heap.get?_push_of_some _ e) ⟨_,by rw [<- Heap.size_push]; exact Heap.get?_push_size _ rfl,rfl⟩ rfl rfl
 have st4:tn 0 (((s2.heap.push { cls:=.type "list",dict:=none,data:=.seq ([]:List Value).toArray }).push { cls:=.type "dict",data:=.dict #[] }).push { cls:=.type "cell",data:=.cell none }):=T.keep 0 _ _ st2 fun b hb o e=>kp b o (Heap.get?_push_of_some _ e)
 have loop:=comp_loopC (R:=R (.ref s2.heap.objs.size) (s2.heap.push { cls:=.type "list",dict:=none,data:=.seq ([]:List Value).toArray }).objs.size) (D:=s2.heap.objs.size) (iter:=iter) (pos:=pos) (it:=it) (Q:=Q (.ref s2.heap.objs.size)) hc (hg cl fp _ _) hk (ht cl fp _ _) (he cl fp _ _) hcl1 I3 I4 T st4 hf3 hlt w0 turn fun H' s' I' q n f=>hR _ _ H' s' I' q n f
 exact codeAny_compStart_list loop (T.self _ 0 _ _ _ st4 loop)
theorem pe_compC (S:CompScopeC X.env.scope cs X.N N' y) (hc:X.calm=true) (hi:PI X tg iter wi)
  (hg:∀ cl ex s H,PG (cxCompC X cs y cl N' ex s H) tg g) (hk:GKeep X.N.length g) (ht:∀ cl ex s H,PIf (cxCompC X cs y cl N' ex s H) ifs tc) (he:∀ cl ex s H,PE (cxCompC X cs y cl N' ex s H) elt te)
  (hs:∀ x,foldedSetIterable iter X.env x=pure x:=by intro _; rfl):PE X (.ListComp elt [⟨tg,iter,ifs,0⟩] cs pos) (tComp N' wi g tc te):=by
 intro pins s σ H Q I h
 obtain ⟨cl,e,h1,h2,_⟩:=closure_of (env:=X.env) cs.names [] (fun x hx hk=>I.ok.has x.1 (S.free x hx hk)) (fun _ _ z=>nomatch z)
 have hclos:closureFor cs X.env=pure cl:=by
  simp only [closureFor]
  rw [e]; rfl
 rw [eval_ListComp]
 refine wpAny_comprehension_free (use:=none) rfl hs hclos S.kind S.loc (thn (hi pins s σ H _ I h) fun v s1 q1=>thn q1 fun itv s2 q2=>?_)
 refine comp_coreC (R:=fun acc C=>compPost (model X.prog X.w) X.A X.xe none (EP X pins σ Q) acc C) (Q:=Q) S hc hg hk ht he h1 h2 q2 fun D C H' s' I' q n f=>?_
 obtain ⟨m,hn⟩:=n
 obtain ⟨f0,f1,f2,f3,f4,f5⟩:=f
 exact ⟨m,hn,fun h' sb=>⟨.ref D,H',I'.turned (t':=s'.toks) (fun b o hb e=>sb.extBut b o hb e) f0 f1 f3 f4 f5,rfl,q⟩⟩
end
end L2
namespace TP
open PySem L2
section
variable {X:Cx} {K:Frag} {EX:EXT} {pos:Pos} {ma:Rho->R W} {ta:Rho->R Bool}
theorem q_compC {cs:Scope} {N':List Str} {y:Str} {tg iter elt:Expr} {ifs:List Expr} {dd:Mode} {g:TG} {mg:W->Rho->Option Rho} {mi:Rho->R (List W)} (S:CompScopeC X.env.scope cs X.N N' y) (hc:X.calm=true) (hi:PI X tg iter (tIt K EX false dd mi))
  (hg:∀ cl ex s H,PG (cxCompC X cs y cl N' ex s H) tg g) (hgt:Gt K dd g mg) (hk:GKeep X.N.length g) (ht:∀ cl ex s H,PIf (cxCompC X cs y cl N' ex s H) ifs (tT K EX ta)) (he:∀ cl ex s H,PE (cxCompC X cs y cl N' ex s H) elt (tM K EX .V ma))
  (hs:∀ x,foldedSetIterable iter X.env x=pure x:=by intro _; rfl):PE X (.ListComp elt [⟨tg,iter,ifs,0⟩] cs pos) (tM K EX .F (vComp N'.length mi mg ta ma)):=
 (pe_compC S hc hi hg hk ht he hs).mono fun _ _ _ q=>c_comp hgt q
end
end TP
namespace TP
open PySem L2
theorem compNestC {X:Cx} {cs sc2:Scope} {y:Str} {cl:List (Str×Addr)} {N' N2:List Str} {ex:List Addr} {s:Shared} {H:Hp} (h:CompScope cs sc2 N' N2):CompScope (cxCompC X cs y cl N' ex s H).env.scope sc2 (cxCompC X cs y cl N' ex s H).N N2:=
 ⟨h.kind,h.ncell,h.loc,fun x hx e=>look_map (fun n k=>k == NameKind.free&&X.env.scope.kind == .function&&X.env.kindOf n == some .cell) (fun n k q=>by
  simp only [Bool.and_eq_true,beq_iff_eq] at q
  exact q.1.1) x.1 cs.names (h.free x hx e),h.nd,h.len,h.same,h.out⟩
end TP
namespace L2
open PySem PySem.Spec PyProof.Rows
section
variable {X:Cx} {cs:Scope} {N':List Str} {yc:Str} {tg iter elt:Expr} {ifs:List Expr} {wi:TI} {g:TG} {tc:TT} {te:TE} {pos:Pos}
theorem ps_setcC {i:Nat} {y:Str} {py spos:Pos} (S:CompScopeC X.env.scope cs X.N N' yc) (hc:X.calm=true) (hi:PI X tg iter wi)
  (hg:∀ cl ex s H,PG (cxCompC X cs yc cl N' ex s H) tg g) (hk:GKeep X.N.length g) (ht:∀ cl ex s H,PIf (cxCompC X cs yc cl N' ex s H) ifs tc) (he:∀ cl ex s H,PE (cxCompC X cs yc cl N' ex s H) elt te)
  (hN:X.N.Nodup) (hy:X.N[i]?=some y) (hl:Loc X.env.scope y)
  (hsw:swapsWith (.ListComp elt [⟨tg,iter,ifs,0⟩] cs pos) (some (.Name y py)) spos.line X.env=pure true:=by rfl) (hf:X.fn y=true\/X.env.scope.names.lookup y=some .local:=by first | exact .inl rfl | exact .inr rfl | assumption)
  (hs:∀ x,foldedSetIterable iter X.env x=pure x:=by intro _; rfl):PS X (.Assign [.Name y py] (.ListComp elt [⟨tg,iter,ifs,0⟩] cs pos) spos) (tAsg (tComp N' wi g tc te) (gName i)):=by
 intro pins s σ H Q I h
 obtain ⟨cl,e,h1,h2,_⟩:=closure_of (env:=X.env) cs.names [] (fun x hx hk=>I.ok.has x.1 (S.free x hx hk)) (fun _ _ z=>nomatch z)
 have hclos:closureFor cs X.env=pure cl:=by
  simp only [closureFor]
  rw [e]; rfl
 rw [exec_Assign_Name_used _ _ _ _ hsw]
 refine wpAny_bind (wpAny_standAt (wpAny_bind ?_))
 show wpAny _ _ (comprehension (.ListComp elt [⟨tg,iter,ifs,0⟩] cs pos) cs X.env _ (newList []) false (eval iter X.env) (some (assign (.Name y py) X.env))>>=_) _ _ s
 refine wpAny_bind (thn (wpAny_comprehension_free (use:=some (assign (.Name y py) X.env)) (Q:=fun _ s'=>SP X pins Q .next s') rfl hs hclos S.kind S.loc (thn (hi pins s σ H _ I h) fun v s1 q1=>thn q1 fun itv s2 q2=>?_)) fun _ s' q=>wpAny_pure (wpAny_pure q))
 refine comp_coreC (R:=fun acc C=>compPost (model X.prog X.w) X.A X.xe (some (assign (.Name y py) X.env)) (fun _ s'=>SP X pins Q .next s') acc C) (Q:=fun x H1=>gName i x σ H1 Q.nx) S hc hg hk ht he h1 h2 q2 fun D C H' s' I' q n f=>?_
 obtain ⟨m,hn⟩:=n
 obtain ⟨f0,f1,f2,f3,f4,f5⟩:=f
 show wpAny _ _ (assign (.Name y py) X.env (.ref D)) _ _ _
 refine wpAny_assign_Name (store_ok2 (v:=.ref D) (u:=.ref D) I' hN hy hl rfl (fun s'' I'' zz93=>?_) hf)
 obtain ⟨a,sb,ha⟩:=zz93
 have hCa:C≠a:=by
  rcases ha with rfl | ha
  ·exact f1
  ·exact fun q=>f4 _ _ ha q.symm
 refine ⟨m,hn.sameBut sb hCa,fun h' sb'=>?_⟩
 exact ⟨_,H',I''.turned (t':=s''.toks) (fun b o hb e=>sb'.extBut b o hb e) f0 f1 f3 f4 f5,q⟩
end
end L2
namespace TP
open PySem L2
section
variable {X:Cx} {K:Frag} {EX:EXT} {d:Mode} {pos:Pos} {ma:Rho->R W} {ta:Rho->R Bool}
theorem q_setcC {i:Nat} {y:Str} {py:Pos} {cs:Scope} {N':List Str} {yc:Str} {tg iter elt:Expr} {ifs:List Expr} {dd:Mode} {g:TG} {mg:W->Rho->Option Rho} {mi:Rho->R (List W)} {cpos:Pos} (S:CompScopeC X.env.scope cs X.N N' yc) (hc:X.calm=true) (hi:PI X tg iter (tIt K EX false dd mi))
  (hg:∀ cl ex s H,PG (cxCompC X cs yc cl N' ex s H) tg g) (hgt:Gt K dd g mg) (hk:GKeep X.N.length g) (ht:∀ cl ex s H,PIf (cxCompC X cs yc cl N' ex s H) ifs (tT K EX ta)) (he:∀ cl ex s H,PE (cxCompC X cs yc cl N' ex s H) elt (tM K EX .V ma))
  (hN:X.N.Nodup) (hy:X.N[i]?=some y) (hl:Loc X.env.scope y)
  (hsw:swapsWith (.ListComp elt [⟨tg,iter,ifs,0⟩] cs cpos) (some (.Name y py)) pos.line X.env=pure true:=by rfl) (hf:X.fn y=true\/X.env.scope.names.lookup y=some .local:=by first | exact .inl rfl | exact .inr rfl | assumption)
  (hs:∀ x,foldedSetIterable iter X.env x=pure x:=by intro _; rfl):PS X (.Assign [.Name y py] (.ListComp elt [⟨tg,iter,ifs,0⟩] cs cpos) pos) (tSt K EX d (sF i (vComp N'.length mi mg ta ma))):=
 (ps_setcC S hc hi hg hk ht he hN hy hl hsw hf hs).mono fun D σ H q=>by
  have:=c_setF (m:=vComp N'.length mi mg ta ma) q
  exact c_comp hgt this
end
end TP
namespace L2
open PySem PySem.Spec PyProof.Rows
abbrev lamA (pa:Pos):Arguments:={ posonlyargs:=[],args:=[{ arg := "one",annotation:=none,pos:=pa }],vararg:=none,kwonlyargs:=[],kw_defaults:=[],kwarg:=none,defaults:=[] }
abbrev lamS:Scope:={ kind:=.function,names:=[("one",.local),("held",.free)],isGenerator:=false,isCoroutine:=false }
abbrev lamB (p1 p2 p3:Pos):Expr:=.Subscript (.Name "held" p1) (.Name "one" p2) p3
def Kp (h h':Heap):Prop:=∀ b o,h.get? b=some o->h'.get? b=some o
section
variable {prog:Program} {w:World} {A:Around} {E:Value->Shared->Prop} {s:Shared}
def KeyEnd (s:Shared) (k:Int) (v:Value) (s':Shared):Prop:=∃ h' tk t,v=.int k t/\s'={ s with heap:=h',toks:=tk }/\Kp s.heap h'
theorem call_lam {f c' c b:Addr} {qual:Str} {pa p1 p2 p3:Pos} {pm ctv:Value} {cl:List (Str×Addr)} {its:Array Value} {i k:Int} {t t':Tok}
  (hroom:A.depth<recursionLimit) (ho:s.heap.get? f=some (PySem.W.kla_obj "<lambda>" qual (lamA pa) (lamB p1 p2 p3) lamS cl pm c' ctv)) (hcd:s.heap.CodeRec (.ref c') qual) (lim:s.heap.NoLimit)
  (hcl:cl.lookup (Str.ofString "held")=some c) (hc:s.heap.IsCell c (some (.ref b))) (hl:s.heap.IsList b its) (h0:0<=i) (hfit:i<2^63) (hx:its[i.toNat]?=some (.int k t')) :
  wpAny (model prog w) A (call (.ref f) [.int i t]) (KeyEnd s k) (fun _ _=>False) s:=by
 refine wpAny_call (PySem.W.kla_callFunE hroom ho rfl rfl rfl rfl hcd ?_)
 rw [show bindArgs (PySem.W.kla_fn "<lambda>" qual (lamA pa) (lamB p1 p2 p3) lamS cl pm (.ref c') ctv) ⟨[Value.int i t],[]⟩=(pure [(Str.ofString "one",Value.int i t)]:Sem (List (Str×Value))) from rfl]
 refine wpAny_pure (wpAny_newFunctionEnv (show ∀ x∈lamS.names,x.2≠.cell by decide) (fun x hx=>?_) (fun h1 hns hsb=>⟨lim.fresh _ hsb,?_⟩) rfl)
 ·have e:x=(Str.ofString "one",Value.int i t):=by simpa using hx
  rw [e]; rfl
 have hk:Kp s.heap h1:=fun b o e=>hsb.extBut b o (Nat.ne_of_lt (Heap.lt_size e)) (Heap.get?_push_of_some _ e)
 show codeAny _ _ (.expr (lamB p1 p2 p3) (PySem.W.envX qual lamS s.heap.objs.size f (.ref c') cl)) _ _
 refine PySem.W.kla_codeExpr (Subscript_ (wpAny_Name (wpAny_loadName_free rfl rfl hcl (hc.keeps hk) (wpAny_Name (wpAny_loadName_local rfl rfl hns rfl (item_listR (let ⟨o,e,q⟩:=hl; ⟨o,hk _ _ e,q⟩) h0 hfit hx ?_))))))
 exact ⟨h1,_,t',rfl,rfl,hk⟩
theorem minD_args (a v:Value):argsOk "min" ⟨[a],[(Str.ofString "key",v),(Str.ofString "default",.none)]⟩:=by unfold argsOk; kernel_rfl
structure Best (vs:List Value) (kf:Nat->Int) (j i:Nat) (v:Value):Prop where
 at_:vs[i]?=some v
 lt:i<j
 least:∀ n,n<j->kf i<=kf n/\(n<i->kf i<kf n)
def KpB (S I:Addr) (g h:Heap):Prop:=∀ b o,b≠S->b≠I->g.get? b=some o->h.get? b=some o
abbrev minArgs (I f S:Addr):Args:=⟨[.ref I,.ref f,.ref S],[(Str.ofString "default",.none)]⟩
section
variable {vs:List Value} {kf:Nat->Int} {l f I S:Addr} {R:Result->Shared->Prop}
theorem min_go (hh:A.handled=none) (hl:s.heap.IsList l vs.toArray) (hlI:l≠I) (hlS:l≠S) (hSI:S≠I)
  (turn:∀ i v,vs[i]?=some v->∀ (h:Heap) (tk:Nat),KpB S I s.heap h->wpAny (model prog w) A.in1 (call (.ref f) [v]) (KeyEnd { s with heap:=h,toks:=tk } (kf i)) (fun _ _=>False) { s with heap:=h,toks:=tk })
  (hR:∀ v h tk,KpB S I s.heap h->((vs = []/\v=.none)\/∃ i,Best vs kf vs.length i v)->R (.ok (.ret v)) { s with heap:=h,toks:=tk }) :
  ∀ (r j:Nat) (h:Heap) (tk:Nat) (its:Array Value) (c:Nat),vs.length-j=r->j<=vs.length->KpB S I s.heap h->h.get? S=some (seqObj "list" its c)->h.IsListIter I l j ->
   ((j=0/\its=#[])\/∃ i vb tb,its=#[vb,.int (kf i) tb]/\Best vs kf j i vb) ->
   codeAny (model prog w) A (.builtin "min.loop" (minArgs I f S)) R { s with heap:=h,toks:=tk }:=by
 have nm:(toString "min" ++ toString ".loop" : String) = "min.loop" := by decide
 have Wk:=Walks.list (prog:=prog) (w:=w) (A:=A.in1) hh I l hlI vs.toArray
 have sz:vs.toArray.size=vs.length:=List.size_toArray ..
 intro r
 induction r with
 | zero=>
  intro j h tk its c hr hj kp gS gI st
  have ej:j=vs.length:=by omega
  have gl:h.IsList l vs.toArray:=by
   obtain ⟨o,e,q⟩:=hl
   exact ⟨o,kp l o hlS hlI e,q⟩
  refine codeAny_builtin PySem.F.entry_min_loop ?_
  rw [Around.under_plainId PySem.F.plain_min_loop _]
  show wpAny _ A.in1 (seqItems? (.ref S)>>=_) _ _ _
  refine wpAny_bind (wpAny_seqItems gS rfl ?_)
  show wpAny _ A.in1 (tryCatch (pyNext (.ref I)) _>>=_) _ _ _
  refine wpAny_bind (wpAny_tryCatch (Wk.done _ _ _ ⟨by rw [sz,<- ej]; exact gI,gl⟩ fun h' tk' k'=>?_))
  have kp':KpB S I s.heap h':=fun b o n1 n2 e=>k' b o (by simpa using n2) (kp b o n1 n2 e)
  have gS':=k' S _ (by simpa using hSI) gS
  rcases st with ⟨e0,e1⟩ | ⟨i,vb,tb,e1,bst⟩
  ·subst e1
   refine wpAny_bind (wpAny_rule (wpAny_pure ?_))
   exact hR _ _ _ kp' (.inl ⟨List.eq_nil_of_length_eq_zero (by omega),rfl⟩)
  ·subst e1
   have s1:=Heap.SameBut.update h' S (Obj.mapSeq fun _=>(#[]:Array Value))
   show wpAny _ A.in1 (updateSeq S (fun _=>#[])>>=_) _ _ _
   refine wpAny_bind (wpAny_updateSeq gS' rfl (wpAny_bind (wpAny_letGo (wpAny_pure ?_))))
   exact hR _ _ _ (fun b o n1 n2 e=>(s1.2 b n1).trans (kp' b o n1 n2 e)) (.inr ⟨i,by rw [<- ej]; exact bst⟩)
 | succ r ih=>
  intro j h tk its c hr hj kp gS gI st
  have lt:j<vs.length:=by omega
  have gl:h.IsList l vs.toArray:=by
   obtain ⟨o,e,q⟩:=hl
   exact ⟨o,kp l o hlS hlI e,q⟩
  refine codeAny_builtin PySem.F.entry_min_loop ?_
  rw [Around.under_plainId PySem.F.plain_min_loop _]
  show wpAny _ A.in1 (seqItems? (.ref S)>>=_) _ _ _
  refine wpAny_bind (wpAny_seqItems gS rfl ?_)
  show wpAny _ A.in1 (tryCatch (pyNext (.ref I)) _>>=_) _ _ _
  refine wpAny_bind (wpAny_tryCatch (Wk.item j _ _ _ (by rw [sz]; exact lt) ⟨gI,gl⟩ fun v h' tk' hP st' k'=>?_))
  have hv:vs[j]?=some v:=by simpa using hP
  have kp':KpB S I s.heap h':=fun b o n1 n2 e=>k' b o (by simpa using n2) (kp b o n1 n2 e)
  have gS':=k' S _ (by simpa using hSI) gS
  have gI':=st'.1
  show wpAny _ A.in1 (tryCatch (holding [v] (call (.ref f) [v])) _>>=_) _ _ _
  refine wpAny_bind (wpAny_tryCatch (wpAny_holding (wpAny_mono (turn j v hv h' tk' kp') (fun x s2 q2=>?_) fun _ _ q=>q.elim)))
  obtain ⟨h2,tk2,t2,rfl,rfl,k2⟩:=q2
  have kp2:KpB S I s.heap h2:=fun b o n1 n2 e=>k2 b o (kp' b o n1 n2 e)
  have gS2:=k2 S _ gS'
  have gI2:h2.IsListIter I l (j+1):=by
   obtain ⟨o,e,q⟩:=gI'
   exact ⟨o,k2 _ _ e,q⟩
  -- the new one is put
  have put:∀ (h3:Heap) (tk3:Nat),h3=h2.update S (Obj.mapSeq fun _=>#[v,.int (kf j) t2])->Best vs kf (j+1) j v->codeAny (model prog w) A (.builtin "min.loop" (minArgs I f S)) R { s with heap:=h3,toks:=tk3 }:=fun h3 tk3 e3 bst=>by
   subst e3
   have s1:=Heap.SameBut.update h2 S (Obj.mapSeq fun _=>#[v,.int (kf j) t2])
   obtain ⟨c2,hc2⟩:∃ c2,(h2.update S (Obj.mapSeq fun _=>#[v,.int (kf j) t2])).get? S=some (seqObj "list" #[v,.int (kf j) t2] c2):=⟨_,get?_update_seq gS2 fun _=>#[v,.int (kf j) t2]⟩
   refine ih (j+1) _ tk3 _ c2 (by omega) (by omega) (fun b o n1 n2 e=>(s1.2 b n1).trans (kp2 b o n1 n2 e)) hc2 ?_ (.inr ⟨j,v,t2,rfl,bst⟩)
   obtain ⟨o,e,q⟩:=gI2
   exact ⟨o,(s1.2 I hSI.symm).trans e,q⟩
  rcases st with ⟨e0,e1⟩ | ⟨i,vb,tb,e1,bst⟩
  ·subst e1 e0
   show wpAny _ A.in1 (updateSeq S (fun _=>#[v,.int (kf 0) t2])>>=_) _ _ _
   refine wpAny_bind (wpAny_updateSeq gS2 rfl ?_)
   rw [nm]
   exact wpAny_pure ⟨plainId_quiet PySem.F.plain_min_loop _,put _ _ rfl ⟨hv,Nat.lt_succ_self _,fun n hn=>by
    have:n=0:=by omega
    subst this
    exact ⟨Int.le_refl _,fun q=>absurd q (Nat.lt_irrefl _)⟩⟩⟩
  ·subst e1
   show wpAny _ A.in1 (tryCatch (holding [v,.int (kf j) t2] (richCompare .Lt (.int (kf j) t2) (.int (kf i) tb)>>=_)) _>>=_) _ _ _
   refine wpAny_bind (wpAny_tryCatch (wpAny_holding (wpAny_bind (CmpOf.ints_lt (prog:=prog) (w:=w) (A:=A.in1) (P:=fun i v=>∃ t,v=.int (kf i) t) kf (fun _ _ q=>q) j i _ _ _ _ _ ⟨t2,rfl⟩ ⟨tb,rfl⟩ ?_))))
   refine wpAny_bind (wpAny_holding (wpAny_truthy_bool ?_))
   refine wpAny_bind (wpAny_letGo (wpAny_pure ?_))
   by_cases lt2:kf j<kf i
   ·simp only [lt2,decide_true,if_true]
    refine wpAny_bind (wpAny_updateSeq gS2 rfl (wpAny_bind (wpAny_letGo ?_)))
    rw [nm]
    exact wpAny_pure ⟨plainId_quiet PySem.F.plain_min_loop _,put _ _ rfl ⟨hv,Nat.lt_succ_self _,fun n hn=>by
     by_cases e:n=j
     ·subst e; exact ⟨Int.le_refl _,fun q=>absurd q (Nat.lt_irrefl _)⟩
     ·have b1:=bst.least n (by omega)
      exact ⟨by have:=b1.1; omega,fun _=>by have:=b1.1; omega⟩⟩⟩
   ·simp only [lt2,decide_false,Bool.false_eq_true,if_false]
    refine wpAny_bind (wpAny_letGo ?_)
    rw [nm]
    refine wpAny_pure ⟨plainId_quiet PySem.F.plain_min_loop _,ih (j+1) _ _ _ c (by omega) (by omega) kp2 gS2 gI2 (.inr ⟨i,vb,tb,rfl,bst.at_,by have:=bst.lt; omega,fun n hn=>?_⟩)⟩
    by_cases e:n=j
    ·subst e
     exact ⟨by omega,fun q=>absurd q (by have:=bst.lt; omega)⟩
    ·exact bst.least n (by omega)
theorem min_call {Q:Value->Shared->Prop} (hh:A.handled=none) (hl:s.heap.IsList l vs.toArray)
  (turn:∀ i v,vs[i]?=some v->∀ (h:Heap) (tk:Nat),Kp s.heap h->wpAny (model prog w) A.in1 (call (.ref f) [v]) (KeyEnd { s with heap:=h,toks:=tk } (kf i)) (fun _ _=>False) { s with heap:=h,toks:=tk })
  (hQ:∀ v h tk,Kp s.heap h->((vs = []/\v=.none)\/∃ i,Best vs kf vs.length i v)->Q v { s with heap:=h,toks:=tk }) :
  wpAny (model prog w) A (call (.builtin "min") [.ref l] [(Str.ofString "key",.ref f),(Str.ofString "default",.none)]) Q E s:=by
 have nm:(toString "min" ++ toString ".loop" : String) = "min.loop" := by decide
 obtain ⟨ol,hol,_⟩:=id hl
 have hll:l<s.heap.objs.size:=Heap.lt_size hol
 refine kmk_tree PySem.F.kind_min PySem.F.plain_min PySem.F.entry_min (minD_args _ _) ?_
 show wpAny _ A.in1 (Builtin.Builtins.bindParams "min" ["key", "default"] 0 ⟨[],[(Str.ofString "key",.ref f),(Str.ofString "default",.none)]⟩>>=_) _ _ s
 refine wpAny_bind (wpAny_of_eq (show Builtin.Builtins.bindParams "min" ["key", "default"] 0 ⟨[],[(Str.ofString "key",.ref f),(Str.ofString "default",.none)]⟩=pure [some (.ref f),some .none] from rfl) ?_)
 refine wpAny_bind (wpAny_pure (wpAny_bind (wpAny_pyIter_list hl (wpAny_bind (wpAny_newList ?_ (Nat.zero_le _))))))
 rw [nm]
 have zI:(s.heap.push { cls:=.type "list_iterator",data:=.fields #[.ref l,.int 0 0] }).objs.size=s.heap.objs.size+1:=Heap.size_push ..
 have kp:∀ h,KpB (s.heap.push { cls:=.type "list_iterator",data:=.fields #[.ref l,.int 0 0] }).objs.size s.heap.objs.size s.heap h->Kp s.heap h:=fun h q b o e=>q b o (by rw [zI]; exact Nat.ne_of_lt (Nat.lt_succ_of_lt (Heap.lt_size e))) (Nat.ne_of_lt (Heap.lt_size e)) e
 refine wpAny_pure ⟨plainId_quiet PySem.F.plain_min_loop _,min_go (vs:=vs) (kf:=kf) (l:=l) hh hl (Nat.ne_of_lt hll) (by rw [zI]; exact Nat.ne_of_lt (Nat.lt_succ_of_lt hll)) (by rw [zI]; exact Nat.ne_of_gt (Nat.lt_succ_self _))
  (fun i v e h tk q=>turn i v e h tk (kp h q)) (fun v h tk q d=>hQ v h tk (kp h q) d) _ 0 _ _ #[] 0 rfl (Nat.zero_le _) (fun b o _ _ e=>Heap.get?_push_of_some _ (Heap.get?_push_of_some _ e)) (Heap.get?_push_size _ rfl) ⟨_,Heap.get?_push_of_some _ (Heap.get?_push_size _ rfl),rfl,rfl⟩ (.inl ⟨rfl,rfl⟩)⟩
end
end
section
variable {X:Cx} {pins:List (Addr×Obj)} {σ:St} {H:Hp} {s:Shared} {tb c:Addr} {k:Nat×Nat×Str} {pa p1 p2 p3 lpos:Pos}
theorem lam_eval {Q:Value->Shared->Prop} (I:Inv X pins σ H s) (hT:(tb,k)∈lamT) (hC:PySem.W.codeHdIn X.K c tb=true) (hcode:X.env.code=.ref c) (hq:X.env.qual++Str.ofString "<lambda>" = k.2.2) (hl1:lpos.line=k.1) (hl2:lpos.col=k.2.1)
  (hz:X.env.scope.names.lookup (Str.ofString "held")=some .cell)
  (h:∀ (f c':Addr) (cl:List (Str×Addr)) (pm ctv:Value) (H':Hp) (s':Shared),Inv X pins σ H' s'->(∀ a o,H a=some o->H' a=some o)->s'.heap.get? f=some (PySem.W.kla_obj (Str.ofString "<lambda>") (X.env.qual++Str.ofString "<lambda>") (lamA pa) (lamB p1 p2 p3) lamS cl pm c' ctv) ->
   s'.heap.CodeRec (.ref c') (X.env.qual++Str.ofString "<lambda>")->(∀ x d,cl.lookup x=some d->X.env.cells.lookup x=some d)->(∃ d,cl.lookup (Str.ofString "held")=some d)->Q (.ref f) s') :
  wpAny (model X.prog X.w) X.A (eval (.Lambda (lamA pa) (lamB p1 p2 p3) lamS lpos) X.env) Q X.xe s:=by
 have tbH:=I.tab _ hT
 obtain ⟨ps,gP,st⟩:=I.hok _ _ tbH
 have gP:s.heap.get? tb=some (PySem.W.tabObj ps):=gP
 have C:PySem.W.CodeHd s.heap c tb:=PySem.W.codeHd_of_K I.kIn hC
 have hns:s.heap.Ns mainGlobals X.mg:=I.mod.glob.keeps I.bk
 obtain ⟨bm,ob,b1,b2,b3,b4,b5,b6⟩:=I.mod.bmain
 have b3:=I.bk _ _ b3
 have hgP:mainGlobals≠tb:=fun q=>by
  obtain ⟨o,es,ep,e,d,_⟩:=hns
  rw [q,gP] at e; cases e; cases d
 have hbP:bm≠tb:=fun q=>by rw [q,gP] at b3; cases b3; cases b4
 have hbG:bm≠mainGlobals:=fun q=>by
  obtain ⟨o,es,ep,e,d,_⟩:=hns
  rw [q,e] at b3; cases b3; rw [d] at b6; cases b6
 have hB:s.heap.BuiltinsAt X.mg tb:=⟨bm,ob,b1,b2,hbG,hbP,b3,b4,b5,b6⟩
 obtain ⟨cl,e,h1,h2,_⟩:=closure_of (env:=X.env) lamS.names [] (fun x hx hk=>by
  rcases List.mem_cons.mp hx with rfl | hx
  ·cases hk
  ·rw [List.mem_singleton.mp hx]
   exact I.ok.has _ (.inl hz)) (fun _ _ z=>nomatch z)
 have hclos:closureFor lamS X.env=pure cl:=by
  simp only [closureFor]
  rw [e]; rfl
 have hheld:∃ d,cl.lookup (Str.ofString "held")=some d:=h2 _ (List.mem_cons_of_mem _ List.mem_cons_self)
 have tb0:tb<s.heap.objs.size:=Heap.lt_size gP
 refine PySem.W.kla_eval rfl ?_
 rcases st with e0 | ⟨c',oc,e0,hown,hne,goc,lc⟩
 ·subst e0
  refine PySem.W.kla_makeFunction hclos I.ok.glob hns hcode C gP trivial rfl hgP hB fun c' ctv h' tk hx hge hlt hrec htb=>?_
  obtain ⟨c2,oc,vs,t,e2,hoc,hd,hv⟩:=id hrec
  cases e2
  have hnc:H c'=none:=I.hok.fresh hge
  have kp:∀ b o,b≠tb->s.heap.get? b=some o->(h'.push (PySem.W.kla_obj (Str.ofString "<lambda>") (X.env.qual++Str.ofString "<lambda>") (lamA pa) (lamB p1 p2 p3) lamS cl ((X.mg "__name__").getD .none) c' ctv)).get? b=some o:=fun b o n e=>Heap.get?_push_of_some _ (hx b o n e)
  have same:∀ a o,H a=some o->upd H c' (.own tb) a=some o:=fun a o e=>by rw [upd_ne (ne_of_none e hnc)]; exact e
  have ntb:∀ b,H b=none->b≠tb:=fun b n z=>by rw [z,tbH] at n; cases n
  have I':Inv X pins σ (upd H c' (.own tb)) { s with heap:=h'.push (PySem.W.kla_obj (Str.ofString "<lambda>") (X.env.qual++Str.ofString "<lambda>") (lamA pa) (lamB p1 p2 p3) lamS cl ((X.mg "__name__").getD .none) c' ctv),toks:=tk }:=by
   refine I.un ⟨fun b o e n _ _=>kp b o (ntb b n) e,fun b o e n _ _=>⟨o.slots,kp b o (ntb b n) e⟩,fun b o e n _=>?_,fun b o e _=>?_,fun b xs q=>same _ _ q,fun b o u q=>same _ _ q,fun b y q=>same _ _ q⟩ fun b u q=>?_
   ·rw [upd_ne (Nat.ne_of_lt (Nat.lt_of_lt_of_le (Heap.lt_size e) hge))]; exact n
   ·by_cases z:b=tb
    ·rw [z]; exact ⟨_,Heap.get?_push_of_some _ htb⟩
    ·exact ⟨o,kp b o z e⟩
   ·by_cases z:b=c'
    ·subst z
     rw [upd_same] at q; cases q
     exact ⟨oc,Heap.get?_push_of_some _ hoc⟩
    ·rw [upd_ne z] at q
     by_cases y:b=tb
     ·subst y
      rw [tbH] at q; cases q
      refine ⟨_,Heap.get?_push_of_some _ htb,.inr ⟨c',oc,?_,upd_same,Nat.ne_of_gt (Nat.lt_of_lt_of_le tb0 hge),Heap.get?_push_of_some _ hoc,vs,t,hd,by rw [<- hq]; exact hv⟩⟩
      rw [hl1,hl2]; simp
     ·refine (I.hok b u q).stay (fun d v hd' e'=>kp d v ?_ e') (fun d q'=>same _ _ q') fun d xs q'=>same _ _ q'
      rcases hd' with rfl | hd'
      ·exact y
      ·rintro rfl; rw [tbH] at hd'; cases hd'
  exact h _ c' cl _ ctv _ _ I' same (Heap.get?_push_size _ rfl) (hrec.push _) h1 hheld
 ·subst e0
  refine PySem.W.kla_makeFunctionHit hclos I.ok.glob hns hcode C gP ?_ (cv:=.ref c') ?_ hB fun ctv h' tk hk hsz=>?_
  ·exact trivial
  ·rw [<- hl1,<- hl2]
   exact codeAmong_snoc [] trivial rfl
  ·have kp:Kp s.heap (h'.push { cls:=.type "function",data:=.func (PySem.W.kla_fn (Str.ofString "<lambda>") (X.env.qual++Str.ofString "<lambda>") (lamA pa) (lamB p1 p2 p3) lamS cl ((X.mg "__name__").getD .none) (.ref c') ctv) }):=fun b o e=>Heap.get?_push_of_some _ (hk b o e)
   refine h _ c' cl _ ctv H _ (I.un (Un.kept kp) (I.hok.kept kp)) (fun _ _ e=>e) (Heap.get?_push_size _ rfl) ?_ h1 hheld
   obtain ⟨vs,t,d1,d2⟩:=lc
   exact ⟨c',oc,vs,t,rfl,kp _ _ goc,d1,by rw [hq]; exact d2⟩
end
def minI (key:Int->Int) (is:List Int):Option Int:=is.find? fun i=>is.all fun x=>decide (key i<=key x)
theorem minI_best {key:Int->Int} {is:List Int} {n:Nat} {i:Int} (h:is[n]?=some i) (hb:∀ m j,is[m]?=some j->key i<=key j/\(m<n->key i<key j)):minI key is=some i:=by
 unfold minI
 rw [List.find?_eq_some_iff_append]
 obtain ⟨hn,e⟩:=List.getElem?_eq_some_iff.mp h
 refine ⟨?_,is.take n,is.drop (n+1),?_,fun a ha=>?_⟩
 ·rw [List.all_eq_true]
  intro x hx
  obtain ⟨m,hm,ex⟩:=List.mem_iff_getElem.mp hx
  exact decide_eq_true (hb m x (by rw [List.getElem?_eq_getElem hm,ex])).1
 ·rw [<- e,List.getElem_cons_drop,List.take_append_drop]
 ·obtain ⟨m,hm,ea⟩:=List.mem_iff_getElem.mp ha
  rw [List.length_take] at hm
  rw [List.getElem_take] at ea
  have q:=(hb m a (by rw [List.getElem?_eq_getElem (by omega),ea])).2 (by omega)
  rw [Bool.not_eq_true',List.all_eq_false]
  exact ⟨i,List.mem_of_getElem? h,by simp; omega⟩
def vO:Option Int->V
 | none=>.non
 | some i=>.int i
def tMinL (K:Frag) (j:Nat) (ta:TA):TE:=fun σ H Q=>ta σ H fun vs H1=>∃ (l b:Addr) (is ks:List Int),vs = [.ref l]/\SqL K H1 l (is.map V.int)/\σ[j]?=some (some (.ref b))/\SqL K H1 b (ks.map V.int)/\(∀ i∈is,0<=i/\i<(ks.length:Int)) /\
 ∀ H2:Hp,(∀ a o,H1 a=some o->H2 a=some o)->Q (vO (minI (fun i=>ks.getD i.toNat 0) is)) H2
theorem SqL.more {K:Frag} {H1 H2:Hp} {a:Addr} {xs:List V} (h:SqL K H1 a xs) (sm:∀ a o,H1 a=some o->H2 a=some o):SqL K H2 a xs:=by
 rcases h with (h | ⟨o,h⟩) | h
 ·exact .inl (.inl (sm _ _ h))
 ·exact .inl (.inr ⟨o,sm _ _ h⟩)
 ·exact .inr h
theorem vals_getI {is:List Int} {its:List Value} (r:Vals (is.map V.int) its) {n:Nat} {i:Int} (h:is[n]?=some i):∃ t,its[n]?=some (.int i t):=by
 obtain ⟨w,e,rw'⟩:=r.get (i:=n) (x:=V.int i) (by rw [List.getElem?_map,h]; rfl)
 obtain ⟨t,rfl⟩:=rw'
 exact ⟨t,e⟩
section
variable {X:Cx} {tb c:Addr} {k:Nat×Nat×Str} {pa p1 p2 p3 lpos p p4 pos kp1 kp2:Pos} {a:Expr} {ta:TA} {j kt:Nat}
theorem pe_minL (hT:(tb,k)∈lamT) (hC:PySem.W.codeHdIn X.K c tb=true) (hcode:X.env.code=.ref c) (hq:X.env.qual++Str.ofString "<lambda>" = k.2.2) (hl1:lpos.line=k.1) (hl2:lpos.col=k.2.1)
  (hz:X.env.scope.names.lookup (Str.ofString "held")=some .cell) (hN:X.N[j]?=some (Str.ofString "held")) (hcalm:X.calm=true) {kr:Nat} (hr:Room (kr+2) X.A)
  (hg:Gl X "min") (hm:X.mg "min" = none) (ha:PA X [a] ta)
  (he:backTo pos (starEach [a] X.env)=(false,eval a X.env)::backTo pos (starEach [] X.env):=by rfl) (hplain:(backTo pos (starEach [a] X.env)).any (·.1)=false:=by rfl)
  (hall:(backToKw pos (keywordEach [⟨some "key",.Lambda (lamA pa) (lamB p1 p2 p3) lamS lpos,kp1⟩,⟨some "default",.Constant .none kt p4,kp2⟩] X.env)).all (·.1.isSome)=true:=by rfl)
  (hkw:(backToKw pos (keywordEach [⟨some "key",.Lambda (lamA pa) (lamB p1 p2 p3) lamS lpos,kp1⟩,⟨some "default",.Constant .none kt p4,kp2⟩] X.env)).any (·.1.isNone)=false:=by rfl)
  (hks:(backToKw pos (keywordEach [⟨some "key",.Lambda (lamA pa) (lamB p1 p2 p3) lamS lpos,kp1⟩,⟨some "default",.Constant .none kt p4,kp2⟩] X.env)).filterMap (·.1) = [Str.ofString "key",Str.ofString "default"]:=by rfl) :
  PE X (.Call (.Name "min" p) [a] [⟨some "key",.Lambda (lamA pa) (lamB p1 p2 p3) lamS lpos,kp1⟩,⟨some "default",.Constant .none kt p4,kp2⟩] pos) (tMinL X.K j ta):=by
 intro pins s σ H Q I h
 refine wpAny_Call_Name_kw (ld_blt I hg hm (u:=.builtin "min") rfl ?_)
 refine PyProof.Rows.callWith_kw (thn (ha pos pins s σ H _ I h) fun us s1 zz94=>?_) he hplain hall hkw
 obtain ⟨vs,H1,I1,r1,l,b,is,ks,e1,hl,hj,hb,hrg,hQ⟩:=zz94
 subst e1
 cases r1 with
 | cons ru rt=>
 cases rt
 cases ru
 rw [hks]
 show wpAny _ _ (evalAll ((do let v <- eval (.Lambda (lamA pa) (lamB p1 p2 p3) lamS lpos) X.env; standAt pos; pure v)::(do let v <- eval (.Constant .none kt p4) X.env; standAt pos; pure v) :: [])) _ _ s1
 refine wpAny_evalAll_cons (wpAny_bind (lam_eval I1 hT hC hcode hq hl1 hl2 hz fun f c' cl pm ctv H2 s2 I2 sm go hrec hc1 hc2=>wpAny_bind (wpAny_standAt (wpAny_pure ?_))))
 refine wpAny_evalAll_cons (wpAny_bind (Constant_none (wpAny_bind (wpAny_standAt (wpAny_pure (wpAny_evalAll_nil ?_))))))
 obtain ⟨its,rI,pl,hsz⟩:=I2.list (hl.more sm)
 obtain ⟨jts,rJ,plJ,hsJ⟩:=I2.list (hb.more sm)
 have hil:is.length=its.length:=by have:=rI.length; rwa [List.length_map] at this
 have hjl:ks.length=jts.length:=by have:=rJ.length; rwa [List.length_map] at this
 obtain ⟨d,hd⟩:=hc2
 have hcell:s2.heap.IsCell d (some (.ref b)):=by
  obtain ⟨m0,_,hl0⟩:=I2.loc
  obtain ⟨u,ru,lk⟩:=hl0 j _ _ hN hj (.inr (.inl hz))
  cases ru
  rcases lk with ⟨q,_⟩ | ⟨_,d',e',z⟩
  ·have q':X.env.scope.names.lookup (Str.ofString "held")=some .local:=q
   rw [hz] at q'; cases q'
  ·rw [hc1 _ _ hd] at e'; cases e'
   exact z
 refine min_call (vs:=its) (kf:=fun n=>ks.getD (is.getD n 0).toNat 0) (I2.ok.hd hcalm) pl.isList (fun n v hv h tk kp=>?_) fun v h tk kp best=>?_
 ·have hn:n<is.length:=by rw [hil]; exact (List.getElem?_eq_some_iff.mp hv).1
  have ei:is[n]?=some (is.getD n 0):=by rw [List.getD_eq_getElem?_getD,List.getElem?_eq_getElem hn]; rfl
  obtain ⟨t,et⟩:=vals_getI rI ei
  rw [et] at hv; cases hv
  have rg:=hrg _ (List.mem_of_getElem? ei)
  generalize is.getD n 0=i at rg
  have ek:ks[i.toNat]?=some (ks.getD i.toNat 0):=by rw [List.getD_eq_getElem?_getD,List.getElem?_eq_getElem (by omega)]; rfl
  obtain ⟨t',et'⟩:=vals_getI rJ ek
  have l63:=line63
  have lj:=hsJ
  rw [List.length_map] at lj
  exact call_lam (s:={ s2 with heap:=h,toks:=tk }) hr.in1.depth (kp _ _ go) (hrec.keeps kp) (I2.nolimit.keeps kp) hd (hcell.keeps kp) (let ⟨o,e,q⟩:=plJ.isList; ⟨o,kp _ _ e,q⟩) rg.1 (by omega) (by simpa using et')
 ·have I3:Inv X pins σ H2 { s2 with heap:=h,toks:=tk }:=I2.un (Un.kept kp) (I2.hok.kept kp)
  rcases best with ⟨e0,rfl⟩ | ⟨n,bst⟩
  ·have:is = []:=List.eq_nil_of_length_eq_zero (by rw [hil,e0]; rfl)
   subst this
   exact ⟨.non,H2,I3,rfl,hQ H2 sm⟩
  ·have hn:n<is.length:=by rw [hil]; exact bst.lt
   have ei:is[n]?=some (is.getD n 0):=by rw [List.getD_eq_getElem?_getD,List.getElem?_eq_getElem hn]; rfl
   obtain ⟨t,et⟩:=vals_getI rI ei
   have hv:=bst.at_
   rw [et] at hv; cases hv
   have em:minI (fun i=>ks.getD i.toNat 0) is=some (is.getD n 0):=minI_best ei fun m y hy=>by
    have hm':m<its.length:=by rw [<- hil]; exact (List.getElem?_eq_some_iff.mp hy).1
    have:=bst.least m hm'
    have ey:is.getD m 0=y:=by rw [List.getD_eq_getElem?_getD,hy]; rfl
    rw [ey] at this
    exact this
   have hQ2:=hQ H2 sm
   rw [em] at hQ2
   exact ⟨.int (is.getD n 0),H2,I3,⟨t,rfl⟩,hQ2⟩
end
end L2
namespace L2
open PySem PySem.Spec PyProof.Rows
theorem Fun.okC {P:Program} {w:World} {K:Frag} {mg:Str->Option Value} {base:Heap} {x qual:Str} {st:Stmt} {f:Addr} {fd:FuncData} {N ps:List Str} {k:Nat} {sp:Sp} (F:Fun K x qual st f fd) (S:FnScope N ps (defScope st)) (len:∀ vs H Q E,sp vs H Q E->vs.length=ps.length)
  (hbody:∀ (A:Around) (outer:List Env) (s:Shared) (H:Hp) (vs:List V) (Q:VK) (E:XK),Room k (A.deeper (envOfC qual (defScope st) s.heap.objs.size f fd.code))->sp vs H Q E ->
   ∃ t,PSs (cxOf CX0 P w K mg base N qual (defScope st) f fd.code A outer s H E).nox (defBody st) t/\t { nx:=fun _ H'=>Q .non H',rt:=Q } (start N vs) H):FnOk P w K mg base CX0 (k+1) f fd ps sp:=by
 obtain ⟨oc,od,kV,doc,pm,an,cdv,ct,osl,rfl,lk,hcd⟩:=F.ex
 refine fn_of lk hcd S len fun A outer s H vs Q E hr hsp=>?_
 obtain ⟨t,h,q⟩:=hbody A outer s H vs Q E hr hsp
 exact ⟨t,h.nox,q⟩
end L2
namespace TP
open PySem L2
def vW:Option Int->W
 | none=>.non
 | some i=>.int i
def minR (is ks:List Int):R W:=if is.all (fun i=>decide (0<=i)&&decide (i<(ks.length:Int)))=true then .ok (vW (minI (fun i=>ks.getD i.toNat 0) is)) else .stuck
def fMinL:W->W->R W
 | .lst ws,.lst us=>toR (intsW ws)>>=fun is=>toR (intsW us)>>=fun ks=>minR is ks
 | _,_=>.stuck
def mML (j:Nat) (ρ:Rho):List W->R W
 | [w]=>mVar .B j ρ>>=fun u=>fMinL w u
 | _=>.stuck
def bMinL (j:Nat) (ma:Rho->R (List W)):Rho->R W:=fun ρ=>ma ρ>>=mML j ρ
section
variable {K:Frag} {EX:EXT} {H0 G H:Hp} {ρ:Rho} {σ:L2.St} {Q:VK}
theorem c_minL {j:Nat} {ma:Rho->R (List W)} (h:tM K EX .F (bMinL j ma) σ H Q):tMinL K j (tA K EX .B ma) σ H Q:=by
 obtain ⟨H0,G,ρ,I,o⟩:=h
 unfold bMinL at o
 refine ⟨H0,G,ρ,I,Out.bind o fun xs G1 H1 ws e1 m1 o1=>?_⟩
 have I1:=I.ext e1
 unfold mML at o1
 split at o1
 ·rename_i w
  have hx:∃ x,xs = [x]/\Md K H0 H G1 H1 x w .B:=by
   cases m1 with
   | cons a t=>cases t; exact ⟨_,rfl,a⟩
  obtain ⟨x,rfl,a⟩:=hx
  have key:tVar j σ H1 (fun v H2=>∃ (l b:Addr) (is ks:List Int),x=V.ref l/\SqL K H2 l (is.map V.int)/\v=V.ref b/\SqL K H2 b (ks.map V.int)/\(∀ i∈is,0<=i/\i<(ks.length:Int))/\∀ H3:Hp,(∀ a o,H2 a=some o->H3 a=some o)->Q (vO (minI (fun i=>ks.getD i.toNat 0) is)) H3):=by
   refine c_var (d:=.B) (EX:=EX) ⟨H0,G1,ρ,I1,Out.bind o1 fun v G2 H2 u e2 m2 o2=>?_⟩
   have I2:=I1.ext e2
   have a2:=a.move e2
   cases w <;> first | exact o2.elim | skip
   cases u <;> first | exact o2.elim | skip
   rename_i ws us
   replace o2:Out EX G2 H2 (mdW K .F H0 H) (toR (intsW ws)>>=fun is=>toR (intsW us)>>=fun ks=>minR is ks) Q:=o2
   cases q1:intsW ws with
   | none=>rw [q1] at o2; exact o2.elim
   | some is=>
    cases q2:intsW us with
    | none=>rw [q1,q2] at o2; exact o2.elim
    | some ks=>
     rw [q1,q2] at o2
     replace o2:Out EX G2 H2 (mdW K .F H0 H) (minR is ks) Q:=o2
     unfold minR at o2
     by_cases hc:is.all (fun i=>decide (0<=i)&&decide (i<(ks.length:Int)))=true
     ·rw [if_pos hc] at o2
      obtain ⟨p,ys,e3,hs,r⟩:=a2.lstB I2
      obtain ⟨p',ys',e4,hs',r'⟩:=m2.lstB I2
      rw [Reps.ints r q1] at hs
      rw [Reps.ints r' q2] at hs'
      refine ⟨p,p',is,ks,e3,.inl (.inl hs),e4,.inl (.inl hs'),fun i hi=>?_,fun H3 sm=>?_⟩
      ·have:=List.all_eq_true.mp hc i hi
       rw [Bool.and_eq_true] at this
       exact ⟨of_decide_eq_true this.1,of_decide_eq_true this.2⟩
      ·refine o2 _ G2 H3 ⟨Same.refl _,sm,I2.gh.trans sm,fun _ _ _ _ e=>e⟩ ?_
       cases minI (fun i=>ks.getD i.toNat 0) is with
       | none=>exact Md.sca rfl (fun _=>.non) .F
       | some i=>exact Md.sca rfl (fun _=>.int) .F
     ·rw [if_neg hc] at o2; exact o2.elim
  obtain ⟨v,es,l,b,is,ks,e1',h1,e2',h2,h3,h4⟩:=key
  subst e1' e2'
  exact ⟨l,b,is,ks,rfl,h1,es,h2,h3,h4⟩
 ·exact o1.elim
end
section
variable {X:Cx} {K:Frag} {EX:EXT} {tb c:Addr} {k:Nat×Nat×Str} {pa p1 p2 p3 lpos p p4 pos kp1 kp2:Pos} {a:Expr} {ma:Rho->R (List W)} {j kt:Nat}
theorem q_minL (hT:(tb,k)∈lamT) (hC:PySem.W.codeHdIn X.K c tb=true) (hcode:X.env.code=.ref c) (hq:X.env.qual++Str.ofString "<lambda>" = k.2.2) (hl1:lpos.line=k.1) (hl2:lpos.col=k.2.1)
  (hz:X.env.scope.names.lookup (Str.ofString "held")=some .cell) (hN:X.N[j]?=some (Str.ofString "held")) (hcalm:X.calm=true) {kr:Nat} (hr:Room (kr+2) X.A)
  (hg:Gl X "min") (hm:X.mg "min" = none) (ha:PA X [a] (tA K EX .B ma)) (hK:X.K=K:=by rfl)
  (he:backTo pos (starEach [a] X.env)=(false,eval a X.env)::backTo pos (starEach [] X.env):=by rfl) (hplain:(backTo pos (starEach [a] X.env)).any (·.1)=false:=by rfl)
  (hall:(backToKw pos (keywordEach [⟨some "key",.Lambda (lamA pa) (lamB p1 p2 p3) lamS lpos,kp1⟩,⟨some "default",.Constant .none kt p4,kp2⟩] X.env)).all (·.1.isSome)=true:=by rfl)
  (hkw:(backToKw pos (keywordEach [⟨some "key",.Lambda (lamA pa) (lamB p1 p2 p3) lamS lpos,kp1⟩,⟨some "default",.Constant .none kt p4,kp2⟩] X.env)).any (·.1.isNone)=false:=by rfl)
  (hks:(backToKw pos (keywordEach [⟨some "key",.Lambda (lamA pa) (lamB p1 p2 p3) lamS lpos,kp1⟩,⟨some "default",.Constant .none kt p4,kp2⟩] X.env)).filterMap (·.1) = [Str.ofString "key",Str.ofString "default"]:=by rfl) :
  PE X (.Call (.Name "min" p) [a] [⟨some "key",.Lambda (lamA pa) (lamB p1 p2 p3) lamS lpos,kp1⟩,⟨some "default",.Constant .none kt p4,kp2⟩] pos) (tM K EX .F (bMinL j ma)):=by
 subst hK
 exact (pe_minL hT hC hcode hq hl1 hl2 hz hN hcalm hr hg hm ha he hplain hall hkw hks).mono fun _ _ _ q=>c_minL q
end
theorem bMinL_ap (j:Nat) (ma:Rho->R (List W)) (ρ:Rho):bMinL j ma ρ=ma ρ>>=mML j ρ:=rfl
theorem mML_ap (j:Nat) (ρ:Rho) (w:W):mML j ρ [w]=mVar .B j ρ>>=fun u=>fMinL w u:=rfl
theorem fMinL_I (is ks:List Int):fMinL (.lst (is.map W.int)) (.lst (ks.map W.int))=minR is ks:=by
 show toR (intsW (is.map W.int))>>=_=_
 rw [ints_map,ints_map]; rfl
section
variable {K:Frag} {EX:EXT} {H:Hp} {σ:St} {d:Mode} {D:Ends}
end
section
variable {X:Cx} {K:Frag} {EX:EXT} {d:Mode} {m1 m2:Rho->R W} {e1 e2:Expr}
end
end TP
namespace L2
open PySem
theorem codeTab {h:Heap} {c P:Addr} (C:PySem.W.CodeHd h c P):isCodeTable h P:=by
 obtain ⟨o,vs,_,_,_,_,_,_,_,e1,e2,e3,e4,_⟩:=C
 exact ⟨c,o,vs,e1,e2,e3,e4⟩
end L2
namespace TP
open PySem L2
abbrev tI (ns:List Int):W:=.tup (ns.map W.int)
abbrev lI (ns:List Int):W:=.lst (ns.map W.int)
theorem noLs_ints (ns:List Int):noLs (ns.map W.int)=true:=by
 induction ns with
 | nil=>rfl
 | cons n ns ih=>rw [List.map_cons]; simp only [noLs,noL,ih,Bool.and_self]
theorem fEqS_ii (n:Bool) (i j:Int):fEqS n (.int i) (.int j)=.ok (.bl (if n then !decide (i=j) else decide (i=j))):=by
 show R.ok (W.bl (if n then !decide (V.int i=V.int j) else decide (V.int i=V.int j)))=_
 rw [show decide (V.int i=V.int j)=decide (i=j) from decide_eq_decide.mpr ⟨V.int.inj,congrArg _⟩]
theorem fEqS_bb (n:Bool) (i j:Bool):fEqS n (.bl i) (.bl j)=.ok (.bl (if n then !decide (i=j) else decide (i=j))):=by
 show R.ok (W.bl (if n then !decide (V.bl i=V.bl j) else decide (V.bl i=V.bl j)))=_
 rw [show decide (V.bl i=V.bl j)=decide (i=j) from decide_eq_decide.mpr ⟨V.bl.inj,congrArg _⟩]
theorem fEqS_ss (n:Bool) (i j:Str):fEqS n (.str i) (.str j)=.ok (.bl (if n then !decide (i=j) else decide (i=j))):=by
 show R.ok (W.bl (if n then !decide (V.str i=V.str j) else decide (V.str i=V.str j)))=_
 rw [show decide (V.str i=V.str j)=decide (i=j) from decide_eq_decide.mpr ⟨V.str.inj,congrArg _⟩]
theorem fEqS_nn (n:Bool):fEqS n .non .non=.ok (.bl (!n)):=by cases n <;> rfl
theorem fEqS_ni (n:Bool) (i:Int):fEqS n .non (.int i)=.ok (.bl n):=by cases n <;> rfl
theorem fEqS_in (n:Bool) (i:Int):fEqS n (.int i) .non=.ok (.bl n):=by cases n <;> rfl
theorem atW {ns:List Int} {i:Int} (h0:0<=i) (h1:i<ns.length):L2.atI (ns.map W.int) i=some (.int (ns.getD i.toNat 0)):=by
 unfold L2.atI
 rw [List.length_map,ixN_int h0 h1]
 show (ns.map W.int)[i.toNat]?=_
 rw [List.getElem?_map,some_getD (by omega)]; rfl
theorem atW_of {ws:List W} {k:Nat} {w:W} (h:ws[k]?=some w):L2.atI ws (k:Int)=some w:=by
 have hk:=(List.getElem?_eq_some_iff.mp h).1
 unfold L2.atI
 rw [ixN_int (by omega) (by omega),Int.toNat_natCast]
 exact h
def andThen (r:R Fl) (n:Rho->R Fl):R Fl:=r>>=fun f=>match f with
 | .nx ρ'=>n ρ'
 | .rt w=>.ok (.rt w)
 | .bk ρ'=>.ok (.bk ρ')
 | .ct ρ'=>.ok (.ct ρ')
theorem mSeq_ap (m n:Rho->R Fl) (ρ:Rho):mSeq m n ρ=andThen (m ρ) n:=rfl
theorem andThen_nx (ρ:Rho) (n:Rho->R Fl):andThen (.ok (.nx ρ)) n=n ρ:=rfl
theorem andThen_rt (w:W) (n:Rho->R Fl):andThen (.ok (.rt w)) n=.ok (.rt w):=rfl
theorem andThen_bk (ρ:Rho) (n:Rho->R Fl):andThen (.ok (.bk ρ)) n=.ok (.bk ρ):=rfl
theorem andThen_ct (ρ:Rho) (n:Rho->R Fl):andThen (.ok (.ct ρ)) n=.ok (.ct ρ):=rfl
theorem mC_ap (w:W) (ρ:Rho):mC w ρ=.ok w:=rfl
theorem b1_ap (f:W->R W) (ma:Rho->R W) (ρ:Rho):b1 f ma ρ=(ma ρ>>=f):=rfl
def R2b (a b:R W) (f:W->W->R W):R W:=a>>=fun x=>b>>=fun y=>f x y
theorem b2_ap (f:W->W->R W) (ma mb:Rho->R W) (ρ:Rho):b2 f ma mb ρ=R2b (ma ρ) (mb ρ) f:=rfl
theorem R2b_ok (x y:W) (f:W->W->R W):R2b (.ok x) (.ok y) f=f x y:=rfl
theorem bA_ap (f:List W->R W) (ma:Rho->R (List W)) (ρ:Rho):bA f ma ρ=(ma ρ>>=f):=rfl
theorem bI_ap (f:List W->R (List W)) (ma:Rho->R (List W)) (ρ:Rho):bI f ma ρ=(ma ρ>>=f):=rfl
theorem bS_ap (ma:Rho->R W) (ρ:Rho):bS ma ρ=(ma ρ>>=seqW):=rfl
theorem aN_ap (ρ:Rho):aN ρ=.ok []:=rfl
def Rcons (a:R W) (b:R (List W)):R (List W):=a>>=fun x=>b>>=fun xs=>.ok (x::xs)
theorem aC_ap (ma:Rho->R W) (mr:Rho->R (List W)) (ρ:Rho):aC ma mr ρ=Rcons (ma ρ) (mr ρ):=rfl
theorem Rcons_ok (x:W) (xs:List W):Rcons (.ok x) (.ok xs)=.ok (x::xs):=rfl
theorem bChk_ap (ma:Rho->R W) (ρ:Rho):bChk ma ρ=(ma ρ>>=chk):=rfl
theorem bTest_ap (ma:Rho->R W) (ρ:Rho):bTest ma ρ=(ma ρ>>=toB):=rfl
theorem tAnd_ap (a b:Rho->R Bool) (ρ:Rho):tAnd' a b ρ=rAnd (a ρ) (b ρ):=rfl
theorem tOr_ap (a b:Rho->R Bool) (ρ:Rho):tOr' a b ρ=rOr (a ρ) (b ρ):=rfl
theorem tNot_ap (a:Rho->R Bool) (ρ:Rho):tNot' a ρ=rNot (a ρ):=rfl
theorem rAnd_ok (x y:Bool):rAnd (.ok x) (.ok y)=.ok (x&&y):=by cases x <;> rfl
theorem rAnd_ff (r:R Bool):rAnd (.ok false) r=.ok false:=rfl
theorem rAnd_tt (r:R Bool):rAnd (.ok true) r=r:=rfl
theorem rOr_ok (x y:Bool):rOr (.ok x) (.ok y)=.ok (x||y):=by cases x <;> rfl
theorem rOr_tt (r:R Bool):rOr (.ok true) r=.ok true:=rfl
theorem rOr_ff (r:R Bool):rOr (.ok false) r=r:=rfl
theorem rNot_ok (x:Bool):rNot (.ok x)=.ok (!x):=rfl
theorem vAnd_ap (a b:Rho->R W) (ρ:Rho):vAnd a b ρ=rAndV (a ρ) (b ρ):=rfl
theorem vOr_ap (a b:Rho->R W) (ρ:Rho):vOr a b ρ=rOrV (a ρ) (b ρ):=rfl
theorem vNot_ap (a:Rho->R W) (ρ:Rho):vNot a ρ=rNotV (a ρ):=rfl
theorem rAndV_ok (x y:Bool):rAndV (.ok (.bl x)) (.ok (.bl y))=.ok (.bl (x&&y)):=by cases x <;> rfl
theorem rAndV_ff (r:R W):rAndV (.ok (.bl false)) r=.ok (.bl false):=rfl
theorem rAndV_tt (r:R W):rAndV (.ok (.bl true)) r=r:=rfl
theorem rOrV_ok (x y:Bool):rOrV (.ok (.bl x)) (.ok (.bl y))=.ok (.bl (x||y)):=by cases x <;> rfl
theorem rOrV_tt (r:R W):rOrV (.ok (.bl true)) r=.ok (.bl true):=rfl
theorem rOrV_ff (r:R W):rOrV (.ok (.bl false)) r=r:=rfl
theorem rNotV_ok (x:Bool):rNotV (.ok (.bl x))=.ok (.bl (!x)):=rfl
def rIfW (c:R Bool) (a b:R W):R W:=c>>=fun t=>if t then a else b
theorem vIf_ap (c:Rho->R Bool) (a b:Rho->R W) (ρ:Rho):vIf c a b ρ=rIfW (c ρ) (a ρ) (b ρ):=rfl
theorem rIfW_tt (a b:R W):rIfW (.ok true) a b=a:=rfl
theorem rIfW_ff (a b:R W):rIfW (.ok false) a b=b:=rfl
theorem rIfW_ok (t:Bool) (x y:W):rIfW (.ok t) (.ok x) (.ok y)=.ok (if t then x else y):=by cases t <;> rfl
def Rchain (f f':W->W->R W) (a b c:R W):R W:=a>>=fun x=>b>>=fun y=>f x y>>=fun z=>toB z>>=fun t=>if t then c>>=fun u=>f' y u else .ok (.bl false)
theorem vChain_ap (f f':W->W->R W) (ma mb mc:Rho->R W) (ρ:Rho):vChain f f' ma mb mc ρ=Rchain f f' (ma ρ) (mb ρ) (mc ρ):=rfl
theorem Rchain_ii (g g':Int->Int->Bool) (i j k:Int):Rchain (fI0 fun i j=>.bl (g i j)) (fI0 fun i j=>.bl (g' i j)) (.ok (.int i)) (.ok (.int j)) (.ok (.int k))=.ok (.bl (g i j&&g' j k)):=by
 unfold Rchain
 show (if g i j=true then _ else _)=_
 cases h:g i j <;> simp [fI0]
def mkTup (ws:List W):R W:=lim ws.length (.tup ws)
def mkLst (ws:List W):R W:=lim ws.length (.lst ws)
theorem vTup_ap (ma:Rho->R (List W)) (ρ:Rho):vTup ma ρ=(ma ρ>>=mkTup):=rfl
theorem vLst_ap (ma:Rho->R (List W)) (ρ:Rho):vLst ma ρ=(ma ρ>>=mkLst):=rfl
theorem pN_ap (ρ:Rho):pN ρ=.ok none:=rfl
theorem pS_ap (m:Rho->R W) (ρ:Rho):pS m ρ=(m ρ>>=partW):=rfl
theorem partW_int (i:Int):partW (.int i)=.ok (some i):=rfl
def Rsl (c:Bool) (x:R W) (l u:R (Option Int)):R W:=x>>=fun x=>l>>=fun l=>u>>=fun u=>toR (lstOf x)>>=fun ws=>chks c (cutW ws l u)
theorem vSl_ap (c:Bool) (m:Rho->R W) (ml mh:Rho->R (Option Int)) (ρ:Rho):vSl c m ml mh ρ=Rsl c (m ρ) (ml ρ) (mh ρ):=rfl
theorem Rsl_lst (c:Bool) (ws:List W) (l u:Option Int):Rsl c (.ok (.lst ws)) (.ok l) (.ok u)=chks c (cutW ws l u):=rfl
theorem Rsl_scr (c:Bool) (ws:List W) (l u:Option Int):Rsl c (.ok (.scr ws)) (.ok l) (.ok u)=chks c (cutW ws l u):=rfl
def Rcomp (r:R (List W)) (n:Nat) (mg:W->Rho->Option Rho) (mc:Rho->R Bool) (me:Rho->R W) (ρ:Rho):R W:=r>>=fun ws=>mComp n mg mc me ws ρ
theorem vComp_ap (n:Nat) (mi:Rho->R (List W)) (mg:W->Rho->Option Rho) (mc:Rho->R Bool) (me:Rho->R W) (ρ:Rho):vComp n mi mg mc me ρ=Rcomp (mi ρ) n mg mc me ρ:=rfl
theorem Rcomp_ok (ws:List W) (n:Nat) (mg:W->Rho->Option Rho) (mc:Rho->R Bool) (me:Rho->R W) (ρ:Rho):Rcomp (.ok ws) n mg mc me ρ=mComp n mg mc me ws ρ:=rfl
theorem sNx_ap (ρ:Rho):sNx ρ=.ok (.nx ρ):=rfl
theorem sBk_ap (ρ:Rho):sBk ρ=.ok (.bk ρ):=rfl
theorem sCt_ap (ρ:Rho):sCt ρ=.ok (.ct ρ):=rfl
def Rdrop (r:R W) (ρ:Rho):R Fl:=r>>=fun _=>.ok (.nx ρ)
theorem sDrop_ap (m:Rho->R W) (ρ:Rho):sDrop m ρ=Rdrop (m ρ) ρ:=rfl
theorem Rdrop_ok (w:W) (ρ:Rho):Rdrop (.ok w) ρ=.ok (.nx ρ):=rfl
def retK (w:W):R Fl:=.ok (.rt w)
theorem sRet_ap (m:Rho->R W) (ρ:Rho):sRet m ρ=(m ρ>>=retK):=rfl
theorem retK_ap (w:W):retK w=.ok (.rt w):=rfl
theorem sRetN_ap (ρ:Rho):sRetN ρ=.ok (.rt .non):=rfl
def Rset (r:R W) (f:W->Sl) (i:Nat) (ρ:Rho):R Fl:=r>>=fun w=>.ok (.nx (ρ.set i (f w)))
theorem sV_ap (i:Nat) (m:Rho->R W) (ρ:Rho):sV i m ρ=Rset (m ρ) Sl.val i ρ:=rfl
theorem sU_ap (i:Nat) (m:Rho->R W) (ρ:Rho):sU i m ρ=Rset (m ρ) Sl.par i ρ:=rfl
theorem sF_ap (i:Nat) (m:Rho->R W) (ρ:Rho):sF i m ρ=Rset (m ρ) slotF i ρ:=rfl
theorem Rset_ok (w:W) (f:W->Sl) (i:Nat) (ρ:Rho):Rset (.ok w) f i ρ=.ok (.nx (ρ.set i (f w))):=rfl
theorem slotF_lst (ws:List W):slotF (.lst ws)=.own ws:=rfl
theorem slotF_tup (ws:List W):slotF (.tup ws)=.val (.tup ws):=rfl
theorem slotF_int (i:Int):slotF (.int i)=.val (.int i):=rfl
theorem slotF_bl (i:Bool):slotF (.bl i)=.val (.bl i):=rfl
theorem slotF_non:slotF .non=.val .non:=rfl
theorem slotF_str (i:Str):slotF (.str i)=.val (.str i):=rfl
def toNx:Option Rho->R Fl
 | some ρ=>.ok (.nx ρ)
 | none=>.stuck
def Rasg (r:R W) (mg:W->Rho->Option Rho) (ρ:Rho):R Fl:=r>>=fun w=>toR (mg w ρ)>>=fun ρ'=>.ok (.nx ρ')
theorem sG_ap (mg:W->Rho->Option Rho) (m:Rho->R W) (ρ:Rho):sG mg m ρ=Rasg (m ρ) mg ρ:=rfl
theorem Rasg_ok (w:W) (mg:W->Rho->Option Rho) (ρ:Rho):Rasg (.ok w) mg ρ=toNx (mg w ρ):=by
 show (toR (mg w ρ)>>=_)=_
 cases mg w ρ <;> rfl
theorem toNx_some (ρ:Rho):toNx (some ρ)=.ok (.nx ρ):=rfl
def Rfor (r:R (List W)) (mg:W->Rho->Option Rho) (mb:Rho->R Fl) (ρ:Rho):R Fl:=r>>=fun ws=>mFor mg mb ws ρ
theorem sFor_ap (mi:Rho->R (List W)) (mg:W->Rho->Option Rho) (mb:Rho->R Fl) (ρ:Rho):sFor mi mg mb ρ=Rfor (mi ρ) mg mb ρ:=rfl
theorem Rfor_ok (ws:List W) (mg:W->Rho->Option Rho) (mb:Rho->R Fl) (ρ:Rho):Rfor (.ok ws) mg mb ρ=mFor mg mb ws ρ:=rfl
theorem sFrz_ap (i:Nat) (m:Rho->R Fl) (ρ:Rho):sFrz i m ρ=m (frz i ρ):=rfl
def frzS:Option Sl->Nat->Rho->Rho
 | some (.own ws),i,ρ=>ρ.set i (.val (.lst ws))
 | _,_,ρ=>ρ
theorem frz_ap (i:Nat) (ρ:Rho):frz i ρ=frzS (ρ[i]?) i ρ:=by
 unfold frz frzS
 rcases h:ρ[i]? with _ | s
 ·rfl
 ·cases s <;> rfl
theorem frzS_own (ws:List W) (i:Nat) (ρ:Rho):frzS (some (.own ws)) i ρ=ρ.set i (.val (.lst ws)):=rfl
theorem frzS_val (w:W) (i:Nat) (ρ:Rho):frzS (some (.val w)) i ρ=ρ:=rfl
theorem frzS_par (w:W) (i:Nat) (ρ:Rho):frzS (some (.par w)) i ρ=ρ:=rfl
theorem frzS_un (i:Nat) (ρ:Rho):frzS (some .un) i ρ=ρ:=rfl
def rdS (d:Mode):Option Sl->R W
 | some (.val w)=>(match d with | .F=>chk w | _=>.ok w)
 | some (.par w)=>(match d with | .F=>chk w | .V=>chk w | .C=>chk w | _=>.ok w)
 | some (.own ws)=>(match d with | .C=>.ok (.lst ws) | .B=>.ok (.lst ws) | _=>.stuck)
 | some (.iop _ ws)=>(match d with | .B=>.ok (.lst ws) | .U=>.ok (.lst ws) | _=>.stuck)
 | some (.hz w)=>(match d with | .B=>.ok w | .U=>.ok w | _=>.stuck)
 | _=>.stuck
theorem mVar_ap (d:Mode) (i:Nat) (ρ:Rho):mVar d i ρ=rdS d (ρ[i]?):=by
 unfold mVar rdS
 rfl
theorem rdS_vF (w:W):rdS .F (some (.val w))=chk w:=rfl
theorem rdS_vV (w:W):rdS .V (some (.val w))=.ok w:=rfl
theorem rdS_vU (w:W):rdS .U (some (.val w))=.ok w:=rfl
theorem rdS_vC (w:W):rdS .C (some (.val w))=.ok w:=rfl
theorem rdS_vB (w:W):rdS .B (some (.val w))=.ok w:=rfl
theorem rdS_pF (w:W):rdS .F (some (.par w))=chk w:=rfl
theorem rdS_pV (w:W):rdS .V (some (.par w))=chk w:=rfl
theorem rdS_pU (w:W):rdS .U (some (.par w))=.ok w:=rfl
theorem rdS_pC (w:W):rdS .C (some (.par w))=chk w:=rfl
theorem rdS_pB (w:W):rdS .B (some (.par w))=.ok w:=rfl
theorem rdS_oC (ws:List W):rdS .C (some (.own ws))=.ok (.lst ws):=rfl
theorem rdS_oB (ws:List W):rdS .B (some (.own ws))=.ok (.lst ws):=rfl
def retS (d:Mode):Option Sl->R Fl
 | some (.own ws)=>.ok (.rt (.lst ws))
 | o=>rdS d o>>=retK
theorem mRetVar_ap (d:Mode) (i:Nat) (ρ:Rho):mRetVar d i ρ=retS d (ρ[i]?):=by
 unfold mRetVar retS
 rw [mVar_ap]
 rcases h:ρ[i]? with _ | s
 ·rfl
 ·cases s <;> rfl
theorem retS_own (d:Mode) (ws:List W):retS d (some (.own ws))=.ok (.rt (.lst ws)):=rfl
theorem retS_val (d:Mode) (w:W):retS d (some (.val w))=(rdS d (some (.val w))>>=retK):=rfl
theorem retS_par (d:Mode) (w:W):retS d (some (.par w))=(rdS d (some (.par w))>>=retK):=rfl
def appS (o:Option Sl) (r:R W) (i:Nat) (ρ:Rho):R Fl:=match o with
 | some (.own ws)=>r>>=fun w=>if ws.length<1000 then .ok (.nx (ρ.set i (.own (ws ++ [w])))) else .stuck
 | _=>.stuck
theorem mApp_ap (i:Nat) (m:Rho->R W) (ρ:Rho):mApp i m ρ=appS (ρ[i]?) (m ρ) i ρ:=rfl
theorem appS_ok (ws:List W) (w:W) (i:Nat) (ρ:Rho):appS (some (.own ws)) (.ok w) i ρ=if ws.length<1000 then .ok (.nx (ρ.set i (.own (ws ++ [w])))) else .stuck:=rfl
def setS (o:Option Sl) (a b:R W) (i:Nat) (ρ:Rho):R Fl:=match o with
 | some (.own ws)=>b>>=fun w=>a>>=fun k=>(match k with
  | .int k=>(match ixN ws.length k with
   | some j=>.ok (.nx (ρ.set i (.own (ws.set j w))))
   | none=>.stuck)
  | _=>.stuck)
 | _=>.stuck
theorem mSet_ap (i:Nat) (mk me:Rho->R W) (ρ:Rho):mSet i mk me ρ=setS (ρ[i]?) (mk ρ) (me ρ) i ρ:=rfl
def setJ (o:Option Nat) (ws:List W) (w:W) (i:Nat) (ρ:Rho):R Fl:=match o with
 | some j=>.ok (.nx (ρ.set i (.own (ws.set j w))))
 | none=>.stuck
theorem setS_ok (ws:List W) (w:W) (k:Int) (i:Nat) (ρ:Rho):setS (some (.own ws)) (.ok (.int k)) (.ok w) i ρ=setJ (ixN ws.length k) ws w i ρ:=rfl
theorem setJ_some (j:Nat) (ws:List W) (w:W) (i:Nat) (ρ:Rho):setJ (some j) ws w i ρ=.ok (.nx (ρ.set i (.own (ws.set j w)))):=rfl
def augS (f:Int->Int->Int) (a b:R W) (i:Nat) (ρ:Rho):R Fl:=a>>=fun x=>b>>=fun y=>match x,y with
 | .int a,.int b=>.ok (.nx (ρ.set i (.val (.int (f a b)))))
 | _,_=>.stuck
theorem mAug_ap (i:Nat) (f:Int->Int->Int) (m:Rho->R W) (ρ:Rho):mAug i f m ρ=augS f (rdS .B (ρ[i]?)) (m ρ) i ρ:=by
 rw [<- mVar_ap]; rfl
theorem augS_ok (f:Int->Int->Int) (a b:Int) (i:Nat) (ρ:Rho):augS f (.ok (.int a)) (.ok (.int b)) i ρ=.ok (.nx (ρ.set i (.val (.int (f a b))))):=rfl
def ifS (c:R Bool) (m n:Rho->R Fl) (ρ:Rho):R Fl:=c>>=fun b=>if b then m ρ else n ρ
theorem mIf_ap (c:Rho->R Bool) (m n:Rho->R Fl) (ρ:Rho):mIf c m n ρ=ifS (c ρ) m n ρ:=rfl
theorem ifS_tt (m n:Rho->R Fl) (ρ:Rho):ifS (.ok true) m n ρ=m ρ:=rfl
theorem ifS_ff (m n:Rho->R Fl) (ρ:Rho):ifS (.ok false) m n ρ=n ρ:=rfl
def endB (r:R Fl):R W:=r>>=fun f=>match f with
 | .rt w=>.ok w
 | .nx _=>.ok .non
 | _=>.stuck
theorem runB_ap {n N:Nat} {m:Rho->R Fl} {ws:List W} (h:ws.length=n):runB n N m ws=endB (m (ws.map Sl.par++List.replicate (N-n) Sl.un)):=by unfold runB; rw [if_pos h]; rfl
theorem runB_1 {N:Nat} {m:Rho->R Fl} (a:W):runB 1 N m [a]=endB (m (Sl.par a::List.replicate (N-1) Sl.un)):=runB_ap rfl
theorem runB_2 {N:Nat} {m:Rho->R Fl} (a b:W):runB 2 N m [a,b]=endB (m (Sl.par a::Sl.par b::List.replicate (N-2) Sl.un)):=runB_ap rfl
theorem runB_3 {N:Nat} {m:Rho->R Fl} (a b c:W):runB 3 N m [a,b,c]=endB (m (Sl.par a::Sl.par b::Sl.par c::List.replicate (N-3) Sl.un)):=runB_ap rfl
theorem runB_4 {N:Nat} {m:Rho->R Fl} (a b c d:W):runB 4 N m [a,b,c,d]=endB (m (Sl.par a::Sl.par b::Sl.par c::Sl.par d::List.replicate (N-4) Sl.un)):=runB_ap rfl
theorem runB_5 {N:Nat} {m:Rho->R Fl} (a b c d e:W):runB 5 N m [a,b,c,d,e]=endB (m (Sl.par a::Sl.par b::Sl.par c::Sl.par d::Sl.par e::List.replicate (N-5) Sl.un)):=runB_ap rfl
theorem endB_rt (w:W):endB (.ok (.rt w))=.ok w:=rfl
theorem endB_nx (ρ:Rho):endB (.ok (.nx ρ))=.ok .non:=rfl
theorem fI0_ii (g:Int->Int->W) (i j:Int):fI0 g (.int i) (.int j)=.ok (g i j):=rfl
theorem fU_i (g:Int->W) (i:Int):fU g (.int i)=.ok (g i):=rfl
theorem fIx_l (ws:List W) (i:Int):fIx (.lst ws) (.int i)=toR (L2.atI ws i):=rfl
theorem fIx_t (ws:List W) (i:Int):fIx (.tup ws) (.int i)=toR (L2.atI ws i):=rfl
theorem fIx_s (ws:List W) (i:Int):fIx (.scr ws) (.int i)=toR (L2.atI ws i):=rfl
theorem toR_some {α:Type} (a:α):toR (some a)=.ok a:=rfl
theorem toB_bl (b:Bool):toB (.bl b)=.ok b:=rfl
theorem fLen_l (ws:List W):fLen [.lst ws]=.ok (.int ws.length):=rfl
theorem fLen_t (ws:List W):fLen [.tup ws]=.ok (.int ws.length):=rfl
theorem fLen_s (ws:List W):fLen [.scr ws]=.ok (.int ws.length):=rfl
theorem fList_l (c:Bool) (ws:List W):fList c [.lst ws]=chks c ws:=rfl
theorem fList_t (c:Bool) (ws:List W):fList c [.tup ws]=chks c ws:=rfl
theorem fTup_l (c:Bool) (ws:List W):fTup c [.lst ws]=chkT c ws:=rfl
theorem fTup_t (c:Bool) (ws:List W):fTup c [.tup ws]=chkT c ws:=rfl
theorem chks_t (ws:List W):chks true ws=.ok (.lst ws):=rfl
theorem chkT_t (ws:List W):chkT true ws=.ok (.tup ws):=rfl
theorem chks_no {c:Bool} {ws:List W} (h:noLs ws=true):chks c ws=.ok (.lst ws):=by unfold chks; rw [h,Bool.or_true,if_pos rfl]
theorem chkT_no {c:Bool} {ws:List W} (h:noLs ws=true):chkT c ws=.ok (.tup ws):=by unfold chkT; rw [h,Bool.or_true,if_pos rfl]
theorem chks_I (c:Bool) (ns:List Int):chks c (ns.map W.int)=.ok (.lst (ns.map W.int)):=chks_no (noLs_ints ns)
theorem chkT_I (c:Bool) (ns:List Int):chkT c (ns.map W.int)=.ok (.tup (ns.map W.int)):=chkT_no (noLs_ints ns)
theorem chk_no {w:W} (h:noL w=true):chk w=.ok w:=by unfold chk; rw [if_pos h]
theorem chk_int (i:Int):chk (.int i)=.ok (.int i):=rfl
theorem chk_bl (i:Bool):chk (.bl i)=.ok (.bl i):=rfl
theorem chk_str (i:Str):chk (.str i)=.ok (.str i):=rfl
theorem chk_non:chk .non=.ok .non:=rfl
theorem chk_tI (ns:List Int):chk (.tup (ns.map W.int))=.ok (.tup (ns.map W.int)):=chk_no (noLs_ints ns)
theorem f2_ii (g:Int->Int->Int) (i j:Int):f2 g [.int i,.int j]=.ok (.int (g i j)):=rfl
theorem seqW_l (ws:List W):seqW (.lst ws)=.ok ws:=rfl
theorem seqW_t (ws:List W):seqW (.tup ws)=.ok ws:=rfl
theorem seqW_s (ws:List W):seqW (.scr ws)=.ok ws:=rfl
theorem rng1_i (j:Int):rng1 [.int j]=rngW 0 j:=rfl
theorem rng2_i (i j:Int):rng2 [.int i,.int j]=rngW i j:=rfl
theorem gN_U (i:Nat) (w:W) (ρ:Rho):gN .U i w ρ=some (ρ.set i (.par w)):=rfl
theorem gN_V (i:Nat) (w:W) (ρ:Rho):gN .V i w ρ=some (ρ.set i (.val w)):=rfl
theorem gT_t (n:Nat) (g:List W->Rho->Option Rho) (ws:List W) (ρ:Rho):gT n g (.tup ws) ρ=if ws.length=n then g ws ρ else none:=rfl
theorem gsCons_c (f:W->Rho->Option Rho) (g:List W->Rho->Option Rho) (w:W) (ws:List W) (ρ:Rho):gsCons f g (w::ws) ρ=(f w ρ).bind (g ws):=rfl
theorem gsNil_n (ρ:Rho):gsNil [] ρ=some ρ:=rfl
theorem mkTup_ap (ws:List W):mkTup ws=if ws.length<=1000 then .ok (.tup ws) else .stuck:=rfl
theorem mkLst_ap (ws:List W):mkLst ws=if ws.length<=1000 then .ok (.lst ws) else .stuck:=rfl
theorem fIsi_ap (x:W) (T:String):fIsi [x,.ty T]=(toR ((tyW x).bind fun A=>isiB A T)>>=fun b=>.ok (.bl b)):=rfl
theorem isi_nt:isiB "NoneType" "tuple" = some false:=by decide
theorem isi_nl:isiB "NoneType" "list" = some false:=by decide
theorem isi_lt:isiB "list" "tuple" = some false:=by decide
theorem isi_tl:isiB "tuple" "list" = some false:=by decide
theorem fIsN_n (n:Bool) (u:W):fIsN n u .non=.ok (.bl (if n then !isN u else isN u)):=rfl
theorem mapR_all {f:W->R (Option W)} {α:Type} (g:α->W) (s:α->W):∀ (as:List α),(∀ a∈as,f (s a)=.ok (some (g a)))->mapR f (as.map s)=.ok (as.map g):=by
 intro as
 induction as with
 | nil=>exact fun _=>rfl
 | cons a as ih=>
  intro h
  rw [List.map_cons,mapR,h a List.mem_cons_self,ih fun b hb=>h b (List.mem_cons_of_mem _ hb)]
  rfl
theorem mapR_filter {f:W->R (Option W)} {α:Type} (g:α->W) (s:α->W) (c:α->Bool):∀ (as:List α),(∀ a∈as,f (s a)=.ok (if c a then some (g a) else none))->mapR f (as.map s)=.ok ((as.filter c).map g):=by
 intro as
 induction as with
 | nil=>exact fun _=>rfl
 | cons a as ih=>
  intro h
  rw [List.map_cons,mapR,h a List.mem_cons_self,ih fun b hb=>h b (List.mem_cons_of_mem _ hb),List.filter_cons]
  cases c a <;> rfl
theorem mComp_all {N':Nat} {mg:W->Rho->Option Rho} {me:Rho->R W} {α:Type} (g:α->W) (s:α->W) (as:List α) (ρ:Rho) (hl:as.length<=1000)
  (h:∀ a∈as,∃ ρ1,mg (s a) (ρ++List.replicate (N'-ρ.length) Sl.un)=some ρ1/\me ρ1=.ok (g a)):mComp N' mg yes me (as.map s) ρ=.ok (.lst (as.map g)):=by
 unfold mComp
 rw [List.length_map,if_pos hl,mapR_all g s as]
 intro a ha
 obtain ⟨ρ1,e1,e2⟩:=h a ha
 unfold elR
 rw [e1]
 have hy:yes ρ1=.ok true:=rfl
 dsimp only
 rw [hy]
 dsimp only
 rw [e2]
theorem mComp_filter {N':Nat} {mg:W->Rho->Option Rho} {mc:Rho->R Bool} {me:Rho->R W} {α:Type} (g:α->W) (s:α->W) (c:α->Bool) (as:List α) (ρ:Rho) (hl:as.length<=1000)
  (h:∀ a∈as,∃ ρ1,mg (s a) (ρ++List.replicate (N'-ρ.length) Sl.un)=some ρ1/\mc ρ1=.ok (c a)/\(c a=true->me ρ1=.ok (g a))):mComp N' mg mc me (as.map s) ρ=.ok (.lst ((as.filter c).map g)):=by
 unfold mComp
 rw [List.length_map,if_pos hl,mapR_filter g s c as]
 intro a ha
 obtain ⟨ρ1,e1,e2,e3⟩:=h a ha
 unfold elR
 rw [e1]
 dsimp only
 rw [e2]
 cases hc:c a with
 | false=>rfl
 | true=>dsimp only; rw [e3 hc]; rfl
theorem rngW_int {z:Int} (h0:-1000000<=z) (h:z<=1000000):rngW 0 z=.ok ((List.range z.toNat).map fun k=>W.int (k:Nat)):=by
 unfold rngW
 rw [if_pos (by omega)]
 simp
theorem rng_at {n i:Nat} {w:W} (h:((List.range n).map fun k=>W.int (k:Nat))[i]?=some w):i<n/\w=.int (i:Nat):=by
 rw [List.getElem?_map] at h
 cases q:(List.range n)[i]? with
 | none=>rw [q] at h; cases h
 | some k=>
  rw [q] at h
  obtain ⟨h1,h2⟩:=List.getElem?_eq_some_iff.mp q
  simp at h1 h2
  subst h2
  cases h
  exact ⟨h1,rfl⟩
theorem map_at {ns:List Int} {i:Nat} {w:W} (h:(ns.map W.int)[i]?=some w):i<ns.length/\w=.int (ns.getD i 0):=by
 rw [List.getElem?_map] at h
 cases q:ns[i]? with
 | none=>rw [q] at h; cases h
 | some k=>
  rw [q] at h
  cases h
  exact ⟨(List.getElem?_eq_some_iff.mp q).1,by rw [getD_of q]⟩
def cutI (xs:List Int) (lo hi:Option Int):List Int:=(xs.drop (HT.sIx xs.length 0 lo)).take (HT.sIx xs.length xs.length hi-HT.sIx xs.length 0 lo)
theorem cutW_I (ns:List Int) (lo hi:Option Int):cutW (ns.map W.int) lo hi=(cutI ns lo hi).map W.int:=by
 unfold cutW cutI
 rw [List.length_map,<- List.map_drop,<- List.map_take]
theorem cutI_len (ns:List Int) (lo hi:Option Int):(cutI ns lo hi).length<=ns.length:=by
 unfold cutI
 rw [List.length_take,List.length_drop]; omega
theorem setW_I (ns:List Int) (j:Nat) (z:Int):(ns.map W.int).set j (.int z)=(ns.set j z).map W.int:=by rw [List.map_set]
theorem appW_I (ns:List Int) (z:Int):ns.map W.int ++ [.int z]=(ns ++ [z]).map W.int:=by rw [List.map_append]; rfl
theorem repW_I (k:Nat) (z:Int):(List.replicate k [W.int z]).flatten=(List.replicate k z).map W.int:=by
 induction k with
 | zero=>rfl
 | succ k ih=>rw [List.replicate_succ,List.flatten_cons,ih,List.replicate_succ,List.map_cons]; rfl
theorem mapI {α:Type} (as:List α) (f:α->Int):(as.map fun a=>W.int (f a))=(as.map f).map W.int:=by rw [List.map_map]; rfl
theorem vec_getD {n k:Nat} {f:Nat->Int} (h:k<n):((List.range n).map f).getD k 0=f k:=by
 rw [List.getD_eq_getElem?_getD,List.getElem?_map]
 simp [h]
theorem zipW_I2 {a b:List Int} (h:b.length=a.length):(zipW [a.map W.int,b.map W.int]).map W.tup=(List.range a.length).map fun k=>W.tup [.int (a.getD k 0),.int (b.getD k 0)]:=by
 apply List.ext_getElem?
 intro i
 simp only [zipW,List.getElem?_map,List.getElem?_zipWith]
 by_cases hi:i<a.length
 ·rw [some_getD hi,some_getD (ns:=b) (by omega)]; simp [hi]
 ·simp [hi]
theorem zipW_I3 {a b c:List Int} (h:b.length=a.length) (h':c.length=a.length):(zipW [a.map W.int,b.map W.int,c.map W.int]).map W.tup=(List.range a.length).map fun k=>W.tup [.int (a.getD k 0),.int (b.getD k 0),.int (c.getD k 0)]:=by
 apply List.ext_getElem?
 intro i
 simp only [zipW,List.getElem?_map,List.getElem?_zipWith,List.zip]
 by_cases hi:i<a.length
 ·rw [some_getD hi,some_getD (ns:=b) (by omega),some_getD (ns:=c) (by omega)]; simp [hi]
 ·simp [hi]
theorem zipR_2 (x y:W) (xs ys:List W) (hx:seqW x=.ok xs) (hy:seqW y=.ok ys):zipR [x,y]=.ok ((zipW [xs,ys]).map W.tup):=by
 unfold zipR
 simp only [List.length_cons,List.length_nil,seqWs,hx,hy,Nat.reduceAdd,true_or,if_true]
theorem zipR_3 (x y z:W) (xs ys zs:List W) (hx:seqW x=.ok xs) (hy:seqW y=.ok ys) (hz:seqW z=.ok zs):zipR [x,y,z]=.ok ((zipW [xs,ys,zs]).map W.tup):=by
 unfold zipR
 simp only [List.length_cons,List.length_nil,seqWs,hx,hy,hz,Nat.reduceAdd,or_true,if_true]
theorem mul_L {i j:Int} (h:-18446744073709551616<i/\i<18446744073709551616):fI CMul gMul (.int i) (.int j)=.ok (.int (i*j)):=by
 show (if CMul i j then _ else _)=_
 rw [if_pos (.inl (by simpa using h))]
theorem mul_R {i j:Int} (h:-18446744073709551616<j/\j<18446744073709551616):fI CMul gMul (.int i) (.int j)=.ok (.int (i*j)):=by
 show (if CMul i j then _ else _)=_
 rw [if_pos (.inr (by simpa using h))]
theorem mod_ii {i j:Int} (h:0<j):fI cMod gMod (.int i) (.int j)=.ok (.int (i%j)):=by
 show (if cMod i j then _ else _)=_
 rw [if_pos h]
theorem div_ii {i j:Int} (h:0<j/\j<1073741824):fI CDiv gDiv (.int i) (.int j)=.ok (.int (i/j)):=by
 show (if CDiv i j then _ else _)=_
 rw [if_pos (show CDiv i j from h)]
theorem pow_ii {i j:Int} (h:0<=j/\j<=1000000 /\ -18446744073709551616<i/\i<18446744073709551616):fI CPow gPow (.int i) (.int j)=.ok (.int (i^j.toNat)):=by
 show (if CPow i j then _ else _)=_
 rw [if_pos ⟨h.1,h.2.1,by omega⟩]
theorem appS_c {ws:List W} {w:W} {i:Nat} {ρ:Rho} (h:ws.length<1000):appS (some (.own ws)) (.ok w) i ρ=.ok (.nx (ρ.set i (.own (ws ++ [w])))):=by rw [appS_ok,if_pos h]
theorem mkTup_c {ws:List W} (h:ws.length<=1000):mkTup ws=.ok (.tup ws):=by rw [mkTup_ap,if_pos h]
theorem mkLst_c {ws:List W} (h:ws.length<=1000):mkLst ws=.ok (.lst ws):=by rw [mkLst_ap,if_pos h]
theorem fCat_c {c:Bool} {us vs:List W} (h:us.length+vs.length<=1000):fCat c (.lst us) (.lst vs)=chks c (us++vs):=by
 show (if us.length+vs.length<=1000 then _ else _)=_
 rw [if_pos h]
theorem fRep_1 {c:Bool} {z:W} {k:Int} (h:0<=k/\k<=1000):fRep c (.lst [z]) (.int k)=chks c (List.replicate k.toNat [z]).flatten:=by
 show (if [z].length*k.toNat<=1000 /\ -1000<=k/\k<=1000 then _ else _)=_
 rw [if_pos ⟨by simp only [List.length_cons,List.length_nil]; omega,by omega,h.2⟩]
theorem atW_c {ns:List Int} {i:Int} (h:0<=i/\i<ns.length):L2.atI (ns.map W.int) i=some (.int (ns.getD i.toNat 0)):=atW h.1 h.2
theorem ixN_c {n:Nat} {i:Int} (h:0<=i/\i<n):ixN n i=some i.toNat:=ixN_int h.1 h.2
theorem rngW_c {z:Int} (h:-1000000<=z/\z<=1000000):rngW 0 z=.ok ((List.range z.toNat).map fun k=>W.int (k:Nat)):=rngW_int h.1 h.2
def Ok (r:R W) (P:W->Prop):Prop:=∃ w,r=.ok w/\P w
def Po (r:R Fl) (Jn:Rho->Prop) (Jr:W->Prop):Prop:=match r with
 | .ok (.nx ρ)=>Jn ρ
 | .ok (.rt w)=>Jr w
 | _=>False
theorem ok_end {r:R Fl} {P:W->Prop} (h:Po r (fun _=>P .non) P):Ok (endB r) P:=by
 cases r with
 | ex _=>exact h.elim
 | stuck=>exact h.elim
 | ok f=>cases f with
  | nx ρ=>exact ⟨_,rfl,h⟩
  | rt w=>exact ⟨_,rfl,h⟩
  | bk _=>exact h.elim
  | ct _=>exact h.elim
theorem po_seq {r:R Fl} {n:Rho->R Fl} {Jn:Rho->Prop} {Jr:W->Prop} (h:Po r (fun ρ=>Po (n ρ) Jn Jr) Jr):Po (andThen r n) Jn Jr:=by
 cases r with
 | ex _=>exact h.elim
 | stuck=>exact h.elim
 | ok f=>cases f with
  | nx ρ=>exact h
  | rt w=>exact h
  | bk _=>exact h.elim
  | ct _=>exact h.elim
theorem po_nx {ρ:Rho} {Jn:Rho->Prop} {Jr:W->Prop}:Po (.ok (.nx ρ)) Jn Jr=Jn ρ:=rfl
theorem po_rt {w:W} {Jn:Rho->Prop} {Jr:W->Prop}:Po (.ok (.rt w)) Jn Jr=Jr w:=rfl
theorem po_if {b:Bool} {m n:Rho->R Fl} {ρ:Rho} {Jn:Rho->Prop} {Jr:W->Prop} (h1:b=true->Po (m ρ) Jn Jr) (h2:b=false->Po (n ρ) Jn Jr):Po (ifS (.ok b) m n ρ) Jn Jr:=by
 cases b with
 | true=>exact h1 rfl
 | false=>exact h2 rfl
theorem po_ifs {b:Bool} {m n:Rho->R Fl} {ρ:Rho} {k:Rho->R Fl} {Jn:Rho->Prop} {Jr:W->Prop} (h1:b=true->Po (andThen (m ρ) k) Jn Jr) (h2:b=false->Po (andThen (n ρ) k) Jn Jr):Po (andThen (ifS (.ok b) m n ρ) k) Jn Jr:=by
 cases b with
 | true=>exact h1 rfl
 | false=>exact h2 rfl
theorem Po.mono {r:R Fl} {Jn Jn':Rho->Prop} {Jr Jr':W->Prop} (h:Po r Jn Jr) (h1:∀ ρ,Jn ρ->Jn' ρ) (h2:∀ w,Jr w->Jr' w):Po r Jn' Jr':=by
 cases r with
 | ex _=>exact h
 | stuck=>exact h
 | ok f=>cases f with
  | nx ρ=>exact h1 ρ h
  | rt w=>exact h2 w h
  | bk _=>exact h
  | ct _=>exact h
theorem po_for_go {mg:W->Rho->Option Rho} {mb:Rho->R Fl} {Jr:W->Prop} (I:Nat->Rho->Prop):∀ (ws:List W) (k:Nat) (ρ:Rho),I k ρ ->
  (∀ (i:Nat) (w:W) (ρ:Rho),ws[i]?=some w->I (k+i) ρ->∃ ρ1,mg w ρ=some ρ1/\Po (mb ρ1) (I (k+i+1)) Jr)->Po (mFor mg mb ws ρ) (I (k+ws.length)) Jr:=by
 intro ws
 induction ws with
 | nil=>exact fun k ρ h _=>h
 | cons w ws ih=>
  intro k ρ h st
  obtain ⟨ρ1,e1,p⟩:=st 0 w ρ rfl h
  unfold mFor
  rw [e1]
  show Po (mb ρ1>>=_) _ _
  revert p
  cases mb ρ1 with
  | ex _=>exact fun p=>p.elim
  | stuck=>exact fun p=>p.elim
  | ok f=>cases f with
   | bk _=>exact fun p=>p.elim
   | ct _=>exact fun p=>p.elim
   | rt w=>exact fun p=>p
   | nx ρ2=>
    intro p
    have:=ih (k+1) ρ2 p fun i w ρ hw hp=>by
     have:=st (i+1) w ρ hw (by rw [<- Nat.succ_add_eq_add_succ k i]; exact hp)
     rw [<- Nat.succ_add_eq_add_succ k i] at this
     exact this
    rw [List.length_cons,<- Nat.succ_add_eq_add_succ k ws.length]
    exact this
theorem po_for {mg:W->Rho->Option Rho} {mb:Rho->R Fl} {ws:List W} {ρ:Rho} {Jn:Rho->Prop} {Jr:W->Prop} (I:Nat->Rho->Prop) (h0:I 0 ρ)
  (st:∀ (i:Nat) (w:W) (ρ:Rho),ws[i]?=some w->I i ρ->∃ ρ1,mg w ρ=some ρ1/\Po (mb ρ1) (I (i+1)) Jr) (hn:∀ ρ,I ws.length ρ->Jn ρ):Po (mFor mg mb ws ρ) Jn Jr:=by
 have:=po_for_go (mg:=mg) (mb:=mb) (Jr:=Jr) I ws 0 ρ h0 fun i w ρ hw hp=>by rw [Nat.zero_add] at hp ⊢; exact st i w ρ hw hp
 rw [Nat.zero_add] at this
 exact this.mono hn fun _ h=>h
theorem po_fors {mg:W->Rho->Option Rho} {mb n:Rho->R Fl} {ws:List W} {ρ:Rho} {Jn:Rho->Prop} {Jr:W->Prop} (I:Nat->Rho->Prop) (h0:I 0 ρ)
  (st:∀ (i:Nat) (w:W) (ρ:Rho),ws[i]?=some w->I i ρ->∃ ρ1,mg w ρ=some ρ1/\Po (mb ρ1) (I (i+1)) Jr) (hn:∀ ρ,I ws.length ρ->Po (n ρ) Jn Jr):Po (andThen (mFor mg mb ws ρ) n) Jn Jr:=po_seq (po_for I h0 st hn)
theorem po_while {c:Rho->R Bool} {b:Rho->R Fl} {Jn:Rho->Prop} {Jr:W->Prop} (I:Nat->Rho->Prop)
  (st:∀ m ρ,I m ρ->∃ t,c ρ=.ok t/\if t=true then Po (b ρ) (fun ρ'=>∃ m',m'<m/\I m' ρ') Jr else Jn ρ):∀ (m:Nat) (ρ:Rho),I m ρ->Po (mWhile c b ρ) Jn Jr:=by
 have key:∀ (m:Nat) (ρ:Rho),I m ρ->∃ r,iterW c b (m+1) ρ=some r/\Po r Jn Jr:=by
  intro m
  induction m using Nat.strongRecOn with
  | ind m ih=>
   intro ρ h
   obtain ⟨t,e,q⟩:=st m ρ h
   unfold iterW
   rw [e]
   cases t with
   | false=>rw [if_neg Bool.false_ne_true] at q; exact ⟨_,rfl,q⟩
   | true=>
    rw [if_pos rfl] at q
    dsimp only
    revert q
    cases b ρ with
    | ex _=>exact fun q=>q.elim
    | stuck=>exact fun q=>q.elim
    | ok f=>cases f with
     | bk _=>exact fun q=>q.elim
     | ct _=>exact fun q=>q.elim
     | rt w=>exact fun q=>⟨_,rfl,q⟩
     | nx ρ'=>
      intro ⟨m',hm,h'⟩
      obtain ⟨r,e',q'⟩:=ih m' hm ρ' h'
      exact ⟨r,iterW_more (m'+1) ρ' r e' m (by omega),q'⟩
 intro m ρ h
 obtain ⟨r,e,q⟩:=key m ρ h
 rw [mWhile_eq e]
 exact q
theorem mapR_ex {f:W->R (Option W)} {α:Type} (s:α->W) (p:α->Int->Prop):∀ (as:List α),(∀ a∈as,∃ z,f (s a)=.ok (some (.int z))/\p a z)->∃ zs:List Int,mapR f (as.map s)=.ok (zs.map W.int)/\Paired p as zs
 | [],_=>⟨[],rfl,.nil⟩
 | a::as,h=>by
  obtain ⟨z,e,hz⟩:=h a (by simp)
  obtain ⟨zs,e2,hp⟩:=mapR_ex s p as fun b hb=>h b (by simp [hb])
  refine ⟨z::zs,?_,.cons hz hp⟩
  rw [List.map_cons,mapR,e,e2]; rfl
theorem mComp_ints {N':Nat} {mg:W->Rho->Option Rho} {me:Rho->R W} {α:Type} {as:List α} {s:α->W} {ρ:Rho} (p:α->Int->Prop) (hl:as.length<=1000)
  (h:∀ a∈as,∃ ρ1,mg (s a) (ρ++List.replicate (N'-ρ.length) Sl.un)=some ρ1/\Ok (me ρ1) fun w=>∃ z,w=.int z/\p a z):∃ zs:List Int,mComp N' mg yes me (as.map s) ρ=.ok (lI zs)/\Paired p as zs:=by
 obtain ⟨zs,e,hp⟩:=mapR_ex (f:=elR mg yes me (ρ++List.replicate (N'-ρ.length) Sl.un)) s p as fun a ha=>by
  obtain ⟨ρ1,e1,w,e2,z,rfl,hz⟩:=h a ha
  refine ⟨z,?_,hz⟩
  unfold elR
  rw [e1]
  have hy:yes ρ1=.ok true:=rfl
  dsimp only
  rw [hy]
  dsimp only
  rw [e2]
 refine ⟨zs,?_,hp⟩
 unfold mComp
 rw [List.length_map,if_pos hl,e]
def OkL (r:R (List W)) (P:List W->Prop):Prop:=∃ w,r=.ok w/\P w
theorem po_set {r:R W} {f:W->Sl} {i:Nat} {ρ:Rho} {Jn:Rho->Prop} {Jr:W->Prop} (h:Ok r fun w=>Jn (ρ.set i (f w))):Po (Rset r f i ρ) Jn Jr:=by
 obtain ⟨w,rfl,q⟩:=h; exact q
theorem po_sets {r:R W} {f:W->Sl} {i:Nat} {ρ:Rho} {n:Rho->R Fl} {Jn:Rho->Prop} {Jr:W->Prop} (h:Ok r fun w=>Po (n (ρ.set i (f w))) Jn Jr):Po (andThen (Rset r f i ρ) n) Jn Jr:=po_seq (po_set h)
theorem ok_bindL {r:R (List W)} {f:List W->R W} {P:W->Prop} (h:OkL r fun w=>Ok (f w) P):Ok (r>>=f) P:=by
 obtain ⟨w,rfl,q⟩:=h; exact q
theorem okL_1 {a:R W} {xs:List W} {P:List W->Prop} (h:Ok a fun x=>P (x::xs)):OkL (Rcons a (.ok xs)) P:=by
 obtain ⟨w,rfl,q⟩:=h; exact ⟨_,rfl,q⟩
theorem ok_comp {N':Nat} {mg:W->Rho->Option Rho} {me:Rho->R W} {α:Type} {as:List α} {s:α->W} {ρ:Rho} {P:W->Prop} (p:α->Int->Prop) (hl:as.length<=1000)
  (h:∀ a∈as,∃ ρ1,mg (s a) (ρ++List.replicate (N'-ρ.length) Sl.un)=some ρ1/\Ok (me ρ1) fun w=>∃ z,w=.int z/\p a z) (hp:∀ zs,Paired p as zs->P (lI zs)):Ok (mComp N' mg yes me (as.map s) ρ) P:=by
 obtain ⟨zs,e,q⟩:=mComp_ints (mg:=mg) (me:=me) (ρ:=ρ) (N':=N') p hl h
 exact ⟨_,e,hp zs q⟩
theorem set_all {ns:List Int} {P:Int->Prop} (h:∀ x∈ns,P x) {j:Nat} {z:Int} (hz:P z):∀ x∈ns.set j z,P x:=fun x hx=>by
 rcases List.mem_or_eq_of_mem_set hx with h1 | h1
 ·exact h x h1
 ·rw [h1]; exact hz
theorem gMax_max (i j:Int):gMax i j=max i j:=by unfold gMax; omega
theorem gMin_min (i j:Int):gMin i j=min i j:=by unfold gMin; omega
def oW:Option Int->W
 | none=>.non
 | some i=>.int i
theorem oW_n:oW none=.non:=rfl
theorem oW_s (i:Int):oW (some i)=.int i:=rfl
theorem noL_oW (o:Option Int):noL (oW o)=true:=by cases o <;> rfl
theorem chk_oW (o:Option Int):chk (oW o)=.ok (oW o):=chk_no (noL_oW o)
theorem noLs_map {α:Type} (f:α->W) (h:∀ a,noL (f a)=true) (as:List α):noLs (as.map f)=true:=by
 induction as with
 | nil=>rfl
 | cons a as ih=>rw [List.map_cons]; simp only [noLs,h,ih,Bool.and_self]
theorem noLs_oW (cs:List (Option Int)):noLs (cs.map oW)=true:=noLs_map oW noL_oW cs
theorem chks_O (c:Bool) (cs:List (Option Int)):chks c (cs.map oW)=.ok (.lst (cs.map oW)):=chks_no (noLs_oW cs)
theorem chkT_O (c:Bool) (cs:List (Option Int)):chkT c (cs.map oW)=.ok (.tup (cs.map oW)):=chkT_no (noLs_oW cs)
theorem isN_oW (o:Option Int):isN (oW o)=o.isNone:=by cases o <;> rfl
theorem slotF_oW (o:Option Int):slotF (oW o)=.val (oW o):=by cases o <;> rfl
theorem at_map {α:Type} (f:α->W) {as:List α} {d:α} {i:Int} (h:0<=i/\i<as.length):L2.atI (as.map f) i=some (f (as.getD i.toNat d)):=by
 unfold L2.atI
 rw [List.length_map,ixN_int h.1 h.2]
 show (as.map f)[i.toNat]?=_
 have hi:i.toNat<as.length:=by omega
 rw [List.getElem?_map,List.getD_eq_getElem?_getD]
 simp [hi]
theorem atO_c {cs:List (Option Int)} {i:Int} (h:0<=i/\i<cs.length):L2.atI (cs.map oW) i=some (oW (cs.getD i.toNat none)):=at_map oW h
theorem appO (cs:List (Option Int)) (o:Option Int):cs.map oW ++ [oW o]=(cs ++ [o]).map oW:=by rw [List.map_append]; rfl
theorem range_at {n i:Nat} {f:Nat->W} {w:W} (h:((List.range n).map f)[i]?=some w):i<n/\w=f i:=by
 rw [List.getElem?_map] at h
 cases q:(List.range n)[i]? with
 | none=>rw [q] at h; cases h
 | some k=>
  rw [q] at h
  obtain ⟨h1,h2⟩:=List.getElem?_eq_some_iff.mp q
  simp at h1 h2
  subst h2
  cases h
  exact ⟨h1,rfl⟩
theorem noL_tI (ns:List Int):noL (tI ns)=true:=noLs_ints ns
theorem noLs_S (ss:List (List Int)):noLs (ss.map tI)=true:=noLs_map tI noL_tI ss
theorem chks_S (c:Bool) (ss:List (List Int)):chks c (ss.map tI)=.ok (.lst (ss.map tI)):=chks_no (noLs_S ss)
theorem chkT_S (c:Bool) (ss:List (List Int)):chkT c (ss.map tI)=.ok (.tup (ss.map tI)):=chkT_no (noLs_S ss)
theorem atS_c {ss:List (List Int)} {i:Int} (h:0<=i/\i<ss.length):L2.atI (ss.map tI) i=some (tI (ss.getD i.toNat [])):=at_map tI h
theorem appW_S (ss:List (List Int)) (s:List Int):ss.map tI ++ [tI s]=(ss ++ [s]).map tI:=by rw [List.map_append]; rfl
def cutL {α:Type} (xs:List α) (lo hi:Option Int):List α:=(xs.drop (HT.sIx xs.length 0 lo)).take (HT.sIx xs.length xs.length hi-HT.sIx xs.length 0 lo)
theorem cutW_map {α:Type} (f:α->W) (as:List α) (lo hi:Option Int):cutW (as.map f) lo hi=(cutL as lo hi).map f:=by
 unfold cutW cutL
 rw [List.length_map,<- List.map_drop,<- List.map_take]
theorem cutW_S (ss:List (List Int)) (lo hi:Option Int):cutW (ss.map tI) lo hi=(cutL ss lo hi).map tI:=cutW_map tI ss lo hi
theorem catW_S (ss ts:List (List Int)):ss.map tI++ts.map tI=(ss++ts).map tI:=by rw [List.map_append]
theorem catW_I (ss ts:List Int):ss.map W.int++ts.map W.int=(ss++ts).map W.int:=by rw [List.map_append]
theorem paired_all {α β:Type} {p:α->β->Prop} {P:β->Prop} {as:List α} {zs:List β} (h:Paired p as zs) (hp:∀ a z,p a z->P z):∀ z∈zs,P z:=by
 induction h with
 | nil=>intro z hz; cases hz
 | cons h1 _ ih=>
  intro z hz
  rcases List.mem_cons.mp hz with rfl | hz
  ·exact hp _ _ h1
  ·exact ih z hz
theorem rngW_2 {lo hi:Int} (h:-1000000<=lo/\lo<=1000000 /\ -1000000<=hi/\hi<=1000000):rngW lo hi=.ok ((List.range (hi-lo).toNat).map fun k=>W.int (lo+(k:Nat))):=by
 unfold rngW
 rw [if_pos h]
theorem shps_map {α:Type} (f:α->W) (n:Nat) (h:∀ a,shp n (f a)=true) (as:List α):shps n (as.map f)=true:=by
 induction as with
 | nil=>rfl
 | cons a as ih=>rw [List.map_cons]; simp only [shps,h,ih,Bool.and_self]
theorem shp_int (n:Nat) (i:Int):shp n (.int i)=true:=by cases n <;> rfl
theorem shp_bl (n:Nat) (b:Bool):shp n (.bl b)=true:=by cases n <;> rfl
theorem shp_tI (n:Nat) (ns:List Int):shp (n+1) (tI ns)=true:=shps_map W.int n (shp_int n) ns
theorem shp_lI (n:Nat) (ns:List Int):shp (n+1) (lI ns)=true:=shps_map W.int n (shp_int n) ns
theorem shp_lS (n:Nat) (ss:List (List Int)):shp (n+2) (.lst (ss.map tI))=true:=shps_map tI (n+1) (shp_tI n) ss
theorem eqI:∀ (a b:List Int),PyData.eqvAll (pds (a.map W.int)) (pds (b.map W.int))=decide (a=b)
 | [],[]=>by simp [pds,PyData.eqvAll]
 | [],_::_=>by simp [pds,PyData.eqvAll]
 | _::_,[]=>by simp [pds,PyData.eqvAll]
 | x::a,y::b=>by
  simp only [List.map_cons,pds,pd,PyData.eqvAll,PyData.eqv,eqI a b]
  by_cases h:x=y <;> by_cases h':a=b <;> simp [h,h']
theorem fEq_tI (neg:Bool) (a b:List Int):fEq neg (tI a) (tI b)=.ok (.bl (if neg then !decide (a=b) else decide (a=b))):=by
 unfold fEq
 rw [shp_tI,shp_tI]
 have:eqW (tI a) (tI b)=decide (a=b):=eqI a b
 rw [this]; rfl
theorem fEq_lI (neg:Bool) (a b:List Int):fEq neg (lI a) (lI b)=.ok (.bl (if neg then !decide (a=b) else decide (a=b))):=by
 unfold fEq
 rw [shp_lI,shp_lI]
 have:eqW (lI a) (lI b)=decide (a=b):=eqI a b
 rw [this]; rfl
theorem eqSS:∀ (a b:List (List Int)),PyData.eqvAll (pds (a.map tI)) (pds (b.map tI))=decide (a=b)
 | [],[]=>by simp [pds,PyData.eqvAll]
 | [],_::_=>by simp [pds,PyData.eqvAll]
 | _::_,[]=>by simp [pds,PyData.eqvAll]
 | x::a,y::b=>by
  simp only [List.map_cons,pds,pd,PyData.eqvAll,PyData.eqv,eqSS a b,eqI]
  by_cases h:x=y <;> by_cases h':a=b <;> simp [h,h']
theorem fEq_lS (neg:Bool) (a b:List (List Int)):fEq neg (.lst (a.map tI)) (.lst (b.map tI))=.ok (.bl (if neg then !decide (a=b) else decide (a=b))):=by
 unfold fEq
 rw [shp_lS,shp_lS]
 have:eqW (.lst (a.map tI)) (.lst (b.map tI))=decide (a=b):=eqSS a b
 rw [this]; rfl
theorem fEq_ii (neg:Bool) (i j:Int):fEq neg (.int i) (.int j)=.ok (.bl (if neg then !decide (i=j) else decide (i=j))):=by
 unfold fEq
 rw [shp_int,shp_int]
 have:eqW (.int i) (.int j)=decide (i=j):=by
  by_cases h:i=j <;> simp [eqW,pd,PyData.eqv,h]
 rw [this]; rfl
theorem fEq_bb (neg:Bool) (i j:Bool):fEq neg (.bl i) (.bl j)=.ok (.bl (if neg then !decide (i=j) else decide (i=j))):=by
 unfold fEq
 rw [shp_bl,shp_bl]
 have:eqW (.bl i) (.bl j)=decide (i=j):=by cases i <;> cases j <;> rfl
 rw [this]; rfl
theorem fEq_ni (neg:Bool) (j:Int):fEq neg .non (.int j)=.ok (.bl neg):=by cases neg <;> rfl
theorem fEq_in (neg:Bool) (j:Int):fEq neg (.int j) .non=.ok (.bl neg):=by cases neg <;> rfl
theorem fEq_nn (neg:Bool):fEq neg .non .non=.ok (.bl (!neg)):=by cases neg <;> rfl
theorem fBools_m (g:List Bool->Bool) (bs:List Bool):fBools g [.lst (bs.map W.bl)]=.ok (.bl (g bs)):=by
 show (toR (blsW (bs.map W.bl))>>=_)=_
 rw [bls_map]; rfl
theorem fInts_m (g:List Int->Int) (ns:List Int):fInts g [.lst (ns.map W.int)]=.ok (.int (g ns)):=by
 show (toR (intsW (ns.map W.int))>>=_)=_
 rw [ints_map]; rfl
theorem fInt_i (i:Int):fInt [.int i]=.ok (.int i):=rfl
theorem fInt_b (b:Bool):fInt [.bl b]=.ok (.int (if b then 1 else 0)):=rfl
theorem fAbs_i (i:Int):fAbs [.int i]=.ok (.int (if i<0 then -i else i)):=rfl
def extS (o:Option Sl) (r:R W) (c:Bool) (i:Nat) (ρ:Rho):R Fl:=match o with
 | some (.own ws)=>r>>=fun w=>(match w with
  | .lst us=>if ws.length+us.length<=1000 then (if c||noLs us then .ok (.nx (ρ.set i (.own (ws++us)))) else .stuck) else .stuck
  | _=>.stuck)
 | _=>.stuck
theorem mExt_ap (i:Nat) (c:Bool) (m:Rho->R W) (ρ:Rho):mExt i c m ρ=extS (ρ[i]?) (m ρ) c i ρ:=rfl
theorem extS_c {ws us:List W} {c:Bool} {i:Nat} {ρ:Rho} (h:ws.length+us.length<=1000):extS (some (.own ws)) (.ok (.lst us)) c i ρ=if c||noLs us then .ok (.nx (ρ.set i (.own (ws++us)))) else .stuck:=by
 show (if ws.length+us.length<=1000 then _ else _)=_
 rw [if_pos h]
def revS (o:Option Sl) (i:Nat) (ρ:Rho):R Fl:=match o with
 | some (.own ws)=>.ok (.nx (ρ.set i (.own ws.reverse)))
 | _=>.stuck
theorem mRev_ap (i:Nat) (ρ:Rho):mRev i ρ=revS (ρ[i]?) i ρ:=rfl
theorem revS_ok (ws:List W) (i:Nat) (ρ:Rho):revS (some (.own ws)) i ρ=.ok (.nx (ρ.set i (.own ws.reverse))):=rfl
theorem po_cut {r:R Fl} {n:Rho->R Fl} {Jn:Rho->Prop} {Jr:W->Prop} (J:Rho->Prop) (h1:Po r J Jr) (h2:∀ ρ,J ρ->Po (n ρ) Jn Jr):Po (andThen r n) Jn Jr:=po_seq (h1.mono h2 fun _ h=>h)
theorem gAdd_ap (i j:Int):gAdd i j=.int (i+j):=rfl
theorem gSub_ap (i j:Int):TP.gSub i j=.int (i-j):=rfl
theorem gLt_ap (i j:Int):gLt i j=.bl (decide (i<j)):=rfl
theorem gLe_ap (i j:Int):gLe i j=.bl (decide (i<=j)):=rfl
theorem gGt_ap (i j:Int):gGt i j=.bl (decide (j<i)):=rfl
theorem gGe_ap (i j:Int):gGe i j=.bl (decide (j<=i)):=rfl
theorem gNeg_ap (i:Int):gNeg i=.int (-i):=rfl
theorem gAdd__ap (i j:Int):gAdd_ i j=i+j:=rfl
theorem gSub__ap (i j:Int):gSub_ i j=i-j:=rfl
theorem fStr_i {i:Int} (h:0<=i/\i<1000):fStr [.int i]=.ok (.str (toString i)):=by
 show (if i.natAbs.log2<1920 then _ else _)=_
 rw [if_pos]
 refine Nat.lt_of_le_of_lt (Nat.log2_le_self _) ?_
 omega
theorem fIsB_w (neg:Bool) (u:W) (b:Bool):fIsB neg u (.bl b)=.ok (.bl (if neg then !isBW u b else isBW u b)):=rfl
theorem isBW_i (i:Int) (b:Bool):isBW (.int i) b=false:=rfl
theorem isBW_n (b:Bool):isBW .non b=false:=rfl
theorem isBW_s (x:Str) (b:Bool):isBW (.str x) b=false:=rfl
theorem isBW_t (x:List W) (b:Bool):isBW (.tup x) b=false:=rfl
theorem isBW_l (x:List W) (b:Bool):isBW (.lst x) b=false:=rfl
theorem isBW_b (a b:Bool):isBW (.bl a) b=(a == b):=rfl
def Rcu (c:Bool) (r:R (List W)) (f:List W->R W) (i:Nat) (ρ:Rho):R Fl:=if c then (r>>=fun ws=>f ws>>=fun w=>.ok (.nx (ρ.set i (.par w)))) else .stuck
theorem sCU_ap (i:Nat) (f:List W->R W) (ma:Rho->R (List W)) (ρ:Rho):sCU i f ma ρ=Rcu (noOwn ρ) (ma ρ) f i ρ:=rfl
def Rcu2 (r:R W) (i:Nat) (ρ:Rho):R Fl:=r>>=fun w=>.ok (.nx (ρ.set i (.par w)))
theorem Rcu_t (ws:List W) (f:List W->R W) (i:Nat) (ρ:Rho):Rcu true (.ok ws) f i ρ=Rcu2 (f ws) i ρ:=rfl
theorem Rcu2_ok (w:W) (i:Nat) (ρ:Rho):Rcu2 (.ok w) i ρ=.ok (.nx (ρ.set i (.par w))):=rfl
theorem noOwn_nil:noOwn []=true:=rfl
theorem noOwn_v (w:W) (ρ:Rho):noOwn (.val w::ρ)=noOwn ρ:=rfl
theorem noOwn_p (w:W) (ρ:Rho):noOwn (.par w::ρ)=noOwn ρ:=rfl
theorem noOwn_u (ρ:Rho):noOwn (.un::ρ)=noOwn ρ:=rfl
theorem fBest_t {g:List Int->Int} {ns:List Int} (h:0<ns.length):fBest g [tI ns]=.ok (.int (g ns)):=by
 show (toR (intsW (ns.map W.int))>>=_)=_
 rw [ints_map]
 show (if 0<ns.length then _ else _)=_
 rw [if_pos h]
theorem fBest_l {g:List Int->Int} {ns:List Int} (h:0<ns.length):fBest g [lI ns]=.ok (.int (g ns)):=by
 show (toR (intsW (ns.map W.int))>>=_)=_
 rw [ints_map]
 show (if 0<ns.length then _ else _)=_
 rw [if_pos h]
theorem revW_l (ws:List W):revW [.lst ws]=.ok ws.reverse:=rfl
def rp0:=Z1 (@gMax_max) (Z1 (@gMin_min) (Z1 (@po_nx) (Z1 (@po_rt) (Z1 (@mul_L) (Z1 (@mul_R) (Z1 (@mod_ii) (Z1 (@div_ii) (Z1 (@pow_ii) (Z1 (@appS_c) (Z1 (@mkTup_c) (Z1 (@mkLst_c) (Z1 (@fCat_c) (Z1 (@fRep_1) (Z1 (@atW_c) (Z1 (@ixN_c) (Z1 (@rngW_c) (Z1 (@cutW_I) (Z1 (@setW_I) (Z1 (@appW_I) (Z1 (@repW_I) (Z1 (@mSeq_ap) (Z1 (@andThen_nx) (Z1 (@andThen_rt) (@andThen_bk))))))))))))))))))))))))
def rp1:=Z1 (@andThen_ct) (Z1 (@mC_ap) (Z1 (@b1_ap) (Z1 (@b2_ap) (Z1 (@R2b_ok) (Z1 (@bA_ap) (Z1 (@bI_ap) (Z1 (@bS_ap) (Z1 (@aN_ap) (Z1 (@aC_ap) (Z1 (@Rcons_ok) (Z1 (@bChk_ap) (Z1 (@bTest_ap) (Z1 (@tAnd_ap) (Z1 (@tOr_ap) (Z1 (@tNot_ap) (Z1 (@rAnd_ok) (Z1 (@rAnd_ff) (Z1 (@rAnd_tt) (Z1 (@rOr_ok) (Z1 (@rOr_tt) (Z1 (@rOr_ff) (Z1 (@rNot_ok) (Z1 (@vAnd_ap) (@vOr_ap))))))))))))))))))))))))
def rp2:=Z1 (@vNot_ap) (Z1 (@rAndV_ok) (Z1 (@rAndV_ff) (Z1 (@rAndV_tt) (Z1 (@rOrV_ok) (Z1 (@rOrV_tt) (Z1 (@rOrV_ff) (Z1 (@rNotV_ok) (Z1 (@vIf_ap) (Z1 (@rIfW_tt) (Z1 (@rIfW_ff) (Z1 (@rIfW_ok) (Z1 (@vChain_ap) (Z1 (@Rchain_ii) (Z1 (@vTup_ap) (Z1 (@vLst_ap) (Z1 (@pN_ap) (Z1 (@pS_ap) (Z1 (@partW_int) (Z1 (@vSl_ap) (Z1 (@Rsl_lst) (Z1 (@Rsl_scr) (Z1 (@vComp_ap) (Z1 (@Rcomp_ok) (@sNx_ap))))))))))))))))))))))))
def rp3:=Z1 (@sBk_ap) (Z1 (@sCt_ap) (Z1 (@sDrop_ap) (Z1 (@Rdrop_ok) (Z1 (@sRet_ap) (Z1 (@retK_ap) (Z1 (@sRetN_ap) (Z1 (@sV_ap) (Z1 (@sU_ap) (Z1 (@sF_ap) (Z1 (@Rset_ok) (Z1 (@slotF_lst) (Z1 (@slotF_tup) (Z1 (@slotF_int) (Z1 (@slotF_bl) (Z1 (@slotF_non) (Z1 (@slotF_str) (Z1 (@sG_ap) (Z1 (@Rasg_ok) (Z1 (@toNx_some) (Z1 (@sFor_ap) (Z1 (@Rfor_ok) (Z1 (@sFrz_ap) (Z1 (@frz_ap) (@frzS_own))))))))))))))))))))))))
def rp4:=Z1 (@frzS_val) (Z1 (@frzS_par) (Z1 (@frzS_un) (Z1 (@mVar_ap) (Z1 (@rdS_vF) (Z1 (@rdS_vV) (Z1 (@rdS_vU) (Z1 (@rdS_vC) (Z1 (@rdS_vB) (Z1 (@rdS_pF) (Z1 (@rdS_pV) (Z1 (@rdS_pU) (Z1 (@rdS_pC) (Z1 (@rdS_pB) (Z1 (@rdS_oC) (Z1 (@rdS_oB) (Z1 (@mRetVar_ap) (Z1 (@retS_own) (Z1 (@retS_val) (Z1 (@retS_par) (Z1 (@mApp_ap) (Z1 (@mSet_ap) (Z1 (@setS_ok) (Z1 (@setJ_some) (@mAug_ap))))))))))))))))))))))))
def rp5:=Z1 (@augS_ok) (Z1 (@mIf_ap) (Z1 (@ifS_tt) (Z1 (@ifS_ff) ((((((Z1 (@endB_rt) (Z1 (@endB_nx) (Z1 (@fI0_ii) (Z1 (@fU_i) (Z1 (@fIx_l) (Z1 (@fIx_t) (Z1 (@fIx_s) (Z1 (@toR_some) (Z1 (@toB_bl) (Z1 (@fLen_l) (Z1 (@fLen_t) (Z1 (@fLen_s) (Z1 (@fList_l) (Z1 (@fList_t) (Z1 (@fTup_l) (@fTup_t))))))))))))))))))))))))
def rp6:=Z1 (@chks_t) (Z1 (@chkT_t) (Z1 (@chks_I) (Z1 (@chkT_I) (Z1 (@chk_int) (Z1 (@chk_bl) (Z1 (@chk_str) (Z1 (@chk_non) (Z1 (@chk_tI) (Z1 (@f2_ii) (Z1 (@seqW_l) (Z1 (@seqW_t) (Z1 (@seqW_s) (Z1 (@rng1_i) (Z1 (@rng2_i) (Z1 (@gN_U) (Z1 (@gN_V) (Z1 (@gT_t) (Z1 (@gsCons_c) (Z1 (@gsNil_n) (Z1 (@fIsi_ap) (Z1 (@isi_nt) (Z1 (@isi_nl) (Z1 (@isi_lt) (@isi_tl))))))))))))))))))))))))
def rp7:=Z1 (@fIsN_n) (Z1 (@noLs_ints) (Z1 (@fEqS_ii) (Z1 (@fEqS_bb) (Z1 (@fEqS_ss) (Z1 (@fEqS_nn) (Z1 (@fEqS_ni) (@fEqS_in)))))))
def rp8:=Z1 (@oW_n) (Z1 (@oW_s) (Z1 (@chk_oW) (Z1 (@noLs_oW) (Z1 (@chks_O) (Z1 (@chkT_O) (Z1 (@isN_oW) (Z1 (@slotF_oW) (Z1 (@atO_c) (@appO)))))))))
def rp9:=Z1 (@noLs_S) (Z1 (@chks_S) (Z1 (@chkT_S) (Z1 (@atS_c) (Z1 (@appW_S) (Z1 (@cutW_S) (Z1 (@catW_S) (Z1 (@catW_I) (Z1 (@rngW_2) (Z1 (@fEq_tI) (Z1 (@fEq_lI) (Z1 (@fEq_lS) (Z1 (@fEq_ii) (Z1 (@fEq_bb) (Z1 (@fEq_ni) (Z1 (@fEq_in) (Z1 (@fEq_nn) ((Z1 (@fBools_m) (Z1 (@fInts_m) (Z1 (@fInt_i) (Z1 (@fInt_b) (Z1 (@fAbs_i) (Z1 (@mExt_ap) (Z1 (@extS_c) (Z1 (@mRev_ap) (@revS_ok))))))))))))))))))))))))))
def rp10:=Z1 (@gAdd_ap) (Z1 (@gSub_ap) (Z1 (@gLt_ap) (Z1 (@gLe_ap) (Z1 (@gGt_ap) (Z1 (@gGe_ap) (Z1 (@gNeg_ap) (Z1 (@gAdd__ap) (@gSub__ap))))))))
def rp11:=Z1 (@fStr_i) (Z1 (@fIsB_w) (Z1 (@isBW_i) (Z1 (@isBW_n) (Z1 (@isBW_s) (Z1 (@isBW_t) (Z1 (@isBW_l) (@isBW_b)))))))
def rp12:=Z1 (@sCU_ap) (Z1 (@Rcu_t) (Z1 (@Rcu2_ok) (Z1 (@noOwn_nil) (Z1 (@noOwn_v) (Z1 (@noOwn_p) (@noOwn_u))))))
def rp13:=Z1 (@fBest_t) (Z1 (@fBest_l) (@revW_l))
end TP
set_option maxHeartbeats 4000000
open PySem L2 TP
namespace K59
def m_is_count:Rho->R Fl:=
 (mSeq (mIf (tOr' (bTest (bA fIsi (aC (mVar .B 0) (aC (mC (.ty "bool")) aN)))) (tNot' (bTest (bA fIsi (aC (mVar .B 0) (aC (mC (.ty "int")) aN)))))) (sRet (mC (.bl false))) sNx)
  (sRet (vChain (fI0 gLe) (fI0 gLe) (mC (.int 0)) (mVar .B 0) (mC (.int 1000000000)))))
abbrev f_is_count:List W->R W:=runB 1 1 m_is_count
def m_must_be_listed:Rho->R Fl:=
 (mSeq (mIf (tNot' (bTest (bA fIsiT (aC (mVar .B 0) (aC (vTup (aC (mC (.ty "list")) (aC (mC (.ty "tuple")) aN))) aN))))) sNever sNx)
  (mIf (tNot' (bTest (vChain (fI0 gLe) (fI0 gLe) (mVar .B 2) (bA fLen (aC (mVar .B 0) aN)) (mVar .B 3)))) sNever sNx))
abbrev f_must_be_listed:List W->R W:=runB 4 4 m_must_be_listed
def m_made_counts:Rho->R Fl:=
 (mSeq (sDrop (bA f_must_be_listed (aC (mVar .B 0) (aC (mVar .B 1) (aC (mVar .B 2) (aC (mVar .B 2) aN))))))
  (mSeq (sFor (bS (mVar .U 0)) (gN .U 3)
   (mIf (tNot' (bTest (bA f_is_count (aC (mVar .B 3) aN)))) sNever sNx))
  (sRet (bA (fTup false) (aC (mVar .B 0) aN)))))
abbrev f_made_counts:List W->R W:=runB 3 4 m_made_counts
def m_made_move:Rho->R Fl:=
 (mSeq (sDrop (bA f_must_be_listed (aC (mVar .B 0) (aC (mC (.str "a move")) (aC (mC (.int 2)) (aC (mC (.int 2)) aN))))))
  (sRet (vTup (aC (bA f_made_counts (aC (b2 fIx (mVar .B 0) (mC (.int 0))) (aC (mC (.str "a take")) (aC (mVar .B 1) aN)))) (aC (bA f_made_counts (aC (b2 fIx (mVar .B 0) (mC (.int 1))) (aC (mC (.str "a put")) (aC (mVar .B 1) aN)))) aN)))))
abbrev f_made_move:List W->R W:=runB 2 2 m_made_move
def m_moor:Rho->R Fl:=
 (mSeq (sDrop (bA f_must_be_listed (aC (mVar .B 0) (aC (mC (.str "the beginning")) (aC (mC (.int 1)) (aC (mC (.int 6)) aN))))))
  (mSeq (sF 2 (bA fLen (aC (mVar .B 0) aN)))
  (mSeq (sF 3 (bA f_made_counts (aC (mVar .B 0) (aC (mC (.str "the beginning")) (aC (mVar .B 2) aN)))))
  (mSeq (sDrop (bA f_must_be_listed (aC (mVar .B 1) (aC (mC (.str "the moves")) (aC (mC (.int 0)) (aC (mC (.int 8)) aN))))))
  (sFrz 3 (sRet (vTup (aC (mVar .V 3) (aC (bA (fTup true) (aC (vComp 5 (bS (mVar .B 1)) (gN .U 4) yes (bA f_made_move (aC (mVar .B 4) (aC (mVar .B 2) aN)))) aN)) aN)))))))))
abbrev f_moor:List W->R W:=runB 2 4 m_moor
def m_covers:Rho->R Fl:=
 (mSeq (sFor (bI zipR (aC (mVar .U 0) (aC (mVar .U 1) aN))) (gT 2 (gsCons (gN .U 2) (gsCons (gN .U 3) gsNil)))
   (mIf (bTest (b2 (fI0 gLt) (mVar .B 2) (mVar .B 3))) (sRet (mC (.bl false))) sNx))
  (sRet (mC (.bl true))))
abbrev f_covers:List W->R W:=runB 2 4 m_covers
def m_able:Rho->R Fl:=
 (sRet (bA f_covers (aC (mVar .B 0) (aC (b2 fIx (mVar .B 1) (mC (.int 0))) aN))))
abbrev f_able:List W->R W:=runB 2 2 m_able
def m_change:Rho->R Fl:=
 (sRet (bA (fTup true) (aC (vComp 3 (bI zipR (aC (b2 fIx (mVar .B 0) (mC (.int 0))) (aC (b2 fIx (mVar .B 0) (mC (.int 1))) aN))) (gT 2 (gsCons (gN .U 1) (gsCons (gN .U 2) gsNil))) yes (b2 (fI0 gSub) (mVar .B 2) (mVar .B 1))) aN)))
abbrev f_change:List W->R W:=runB 1 1 m_change
def m_after:Rho->R Fl:=
 (mSeq (mIf (tNot' (bTest (bA f_able (aC (mVar .B 0) (aC (mVar .B 1) aN))))) sNever sNx)
  (sRet (bA (fTup true) (aC (vComp 4 (bI zipR (aC (mVar .B 0) (aC (bA f_change (aC (mVar .B 1) aN)) aN))) (gT 2 (gsCons (gN .U 2) (gsCons (gN .U 3) gsNil))) yes (b2 (fI0 gAdd) (mVar .B 2) (mVar .B 3))) aN))))
abbrev f_after:List W->R W:=runB 2 2 m_after
def m_source:Rho->R Fl:=
 (sRet (bA (fTup true) (aC (vComp 5 (bI zipR (aC (mVar .B 0) (aC (b2 fIx (mVar .B 1) (mC (.int 0))) (aC (b2 fIx (mVar .B 1) (mC (.int 1))) aN)))) (gT 3 (gsCons (gN .U 2) (gsCons (gN .U 3) (gsCons (gN .U 4) gsNil)))) yes (bA (f2 gMax) (aC (mVar .B 3) (aC (b2 (fI0 gAdd) (b2 (fI0 gSub) (mVar .B 2) (mVar .B 4)) (mVar .B 3)) aN)))) aN)))
abbrev f_source:List W->R W:=runB 2 2 m_source
def m_stands_of:Rho->R Fl:=
 (mSeq (sF 3 (vLst (aC (mVar .V 1) aN)))
  (mSeq (sFor (bI enuW (aC (mVar .U 2) aN)) (gT 2 (gsCons (gN .U 4) (gsCons (gN .U 5) gsNil)))
   (mSeq (sU 6 (b2 fIx (b2 fIx (mVar .B 0) (mC (.int 1))) (mVar .B 5)))
   (mSeq (mIf (tNot' (bTest (bA f_able (aC (b2 fIx (mVar .B 3) (b1 (fU gNeg) (mC (.int 1)))) (aC (mVar .B 6) aN))))) sNever sNx)
   (mApp 3 (bA f_after (aC (b2 fIx (mVar .B 3) (b1 (fU gNeg) (mC (.int 1)))) (aC (mVar .B 6) aN)))))))
  (mRetVar .F 3)))
abbrev f_stands_of:List W->R W:=runB 3 7 m_stands_of
def m_noughts:Rho->R Fl:=
 (sRet (b2 fRepT (vTup (aC (mC (.int 0)) aN)) (bA fLen (aC (b2 fIx (mVar .B 0) (mC (.int 0))) aN))))
abbrev f_noughts:List W->R W:=runB 1 1 m_noughts
def m_hurdle:Rho->R Fl:=
 (mSeq (sF 2 (bA f_noughts (aC (mVar .B 0) aN)))
  (mSeq (sFor (bI revW (aC (mVar .U 1) aN)) (gN .U 3)
   (sF 2 (bA f_source (aC (mVar .B 2) (aC (b2 fIx (b2 fIx (mVar .B 0) (mC (.int 1))) (mVar .B 3)) aN)))))
  (mRetVar .F 2)))
abbrev f_hurdle:List W->R W:=runB 2 4 m_hurdle
def m_shifted:Rho->R Fl:=
 (sRet (bA (fTup true) (aC (vComp 5 (bI zipR (aC (mVar .B 0) (aC (mVar .B 1) aN))) (gT 2 (gsCons (gN .U 3) (gsCons (gN .U 4) gsNil))) yes (b2 (fI0 gAdd) (mVar .B 3) (b2 (fI CMulB gMul) (mVar .B 2) (mVar .B 4)))) aN)))
abbrev f_shifted:List W->R W:=runB 3 3 m_shifted
def m_sum_of:Rho->R Fl:=
 (mSeq (sF 2 (bA f_noughts (aC (mVar .B 0) aN)))
  (mSeq (sFor (bS (mVar .U 1)) (gN .U 3)
   (sF 2 (bA f_shifted (aC (mVar .B 2) (aC (bA f_change (aC (b2 fIx (b2 fIx (mVar .B 0) (mC (.int 1))) (mVar .B 3)) aN)) (aC (mC (.int 1)) aN))))))
  (mRetVar .F 2)))
abbrev f_sum_of:List W->R W:=runB 2 4 m_sum_of
def m_goes:Rho->R Fl:=
 (mSeq (mIf (bTest (b2 (fEqS false) (mVar .B 3) (mC (.int 0)))) (sRet (mC (.bl true))) sNx)
  (mSeq (sF 4 (bA f_hurdle (aC (mVar .B 0) (aC (mVar .B 2) aN))))
  (mSeq (sF 5 (bA f_shifted (aC (mVar .B 1) (aC (bA f_sum_of (aC (mVar .B 0) (aC (mVar .B 2) aN))) (aC (b2 (fI0 gSub) (mVar .B 3) (mC (.int 1))) aN)))))
  (sRet (vAnd (bA f_covers (aC (mVar .B 1) (aC (mVar .B 4) aN))) (bA f_covers (aC (mVar .B 5) (aC (mVar .B 4) aN))))))))
abbrev f_goes:List W->R W:=runB 4 6 m_goes
def m_stride:Rho->R Fl:=
 (mSeq (sV 3 (mVar .V 1))
  (mSeq (sFor (bI enuW (aC (mVar .U 2) aN)) (gT 2 (gsCons (gN .U 4) (gsCons (gN .U 5) gsNil)))
   (mSeq (sU 6 (b2 fIx (mVar .B 5) (mC (.int 0))))
   (mSeq (sU 7 (b2 fIx (mVar .B 5) (mC (.int 1))))
   (mSeq (mIf (tNot' (bTest (bA f_goes (aC (mVar .B 0) (aC (mVar .B 3) (aC (mVar .B 6) (aC (mVar .B 7) aN))))))) sNever sNx)
   (sF 3 (bA f_shifted (aC (mVar .B 3) (aC (bA f_sum_of (aC (mVar .B 0) (aC (mVar .B 6) aN))) (aC (mVar .B 7) aN)))))))))
  (mRetVar .F 3)))
abbrev f_stride:List W->R W:=runB 3 8 m_stride
def m_weigh:Rho->R Fl:=
 (sRet (bA (fInts gSum) (aC (vComp 4 (bI zipR (aC (mVar .B 0) (aC (mVar .B 1) aN))) (gT 2 (gsCons (gN .U 2) (gsCons (gN .U 3) gsNil))) yes (b2 (fI CMulB gMul) (mVar .B 2) (mVar .B 3))) aN)))
abbrev f_weigh:List W->R W:=runB 2 2 m_weigh
def m_weighed_changes:Rho->R Fl:=
 (sRet (vComp 3 (bS (mVar .B 0)) (gN .U 2) yes (bA f_weigh (aC (mVar .B 1) (aC (bA f_change (aC (mVar .B 2) aN)) aN)))))
abbrev f_weighed_changes:List W->R W:=runB 2 2 m_weighed_changes
def m_is_falling:Rho->R Fl:=
 (sRet (vAnd (bA (fBools gAll) (aC (vComp 3 (bS (mVar .B 1)) (gN .U 2) yes (b2 (fI0 gGe) (mVar .B 2) (mC (.int 0)))) aN)) (bA (fBools gAll) (aC (vComp 3 (bS (bA f_weighed_changes (aC (mVar .B 0) (aC (mVar .B 1) aN)))) (gN .U 2) yes (b2 (fI0 gLe) (mVar .B 2) (mC (.int 0)))) aN))))
abbrev f_is_falling:List W->R W:=runB 2 2 m_is_falling
def m_unit:Rho->R Fl:=
 (sRet (bA (fTup true) (aC (vComp 3 (bI rng1 (aC (mVar .B 1) aN)) (gN .U 2) yes (vIf (bTest (b2 (fEq false) (mVar .B 2) (mVar .B 0))) (mC (.int 1)) (mC (.int 0)))) aN)))
abbrev f_unit:List W->R W:=runB 2 2 m_unit
def m_first_table:Rho->R Fl:=
 (mSeq (sF 3 (vComp 6 (bS (mVar .B 0)) (gN .U 5) yes (bA f_change (aC (mVar .B 5) aN))))
  (mSeq (sF 4 (vComp 6 (bI rng1 (aC (mVar .B 2) aN)) (gN .U 5) yes (b2 fCatT (bA (fTup true) (aC (vComp 7 (bS (mVar .B 3)) (gN .U 6) yes (b1 (fU gNeg) (b2 fIx (mVar .B 6) (mVar .B 5)))) aN)) (bA f_unit (aC (mVar .B 5) (aC (mVar .B 2) aN))))))
  (mSeq (mApp 4 (b2 fCatT (bA (fTup true) (aC (vComp 6 (bS (mVar .B 3)) (gN .U 5) yes (bChk (b2 fIx (mVar .B 5) (mVar .B 1)))) aN)) (b2 fRepT (vTup (aC (mC (.int 0)) aN)) (mVar .C 2))))
  (mRetVar .F 4))))
abbrev f_first_table:List W->R W:=runB 3 5 m_first_table
def m_coming:Rho->R Fl:=
 (mSeq (sFor (bI enuW (aC (b2 fIx (mVar .B 0) (b1 (fU gNeg) (mC (.int 1)))) aN)) (gT 2 (gsCons (gN .U 1) (gsCons (gN .U 2) gsNil)))
   (mIf (bTest (b2 (fI0 gGt) (mVar .B 2) (mC (.int 0)))) (mRetVar .F 1) sNx))
  (sRet (mC .non)))
abbrev f_coming:List W->R W:=runB 1 3 m_coming
def m_leaving:Rho->R Fl:=
 (mSeq (sF 3 (vComp 5 (bI rng1 (aC (bA fLen (aC (mVar .B 1) aN)) aN)) (gN .U 4) (bTest (b2 (fI0 gGt) (b2 fIx (b2 fIx (mVar .B 0) (mVar .B 4)) (mVar .B 2)) (mC (.int 0)))) (mVar .V 4)))
  (sRet (bMinL 1 (aC (mVar .B 3) aN))))
abbrev f_leaving:List W->R W:=runB 3 4 m_leaving
def m_cleared:Rho->R Fl:=
 (sRet (bA (fTup true) (aC (vComp 6 (bI zipR (aC (mVar .B 0) (aC (mVar .B 1) aN))) (gT 2 (gsCons (gN .U 4) (gsCons (gN .U 5) gsNil))) yes (b2 (fI CDivL gDiv) (b2 (fI0 gSub) (b2 (fI CMulB gMul) (mVar .B 4) (b2 fIx (mVar .B 1) (mVar .B 2))) (b2 (fI CMulB gMul) (b2 fIx (mVar .B 0) (mVar .B 2)) (mVar .B 5))) (mVar .B 3))) aN)))
abbrev f_cleared:List W->R W:=runB 4 4 m_cleared
def m_pivoted:Rho->R Fl:=
 (mSeq (sU 4 (b2 fIx (mVar .B 0) (mVar .B 1)))
  (sRet (vComp 7 (bI enuW (aC (mVar .B 0) aN)) (gT 2 (gsCons (gN .U 5) (gsCons (gN .U 6) gsNil))) yes (vIf (bTest (b2 (fEq false) (mVar .B 5) (mVar .B 1))) (mVar .V 6) (bA f_cleared (aC (mVar .B 6) (aC (mVar .B 4) (aC (mVar .B 2) (aC (mVar .B 3) aN)))))))))
abbrev f_pivoted:List W->R W:=runB 4 5 m_pivoted
def m_greatest_divisor:Rho->R Fl:=
 (mSeq (mWhile (bTest (b2 (fEqS true) (mVar .B 1) (mC (.int 0)))) (mSeq (sV 2 (b2 (fI cMod gMod) (mVar .B 0) (mVar .B 1)))
   (mSeq (sV 0 (mVar .V 1))
   (sV 1 (mVar .V 2)))))
  (mRetVar .F 0))
abbrev f_greatest_divisor:List W->R W:=runB 2 3 m_greatest_divisor
def m_in_least_numbers:Rho->R Fl:=
 (mSeq (sV 1 (mC (.int 0)))
  (mSeq (sFor (bS (mVar .U 0)) (gN .U 2)
   (sF 1 (bA f_greatest_divisor (aC (mVar .B 1) (aC (mVar .B 2) aN)))))
  (sRet (bA (fTup true) (aC (vComp 4 (bS (mVar .B 0)) (gN .U 3) yes (b2 (fI CDivL gDiv) (mVar .B 3) (mVar .B 1))) aN)))))
abbrev f_in_least_numbers:List W->R W:=runB 1 3 m_in_least_numbers
def m_weights_of:Rho->R Fl:=
 (mSeq (sF 4 (vComp 6 (bS (vSlT (b2 fIx (mVar .B 0) (b1 (fU gNeg) (mC (.int 1)))) (pS (mVar .B 3)) pN)) (gN .U 5) yes (b1 (fU gNeg) (mVar .B 5))))
  (sRet (bA f_in_least_numbers (aC (bA f_shifted (aC (mVar .B 4) (aC (bA f_unit (aC (mVar .B 1) (aC (bA fLen (aC (mVar .B 4) aN)) aN))) (aC (mVar .B 2) aN)))) aN))))
abbrev f_weights_of:List W->R W:=runB 4 5 m_weights_of
def m_bag_of:Rho->R Fl:=
 (mSeq (sF 5 (b2 (fRep true) (vLst (aC (mC (.int 0)) aN)) (bA fLen (aC (b2 fIx (mVar .B 0) (mC (.int 0))) aN))))
  (mSeq (mSet 5 (mVar .B 2) (mVar .V 3))
  (mSeq (sFor (bI enuW (aC (mVar .U 1) aN)) (gT 2 (gsCons (gN .U 6) (gsCons (gN .U 7) gsNil)))
   (mSet 5 (mVar .B 7) (b1 (fU gNeg) (b2 fIx (b2 fIx (mVar .B 0) (mVar .B 6)) (mVar .B 2)))))
  (sRet (bA f_in_least_numbers (aC (vSl true (mVar .C 5) pN (pS (mVar .B 4))) aN))))))
abbrev f_bag_of:List W->R W:=runB 5 8 m_bag_of
def m_ceiling:Rho->R Fl:=
 (mSeq (sF 3 (bA f_first_table (aC (mVar .B 0) (aC (mVar .B 1) (aC (mVar .B 2) aN)))))
  (mSeq (sF 4 (vComp 9 (bI rng1 (aC (mVar .B 2) aN)) (gN .U 8) yes (b2 (fI0 gAdd) (bA fLen (aC (mVar .B 0) aN)) (mVar .B 8))))
  (mSeq (sV 5 (mC (.int 1)))
  (mSeq (sF 6 (bA f_coming (aC (mVar .B 3) aN)))
  (mSeq (mWhile (bTest (b2 (fIsN true) (mVar .B 6) (mC .non))) (mSeq (sF 7 (bA f_leaving (aC (mVar .B 3) (aC (mVar .B 4) (aC (mVar .B 6) aN)))))
   (mSeq (mIf (bTest (b2 (fIsN false) (mVar .B 7) (mC .non))) (sRet (vTup (aC (mC (.str "bag")) (aC (bA f_bag_of (aC (mVar .B 3) (aC (mVar .B 4) (aC (mVar .B 6) (aC (mVar .B 5) (aC (bA fLen (aC (mVar .B 0) aN)) aN)))))) aN)))) sNx)
   (mSeq (sF 3 (bA f_pivoted (aC (mVar .B 3) (aC (mVar .B 7) (aC (mVar .B 6) (aC (mVar .B 5) aN))))))
   (mSeq (sFrz 6 (mSet 4 (mVar .B 7) (mVar .V 6)))
   (mSeq (sV 5 (b2 fIx (b2 fIx (mVar .C 3) (mVar .C 7)) (mVar .C 6)))
   (sF 6 (bA f_coming (aC (mVar .B 3) aN)))))))))
  (sRet (vTup (aC (mC (.str "weights")) (aC (bA f_weights_of (aC (mVar .B 3) (aC (mVar .B 1) (aC (mVar .B 5) (aC (bA fLen (aC (mVar .B 0) aN)) aN))))) aN)))))))))
abbrev f_ceiling:List W->R W:=runB 3 8 m_ceiling
def m_level:Rho->R Fl:=
 (mSeq (sF 2 (b2 fRepT (vTup (aC (mC (.int 0)) aN)) (mVar .C 1)))
  (mSeq (sFor (bI rng1 (aC (mVar .B 1) aN)) (gN .U 3)
   (mSeq (sF 4 (bA f_ceiling (aC (mVar .B 0) (aC (mVar .B 3) (aC (mVar .B 1) aN)))))
   (mSeq (mIf (bTest (b2 (fEqS false) (b2 fIx (mVar .B 4) (mC (.int 0))) (mC (.str "bag")))) (sRet (vTup (aC (mC (.str "bag")) (aC (mVar .V 3) (aC (b2 fIx (mVar .C 4) (mC (.int 1))) aN))))) sNx)
   (sF 2 (bA f_shifted (aC (mVar .B 2) (aC (b2 fIx (mVar .B 4) (mC (.int 1))) (aC (mC (.int 1)) aN))))))))
  (sRet (vTup (aC (mC (.str "weights")) (aC (bA f_in_least_numbers (aC (mVar .B 2) aN)) aN))))))
abbrev f_level:List W->R W:=runB 2 5 m_level
def m__law_cell_at:Rho->R Fl:=
 (mSeq (mIf (bTest (b2 (fI0 gLt) (mVar .B 1) (bA fLen (aC (mVar .B 0) aN)))) (sRet (bChk (b2 fIx (mVar .B 0) (mVar .B 1)))) sNx)
  (sRet (mC (.int 0))))
abbrev f__law_cell_at:List W->R W:=runB 2 2 m__law_cell_at
def m__law_stream:Rho->R Fl:=
 (mSeq (sF 3 (vLst aN))
  (mSeq (sV 4 (b2 (fI cMod gMod) (b2 (fI CMulB gMul) (b2 (fI0 gAdd) (b2 (fI cMod gMod) (mVar .B 0) (mC (.int 1000000000039))) (mC (.int 1))) (b2 (fI0 gAdd) (b2 (fI CMulB gMul) (mVar .B 1) (mVar .B 1)) (mC (.int 48271)))) (mC (.int 1000000000039))))
  (mSeq (sFor (bI rng1 (aC (mVar .B 2) aN)) (gN .U 5)
   (mSeq (sV 4 (b2 (fI cMod gMod) (b2 (fI0 gAdd) (b2 (fI0 gAdd) (b2 (fI0 gAdd) (b2 (fI CMulB gMul) (mVar .B 4) (mVar .B 4)) (b2 (fI CMulB gMul) (mC (.int 48271)) (mVar .B 4))) (mVar .B 5)) (mC (.int 1))) (mC (.int 1000000000039))))
   (mApp 3 (mVar .V 4))))
  (mRetVar .F 3))))
abbrev f__law_stream:List W->R W:=runB 3 6 m__law_stream
def m__law_weights:Rho->R Fl:=
 (mSeq (sF 2 (bA f__law_stream (aC (mVar .B 0) (aC (mC (.int 4)) (aC (b2 (fI0 gAdd) (mVar .B 1) (mC (.int 2))) aN)))))
  (mSeq (sV 3 (b2 fIx (vLst (aC (mC (.int 9)) (aC (mC (.int 200)) aN))) (b2 (fI cMod gMod) (b2 fIx (mVar .B 2) (mVar .B 1)) (mC (.int 2)))))
  (mSeq (sF 4 (vComp 6 (bI rng1 (aC (mVar .B 1) aN)) (gN .U 5) yes (b2 (fI cMod gMod) (b2 fIx (mVar .B 2) (mVar .B 5)) (b2 (fI0 gAdd) (mVar .B 3) (mC (.int 1))))))
  (mSeq (mSet 4 (b2 (fI cMod gMod) (b2 fIx (mVar .B 2) (b2 (fI0 gAdd) (mVar .B 1) (mC (.int 1)))) (mVar .B 1)) (mC (.int 1)))
  (mRetVar .F 4)))))
abbrev f__law_weights:List W->R W:=runB 2 5 m__law_weights
def m__law_free_move:Rho->R Fl:=
 (mSeq (sF 3 (bA f__law_stream (aC (mVar .B 0) (aC (b2 (fI0 gAdd) (mVar .B 1) (mC (.int 5))) (aC (b2 (fI0 gAdd) (b2 (fI CMulB gMul) (mC (.int 2)) (mVar .B 2)) (mC (.int 1))) aN)))))
  (mSeq (sV 4 (b2 fIx (vLst (aC (mC (.int 4)) (aC (mC (.int 4)) (aC (mC (.int 4)) (aC (b2 (fI0 gAdd) (b2 (fI CPow gPow) (mC (.int 10)) (mC (.int 9))) (mC (.int 1))) aN))))) (b2 (fI cMod gMod) (b2 fIx (mVar .B 3) (b2 (fI CMulB gMul) (mC (.int 2)) (mVar .B 2))) (mC (.int 4)))))
  (mSeq (sF 5 (vComp 7 (bS (vSl true (mVar .C 3) pN (pS (b2 (fI CMulB gMul) (mC (.int 2)) (mVar .B 2))))) (gN .U 6) yes (b2 (fI CMulB gMul) (b2 (fI cMod gMod) (b2 (fI CDiv gDiv) (mVar .B 6) (mC (.int 2))) (mVar .B 4)) (b2 (fI cMod gMod) (mVar .B 6) (mC (.int 2))))))
  (sRet (vTup (aC (bA (fTup true) (aC (vSl true (mVar .C 5) pN (pS (mVar .B 2))) aN)) (aC (bA (fTup true) (aC (vSl true (mVar .C 5) (pS (mVar .B 2)) pN) aN)) aN)))))))
abbrev f__law_free_move:List W->R W:=runB 3 6 m__law_free_move
def m__law_kept_move:Rho->R Fl:=
 (mSeq (sF 4 (bA fLen (aC (mVar .B 2) aN)))
  (mSeq (sV 5 (b2 fIx (vComp 13 (bI rng1 (aC (mVar .B 4) aN)) (gN .U 12) (bTest (b2 (fEqS false) (b2 fIx (mVar .B 2) (mVar .B 12)) (mC (.int 1)))) (mVar .V 12)) (mC (.int 0))))
  (mSeq (sF 6 (bA f__law_stream (aC (mVar .B 0) (aC (b2 (fI0 gAdd) (mVar .B 1) (mC (.int 5))) (aC (b2 (fI0 gAdd) (b2 (fI CMulB gMul) (mC (.int 2)) (mVar .B 4)) (mC (.int 4))) aN)))))
  (mSeq (sV 7 (b2 fIx (vLst (aC (mC (.int 4)) (aC (mC (.int 4)) (aC (mC (.int 4)) (aC (mC (.int 900001)) aN))))) (b2 (fI cMod gMod) (b2 fIx (mVar .B 6) (b2 (fI CMulB gMul) (mC (.int 2)) (mVar .B 4))) (mC (.int 4)))))
  (mSeq (sF 8 (vComp 13 (bS (vSl true (mVar .C 6) pN (pS (mVar .B 4)))) (gN .U 12) yes (b2 (fI CMulB gMul) (b2 (fI cMod gMod) (b2 (fI CDiv gDiv) (mVar .B 12) (mC (.int 3))) (mVar .B 7)) (bA fInt (aC (b2 (fI0 gGt) (b2 (fI cMod gMod) (mVar .B 12) (mC (.int 3))) (mC (.int 0))) aN)))))
  (mSeq (sF 9 (vComp 13 (bS (vSl true (mVar .C 6) (pS (mVar .B 4)) (pS (b2 (fI CMulB gMul) (mC (.int 2)) (mVar .B 4))))) (gN .U 12) yes (b2 (fI CMulB gMul) (b2 (fI cMod gMod) (b2 (fI CDiv gDiv) (mVar .B 12) (mC (.int 3))) (mVar .B 7)) (bA fInt (aC (b2 (fI0 gGt) (b2 (fI cMod gMod) (mVar .B 12) (mC (.int 3))) (mC (.int 0))) aN)))))
  (mSeq (sF 10 (bA (fInts gSum) (aC (vComp 13 (bI rng1 (aC (mVar .B 4) aN)) (gN .U 12) (bTest (b2 (fEq true) (mVar .B 12) (mVar .B 5))) (b2 (fI CMulB gMul) (b2 fIx (mVar .B 2) (mVar .B 12)) (b2 (fI0 gSub) (b2 fIx (mVar .B 9) (mVar .B 12)) (b2 fIx (mVar .B 8) (mVar .B 12))))) aN)))
  (mSeq (mSet 8 (mVar .B 5) (bA (f2 gMax) (aC (mC (.int 0)) (aC (mVar .B 10) aN))))
  (mSeq (mSet 9 (mVar .B 5) (bA (f2 gMax) (aC (mC (.int 0)) (aC (b2 (fI0 gSub) (mC (.int 0)) (mVar .B 10)) aN))))
  (mSeq (sV 11 (b2 (fI cMod gMod) (b2 fIx (mVar .B 6) (b2 (fI0 gAdd) (b2 (fI CMulB gMul) (mC (.int 2)) (mVar .B 4)) (mC (.int 1)))) (mVar .B 4)))
  (mSeq (mIf (tAnd' (bTest (b2 (fEqS false) (mVar .B 3) (mC (.int 1)))) (bTest (b2 (fEqS false) (b2 (fI cMod gMod) (b2 fIx (mVar .B 6) (b2 (fI0 gAdd) (b2 (fI CMulB gMul) (mC (.int 2)) (mVar .B 4)) (mC (.int 2)))) (mC (.int 2))) (mC (.int 0))))) (mSet 8 (mVar .B 11) (b2 (fI0 gAdd) (b2 fIx (mVar .B 8) (mVar .B 11)) (b2 (fI cMod gMod) (b2 fIx (mVar .B 6) (b2 (fI0 gAdd) (b2 (fI CMulB gMul) (mC (.int 2)) (mVar .B 4)) (mC (.int 3)))) (mC (.int 9))))) sNx)
  (mSeq (mIf (tAnd' (bTest (b2 (fEqS false) (mVar .B 3) (mC (.int 2)))) (bTest (b2 (fEqS false) (b2 (fI cMod gMod) (b2 fIx (mVar .B 6) (b2 (fI0 gAdd) (b2 (fI CMulB gMul) (mC (.int 2)) (mVar .B 4)) (mC (.int 2)))) (mC (.int 4))) (mC (.int 0))))) (mSet 9 (mVar .B 11) (b2 (fI0 gAdd) (b2 fIx (mVar .B 9) (mVar .B 11)) (b2 (fI cMod gMod) (b2 fIx (mVar .B 6) (b2 (fI0 gAdd) (b2 (fI CMulB gMul) (mC (.int 2)) (mVar .B 4)) (mC (.int 3)))) (mC (.int 9))))) sNx)
  (sRet (vTup (aC (bA (fTup true) (aC (mVar .C 8) aN)) (aC (bA (fTup true) (aC (mVar .C 9) aN)) aN))))))))))))))))
abbrev f__law_kept_move:List W->R W:=runB 4 12 m__law_kept_move
def m__law_moves:Rho->R Fl:=
 (mSeq (sF 2 (bA f__law_cell_at (aC (mVar .B 0) (aC (mC (.int 0)) aN))))
  (mSeq (sV 3 (b2 (fI cMod gMod) (b2 (fI CDiv gDiv) (mVar .B 2) (mC (.int 54))) (mC (.int 3))))
  (mSeq (sF 4 (bA f__law_weights (aC (bA f__law_cell_at (aC (mVar .B 0) (aC (mC (.int 1)) aN))) (aC (mVar .B 1) aN))))
  (mSeq (sF 5 (vLst aN))
  (mSeq (sFor (bI rng1 (aC (b2 (fI cMod gMod) (b2 (fI0 gAdd) (b2 (fI CDiv gDiv) (mVar .B 2) (mC (.int 6))) (mC (.int 2))) (mC (.int 9))) aN)) (gN .U 6)
   (mSeq (sF 7 (bA f__law_cell_at (aC (mVar .B 0) (aC (b2 (fI0 gAdd) (mC (.int 2)) (mVar .B 6)) aN))))
   (mIf (tOr' (bTest (b2 (fEqS false) (mVar .B 3) (mC (.int 0)))) (bTest (b2 (fEqS false) (b2 (fI cMod gMod) (mVar .B 7) (mC (.int 16))) (mC (.int 5))))) (mApp 5 (bA f__law_free_move (aC (mVar .B 7) (aC (mVar .B 6) (aC (mVar .B 1) aN))))) (mApp 5 (bA f__law_kept_move (aC (mVar .B 7) (aC (mVar .B 6) (aC (mVar .B 4) (aC (mVar .B 3) aN)))))))))
  (sRet (bA (fTup true) (aC (mVar .C 5) aN))))))))
abbrev f__law_moves:List W->R W:=runB 2 8 m__law_moves
def m__law_row:Rho->R Fl:=
 (mSeq (sF 3 (vLst aN))
  (mSeq (sF 4 (bA (fList false) (aC (mVar .B 0) aN)))
  (mSeq (sFor (bS (mVar .U 2)) (gN .U 5)
   (mSeq (sV 6 (mC (.bl false)))
   (sFor (bI rng1 (aC (bA fLen (aC (mVar .B 1) aN)) aN)) (gN .U 7)
    (mSeq (sV 8 (b2 (fI cMod gMod) (b2 (fI0 gAdd) (mVar .B 5) (mVar .B 7)) (bA fLen (aC (mVar .B 1) aN))))
    (mSeq (sG (gT 2 (gsCons (gN .U 9) (gsCons (gN .U 10) gsNil))) (b2 fIx (mVar .B 1) (mVar .B 8)))
    (mSeq (sF 11 (vComp 13 (bI rng1 (aC (bA fLen (aC (mVar .B 9) aN)) aN)) (gN .U 12) (bTest (b2 (fI0 gLt) (b2 fIx (mVar .B 4) (mVar .B 12)) (b2 fIx (mVar .B 9) (mVar .B 12)))) (mVar .V 12)))
    (mIf (tAnd' (tNot' (bTest (mVar .B 6))) (bTest (b2 (fEq false) (mVar .B 11) (vLst aN)))) (mSeq (sF 4 (vComp 13 (bI rng1 (aC (bA fLen (aC (mVar .B 9) aN)) aN)) (gN .U 12) yes (b2 (fI0 gAdd) (b2 (fI0 gSub) (b2 fIx (mVar .B 4) (mVar .B 12)) (b2 fIx (mVar .B 9) (mVar .B 12))) (b2 fIx (mVar .B 10) (mVar .B 12)))))
     (mSeq (mApp 3 (mVar .V 8))
     (sV 6 (mC (.bl true))))) sNx)))))))
  (mRetVar .F 3))))
abbrev f__law_row:List W->R W:=runB 3 12 m__law_row
def m__law_bag_goes:Rho->R Fl:=
 (mSeq (sF 3 (bA fLen (aC (b2 fIx (mVar .B 0) (mC (.int 0))) aN)))
  (mSeq (sF 4 (vComp 11 (bS (b2 fIx (mVar .B 0) (mC (.int 1)))) (gN .U 10) yes (bChk (b2 fIx (mVar .B 10) (mC (.int 0))))))
  (mSeq (sF 5 (bA (fTup true) (aC (vComp 11 (bI rng1 (aC (mVar .B 3) aN)) (gN .U 10) yes (bA (fInts gSum) (aC (vComp 12 (bI rng1 (aC (bA fLen (aC (mVar .B 2) aN)) aN)) (gN .U 11) yes (b2 (fI CMulB gMul) (b2 fIx (mVar .B 2) (mVar .B 11)) (b2 fIx (b2 fIx (mVar .B 4) (mVar .B 11)) (mVar .B 10)))) aN))) aN)))
  (mSeq (sF 6 (vComp 11 (bI rng1 (aC (bA fLen (aC (mVar .B 2) aN)) aN)) (gN .U 10) yes (vTup (aC (vLst (aC (mVar .V 10) aN)) (aC (bChk (b2 fIx (mVar .B 2) (mVar .B 10))) aN)))))
  (mSeq (sF 7 (bA f_stride (aC (mVar .B 0) (aC (mVar .B 5) (aC (mVar .B 6) aN)))))
  (mSeq (sF 8 (bA f_stride (aC (mVar .B 0) (aC (mVar .B 7) (aC (mVar .B 6) aN)))))
  (mSeq (sFor (bI rng1 (aC (mVar .B 3) aN)) (gN .U 9)
   (mIf (tOr' (bTest (b2 (fI0 gLt) (b2 fIx (mVar .B 7) (mVar .B 9)) (b2 (fI0 gAdd) (b2 fIx (mVar .B 5) (mVar .B 9)) (bA fInt (aC (b2 (fEq false) (mVar .B 9) (mVar .B 1)) aN))))) (bTest (b2 (fEqS true) (b2 fIx (mVar .B 8) (mVar .B 9)) (b2 (fI0 gSub) (b2 (fI CMulB gMul) (mC (.int 2)) (b2 fIx (mVar .B 7) (mVar .B 9))) (b2 fIx (mVar .B 5) (mVar .B 9)))))) (sRet (mC (.bl false))) sNx))
  (sRet (mC (.bl true))))))))))
abbrev f__law_bag_goes:List W->R W:=runB 3 10 m__law_bag_goes
def m__law_numbers:Rho->R Fl:=
 (mSeq (mIf (tOr' (tNot' (bTest (bA fIsi (aC (mVar .B 0) (aC (mC (.ty "tuple")) aN))))) (bTest (b2 (fEqS true) (bA fLen (aC (mVar .B 0) aN)) (mVar .B 1)))) (sRet (mC (.bl false))) sNx)
  (mSeq (sFor (bS (mVar .U 0)) (gN .U 3)
   (mIf (tOr' (tNot' (bTest (bA fIsi (aC (mVar .B 3) (aC (mC (.ty "int")) aN))))) (tOr' (bTest (bA fIsi (aC (mVar .B 3) (aC (mC (.ty "bool")) aN)))) (bTest (b2 (fI0 gLt) (mVar .B 3) (mVar .B 2))))) (sRet (mC (.bl false))) sNx))
  (sRet (mC (.bl true)))))
abbrev f__law_numbers:List W->R W:=runB 3 4 m__law_numbers
def m__law_kept_down:Rho->R Fl:=
 (mSeq (sV 3 (b2 (fI CDivL gDiv) (bA f_weigh (aC (mVar .B 2) (aC (b2 fIx (mVar .B 0) (mC (.int 0))) aN))) (b2 fIx (mVar .B 2) (mVar .B 1))))
  (mSeq (sFor (bS (mVar .U 0)) (gN .U 4)
   (mIf (bTest (b2 (fI0 gGt) (b2 fIx (mVar .B 4) (mVar .B 1)) (mVar .B 3))) (sRet (mC (.bl false))) sNx))
  (sRet (mC (.bl true)))))
abbrev f__law_kept_down:List W->R W:=runB 3 5 m__law_kept_down
def m_law:Rho->R Fl:=
 (mSeq (sF 1 (bA f__law_cell_at (aC (mVar .B 0) (aC (mC (.int 0)) aN))))
  (mSeq (sV 2 (b2 (fI0 gAdd) (mC (.int 1)) (b2 (fI cMod gMod) (mVar .B 1) (mC (.int 6)))))
  (mSeq (sF 3 (bA f__law_moves (aC (mVar .B 0) (aC (mVar .B 2) aN))))
  (mSeq (sV 4 (b2 fIx (vLst (aC (mC (.int 4)) (aC (b2 (fI0 gAdd) (b2 (fI CPow gPow) (mC (.int 10)) (mC (.int 9))) (mC (.int 1))) aN))) (b2 (fI cMod gMod) (b2 (fI CDiv gDiv) (mVar .B 1) (mC (.int 162))) (mC (.int 2)))))
  (mSeq (sF 5 (bA (fTup true) (aC (vComp 15 (bS (bA f__law_stream (aC (bA f__law_cell_at (aC (mVar .B 0) (aC (mC (.int 10)) aN))) (aC (mC (.int 50)) (aC (mVar .B 2) aN))))) (gN .U 14) yes (b2 (fI cMod gMod) (mVar .B 14) (mVar .B 4))) aN)))
  (mSeq (sF 6 (bA f_moor (aC (mVar .B 5) (aC (mVar .B 3) aN))))
  (mSeq (sF 7 (bA f_stands_of (aC (mVar .B 6) (aC (mVar .B 5) (aC (bA f__law_row (aC (mVar .B 5) (aC (mVar .B 3) (aC (b2 (fCat false) (bA f__law_stream (aC (mVar .B 1) (aC (mC (.int 51)) (aC (mC (.int 6)) aN)))) (vSl false (mVar .B 0) (pS (mC (.int 11))) (pS (mC (.int 25))))) aN)))) aN)))))
  (mSeq (sF 8 (vLst aN))
  (mSeq (sFor (bI rng1 (aC (mVar .B 2) aN)) (gN .U 9)
   (mSeq (sG (gT 2 (gsCons (gN .U 10) (gsCons (gN .U 11) gsNil))) (bA f_ceiling (aC (mVar .B 3) (aC (mVar .B 9) (aC (mVar .B 2) aN)))))
   (mIf (bTest (b2 (fEqS false) (mVar .B 10) (mC (.str "bag")))) (mApp 8 (mVar .V 9)) (mIf (tNot' (bTest (bA f__law_kept_down (aC (mVar .B 7) (aC (mVar .B 9) (aC (mVar .B 11) aN)))))) (sRet (mC (.bl false))) sNx))))
  (mSeq (sF 12 (bA f_level (aC (mVar .B 3) (aC (mVar .B 2) aN))))
  (mSeq (mIf (tOr' (tNot' (bTest (bA fIsi (aC (mVar .B 12) (aC (mC (.ty "tuple")) aN))))) (bTest (b2 (fI0 gLt) (bA fLen (aC (mVar .B 12) aN)) (mC (.int 2))))) (sRet (mC (.bl false))) sNx)
  (mSeq (mIf (bTest (b2 (fEq false) (mVar .B 8) (vLst aN))) (mSeq (mIf (tOr' (bTest (b2 (fEqS true) (b2 fIx (mVar .B 12) (mC (.int 0))) (mC (.str "weights")))) (tOr' (bTest (b2 (fEqS true) (bA fLen (aC (mVar .B 12) aN)) (mC (.int 2)))) (tNot' (bTest (bA f__law_numbers (aC (b2 fIx (mVar .B 12) (mC (.int 1))) (aC (mVar .B 2) (aC (mC (.int 1)) aN)))))))) (sRet (mC (.bl false))) sNx)
   (mSeq (mIf (tNot' (bTest (bA f_is_falling (aC (mVar .B 3) (aC (b2 fIx (mVar .B 12) (mC (.int 1))) aN))))) (sRet (mC (.bl false))) sNx)
   (mSeq (sF 13 (vComp 15 (bS (mVar .B 7)) (gN .U 14) yes (bA f_weigh (aC (b2 fIx (mVar .B 12) (mC (.int 1))) (aC (mVar .B 14) aN)))))
   (sRet (b2 (fEqS false) (bA fLen (aC (vComp 15 (bI rng2 (aC (mC (.int 1)) (aC (bA fLen (aC (mVar .B 13) aN)) aN))) (gN .U 14) (bTest (b2 (fI0 gGt) (b2 fIx (mVar .B 13) (mVar .B 14)) (b2 fIx (mVar .B 13) (b2 (fI0 gSub) (mVar .B 14) (mC (.int 1)))))) (mVar .V 14)) aN)) (mC (.int 0))))))) sNx)
  (mSeq (mIf (tOr' (bTest (b2 (fEqS true) (b2 fIx (mVar .B 12) (mC (.int 0))) (mC (.str "bag")))) (tOr' (bTest (b2 (fEqS true) (bA fLen (aC (mVar .B 12) aN)) (mC (.int 3)))) (tOr' (bTest (b2 (fEq true) (b2 fIx (mVar .B 12) (mC (.int 1))) (b2 fIx (mVar .B 8) (mC (.int 0))))) (bTest (bA fIsi (aC (b2 fIx (mVar .B 12) (mC (.int 1))) (aC (mC (.ty "bool")) aN))))))) (sRet (mC (.bl false))) sNx)
  (mSeq (mIf (tNot' (bTest (bA f__law_numbers (aC (b2 fIx (mVar .B 12) (mC (.int 2))) (aC (bA fLen (aC (mVar .B 3) aN)) (aC (mC (.int 0)) aN)))))) (sRet (mC (.bl false))) sNx)
  (sRet (vOr (b2 (fI0 gGe) (bA (fBest maxL) (aC (b2 fIx (mVar .B 12) (mC (.int 2))) aN)) (b2 (fI CPow gPow) (mC (.int 10)) (mC (.int 60)))) (bA f__law_bag_goes (aC (mVar .B 6) (aC (b2 fIx (mVar .B 8) (mC (.int 0))) (aC (b2 fIx (mVar .B 12) (mC (.int 2))) aN))))))))))))))))))))
abbrev f_law:List W->R W:=runB 1 14 m_law
end K59
set_option maxHeartbeats 4000000
open PySem L2 TP
namespace K59
--RPX: mulB_L, mulB_R, mulB_b, vSlT_ap, Rst_I, bMinL_ap, mML_ap, fMinL_I
def rp14:=Z1 (@isi_bb) (Z1 (@isi_bi) (Z1 (@isi_ib) (Z1 (@isi_ii) (Z1 (@isi_tt) (Z1 (@isi_ll) (Z1 (@isi_ni) (Z1 (@isi_nb) (Z1 (@isi_si) (Z1 (@isi_sb) (Z1 (@isi_li) (Z1 (@isi_lb) (Z1 (@isi_ti) (@isi_tb)))))))))))))
def rp15:=Z1 (@Bool.not_true) (Z1 (@Bool.not_false) (Z1 (@Bool.true_or) (Z1 (@Bool.or_true) (Z1 (@Bool.false_or) (Z1 (@Bool.or_false) (Z1 (@Bool.true_and) (Z1 (@Bool.and_true) (Z1 (@Bool.false_and) (Z1 (@Bool.and_false) (Z1 (@Int.sub_zero) (Z1 (@Int.zero_add) (Z1 (@Int.toNat_natCast) (Z1 (@Bool.false_eq_true) (Z1 (@Bool.true_eq_false) (Z1 (@and_true) (Z1 (@true_and) (Z1 (@or_true) (Z1 (@true_or) (@and_self)))))))))))))))))))
def rp18:=Z1 (@List.length_cons.{0}) (Z1 (@List.length_nil.{0}) (Z1 (@List.length_map.{0,0}) (Z1 (@List.length_append.{0}) (Z1 (@List.length_set.{0}) (@List.length_range)))))
def rp16:=Z1 rp14 (Z1 rp15 (Z1 rp13 (Z1 rp12 (Z1 rp11 (Z1 rp10 (Z1 rp9 (Z1 rp8 (Z1 rp0 (Z1 rp1 (Z1 rp2 (Z1 rp3 (Z1 rp4 (Z1 rp5 (Z1 rp6 rp7))))))))))))))
def rp17:=Z1 (@List.map_cons.{0,0}) (Z1 (@List.map_nil.{0,0}) (Z1 (@List.replicate_succ.{0}) (Z1 (@List.replicate_zero.{0}) (Z1 (@List.cons_append.{0}) (Z1 (@List.nil_append.{0}) (Z1 (@List.append_nil.{0}) (Z1 (@R.ok_bind) (Z1 (@R.stuck_bind) (@R.ex_bind)))))))))
def rp19:=Z1 (@beq_self_eq_true.{0}) (Z1 (@Option.isNone_none.{0}) (Z1 (@Option.isNone_some.{0}) (Z1 (@Option.bind_some.{0,0}) (Z1 (@if_true.{1}) (Z1 (@if_false.{1}) (Z1 (@decide_true) (@decide_false)))))))
theorem Rst_I (ns:List Int) (l u:Option Int):Rst (.ok (.tup (ns.map W.int))) (.ok l) (.ok u)=.ok (.tup (cutW (ns.map W.int) l u)):=Rst_ok (noLs_ints ns) l u
def rpZ:=Z1 rp19 (Z1 rp16 (Z1 rp17 (Z1 rp18 (Z1 @mulB_L (Z1 @mulB_R (Z1 @mulB_b (Z1 @vSlT_ap (Z1 @Rst_I (Z1 @bMinL_ap (Z1 @mML_ap (Z1 @fMinL_I (@decide_eq_true_eq))))))))))))
def rpB:=Z1 (@runB_1) (Z1 (@runB_2) (Z1 (@runB_3) (Z1 (@runB_4) (@runB_5))))
local macro_rules | `(tactic| exists $[$es],*)=>`(tactic| simp (disch:=first | with_reducible assumption | omega | (simp only [rp18]; omega)) only [List.getElem?_cons_zero,List.getElem?_cons_succ,List.set_cons_succ,List.set_cons_zero,tyW,isN,simprocAttr,rpZ,$[$es:term],*])
abbrev Mv:=List Int×List Int
abbrev mW (m:Mv):W:=.tup [tI m.1,tI m.2]
abbrev lS (ss:List (List Int)):W:=.lst (ss.map tI)
abbrev tM_ (ms:List Mv):W:=.tup (ms.map mW)
theorem noL_mW (m:Mv):noL (mW m)=true:=by simp [noL,noLs,noLs_ints]
theorem noLs_M (ms:List Mv):noLs (ms.map mW)=true:=noLs_map mW noL_mW ms
theorem memD {ns:List Int} {P:Int->Prop} (h:∀ x∈ns,P x) {i:Nat} (hi:i<ns.length):P (ns.getD i 0):=mem_getD h hi
def nn (xs:List Int):Prop:=∀ x∈xs,0<=x
def okN (n:Nat) (m:Mv):Prop:=m.1.length=n/\m.2.length=n/\nn m.1/\nn m.2
theorem nn_at {xs:List Int} (h:nn xs) (k:Nat):0<=xs.getD k 0:=by
 by_cases hk:k<xs.length
 ·exact memD h hk
 ·rw [List.getD_eq_getElem?_getD]; simp [hk]
theorem atM {ms:List Mv} {r:Int} (h0:0<=r) (h1:r<ms.length):L2.atI (ms.map mW) r=some (mW (ms.getD r.toNat ([],[]))):=by
 unfold L2.atI
 rw [ixN_int h0 (by rw [List.length_map]; exact h1)]
 show (ms.map mW)[r.toNat]?=_
 have hi:r.toNat<ms.length:=by omega
 rw [List.getElem?_map,List.getD_eq_getElem?_getD]
 simp [hi]
theorem getM {n:Nat} {ms:List Mv} {i:Nat} (hm:∀ m∈ms,okN n m) (h1:i<ms.length):okN n (ms.getD i ([],[])):=by
 refine hm _ ?_
 rw [List.getD_eq_getElem?_getD]; simp [h1]
def covB (a b:List Int):Bool:=(List.range a.length).all fun k=>decide (b.getD k 0<=a.getD k 0)
theorem cov_f {a b:List Int} {i:Nat} (hi:i<a.length) (h:a.getD i 0<b.getD i 0):covB a b=false:=by
 unfold covB
 rw [List.all_eq_false]
 exact ⟨i,by simpa using hi,fun h'=>by have:=of_decide_eq_true h'; omega⟩
theorem cov_t {a b:List Int} (h:∀ k,k<a.length->b.getD k 0<=a.getD k 0):covB a b=true:=by
 unfold covB
 rw [List.all_eq_true]
 exact fun k hk=>decide_eq_true (h k (by simpa using hk))
theorem covers_ok {a b:List Int} (hl:b.length=a.length):f_covers [tI a,tI b]=.ok (.bl (covB a b)):=by
 have fin:Ok (f_covers [tI a,tI b]) fun v=>v=.bl (covB a b):=by
  have hz:=zipR_2 (tI a) (tI b) _ _ rfl rfl
  rw [zipW_I2 hl] at hz
  exists rpB,m_covers,hz
  refine ok_end (po_fors (fun i ρ=>∃ u v,ρ = [.par (tI a),.par (tI b),u,v]/\∀ k,k<i->b.getD k 0<=a.getD k 0) ⟨_,_,rfl,fun k hk=>absurd hk (Nat.not_lt_zero _)⟩ ?_ ?_)
  ·rintro i u ρ hu ⟨_,_,rfl,hall⟩
   obtain ⟨hi,rfl⟩:=range_at hu
   refine ⟨_,rfl,?_⟩
   exists rp18
   refine po_if (fun h=>?_) (fun h=>?_)
   ·exists rp18
    rw [cov_f hi (by simpa using h)]
   ·exists rp18
    refine ⟨_,_,rfl,fun k hk=>?_⟩
    by_cases e:k=i
    ·subst e; simpa using h
    ·exact hall k (by omega)
  ·rintro ρ ⟨_,_,rfl,hall⟩
   rw [List.length_map,List.length_range] at hall
   exists rp18
   rw [cov_t hall]
 obtain ⟨v,e,rfl⟩:=fin
 exact e
def cc (xs:List Int):Prop:=∀ x∈xs,0<=x/\x<=1000000000
def okC (n:Nat) (m:Mv):Prop:=m.1.length=n/\m.2.length=n/\cc m.1/\cc m.2
theorem cc.nn {xs:List Int} (h:cc xs):nn xs:=fun x hx=>(h x hx).1
theorem able_ok {s:List Int} {m:Mv} (h:m.1.length=s.length):f_able [tI s,mW m]=.ok (.bl (covB s m.1)):=by
 have a0:L2.atI [tI m.1,tI m.2] 0=some (tI m.1):=rfl
 have k:=covers_ok (a:=s) (b:=m.1) h
 exists rpB,m_able,a0,k
theorem change_ok {n:Nat} {m:Mv} (h6:n<=6) (h:okN n m):f_change [mW m]=.ok (tI ((List.range n).map fun k=>m.2.getD k 0-m.1.getD k 0)):=by
 have a0:L2.atI [tI m.1,tI m.2] 0=some (tI m.1):=rfl
 have a1:L2.atI [tI m.1,tI m.2] 1=some (tI m.2):=rfl
 have hz:=zipR_2 (tI m.1) (tI m.2) _ _ rfl rfl
 rw [zipW_I2 (by rw [h.1,h.2.1]),h.1] at hz
 exists rpB,m_change,a0,a1,hz
 have e:∀ N mg me ρ (h:∀ k,k<n->∃ ρ1,mg (.tup [.int (m.1.getD k 0),.int (m.2.getD k 0)]) (ρ++List.replicate (N-ρ.length) Sl.un)=some ρ1/\me ρ1=.ok (.int (m.2.getD k 0-m.1.getD k 0))),mComp N mg yes me ((List.range n).map fun k=>W.tup [.int (m.1.getD k 0),.int (m.2.getD k 0)]) ρ=.ok (lI ((List.range n).map fun k=>m.2.getD k 0-m.1.getD k 0)):=fun N mg me ρ h=>by
  rw [mComp_all (fun k=>.int (m.2.getD k 0-m.1.getD k 0)) _ _ ρ (by simpa using (by omega:n<=1000)) (fun k hk=>h k (by simpa using hk)),mapI]
 rw [e]
 ·exists rp18
 ·intro k hk
  refine ⟨_,rfl,?_⟩
  exists rp18
theorem as_rng (s:List Int):(List.range s.length).map (fun k=>s.getD k 0)=s:=by
 apply List.ext_getElem
 ·simp
 ·intro i h1 h2; simp [h2]
theorem after_gen {n:Nat} {s:List Int} {m:Mv} (h6:n<=6) (h:okN n m) (hs:s.length=n) (hc:covB s m.1=true):f_after [tI s,mW m]=.ok (tI ((List.range n).map fun k=>s.getD k 0+(m.2.getD k 0-m.1.getD k 0))):=by
 have k1:=able_ok (s:=s) (m:=m) (by rw [hs,h.1])
 rw [hc] at k1
 have k2:=change_ok h6 h
 have hz:=zipR_2 (tI s) (tI ((List.range n).map fun k=>m.2.getD k 0-m.1.getD k 0)) _ _ rfl rfl
 rw [zipW_I2 (by simp [hs]),hs] at hz
 exists rpB,m_after,k1,k2,hz
 have e:∀ N mg me ρ (h:∀ k,k<n->∃ ρ1,mg (.tup [.int (s.getD k 0),.int (((List.range n).map fun k=>m.2.getD k 0-m.1.getD k 0).getD k 0)]) (ρ++List.replicate (N-ρ.length) Sl.un)=some ρ1/\me ρ1=.ok (.int (s.getD k 0+(m.2.getD k 0-m.1.getD k 0)))),mComp N mg yes me ((List.range n).map fun k=>W.tup [.int (s.getD k 0),.int (((List.range n).map fun k=>m.2.getD k 0-m.1.getD k 0).getD k 0)]) ρ=.ok (lI ((List.range n).map fun k=>s.getD k 0+(m.2.getD k 0-m.1.getD k 0))):=fun N mg me ρ h=>by
  rw [mComp_all (fun k=>.int (s.getD k 0+(m.2.getD k 0-m.1.getD k 0))) _ _ ρ (by simpa using (by omega:n<=1000)) (fun k hk=>h k (by simpa using hk)),mapI]
 rw [e]
 ·exists rp18
 ·intro k hk
  refine ⟨_,rfl,?_⟩
  exists rp18
  rw [vec_getD hk]
theorem listed_ok {ws:List W} {what:Str} {lo hi:Int} (h0:lo<=(ws.length:Int)) (h1:(ws.length:Int)<=hi):f_must_be_listed [.tup ws,.str what,.int lo,.int hi]=.ok .non:=by
 have e:∀ x y:String,x = "list" -> y = "tuple" -> fIsiT [.tup ws,.tup [.ty x,.ty y]]=.ok (.bl true):=fun x y hx hy=>by subst hx hy; rfl
 have e1:decide (lo<=(ws.length:Int))=true:=decide_eq_true h0
 have e2:decide ((ws.length:Int)<=hi)=true:=decide_eq_true h1
 exists rpB,m_must_be_listed,e _ _ rfl rfl,e1,e2
theorem iscount_ok {z:Int} (h:0<=z/\z<=1000000000):f_is_count [.int z]=.ok (.bl true):=by
 have e1:decide (0<=z)=true:=decide_eq_true h.1
 have e2:decide (z<=1000000000)=true:=decide_eq_true h.2
 exists rpB,m_is_count,e1,e2
theorem made_ok {xs:List Int} {what:Str} {n:Nat} (hl:xs.length=n) (h:cc xs):f_made_counts [tI xs,.str what,.int (n:Int)]=.ok (tI xs):=by
 have fin:Ok (f_made_counts [tI xs,.str what,.int (n:Int)]) fun v=>v=tI xs:=by
  have k:=listed_ok (ws:=xs.map W.int) (what:=what) (lo:=(n:Int)) (hi:=(n:Int)) (by rw [List.length_map]; omega) (by rw [List.length_map]; omega)
  exists rpB,m_made_counts,k
  refine ok_end (po_fors (fun i ρ=>∃ a:Sl,ρ = [.par (tI xs),.par (.str what),.par (.int n),a]) ⟨_,rfl⟩ ?_ ?_)
  ·rintro i u ρ hu ⟨a,rfl⟩
   obtain ⟨hi,rfl⟩:=map_at hu
   have k1:=iscount_ok (memD (P:=fun x=>0<=x/\x<=1000000000) h hi)
   refine ⟨_,rfl,?_⟩
   exists k1
   exact ⟨_,rfl⟩
  ·rintro ρ ⟨a,rfl⟩
   exists rp18
 obtain ⟨v,e,rfl⟩:=fin
 exact e
theorem mmove_ok {n:Nat} {m:Mv} (h:okC n m):f_made_move [mW m,.int (n:Int)]=.ok (mW m):=by
 have a0:L2.atI [tI m.1,tI m.2] 0=some (tI m.1):=rfl
 have a1:L2.atI [tI m.1,tI m.2] 1=some (tI m.2):=rfl
 have k:=fun what=>listed_ok (ws:=[tI m.1,tI m.2]) (what:=what) (lo:=2) (hi:=2) (by simp) (by simp)
 have k1:=fun what=>made_ok (what:=what) h.1 h.2.2.1
 have k2:=fun what=>made_ok (what:=what) h.2.1 h.2.2.2
 exists rpB,m_made_move,k,a0,a1,k1,k2,chk_no (noL_tI m.1),chk_no (noL_tI m.2)
theorem moor_ok {b:List Int} {ms:List Mv} (h1:1<=b.length) (h6:b.length<=6) (hb:cc b) (hm:∀ m∈ms,okC b.length m) (hl:ms.length<=8):f_moor [tI b,tM_ ms]=.ok (.tup [tI b,tM_ ms]):=by
 have k1:=fun what=>listed_ok (ws:=b.map W.int) (what:=what) (lo:=1) (hi:=6) (by rw [List.length_map]; omega) (by rw [List.length_map]; omega)
 have k2:=fun what=>made_ok (what:=what) (xs:=b) rfl hb
 have k3:=fun what=>listed_ok (ws:=ms.map mW) (what:=what) (lo:=0) (hi:=8) (by rw [List.length_map]; omega) (by rw [List.length_map]; omega)
 have e:∀ N mg me ρ (h:∀ m∈ms,∃ ρ1,mg (mW m) (ρ++List.replicate (N-ρ.length) Sl.un)=some ρ1/\me ρ1=.ok (mW m)),mComp N mg yes me (ms.map mW) ρ=.ok (.lst (ms.map mW)):=fun N mg me ρ h=>
  mComp_all mW _ _ ρ (by omega) h
 exists rpB,m_moor,k1,k2,k3
 rw [e]
 ·exists chkT_no (noLs_M ms),chk_no (noL_tI b)
 ·intro m hmm
  have k4:=mmove_ok (hm m hmm)
  refine ⟨_,rfl,?_⟩
  exists k4
def behS (s:List Int) (m:Mv):List Int:=(List.range s.length).map fun k=>s.getD k 0+(m.2.getD k 0-m.1.getD k 0)
def mvA (ms:List Mv) (r:Int):Mv:=ms.getD r.toNat ([],[])
def stn (ms:List Mv) (b rs:List Int):List Int:=rs.foldl (fun s r=>behS s (mvA ms r)) b
def goP (ms:List Mv) (b rs:List Int):Prop:=∀ i,i<rs.length->(0<=rs.getD i 0/\rs.getD i 0<(ms.length:Int))/\covB (stn ms b (rs.take i)) (mvA ms (rs.getD i 0)).1=true
def stns (ms:List Mv) (b rs:List Int):List (List Int):=(List.range (rs.length+1)).map fun i=>stn ms b (rs.take i)
theorem behS_len (s:List Int) (m:Mv):(behS s m).length=s.length:=by simp [behS]
theorem stn_snoc (ms:List Mv) (b rs:List Int) (r:Int):stn ms b (rs ++ [r])=behS (stn ms b rs) (mvA ms r):=by unfold stn; rw [List.foldl_append]; rfl
theorem stn_len (ms:List Mv):∀ (rs b:List Int),(stn ms b rs).length=b.length
 | [],b=>rfl
 | r::rs,b=>by
  show (stn ms (behS b (mvA ms r)) rs).length=_
  rw [stn_len ms rs,behS_len]
theorem take_suc {rs:List Int} {i:Nat} (h:i<rs.length):rs.take (i+1)=rs.take i ++ [rs.getD i 0]:=by
 rw [List.take_succ,List.getD_eq_getElem?_getD]
 simp [List.getElem?_eq_getElem h]
theorem stn_suc {ms:List Mv} {b rs:List Int} {i:Nat} (h:i<rs.length):stn ms b (rs.take (i+1))=behS (stn ms b (rs.take i)) (mvA ms (rs.getD i 0)):=by rw [take_suc h,stn_snoc]
theorem go_snoc {ms:List Mv} {b rs:List Int} {r:Int} (h:goP ms b rs) (h0:0<=r) (h1:r<(ms.length:Int)) (hc:covB (stn ms b rs) (mvA ms r).1=true):goP ms b (rs ++ [r]):=fun i hi=>by
 rw [List.length_append,List.length_singleton] at hi
 by_cases e:i=rs.length
 ·subst e
  have e1:(rs ++ [r]).getD rs.length 0=r:=by rw [List.getD_eq_getElem?_getD]; simp
  have e2:(rs ++ [r]).take rs.length=rs:=by simp
  rw [e1,e2]
  exact ⟨⟨h0,h1⟩,hc⟩
 ·have hi':i<rs.length:=by omega
  have e1:(rs ++ [r]).getD i 0=rs.getD i 0:=by rw [List.getD_eq_getElem?_getD,List.getD_eq_getElem?_getD,List.getElem?_append_left hi']
  have e2:(rs ++ [r]).take i=rs.take i:=List.take_append_of_le_length (by omega)
  rw [e1,e2]
  exact h i hi'
theorem mvA_ok {n:Nat} {ms:List Mv} {r:Int} (hm:∀ m∈ms,okN n m) (h0:0<=r) (h1:r<(ms.length:Int)):okN n (mvA ms r):=getM hm (by omega)
theorem row_ok {b:List Int} {ms:List Mv} {st:List Int} (h6:b.length<=6) (hm:∀ m∈ms,okN b.length m) (hml:ms.length<=8) (hst:st.length<=100):Ok (f__law_row [tI b,tM_ ms,lI st]) fun w=>∃ rs:List Int,w=lI rs/\goP ms b rs/\rs.length<=st.length:=by
 exists rpB,m__law_row
 refine ok_end (po_fors (fun i ρ=>∃ (rs:List Int) (a5 a6 a7 a8 a9 a10 a11:Sl),ρ = [.par (tI b),.par (tM_ ms),.par (lI st),.own (rs.map W.int),.own ((stn ms b rs).map W.int),a5,a6,a7,a8,a9,a10,a11]/\goP ms b rs/\rs.length<=i/\i<=st.length) ⟨[],_,_,_,_,_,_,_,rfl,fun i hi=>absurd hi (Nat.not_lt_zero _),Nat.le_refl _,Nat.zero_le _⟩ ?_ ?_)
 ·rintro i u ρ hu ⟨rs,a5,a6,a7,a8,a9,a10,a11,rfl,hgo,hrl,hil⟩
  obtain ⟨hi,rfl⟩:=map_at hu
  generalize st.getD i 0=step
  refine ⟨_,rfl,?_⟩
  exists rp18
  refine po_for (fun j ρ=>∃ (rs:List Int) (wt:Bool) (a7 a8 a9 a10 a11:Sl),ρ = [.par (tI b),.par (tM_ ms),.par (lI st),.own (rs.map W.int),.own ((stn ms b rs).map W.int),.par (.int step),.val (.bl wt),a7,a8,a9,a10,a11]/\goP ms b rs/\(wt=false->rs.length<=i)/\rs.length<=i+1) ⟨rs,false,_,_,_,_,_,rfl,hgo,fun _=>hrl,by omega⟩ ?_ ?_
  ·rintro j u ρ hu ⟨rs,wt,a7,a8,a9,a10,a11,rfl,hgo,hw,hrl⟩
   obtain ⟨hj,rfl⟩:=rng_at hu
   have hpos:0<(ms.length:Int):=by omega
   have n0:0<=(step+(j:Int))%(ms.length:Int):=Int.emod_nonneg _ (by omega)
   have n1:(step+(j:Int))%(ms.length:Int)<(ms.length:Int):=Int.emod_lt_of_pos _ hpos
   have em:=mod_ii (i:=step+(j:Int)) hpos
   have hmv:=mvA_ok hm n0 n1
   have e1:=atM n0 n1
   generalize hr:(step+(j:Int))%(ms.length:Int)=r at n0 n1 em hmv e1
   replace e1:L2.atI (ms.map mW) r=some (mW (mvA ms r)):=e1
   generalize hmm:mvA ms r=m at hmv e1
   have hsl:=stn_len ms rs b
   have hl1:m.1.length=b.length:=hmv.1
   have hl2:m.2.length=b.length:=hmv.2.1
   have hlk:∀ N mg mc me ρ,(∀ k,k<m.1.length->∃ ρ1,mg (.int (k:Nat)) (ρ++List.replicate (N-ρ.length) Sl.un)=some ρ1/\mc ρ1=.ok (decide ((stn ms b rs).getD k 0<m.1.getD k 0))/\me ρ1=.ok (.int (k:Nat))) ->
     mComp N mg mc me ((List.range m.1.length).map fun k=>W.int (k:Nat)) ρ=.ok (lI (((List.range m.1.length).filter fun k=>decide ((stn ms b rs).getD k 0<m.1.getD k 0)).map fun (k:Nat)=>(k:Int))):=fun N mg mc me ρ h=>by
    have:=mComp_filter (N':=N) (mg:=mg) (mc:=mc) (me:=me) (fun k=>W.int (k:Nat)) (fun k=>W.int (k:Nat)) (fun k=>decide ((stn ms b rs).getD k 0<m.1.getD k 0)) (List.range m.1.length) ρ (by simp; omega) fun k hk=>by
     obtain ⟨ρ1,e1,e2,e3⟩:=h k (by simpa using hk)
     exact ⟨ρ1,e1,e2,fun _=>e3⟩
    rw [this]
    unfold lI
    rw [List.map_map]; rfl
   refine ⟨_,rfl,?_⟩
   exists em,e1
   rw [hlk]
   ·have hcv:(((List.range m.1.length).filter fun k=>decide ((stn ms b rs).getD k 0<m.1.getD k 0)).map fun (k:Nat)=>(k:Int)) = []↔covB (stn ms b rs) m.1=true:=by
     rw [List.map_eq_nil_iff,List.filter_eq_nil_iff]
     constructor
     ·intro h
      refine cov_t fun k hk=>?_
      have:=h k (by rw [List.mem_range,hl1,<- hsl]; exact hk)
      exact Int.not_lt.mp fun q=>this (decide_eq_true q)
     ·intro h k hk hd
      have hk:k<m.1.length:=by simpa using hk
      have:=cov_f (a:=stn ms b rs) (b:=m.1) (i:=k) (by omega) (of_decide_eq_true hd)
      rw [this] at h; cases h
    generalize hL:(((List.range m.1.length).filter fun k=>decide ((stn ms b rs).getD k 0<m.1.getD k 0)).map fun (k:Nat)=>(k:Int))=L at hcv ⊢
    have eq0:fEq false (.lst (L.map W.int)) (.lst [])=.ok (.bl (decide (L = []))):=fEq_lI false L []
    exists eq0
    refine po_if (fun h=>?_) (fun h=>?_)
    ·have hw0:wt=false:=by cases wt with | false=>rfl | true=>simp at h
     have hL0:L = []:=by subst hw0; simpa using h
     have hc:=hcv.mp hL0
     have hgo':=go_snoc (r:=r) hgo n0 n1 (by rw [hmm]; exact hc)
     have hsn:behS (stn ms b rs) m=stn ms b (rs ++ [r]):=by rw [stn_snoc,hmm]
     have e:∀ N mg me ρ (h:∀ k,k<m.1.length->∃ ρ1,mg (.int (k:Nat)) (ρ++List.replicate (N-ρ.length) Sl.un)=some ρ1/\me ρ1=.ok (.int ((stn ms b rs).getD k 0-m.1.getD k 0+m.2.getD k 0))),mComp N mg yes me ((List.range m.1.length).map fun k=>W.int (k:Nat)) ρ=.ok (lI (stn ms b (rs ++ [r]))):=fun N mg me ρ h=>by
      rw [mComp_all (fun k=>.int ((stn ms b rs).getD k 0-m.1.getD k 0+m.2.getD k 0)) _ _ ρ (by simp; omega) (fun k hk=>h k (by simpa using hk)),mapI,<- hsn]
      unfold behS
      rw [hsl,hl1]
      rw [List.map_congr_left (g:=fun k=>(stn ms b rs).getD k 0+(m.2.getD k 0-m.1.getD k 0)) fun k _=>by omega]
     exists rp18
     rw [e]
     ·have hrl':=hw hw0
      exists rp18
      exact ⟨rs ++ [r],true,_,_,_,_,_,rfl,hgo',fun z=>absurd z (by decide),by simp; omega⟩
     ·intro k hk
      refine ⟨_,rfl,?_⟩
      exists rp18
    ·exists rp18
     exact ⟨rs,wt,_,_,_,_,_,rfl,hgo,hw,hrl⟩
   ·intro k hk
    refine ⟨_,rfl,?_⟩
    exists rp18
  ·rintro ρ ⟨rs,wt,a7,a8,a9,a10,a11,rfl,hgo,hw,hrl⟩
   exact ⟨rs,_,_,_,_,_,_,_,rfl,hgo,hrl,by omega⟩
 ·rintro ρ ⟨rs,a5,a6,a7,a8,a9,a10,a11,rfl,hgo,hrl,hil⟩
  exists rp18
  rw [List.length_map] at hrl
  exact ⟨rs,rfl,hgo,hrl⟩
theorem at_lastS {l:List (List Int)} (h:0<l.length):L2.atI (l.map tI) (-1)=some (tI (l.getD (l.length-1) [])):=by
 unfold L2.atI L2.ixN
 rw [List.length_map,if_neg (by omega),if_pos (by omega)]
 show (l.map tI)[((l.length:Int) + -1).toNat]?=_
 have:((l.length:Int) + -1).toNat=l.length-1:=by omega
 rw [this,List.getElem?_map,List.getD_eq_getElem?_getD,List.getElem?_eq_getElem (by omega)]
 rfl
theorem enuI_at {rs:List Int} {i:Nat} {w:W} (h:((rs.map W.int).mapIdx fun i x=>W.tup [.int (i:Int),x])[i]?=some w):i<rs.length/\w=.tup [.int (i:Int),.int (rs.getD i 0)]:=by
 rw [List.getElem?_mapIdx,List.getElem?_map] at h
 cases q:rs[i]? with
 | none=>rw [q] at h; cases h
 | some m=>
  rw [q] at h; cases h
  refine ⟨(List.getElem?_eq_some_iff.mp q).1,?_⟩
  rw [List.getD_eq_getElem?_getD,q]; rfl
theorem stands_ok {b rs:List Int} {ms:List Mv} (h6:b.length<=6) (hm:∀ m∈ms,okN b.length m) (hgo:goP ms b rs) (hl:rs.length<=100):f_stands_of [.tup [tI b,tM_ ms],tI b,lI rs]=.ok (lS (stns ms b rs)):=by
 have fin:Ok (f_stands_of [.tup [tI b,tM_ ms],tI b,lI rs]) fun v=>v=lS (stns ms b rs):=by
  have he:enuW [lI rs]=.ok ((rs.map W.int).mapIdx fun i x=>W.tup [.int (i:Int),x]):=rfl
  have a1:L2.atI [tI b,tM_ ms] 1=some (tM_ ms):=rfl
  exists rpB,m_stands_of,he,chk_no (noL_tI b)
  refine ok_end (po_fors (fun i ρ=>∃ (a4 a5 a6:Sl),ρ = [.par (.tup [tI b,tM_ ms]),.par (tI b),.par (lI rs),.own (((List.range (i+1)).map fun k=>stn ms b (rs.take k)).map tI),a4,a5,a6]/\i<=rs.length) ⟨_,_,_,rfl,Nat.zero_le _⟩ ?_ ?_)
  ·rintro i u ρ hu ⟨a4,a5,a6,rfl,hil⟩
   obtain ⟨hi,rfl⟩:=enuI_at hu
   obtain ⟨⟨r0,r1⟩,hc⟩:=hgo i hi
   have e1:L2.atI (ms.map mW) (rs.getD i 0)=some (mW (mvA ms (rs.getD i 0))):=atM r0 r1
   have hmv:=mvA_ok hm r0 r1
   have hsuc:=stn_suc (ms:=ms) (b:=b) hi
   have hsl:=stn_len ms (rs.take i) b
   have eL:=at_lastS (l:=(List.range (i+1)).map fun k=>stn ms b (rs.take k)) (by simp)
   have eg:((List.range (i+1)).map fun k=>stn ms b (rs.take k)).getD (((List.range (i+1)).map fun k=>stn ms b (rs.take k)).length-1) []=stn ms b (rs.take i):=by
    rw [List.getD_eq_getElem?_getD]; simp
   rw [eg] at eL
   have hS:((List.range (i+1+1)).map fun k=>stn ms b (rs.take k))=((List.range (i+1)).map fun k=>stn ms b (rs.take k)) ++ [stn ms b (rs.take (i+1))]:=by
    rw [List.range_succ,List.map_append]; rfl
   have hSl:((List.range (i+1)).map fun k=>stn ms b (rs.take k)).length=i+1:=by simp
   generalize ((List.range (i+1)).map fun k=>stn ms b (rs.take k))=S at eL hS hSl
   generalize rs.getD i 0=r at e1 hmv hc r0 r1 hsuc
   generalize mvA ms r=m at e1 hmv hc hsuc
   generalize stn ms b (rs.take i)=s at eL hc hsuc hsl
   have k1:=able_ok (s:=s) (m:=m) (by rw [hsl,hmv.1])
   have k2:=after_gen h6 hmv hsl hc
   have k3:(List.range b.length).map (fun k=>s.getD k 0+(m.2.getD k 0-m.1.getD k 0))=stn ms b (rs.take (i+1)):=by
    rw [hsuc]; unfold behS; rw [hsl]
   rw [k3] at k2
   rw [hc] at k1
   refine ⟨_,rfl,?_⟩
   exists a1,e1,eL,k1,k2
   refine ⟨.par (.int (i:Int)),.par (.int r),.par (mW m),?_,by omega⟩
   rw [hS]
  ·rintro ρ ⟨a4,a5,a6,rfl,hil⟩
   exists rp18
   rw [List.length_mapIdx,List.length_map]
   rfl
 obtain ⟨v,e,rfl⟩:=fin
 exact e
def altS:Nat->(Nat->Int)->Int
 | 0,_=>0
 | n+1,f=>f n-altS n f
theorem altS_congr {f g:Nat->Int}:∀ {n:Nat},(∀ k,k<n->f k=g k)->altS n f=altS n g
 | 0,_=>rfl
 | n+1,h=>by
  show f n-altS n f=g n-altS n g
  rw [h n (Nat.lt_succ_self n),altS_congr fun k hk=>h k (Nat.lt_succ_of_lt hk)]
theorem altS_lin (a b:Int) (f g:Nat->Int):∀ n:Nat,altS n (fun k=>a*f k+b*g k)=a*altS n f+b*altS n g
 | 0=>by simp [altS]
 | n+1=>by
  show (a*f n+b*g n)-altS n (fun k=>a*f k+b*g k)=a*(f n-altS n f)+b*(g n-altS n g)
  rw [altS_lin a b f g n,Int.mul_sub,Int.mul_sub]
  omega
theorem altS_zero {f:Nat->Int}:∀ {n:Nat},(∀ k,k<n->f k=0)->altS n f=0
 | 0,_=>rfl
 | n+1,h=>by
  show f n-altS n f=0
  rw [h n (Nat.lt_succ_self n),altS_zero fun k hk=>h k (Nat.lt_succ_of_lt hk)]; rfl
theorem altS_two {f:Nat->Int} {i:Nat}:∀ {n:Nat},i+1<n->(∀ k,k<n->k≠i->k≠i+1->f k=0)->f i=f (i+1)->altS n f=0
 | 0,h,_,_=>absurd h (Nat.not_lt_zero _)
 | n+1,h,hz,he=>by
  show f n-altS n f=0
  by_cases e:n=i+1
  ·subst e
   show f (i+1)-(f i-altS i f)=0
   rw [altS_zero fun k hk=>hz k (by omega) (by omega) (by omega),he]
   omega
  ·rw [hz n (Nat.lt_succ_self n) (by omega) e,altS_two (n:=n) (by omega) (fun k hk=>hz k (by omega)) he]; rfl
def skp (k i:Nat):Nat:=if i<k then i else i+1
def det:Nat->(Nat->Nat->Int)->Int
 | 0,_=>1
 | n+1,v=>altS (n+1) fun k=>v k n*det n fun i=>v (skp k i)
theorem skp_lt {k i n:Nat} (h:i<n):skp k i<n+1:=by unfold skp; split <;> omega
theorem skp_ne (k i:Nat):skp k i≠k:=by unfold skp; split <;> omega
theorem det_congr:∀ {n:Nat} {v w:Nat->Nat->Int},(∀ i,i<n->∀ p,p<n->v i p=w i p)->det n v=det n w
 | 0,_,_,_=>rfl
 | n+1,v,w,h=>altS_congr fun k hk=>by
  rw [h k hk n (Nat.lt_succ_self n),det_congr (n:=n) fun i hi p hp=>h (skp k i) (skp_lt hi) p (Nat.lt_succ_of_lt hp)]
def upv (v:Nat->Nat->Int) (i:Nat) (x:Nat->Int):Nat->Nat->Int:=fun j=>if j=i then x else v j
theorem upv_at (v:Nat->Nat->Int) (i:Nat) (x:Nat->Int):upv v i x i=x:=if_pos rfl
theorem upv_ne {v:Nat->Nat->Int} {i j:Nat} {x:Nat->Int} (h:j≠i):upv v i x j=v j:=if_neg h
theorem upv_skp {v:Nat->Nat->Int} {i k:Nat} {x:Nat->Int} (h:k≠i):(fun j=>upv v i x (skp k j))=upv (fun j=>v (skp k j)) (if i<k then i else i-1) x:=by
 funext j
 unfold upv
 by_cases e:skp k j=i
 ·rw [if_pos e]
  have:j=if i<k then i else i-1:=by
   unfold skp at e
   split at e <;> split <;> omega
  rw [if_pos this]
 ·rw [if_neg e]
  have:j≠if i<k then i else i-1:=by
   unfold skp at e
   intro q
   apply e
   split at q <;> split <;> omega
  rw [if_neg this]
theorem upv_skp_self {v:Nat->Nat->Int} {i:Nat} {x:Nat->Int}:(fun j=>upv v i x (skp i j))=fun j=>v (skp i j):=by
 funext j
 exact upv_ne (skp_ne i j)
theorem det_lin (a b:Int) (x y:Nat->Int):∀ (n:Nat) (v:Nat->Nat->Int) (i:Nat),i<n->det n (upv v i fun p=>a*x p+b*y p)=a*det n (upv v i x)+b*det n (upv v i y)
 | 0,_,_,h=>absurd h (Nat.not_lt_zero _)
 | n+1,v,i,h=>by
  show altS (n+1) _=a*altS (n+1) _+b*altS (n+1) _
  rw [<- altS_lin]
  refine altS_congr fun k hk=>?_
  by_cases e:k=i
  ·subst e
   rw [upv_at,upv_at,upv_at,upv_skp_self,upv_skp_self,upv_skp_self,Int.add_mul,Int.mul_assoc,Int.mul_assoc]
  ·rw [upv_ne e,upv_ne e,upv_ne e,upv_skp e,upv_skp e,upv_skp e,det_lin a b x y n _ _ (by split <;> omega),Int.mul_add,<- Int.mul_assoc,<- Int.mul_assoc,<- Int.mul_assoc,<- Int.mul_assoc,Int.mul_comm (v k n) a,Int.mul_comm (v k n) b]
theorem det_adj:∀ (n:Nat) (v:Nat->Nat->Int) (i:Nat),i+1<n->v i=v (i+1)->det n v=0
 | 0,_,_,h,_=>absurd h (Nat.not_lt_zero _)
 | n+1,v,i,h,e=>by
  refine altS_two (i:=i) h (fun k hk h1 h2=>?_) ?_
  ·have:det n (fun j=>v (skp k j))=0:=by
    by_cases q:k<i
    ·refine det_adj n _ (i-1) (by omega) ?_
     show v (skp k (i-1))=v (skp k (i-1+1))
     unfold skp
     rw [if_neg (by omega),if_neg (by omega),show i-1+1=i by omega]
     exact e
    ·refine det_adj n _ i (by omega) ?_
     show v (skp k i)=v (skp k (i+1))
     unfold skp
     rw [if_pos (by omega),if_pos (by omega)]
     exact e
   rw [this,Int.mul_zero]
  ·have:(fun j=>v (skp i j))=fun j=>v (skp (i+1) j):=by
    funext j
    unfold skp
    by_cases q:j<i
    ·rw [if_pos q,if_pos (by omega)]
    ·by_cases q2:j=i
     ·subst q2
      rw [if_neg (by omega),if_pos (by omega)]; exact e.symm
     ·rw [if_neg q,if_neg (by omega)]
   show v i n*det n (fun j=>v (skp i j))=v (i+1) n*det n (fun j=>v (skp (i+1) j))
   rw [this,e]
theorem upv_comm {v:Nat->Nat->Int} {i j:Nat} {x y:Nat->Int} (h:i≠j):upv (upv v i x) j y=upv (upv v j y) i x:=by
 funext k
 unfold upv
 by_cases q:k=j
 ·rw [if_pos q,if_neg (by omega),if_pos q]
 ·rw [if_neg q]
  by_cases q2:k=i
  ·rw [if_pos q2,if_pos q2]
  ·rw [if_neg q2,if_neg q2,if_neg q]
theorem upv_self (v:Nat->Nat->Int) (i:Nat):upv v i (v i)=v:=by
 funext k
 unfold upv
 by_cases q:k=i
 ·rw [if_pos q,q]
 ·rw [if_neg q]
theorem upv_upv (v:Nat->Nat->Int) (i:Nat) (x y:Nat->Int):upv (upv v i x) i y=upv v i y:=by
 funext k
 unfold upv
 by_cases q:k=i
 ·rw [if_pos q,if_pos q]
 ·rw [if_neg q,if_neg q,if_neg q]
theorem det_skew {n i j:Nat} (hi:i<n) (hj:j<n) (hij:i≠j) (h0:∀ (v:Nat->Nat->Int) (x:Nat->Int),det n (upv (upv v i x) j x)=0) (v:Nat->Nat->Int) (x y:Nat->Int):det n (upv (upv v i x) j y) =-det n (upv (upv v i y) j x):=by
 have h:=h0 v fun p=>1*x p+1*y p
 rw [det_lin 1 1 x y n _ j hj,upv_comm hij,det_lin 1 1 x y n _ i hi,upv_comm (i:=i) (j:=j) hij (x:=fun p=>1*x p+1*y p) (y:=y),det_lin 1 1 x y n _ i hi] at h
 have h1:=h0 v x
 have h2:=h0 v y
 rw [upv_comm hij] at h1 h2
 rw [upv_comm hij (x:=x) (y:=y),upv_comm hij (x:=y) (y:=x)]
 omega
theorem det_alt {n:Nat}:∀ (d i:Nat),i+d+1<n->∀ (v:Nat->Nat->Int) (x:Nat->Int),det n (upv (upv v i x) (i+d+1) x)=0
 | 0,i,h,v,x=>det_adj n _ i h (by rw [upv_at,upv_ne (by omega),upv_at])
 | d+1,i,h,v,x=>by
  have key:=det_skew (n:=n) (i:=i+d+1) (j:=i+d+1+1) (by omega) h (by omega) (fun v x=>det_adj n _ (i+d+1) h (by rw [upv_at,upv_ne (by omega),upv_at])) (upv v i x) (v (i+d+1)) x
  have e1:upv (upv (upv v i x) (i+d+1) (v (i+d+1))) (i+d+1+1) x=upv (upv v i x) (i+(d+1)+1) x:=by
   have:upv (upv v i x) (i+d+1) (v (i+d+1))=upv v i x:=by
    have h2:=upv_self (upv v i x) (i+d+1)
    rwa [upv_ne (show i+d+1≠i by omega)] at h2
   rw [this,show i+(d+1)+1=i+d+1+1 by omega]
  rw [e1] at key
  rw [key,upv_comm (i:=i+d+1) (j:=i+d+1+1) (by omega),upv_comm (i:=i) (j:=i+d+1+1) (by omega),det_alt d i (by omega)]
  rfl
theorem det_two {n i j:Nat} (hi:i<n) (hj:j<n) (hij:i≠j) (v:Nat->Nat->Int) (x:Nat->Int):det n (upv (upv v i x) j x)=0:=by
 rcases Nat.lt_or_gt_of_ne hij with q | q
 ·have:=det_alt (n:=n) (j-i-1) i (by omega) v x
  rwa [show i+(j-i-1)+1=j by omega] at this
 ·have:=det_alt (n:=n) (i-j-1) j (by omega) v x
  rw [show j+(i-j-1)+1=i by omega] at this
  rw [upv_comm hij]; exact this
theorem det_dup {n i k:Nat} (hi:i<n) (hk:k<n) (hik:k≠i) (v:Nat->Nat->Int):det n (upv v i (v k))=0:=by
 have:=det_two hk hi hik v (v k)
 rwa [upv_self] at this
theorem det_move {n i r:Nat} (hi:i<n) (hr:r<n) (hir:r≠i) (v:Nat->Nat->Int) (c:Nat->Int):det n (upv (upv v r c) i (v r)) =-det n (upv v i c):=by
 rw [det_skew hr hi hir (det_two hr hi hir) v c (v r),upv_self]
theorem altS_bound {f:Nat->Int} {B:Int}:∀ {n:Nat},(∀ k,k<n->-B<=f k/\f k<=B)->-((n:Int)*B)<=altS n f/\altS n f<=(n:Int)*B
 | 0,_=>by simp [altS]
 | n+1,h=>by
  have h1:=h n (Nat.lt_succ_self n)
  have h2:=altS_bound (n:=n) fun k hk=>h k (Nat.lt_succ_of_lt hk)
  show -(((n+1:Nat):Int)*B)<=f n-altS n f/\f n-altS n f<=((n+1:Nat):Int)*B
  have e:((n+1:Nat):Int)*B=(n:Int)*B+B:=by
   rw [show ((n+1:Nat):Int)=(n:Int)+1 by omega,Int.add_mul,Int.one_mul]
  rw [e]
  omega
theorem det_unit:∀ n:Nat,det n (fun i p=>if i=p then 1 else 0)=1
 | 0=>rfl
 | n+1=>by
  show (if n=n then (1:Int) else 0)*det n (fun i p=>if skp n i=p then 1 else 0)-altS n (fun k=>(if k=n then (1:Int) else 0)*det n (fun i p=>if skp k i=p then 1 else 0))=1
  have h1:det n (fun i p=>if skp n i=p then (1:Int) else 0)=1:=by
   refine (det_congr fun i hi p hp=>?_).trans (det_unit n)
   unfold skp
   rw [if_pos hi]
  rw [if_pos rfl,h1,altS_zero]
  ·rfl
  ·intro k hk
   rw [if_neg (by omega),Int.zero_mul]
def sumN:Nat->(Nat->Int)->Int
 | 0,_=>0
 | n+1,f=>sumN n f+f n
theorem sumN_congr {f g:Nat->Int}:∀ {n:Nat},(∀ k,k<n->f k=g k)->sumN n f=sumN n g
 | 0,_=>rfl
 | n+1,h=>by
  show sumN n f+f n=sumN n g+g n
  rw [h n (Nat.lt_succ_self n),sumN_congr fun k hk=>h k (Nat.lt_succ_of_lt hk)]
theorem sumN_mul (a:Int) (f:Nat->Int):∀ n:Nat,sumN n (fun k=>a*f k)=a*sumN n f
 | 0=>by simp [sumN]
 | n+1=>by
  show sumN n (fun k=>a*f k)+a*f n=a*(sumN n f+f n)
  rw [sumN_mul a f n,Int.mul_add]
theorem sumN_add (f g:Nat->Int):∀ n:Nat,sumN n (fun k=>f k+g k)=sumN n f+sumN n g
 | 0=>rfl
 | n+1=>by
  show sumN n (fun k=>f k+g k)+(f n+g n)=sumN n f+f n+(sumN n g+g n)
  rw [sumN_add f g n]; omega
theorem sumN_zero {f:Nat->Int}:∀ {n:Nat},(∀ k,k<n->f k=0)->sumN n f=0
 | 0,_=>rfl
 | n+1,h=>by
  show sumN n f+f n=0
  rw [h n (Nat.lt_succ_self n),sumN_zero fun k hk=>h k (Nat.lt_succ_of_lt hk)]; rfl
theorem sumN_at {f g:Nat->Int} {r:Nat}:∀ {n:Nat},r<n->(∀ k,k<n->k≠r->f k=g k)->sumN n f=sumN n g+(f r-g r)
 | 0,h,_=>absurd h (Nat.not_lt_zero _)
 | n+1,h,e=>by
  show sumN n f+f n=sumN n g+g n+(f r-g r)
  by_cases q:r=n
  ·subst q
   rw [sumN_congr fun k hk=>e k (by omega) (by omega)]; omega
  ·rw [sumN_at (n:=n) (by omega) fun k hk=>e k (by omega),e n (Nat.lt_succ_self n) (by omega)]; omega
theorem sumN_one {f:Nat->Int} {r n:Nat} (h:r<n) (e:∀ k,k<n->k≠r->f k=0):sumN n f=f r:=by
 rw [sumN_at (g:=fun _=>0) h e,sumN_zero fun _ _=>rfl]; omega
theorem sumN_swap (f:Nat->Nat->Int) (m:Nat):∀ n:Nat,sumN n (fun i=>sumN m fun j=>f i j)=sumN m fun j=>sumN n fun i=>f i j
 | 0=>(sumN_zero fun _ _=>rfl).symm
 | n+1=>by
  show sumN n (fun i=>sumN m fun j=>f i j)+sumN m (fun j=>f n j)=sumN m fun j=>(sumN n fun i=>f i j)+f n j
  rw [sumN_swap f m n,sumN_add]
theorem sumN_nonpos {f:Nat->Int}:∀ {n:Nat},(∀ k,k<n->f k<=0)->sumN n f<=0
 | 0,_=>Int.le_refl 0
 | n+1,h=>by
  have h1:=h n (Nat.lt_succ_self n)
  have h2:=sumN_nonpos (n:=n) fun k hk=>h k (Nat.lt_succ_of_lt hk)
  show sumN n f+f n<=0
  omega
theorem sumN_neg {f:Nat->Int} {r n:Nat} (hr:r<n) (h:∀ k,k<n->f k<=0) (hn:f r<0):sumN n f<0:=by
 have h1:=sumN_at (f:=f) (g:=fun k=>if k=r then 0 else f k) hr fun k _ q=>by rw [if_neg q]
 have h2:sumN n (fun k=>if k=r then 0 else f k)<=0:=sumN_nonpos fun k hk=>by
  show (if k=r then 0 else f k)<=0
  split
  ·exact Int.le_refl 0
  ·exact h k hk
 rw [h1]
 simp only [if_pos]
 omega
theorem det_sum {m i:Nat} (hi:i<m) (v:Nat->Nat->Int) (a:Nat->Int) (x:Nat->Nat->Int):∀ n:Nat,det m (upv v i fun p=>sumN n fun k=>a k*x k p)=sumN n fun k=>a k*det m (upv v i (x k))
 | 0=>by
  show det m (upv v i fun _=>0)=0
  have:=det_lin 0 0 (fun _=>0) (fun _=>0) m v i hi
  simp only [Int.zero_mul,Int.add_zero] at this
  exact this
 | n+1=>by
  show det m (upv v i fun p=>(sumN n fun k=>a k*x k p)+a n*x n p)=(sumN n fun k=>a k*det m (upv v i (x k)))+a n*det m (upv v i (x n))
  rw [<- det_sum hi v a x n]
  have:=det_lin 1 (a n) (fun p=>sumN n fun k=>a k*x k p) (x n) m v i hi
  simp only [Int.one_mul] at this
  exact this
structure Tab (m n:Nat) (A:Nat->Nat->Int) (c:Nat->Int) (h:Nat->Nat) (t:Nat->Nat->Int) (o:Nat->Int) (d:Int):Prop where
 dp:0<d
 hn:∀ i,i<m->h i<n
 dd:d=det m fun i=>A (h i)
 tt:∀ i,i<m->∀ j,j<n->t i j=det m (upv (fun i=>A (h i)) i (A j))
 cr:∀ j,j<n->∀ p,p<m->d*A j p=sumN m fun i=>t i j*A (h i) p
 oo:∀ j,j<n->o j=d*c j-sumN m fun i=>c (h i)*t i j
def hup (h:Nat->Nat) (r s:Nat):Nat->Nat:=fun i=>if i=r then s else h i
section
variable {m n:Nat} {A:Nat->Nat->Int} {c:Nat->Int} {h:Nat->Nat} {t:Nat->Nat->Int} {o:Nat->Int} {d:Int}
theorem Tab.unit (T:Tab m n A c h t o d) {i k:Nat} (hi:i<m) (hk:k<m):t i (h k)=if i=k then d else 0:=by
 rw [T.tt i hi _ (T.hn k hk)]
 by_cases e:i=k
 ·subst e
  rw [if_pos rfl,T.dd]
  exact congrArg (det m) (upv_self (fun i=>A (h i)) i)
 ·rw [if_neg e]
  exact det_dup hi hk (fun q=>e q.symm) fun i=>A (h i)
theorem Tab.ozero (T:Tab m n A c h t o d) {k:Nat} (hk:k<m):o (h k)=0:=by
 rw [T.oo _ (T.hn k hk),sumN_one (r:=k) hk fun i hi q=>by rw [T.unit hi hk,if_neg q,Int.mul_zero],T.unit hk hk,if_pos rfl,Int.mul_comm]
 omega
theorem hup_A {r s:Nat}:(fun i=>A (hup h r s i))=upv (fun i=>A (h i)) r (A s):=by
 funext i
 unfold hup upv
 by_cases e:i=r
 ·rw [if_pos e,if_pos e]
 ·rw [if_neg e,if_neg e]
theorem Tab.step (T:Tab m n A c h t o d) {r s:Nat} (hr:r<m) (hs:s<n) {i j:Nat} (hi:i<m) (hj:j<n) (hir:i≠r):d*det m (upv (fun i=>A (hup h r s i)) i (A j))=t i j*t r s-t i s*t r j:=by
 rw [hup_A]
 obtain ⟨v,hv⟩:∃ v:Nat->Nat->Int,v=fun i=>A (h i):=⟨_,rfl⟩
 have e1:d*det m (upv (upv v r (A s)) i (A j))=det m (upv (upv v r (A s)) i fun p=>d*A j p):=by
  have:=det_lin d 0 (A j) (A j) m (upv v r (A s)) i hi
  simp only [Int.zero_mul,Int.add_zero] at this
  exact this.symm
 have e2:det m (upv (upv v r (A s)) i fun p=>d*A j p)=det m (upv (upv v r (A s)) i fun p=>sumN m fun k=>t k j*v k p):=by
  refine det_congr fun a ha p hp=>?_
  unfold upv
  by_cases q:a=i
  ·rw [if_pos q,if_pos q,T.cr j hj p hp,hv]
  ·rw [if_neg q,if_neg q]
 rw [<- hv,e1,e2,det_sum hi]
 have hd:det m (upv (upv v r (A s)) i (v i))=t r s:=by
  have:upv (upv v r (A s)) i (v i)=upv v r (A s):=by
   have:=upv_self (upv v r (A s)) i
   rwa [upv_ne hir] at this
  rw [this,T.tt r hr s hs,hv]
 have hrr:det m (upv (upv v r (A s)) i (v r)) =-t i s:=by
  rw [det_move hi hr (fun q=>hir q.symm),T.tt i hi s hs,hv]
 rw [sumN_at (r:=i) (g:=fun k=>if k=r then t r j*(- t i s) else 0) hi fun k hk q=>by
  show t k j*det m (upv (upv v r (A s)) i (v k))=if k=r then t r j*(- t i s) else 0
  by_cases q2:k=r
  ·rw [if_pos q2,q2,hrr]
  ·rw [if_neg q2]
   have:=det_dup hi hk q (upv v r (A s))
   rw [upv_ne q2] at this
   rw [this,Int.mul_zero]]
 rw [sumN_one (r:=r) hr fun k _ q=>if_neg q,hd]
 simp only [if_pos,if_neg hir]
 rw [Int.mul_neg,Int.mul_comm (t r j)]
 omega
theorem Tab.inj (T:Tab m n A c h t o d) {i k:Nat} (hi:i<m) (hk:k<m) (e:h i=h k):i=k:=by
 have h1:=T.unit hi hk
 rw [<- e,T.unit hi hi,if_pos rfl] at h1
 have:=T.dp
 by_cases q:i=k
 ·exact q
 ·rw [if_neg q] at h1; omega
theorem Tab.pivot (T:Tab m n A c h t o d) {r s:Nat} (hr:r<m) (hs:s<n) (hp:0<t r s) {t':Nat->Nat->Int} {o':Nat->Int} (h1:∀ j,j<n->t' r j=t r j) (h2:∀ i,i<m->i≠r->∀ j,j<n->d*t' i j=t i j*t r s-t i s*t r j) (h3:∀ j,j<n->d*o' j=o j*t r s-o s*t r j):Tab m n A c (hup h r s) t' o' (t r s):=by
 have hd:=T.dp
 have can:∀ {x y:Int},d*x=d*y->x=y:=fun e=>Int.eq_of_mul_eq_mul_left (by omega) e
 have hne:∀ i,i≠r->hup h r s i=h i:=fun i q=>if_neg q
 have hrr:hup h r s r=s:=if_pos rfl
 -- sums over the new lines, times d
 have key:∀ (j:Nat),j<n->∀ g:Nat->Int,d*sumN m (fun i=>g (hup h r s i)*t' i j)=t r s*sumN m (fun i=>g (h i)*t i j)-t r j*sumN m (fun i=>g (h i)*t i s)+d*(g s*t r j):=fun j hj g=>by
  rw [<- sumN_mul,sumN_at (r:=r) (g:=fun i=>t r s*(g (h i)*t i j)+(- t r j)*(g (h i)*t i s)) hr fun i hi q=>by
   show d*(g (hup h r s i)*t' i j)=t r s*(g (h i)*t i j)+(- t r j)*(g (h i)*t i s)
   rw [hne i q,show d*(g (h i)*t' i j)=g (h i)*(d*t' i j) by rw [<- Int.mul_assoc,Int.mul_comm d,Int.mul_assoc],h2 i hi q j hj,Int.mul_sub,Int.neg_mul,show t r s*(g (h i)*t i j)=g (h i)*(t i j*t r s) by rw [Int.mul_comm (t r s),Int.mul_assoc],show t r j*(g (h i)*t i s)=g (h i)*(t i s*t r j) by rw [Int.mul_comm (t r j),Int.mul_assoc]]
   omega]
  rw [sumN_add,sumN_mul,sumN_mul,hrr,h1 j hj,Int.neg_mul,Int.neg_mul,show t r s*(g (h r)*t r j)=t r j*(g (h r)*t r s) by rw [Int.mul_comm (g (h r)) (t r j),<- Int.mul_assoc,Int.mul_comm (t r s),Int.mul_assoc,Int.mul_comm (t r s)]]
  omega
 exact {
  dp:=hp
  hn:=fun i hi=>by
   by_cases q:i=r
   ·rw [q,hrr]; exact hs
   ·rw [hne i q]; exact T.hn i hi
  dd:=by rw [hup_A]; exact T.tt r hr s hs
  tt:=fun i hi j hj=>by
   by_cases q:i=r
   ·subst q
    rw [h1 j hj,hup_A,upv_upv]; exact T.tt i hi j hj
   ·refine can ?_
    rw [h2 i hi q j hj,T.step hr hs hi hj q]
  cr:=fun j hj p hp=>by
   refine can ?_
   have e1:=key j hj fun a=>A a p
   have e2:sumN m (fun i=>A (h i) p*t i j)=d*A j p:=by
    rw [T.cr j hj p hp]; exact sumN_congr fun i _=>Int.mul_comm _ _
   have e3:sumN m (fun i=>A (h i) p*t i s)=d*A s p:=by
    rw [T.cr s hs p hp]; exact sumN_congr fun i _=>Int.mul_comm _ _
   have e4:sumN m (fun i=>t' i j*A (hup h r s i) p)=sumN m (fun i=>A (hup h r s i) p*t' i j):=sumN_congr fun i _=>Int.mul_comm _ _
   rw [e4,e1,e2,e3,show t r j*(d*A s p)=d*(A s p*t r j) by rw [Int.mul_comm (t r j),Int.mul_assoc],show d*(t r s*A j p)=t r s*(d*A j p) by rw [<- Int.mul_assoc,Int.mul_comm d,Int.mul_assoc]]
   omega
  oo:=fun j hj=>by
   refine can ?_
   have e1:=key j hj c
   have e2:sumN m (fun i=>c (h i)*t i j)=d*c j-o j:=by rw [T.oo j hj]; omega
   have e3:sumN m (fun i=>c (h i)*t i s)=d*c s-o s:=by rw [T.oo s hs]; omega
   rw [h3 j hj,Int.mul_sub,e1,e2,e3,Int.mul_sub,Int.mul_sub,show t r j*(d*c s)=d*(c s*t r j) by rw [Int.mul_comm (t r j),Int.mul_assoc],show d*(t r s*c j)=t r s*(d*c j) by rw [<- Int.mul_assoc,Int.mul_comm d,Int.mul_assoc],Int.mul_comm (o j),Int.mul_comm (o s)]
   omega }
theorem Tab.ker (T:Tab m n A c h t o d) {y:Nat->Int} (hy:∀ p,p<m->sumN n (fun j=>y j*A j p)=0):sumN n (fun j=>o j*y j)=d*sumN n (fun j=>c j*y j):=by
 have hz:∀ i,i<m->sumN n (fun j=>y j*t i j)=0:=fun i hi=>by
  have e:sumN n (fun j=>y j*t i j)=sumN n (fun j=>y j*det m (upv (fun i=>A (h i)) i (A j))):=sumN_congr fun j hj=>by rw [T.tt i hi j hj]
  rw [e,<- det_sum hi]
  have e2:det m (upv (fun i=>A (h i)) i fun p=>sumN n fun k=>y k*A k p)=det m (upv (fun i=>A (h i)) i fun p=>0*(0:Int)+0*0):=det_congr fun a _ p hp=>by
   unfold upv
   by_cases q:a=i
   ·rw [if_pos q,if_pos q,hy p hp]; rfl
   ·rw [if_neg q,if_neg q]
  rw [e2,det_lin 0 0 (fun _=>0) (fun _=>0) m _ i hi,Int.zero_mul]; rfl
 have e:sumN n (fun j=>o j*y j)=sumN n (fun j=>d*(c j*y j)+(-1)*sumN m (fun i=>c (h i)*(y j*t i j))):=sumN_congr fun j hj=>by
  show o j*y j=_
  rw [T.oo j hj,Int.sub_mul,Int.mul_assoc,Int.mul_comm (sumN m _),<- sumN_mul,show sumN m (fun k=>y j*(c (h k)*t k j))=sumN m (fun i=>c (h i)*(y j*t i j)) from sumN_congr fun i _=>by rw [<- Int.mul_assoc,Int.mul_comm (y j),Int.mul_assoc]]
  omega
 have e3:sumN m (fun i=>sumN n fun j=>c (h i)*(y j*t i j))=0:=sumN_zero fun i hi=>by
  show sumN n (fun j=>c (h i)*(y j*t i j))=0
  rw [sumN_mul,hz i hi,Int.mul_zero]
 rw [e,sumN_add,sumN_mul,sumN_mul,sumN_swap,e3]
 omega
def dirY (m:Nat) (h:Nat->Nat) (t:Nat->Nat->Int) (d:Int) (s j:Nat):Int:=(if j=s then d else 0)+(-1)*sumN m fun i=>if h i=j then t i s else 0
theorem Tab.dirSum (T:Tab m n A c h t o d) {s:Nat} (hs:s<n) (g:Nat->Int):sumN n (fun j=>g j*dirY m h t d s j)=g s*d-sumN m fun i=>g (h i)*t i s:=by
 have e:sumN n (fun j=>g j*dirY m h t d s j)=sumN n (fun j=>g j*(if j=s then d else 0)+(-1)*sumN m fun i=>g j*(if h i=j then t i s else 0)):=sumN_congr fun j _=>by
  unfold dirY
  rw [Int.mul_add,sumN_mul,<- Int.mul_assoc,Int.mul_comm (g j) (-1),Int.mul_assoc]
 rw [e,sumN_add,sumN_mul,sumN_swap,sumN_one (r:=s) hs fun j _ q=>by rw [if_neg q,Int.mul_zero],if_pos rfl]
 have e2:sumN m (fun i=>sumN n fun j=>g j*(if h i=j then t i s else 0))=sumN m fun i=>g (h i)*t i s:=sumN_congr fun i hi=>by
  rw [sumN_one (r:=h i) (T.hn i hi) fun j _ q=>by rw [if_neg (fun z=>q z.symm),Int.mul_zero],if_pos rfl]
 rw [e2]
 omega
theorem Tab.dirKer (T:Tab m n A c h t o d) {s:Nat} (hs:s<n):∀ p,p<m->sumN n (fun j=>dirY m h t d s j*A j p)=0:=fun p hp=>by
 have e:sumN n (fun j=>dirY m h t d s j*A j p)=sumN n (fun j=>A j p*dirY m h t d s j):=sumN_congr fun j _=>Int.mul_comm _ _
 rw [e,T.dirSum hs fun j=>A j p,Int.mul_comm,T.cr s hs p hp,sumN_congr (g:=fun i=>t i s*A (h i) p) fun i _=>Int.mul_comm _ _]
 omega
theorem Tab.dirO (T:Tab m n A c h t o d) {s:Nat} (hs:s<n):sumN n (fun j=>c j*dirY m h t d s j)=o s:=by
 rw [T.dirSum hs c,T.oo s hs,Int.mul_comm]
theorem Tab.dirB (T:Tab m n A c h t o d) {s i:Nat} (hi:i<m) (hsi:h i≠s):dirY m h t d s (h i) =-t i s:=by
 unfold dirY
 rw [if_neg hsi,sumN_one (r:=i) hi fun k hk q=>if_neg fun e=>q (T.inj hk hi e),if_pos rfl]
 omega
theorem Tab.dirN {s j:Nat} (hj:∀ i,i<m->h i≠j) (hjs:j≠s):dirY m h t d s j=0:=by
 unfold dirY
 rw [if_neg hjs,sumN_zero fun i hi=>if_neg (hj i hi)]; rfl
theorem Tab.dirS {s:Nat} (hj:∀ i,i<m->h i≠s):dirY m h t d s s=d:=by
 unfold dirY
 rw [if_pos rfl,sumN_zero fun i hi=>if_neg (hj i hi)]
 omega
end
structure TB (m n:Nat) (A:Nat->Nat->Int) (c:Nat->Int) where
 h:Nat->Nat
 t:Nat->Nat->Int
 o:Nat->Int
 d:Int
 ok:Tab m n A c h t o d
def Bas {m n:Nat} {A:Nat->Nat->Int} {c:Nat->Int} (S:TB m n A c) (j:Nat):Prop:=∃ i,i<m/\S.h i=j
structure Mv_ {m n:Nat} {A:Nat->Nat->Int} {c:Nat->Int} (S S':TB m n A c) (e l:Nat):Prop where
 en:e<n
 eo:0<S.o e
 el:∀ j,j<e->S.o j<=0
 lv:∃ r,r<m/\S.h r=l/\0<S.t r e/\(∀ i,i<m->0<S.t i e->l<=S.h i)/\S'.h=hup S.h r e
section
variable {m n:Nat} {A:Nat->Nat->Int} {c:Nat->Int}
theorem Mv_.nb {S S':TB m n A c} {e l:Nat} (M:Mv_ S S' e l):¬ Bas S e:=fun zz95=>by
 obtain ⟨i,hi,q⟩:=zz95
 have:=S.ok.ozero hi
 rw [q] at this
 have:=M.eo
 omega
theorem Mv_.lb {S S':TB m n A c} {e l:Nat} (M:Mv_ S S' e l):Bas S l:=by
 obtain ⟨r,hr,q,_⟩:=M.lv
 exact ⟨r,hr,q⟩
theorem Mv_.bas {S S':TB m n A c} {e l:Nat} (M:Mv_ S S' e l) (j:Nat):Bas S' j↔j=e\/(Bas S j/\j≠l):=by
 obtain ⟨r,hr,q,_,_,hh⟩:=M.lv
 constructor
 ·rintro ⟨i,hi,e1⟩
  rw [hh] at e1
  unfold hup at e1
  by_cases z:i=r
  ·rw [if_pos z] at e1; exact .inl e1.symm
  ·rw [if_neg z] at e1
   refine .inr ⟨⟨i,hi,e1⟩,fun w=>z (S.ok.inj hi hr (by rw [e1,q,w]))⟩
 ·rintro (e1 | ⟨⟨i,hi,e1⟩,e2⟩)
  ·exact ⟨r,hr,by rw [hh,e1]; exact if_pos rfl⟩
  ·refine ⟨i,hi,?_⟩
   rw [hh]
   unfold hup
   rw [if_neg (fun z=>e2 (by rw [<- e1,z,q]))]; exact e1
theorem bland {S1 S1' S2 S2':TB m n A c} {q l1 s:Nat} (M1:Mv_ S1 S1' q l1) (M2:Mv_ S2 S2' s q) (hsq:s<q) (hup:∀ j,q<j->j<n->Bas S2 j->Bas S1 j):False:=by
 obtain ⟨r,hr,hrq,hrt,hmin,_⟩:=M2.lv
 have hs:=M2.en
 have nb:=M2.nb
 have hq:=M1.en
 have k1:=S1.ok.ker (S2.ok.dirKer hs)
 rw [S2.ok.dirO hs] at k1
 have hpos:0<S1.d*S2.o s:=Int.mul_pos S1.ok.dp M2.eo
 have hneg:sumN n (fun j=>S1.o j*dirY m S2.h S2.t S2.d s j)<0:=by
  have hyq:dirY m S2.h S2.t S2.d s q =-S2.t r s:=by
   have:=S2.ok.dirB (s:=s) hr (by omega)
   rwa [hrq] at this
  refine sumN_neg hq (fun j hj=>?_) ?_
  ·show S1.o j*dirY m S2.h S2.t S2.d s j<=0
   by_cases j1:j=s
   ·subst j1
    rw [Tab.dirS fun i hi e=>nb ⟨i,hi,e⟩]
    exact Int.mul_nonpos_of_nonpos_of_nonneg (M1.el j hsq) (by have:=S2.ok.dp; omega)
   ·by_cases j2:Bas S2 j
    ·obtain ⟨i,hi,ei⟩:=j2
     have hy:=S2.ok.dirB (s:=s) hi (by omega)
     rw [ei] at hy
     rcases Nat.lt_trichotomy j q with z | z | z
     ·have h1:=M1.el j z
      have h2:¬ 0<S2.t i s:=fun w=>by have:=hmin i hi w; omega
      rw [hy]
      exact Int.mul_nonpos_of_nonpos_of_nonneg h1 (by omega)
     ·subst z
      rw [hyq]
      exact Int.mul_nonpos_of_nonneg_of_nonpos (by have:=M1.eo; omega) (by omega)
     ·obtain ⟨i1,hi1,e1⟩:=hup j z hj ⟨i,hi,ei⟩
      rw [<- e1,S1.ok.ozero hi1,Int.zero_mul]
      exact Int.le_refl 0
    ·rw [Tab.dirN (fun i hi e=>j2 ⟨i,hi,e⟩) j1,Int.mul_zero]
     exact Int.le_refl 0
  ·show S1.o q*dirY m S2.h S2.t S2.d s q<0
   rw [hyq,Int.mul_neg]
   have:=Int.mul_pos M1.eo hrt
   omega
 omega
theorem pow2 (q:Nat):2^(q+1)=2*2^q:=by rw [Nat.pow_succ,Nat.mul_comm]
theorem run_seg (S:Nat->TB m n A c) (e l:Nat->Nat):∀ (q a b:Nat),a<=b->(∀ i,a<=i->i<b->Mv_ (S i) (S (i+1)) (e i) (l i)/\e i<q/\l i<q)->b-a<2^q
 | 0,a,b,hab,h=>by
  by_cases z:a<b
  ·have:=(h a (Nat.le_refl a) z).2.1
   omega
  ·simp
   omega
 | q+1,a,b,hab,h=>by
  -- what stands above q stays
  have stay:∀ j,q<j->∀ k,a<=k->k<=b->(Bas (S k) j↔Bas (S a) j):=fun j hj k=>by
   induction k with
   | zero=>
    intro h1 _
    have:a=0:=by omega
    rw [this]
   | succ k ih=>
    intro h1 h2
    by_cases z:a=k+1
    ·rw [z]
    ·obtain ⟨M,m1,m2⟩:=h k (by omega) (by omega)
     rw [M.bas j,<- ih (by omega) (by omega)]
     constructor
     ·rintro (w | w)
      ·omega
      ·exact w.1
     ·exact fun w=>.inr ⟨w,by omega⟩
  have noboth:∀ i k,a<=i->i<b->a<=k->k<b->e i=q->l k=q->False:=fun i k i1 i2 k1 k2 hi hk=>by
   obtain ⟨Mi,_,_⟩:=h i i1 i2
   obtain ⟨Mk,mk,_⟩:=h k k1 k2
   rw [hi] at Mi
   rw [hk] at Mk
   have hne:e k≠q:=fun w=>Mk.nb (by rw [w]; exact Mk.lb)
   exact bland Mi Mk (by omega) fun j hj _ hb=>(stay j hj i i1 (by omega)).mpr ((stay j hj k k1 (by omega)).mp hb)
  by_cases hex:∃ i,a<=i/\i<b/\(e i=q\/l i=q)
  ·have two:∀ i k,a<=i->i<k->k<b->(e i=q\/l i=q)->(e k=q\/l k=q)->False:=fun i k i1 ik kb hi hk=>by
    obtain ⟨Mi,_,_⟩:=h i i1 (by omega)
    obtain ⟨Mk,_,_⟩:=h k (by omega) kb
    rcases hi with hi | hi
    ·have nol:∀ x,a<=x->x<b->l x≠q:=fun x x1 x2 w=>noboth i x i1 (by omega) x1 x2 hi w
     have pers:∀ x,i+1<=x->x<=b->Bas (S x) q:=fun x=>by
      induction x with
      | zero=>intro w; omega
      | succ x ih=>
       intro x1 x2
       obtain ⟨M,_,_⟩:=h x (by omega) (by omega)
       by_cases z:x=i
       ·subst z
        exact (M.bas q).mpr (.inl hi.symm)
       ·exact (M.bas q).mpr (.inr ⟨ih (by omega) (by omega),fun w=>nol x (by omega) (by omega) w.symm⟩)
     rcases hk with hk | hk
     ·exact Mk.nb (by rw [hk]; exact pers k (by omega) (by omega))
     ·exact nol k (by omega) kb hk
    ·have noe:∀ x,a<=x->x<b->e x≠q:=fun x x1 x2 w=>noboth x i x1 x2 i1 (by omega) w hi
     have pers:∀ x,i+1<=x->x<=b->¬ Bas (S x) q:=fun x=>by
      induction x with
      | zero=>intro w; omega
      | succ x ih=>
       intro x1 x2 hb
       obtain ⟨M,_,_⟩:=h x (by omega) (by omega)
       rcases (M.bas q).mp hb with w | w
       ·exact noe x (by omega) (by omega) w.symm
       ·by_cases z:x=i
        ·subst z
         exact w.2 hi.symm
        ·exact ih (by omega) (by omega) w.1
     rcases hk with hk | hk
     ·exact noe k (by omega) kb hk
     ·exact pers k (by omega) (by omega) (by rw [<- hk]; exact Mk.lb)
   obtain ⟨i,i1,i2,hi⟩:=hex
   have h1:=run_seg S e l q a i i1 fun x x1 x2=>⟨(h x x1 (by omega)).1,by
    have:=(h x x1 (by omega)).2.1
    have:e x≠q:=fun w=>two x i x1 x2 i2 (.inl w) hi
    omega,by
    have:=(h x x1 (by omega)).2.2
    have:l x≠q:=fun w=>two x i x1 x2 i2 (.inr w) hi
    omega⟩
   have h2:=run_seg S e l q (i+1) b (by omega) fun x x1 x2=>⟨(h x (by omega) x2).1,by
    have:=(h x (by omega) x2).2.1
    have:e x≠q:=fun w=>two i x i1 (by omega) x2 hi (.inl w)
    omega,by
    have:=(h x (by omega) x2).2.2
    have:l x≠q:=fun w=>two i x i1 (by omega) x2 hi (.inr w)
    omega⟩
   rw [pow2]
   omega
  ·have:=run_seg S e l q a b hab fun i i1 i2=>⟨(h i i1 i2).1,by
    have:=(h i i1 i2).2.1
    have:e i≠q:=fun w=>hex ⟨i,i1,i2,.inl w⟩
    omega,by
    have:=(h i i1 i2).2.2
    have:l i≠q:=fun w=>hex ⟨i,i1,i2,.inr w⟩
    omega⟩
   rw [pow2]
   omega
theorem run_ends (S:Nat->TB m n A c) (e l:Nat->Nat) (L:Nat) (h:∀ i,i<L->Mv_ (S i) (S (i+1)) (e i) (l i)):L<2^n:=by
 have:=run_seg S e l n 0 L (Nat.zero_le _) fun i _ hi=>⟨h i hi,(h i hi).en,by
  obtain ⟨r,hr,q,_⟩:=(h i hi).lv
  rw [<- q]; exact (S i).ok.hn r hr⟩
 omega
end
theorem sumN_split (f:Nat->Int) (k:Nat):∀ m:Nat,sumN (k+m) f=sumN k f+sumN m fun q=>f (k+q)
 | 0=>by show sumN k f=sumN k f+0; omega
 | m+1=>by
  show sumN (k+m) f+f (k+m)=sumN k f+((sumN m fun q=>f (k+q))+f (k+m))
  rw [sumN_split f k m]; omega
structure Cols (k m pl:Nat) (st:Nat->Nat->Int) (A:Nat->Nat->Int) (c:Nat->Int):Prop where
 am:∀ j,j<k->∀ p,p<m->A j p =-st j p
 au:∀ q,q<m->∀ p,p<m->A (k+q) p=if q=p then 1 else 0
 cm:∀ j,j<k->c j=st j pl
 cu:∀ q,q<m->c (k+q)=0
section
variable {k m pl:Nat} {st A:Nat->Nat->Int} {c:Nat->Int} {h:Nat->Nat} {t:Nat->Nat->Int} {o:Nat->Int} {d:Int}
theorem Cols.comb (C:Cols k m pl st A c) (x:Nat->Int) {p:Nat} (hp:p<m):x p=sumN m fun q=>x q*A (k+q) p:=by
 rw [sumN_one (r:=p) hp fun q hq z=>by rw [C.au q hq p hp,if_neg z,Int.mul_zero],C.au p hp p hp,if_pos rfl,Int.mul_one]
theorem Cols.detc (C:Cols k m pl st A c) {i:Nat} (hi:i<m) (v:Nat->Nat->Int) (x:Nat->Int):det m (upv v i x)=sumN m fun q=>x q*det m (upv v i (A (k+q))):=by
 rw [<- det_sum hi v x fun q=>A (k+q)]
 refine det_congr fun a _ p hp=>?_
 unfold upv
 by_cases z:a=i
 ·rw [if_pos z,if_pos z]; exact C.comb x hp
 ·rw [if_neg z,if_neg z]
theorem Cols.det1 (C:Cols k m pl st A c):det m (fun i=>A (k+i))=1:=(det_congr fun i hi p hp=>C.au i hi p hp).trans (det_unit m)
theorem Cols.first (C:Cols k m pl st A c):Tab m (k+m) A c (fun i=>k+i) (fun i j=>A j i) c 1 where
 dp:=by decide
 hn i hi:=by omega
 dd:=C.det1.symm
 tt i hi j hj:=by
  rw [C.detc hi,sumN_one (r:=i) hi fun q hq z=>by
   have:=det_dup hi hq z fun i=>A (k+i)
   rw [this,Int.mul_zero]]
  have:=upv_self (fun i=>A (k+i)) i
  have e:upv (fun i=>A (k+i)) i (A (k+i))=fun i=>A (k+i):=this
  rw [e,C.det1,Int.mul_one]
 cr j hj p hp:=by rw [Int.one_mul]; exact C.comb (A j) hp
 oo j hj:=by
  rw [Int.one_mul,sumN_zero fun i hi=>by rw [C.cu i hi,Int.zero_mul]]; omega
theorem Cols.weights (C:Cols k m pl st A c) (T:Tab m (k+m) A c h t o d) (hpl:pl<m) {j:Nat} (hj:j<k):sumN m (fun p=>(- o (k+p)+d*(if p=pl then 1 else 0))*st j p)=o j:=by
 have ho:∀ q,q<m ->-o (k+q)=sumN m fun i=>c (h i)*t i (k+q):=fun q hq=>by
  rw [T.oo (k+q) (by omega),C.cu q hq,Int.mul_zero]; omega
 have ht:∀ i,i<m->t i j=sumN m fun q=>(- st j q)*t i (k+q):=fun i hi=>by
  rw [T.tt i hi j (by omega),C.detc hi]
  exact sumN_congr fun q hq=>by rw [C.am j hj q hq,T.tt i hi (k+q) (by omega)]
 have e1:sumN m (fun p=>(- o (k+p)+d*(if p=pl then 1 else 0))*st j p)=sumN m (fun p=>st j p*(sumN m fun i=>c (h i)*t i (k+p))+d*((if p=pl then 1 else 0)*st j p)):=sumN_congr fun p hp=>by
  rw [ho p hp,Int.add_mul,Int.mul_comm (sumN m _),Int.mul_assoc]
 have e2:sumN m (fun p=>st j p*(sumN m fun i=>c (h i)*t i (k+p))) =-sumN m (fun i=>c (h i)*t i j):=by
  have:sumN m (fun i=>c (h i)*t i j)=sumN m (fun i=>sumN m fun p=>(-1)*(st j p*(c (h i)*t i (k+p)))):=sumN_congr fun i hi=>by
   rw [ht i hi,<- sumN_mul]
   exact sumN_congr fun q _=>by
    rw [Int.neg_mul,Int.mul_neg,Int.neg_mul,Int.one_mul,<- Int.mul_assoc,<- Int.mul_assoc,Int.mul_comm (c (h i))]
  rw [this,sumN_swap]
  have:sumN m (fun p=>sumN m fun i=>(-1)*(st j p*(c (h i)*t i (k+p))))=sumN m (fun p=>(-1)*(st j p*sumN m fun i=>c (h i)*t i (k+p))):=sumN_congr fun p _=>by
   rw [sumN_mul,sumN_mul]
  rw [this,sumN_mul]
  omega
 have e3:sumN m (fun p=>(if p=pl then 1 else 0)*st j p)=st j pl:=by
  rw [sumN_one (r:=pl) hpl fun p _ z=>by rw [if_neg z,Int.zero_mul],if_pos rfl,Int.one_mul]
 rw [e1,sumN_add,sumN_mul,e2,e3,T.oo j (by omega),C.cm j hj]
 omega
theorem Cols.bag (C:Cols k m pl st A c) (T:Tab m (k+m) A c h t o d) {s:Nat} (hs:s<k+m):(∀ p,p<m->sumN k (fun j=>dirY m h t d s j*st j p)=dirY m h t d s (k+p))/\sumN k (fun j=>dirY m h t d s j*st j pl)=o s:=by
 refine ⟨fun p hp=>?_,?_⟩
 ·have e:=T.dirKer hs p hp
  rw [sumN_split,sumN_one (r:=p) hp fun q hq z=>by rw [C.au q hq p hp,if_neg z,Int.mul_zero],C.au p hp p hp,if_pos rfl,Int.mul_one] at e
  have e2:sumN k (fun j=>dirY m h t d s j*A j p)=(-1)*sumN k (fun j=>dirY m h t d s j*st j p):=by
   rw [<- sumN_mul]
   exact sumN_congr fun j hj=>by rw [C.am j hj p hp,Int.mul_neg,Int.neg_mul,Int.one_mul]
  rw [e2] at e
  omega
 ·have e:=T.dirO hs
  rw [sumN_split,sumN_zero (n:=m) fun q hq=>by rw [C.cu q hq,Int.zero_mul]] at e
  rw [<- e,Int.add_zero]
  exact sumN_congr fun j hj=>by rw [C.cm j hj,Int.mul_comm]
theorem Tab.dirP {m n:Nat} {A:Nat->Nat->Int} {c:Nat->Int} (T:Tab m n A c h t o d) {s:Nat} (ho:0<o s) (hn:∀ i,i<m->t i s<=0) (j:Nat):0<=dirY m h t d s j:=by
 have nb:∀ i,i<m->h i≠s:=fun i hi e=>by
  have:=T.ozero hi
  rw [e] at this
  omega
 by_cases js:j=s
 ·subst js
  rw [Tab.dirS nb]
  have:=T.dp
  omega
 ·by_cases jb:∃ i,i<m/\h i=j
  ·obtain ⟨i,hi,e⟩:=jb
   have:=T.dirB (s:=s) hi (nb i hi)
   rw [e] at this
   have:=hn i hi
   omega
  ·rw [Tab.dirN (fun i hi e=>jb ⟨i,hi,e⟩) js]
   exact Int.le_refl 0
end
def dB (M:Int):Nat->Int
 | 0=>1
 | n+1=>((n+1:Nat):Int)*(M*dB M n)
theorem abs_mul {a b A B:Int} (h1:-A<=a/\a<=A) (h2:-B<=b/\b<=B):-(A*B)<=a*b/\a*b<=A*B:=by
 have hA:a.natAbs<=A.natAbs:=by omega
 have hB:b.natAbs<=B.natAbs:=by omega
 have h:=Nat.mul_le_mul hA hB
 rw [<- Int.natAbs_mul,<- Int.natAbs_mul] at h
 have hp:0<=A*B:=Int.mul_nonneg (by omega) (by omega)
 omega
theorem det_bound {M:Int} (hM:0<=M):∀ (n:Nat) (v:Nat->Nat->Int),(∀ i,i<n->∀ p,p<n->-M<=v i p/\v i p<=M)->-dB M n<=det n v/\det n v<=dB M n
 | 0,_,_=>by show -(1:Int)<=1/\(1:Int)<=1; omega
 | n+1,v,h=>by
  have:=altS_bound (B:=M*dB M n) (n:=n+1) (f:=fun k=>v k n*det n fun i=>v (skp k i)) fun k hk=>abs_mul (h k hk n (Nat.lt_succ_self n)) (det_bound hM n _ fun i hi p hp=>h (skp k i) (skp_lt hi) p (by omega))
  exact this
theorem sumN_bound {f:Nat->Int} {B:Int}:∀ {n:Nat},(∀ k,k<n->-B<=f k/\f k<=B)->-((n:Int)*B)<=sumN n f/\sumN n f<=(n:Int)*B
 | 0,_=>by show -(((0:Nat):Int)*B)<=0/\(0:Int)<=((0:Nat):Int)*B; simp
 | n+1,h=>by
  have ih:=sumN_bound fun k hk=>h k (Nat.lt_succ_of_lt hk)
  have h1:=h n (Nat.lt_succ_self n)
  have e:((n+1:Nat):Int)*B=(n:Int)*B+B:=by rw [Int.natCast_succ,Int.add_mul,Int.one_mul]
  have e2:sumN (n+1) f=sumN n f+f n:=rfl
  rw [e,e2]
  omega
abbrev mM:Int:=2000000000
theorem dB6 {m:Nat} (h:m<=6):dB mM m<=2^197:=by
 have:m=0\/m=1\/m=2\/m=3\/m=4\/m=5\/m=6:=by omega
 rcases this with rfl | rfl | rfl | rfl | rfl | rfl | rfl <;> decide
section
variable {m n:Nat} {A:Nat->Nat->Int} {c:Nat->Int} {h:Nat->Nat} {t:Nat->Nat->Int} {o:Nat->Int} {d:Int}
theorem Tab.bt (T:Tab m n A c h t o d) (hm:m<=6) (hA:∀ j,j<n->∀ p,p<m->-mM<=A j p/\A j p<=mM):∀ i,i<m->∀ j,j<n->-(2^197)<=t i j/\t i j<=2^197:=fun i hi j hj=>by
 have:=det_bound (M:=mM) (by decide) m (upv (fun i=>A (h i)) i (A j)) fun k hk p hp=>by
  by_cases e:k=i
  ·subst e; rw [upv_at]; exact hA j hj p hp
  ·rw [upv_ne e]; exact hA _ (T.hn k hk) p hp
 rw [<- T.tt i hi j hj] at this
 have:=dB6 hm
 omega
theorem Tab.bd (T:Tab m n A c h t o d) (hm:m<=6) (hA:∀ j,j<n->∀ p,p<m->-mM<=A j p/\A j p<=mM):d<=2^197:=by
 have:=det_bound (M:=mM) (by decide) m (fun i=>A (h i)) fun k hk p hp=>hA _ (T.hn k hk) p hp
 rw [<- T.dd] at this
 have:=dB6 hm
 omega
theorem Tab.bo (T:Tab m n A c h t o d) (hm:m<=6) (hA:∀ j,j<n->∀ p,p<m->-mM<=A j p/\A j p<=mM) (hc:∀ j,j<n->-mM<=c j/\c j<=mM):∀ j,j<n->-(2^240)<=o j/\o j<=2^240:=fun j hj=>by
 have b1:=abs_mul (a:=d) (A:=2^197) ⟨by have:=T.dp; omega,T.bd hm hA⟩ (hc j hj)
 have b2:=sumN_bound (f:=fun i=>c (h i)*t i j) (B:=mM*2^197) (n:=m) fun i hi=>abs_mul (hc _ (T.hn i hi)) (T.bt hm hA i hi j hj)
 have e:(m:Int)*(mM*2^197)<=6*(mM*2^197):=Int.mul_le_mul_of_nonneg_right (by omega) (by decide)
 rw [T.oo j hj]
 have k1:(2:Int)^197*mM+6*(mM*2^197)<=2^240:=by decide
 omega
end
structure Lv (m:Nat) (h:Nat->Nat) (t:Nat->Nat->Int) (s r:Nat):Prop where
 lt:r<m
 pos:0<t r s
 least:∀ i,i<m->0<t i s->h r<=h i
inductive Run {m n:Nat} {A:Nat->Nat->Int} {c:Nat->Int} (S0:TB m n A c):Nat->TB m n A c->Prop where
 | zero:Run S0 0 S0
 | succ {L:Nat} {S S':TB m n A c} {e l:Nat}:Run S0 L S->Mv_ S S' e l->Run S0 (L+1) S'
theorem Run.seq {m n:Nat} {A:Nat->Nat->Int} {c:Nat->Int} {S0:TB m n A c}:∀ {L:Nat} {S:TB m n A c},Run S0 L S->∃ (F:Nat->TB m n A c) (e l:Nat->Nat),F L=S/\∀ i,i<L->Mv_ (F i) (F (i+1)) (e i) (l i)
 | _,_,.zero=>⟨fun _=>S0,fun _=>0,fun _=>0,rfl,fun i hi=>absurd hi (Nat.not_lt_zero _)⟩
 | _,_,.succ (L:=L) (S:=S) (S':=S') (e:=e) (l:=l) r mv=>by
  obtain ⟨F,es,ls,eF,hF⟩:=r.seq
  refine ⟨fun i=>if i<=L then F i else S',fun i=>if i<L then es i else e,fun i=>if i<L then ls i else l,if_neg (by omega),fun i hi=>?_⟩
  by_cases q:i<L
  ·dsimp only
   rw [if_pos (by omega),if_pos (by omega),if_pos q,if_pos q]
   exact hF i q
  ·have:i=L:=by omega
   subst this
   dsimp only
   rw [if_pos (Nat.le_refl _),if_neg (by omega),if_neg (Nat.lt_irrefl _),if_neg (Nat.lt_irrefl _),eF]
   exact mv
theorem Run.lt {m n:Nat} {A:Nat->Nat->Int} {c:Nat->Int} {S0:TB m n A c} {L:Nat} {S:TB m n A c} (r:Run S0 L S):L<2^n:=by
 obtain ⟨F,e,l,_,h⟩:=r.seq
 exact run_ends F e l L h
abbrev vec (n:Nat) (f:Nat->Int):List Int:=(List.range n).map f
theorem vec_len (n:Nat) (f:Nat->Int):(vec n f).length=n:=by simp [vec]
theorem vec_add (k m:Nat) (f:Nat->Int):vec (k+m) f=vec k f++vec m fun q=>f (k+q):=by
 unfold vec
 rw [List.range_add,List.map_append,List.map_map]; rfl
abbrev rowsL (m n:Nat) (t:Nat->Nat->Int) (o:Nat->Int):List (List Int):=(List.range m).map (fun i=>vec n (t i)) ++ [vec n o]
theorem rows_len (m n:Nat) (t:Nat->Nat->Int) (o:Nat->Int):(rowsL m n t o).length=m+1:=by simp
theorem rows_i {m n:Nat} {t:Nat->Nat->Int} {o:Nat->Int} {i:Nat} (h:i<m):L2.atI ((rowsL m n t o).map tI) (i:Int)=some (tI (vec n (t i))):=atW_of (by
 rw [List.getElem?_map,List.getElem?_append_left (by simpa using h),List.getElem?_map,List.getElem?_range h]; rfl)
theorem rows_last (m n:Nat) (t:Nat->Nat->Int) (o:Nat->Int):L2.atI ((rowsL m n t o).map tI) (-1)=some (tI (vec n o)):=by
 unfold L2.atI
 have:L2.ixN ((rowsL m n t o).map tI).length (-1)=some m:=by
  unfold L2.ixN
  rw [List.length_map,rows_len]
  simp
  omega
 rw [this]
 show ((rowsL m n t o).map tI)[m]?=_
 simp
theorem unit_ok {p m:Nat} (hm:m<=6):f_unit [.int (p:Int),.int (m:Int)]=.ok (tI (vec m fun q=>if q=p then 1 else 0)):=by
 have e:∀ N mg me ρ (h:∀ k∈List.range m,∃ ρ1,mg (.int (k:Nat)) (ρ++List.replicate (N-ρ.length) Sl.un)=some ρ1/\me ρ1=.ok (.int (if k=p then 1 else 0))),mComp N mg yes me ((List.range m).map fun k=>W.int (k:Nat)) ρ=.ok (lI (vec m fun q=>if q=p then 1 else 0)):=fun N mg me ρ h=>by
  rw [mComp_all (fun k=>W.int (if k=p then 1 else 0)) _ _ ρ (by simp; omega) h,mapI]
 exists rpB,m_unit
 rw [e]
 ·exists rp18
 ·intro k hk
  refine ⟨_,rfl,?_⟩
  by_cases q:k=p
  ·have d1:decide ((k:Int)=(p:Int))=true:=decide_eq_true (by omega)
   exists fEq_ii,d1
   rw [if_pos q]
  ·have d1:decide ((k:Int)=(p:Int))=false:=decide_eq_false (by omega)
   exists fEq_ii,d1
   rw [if_neg q]
def stM (ms:List Mv) (j p:Nat):Int:=(ms.getD j ([],[])).2.getD p 0-(ms.getD j ([],[])).1.getD p 0
def cA (ms:List Mv) (j p:Nat):Int:=if j<ms.length then-stM ms j p else if j-ms.length=p then 1 else 0
def cC (ms:List Mv) (pl j:Nat):Int:=if j<ms.length then stM ms j pl else 0
theorem colsM (ms:List Mv) (m pl:Nat):Cols ms.length m pl (stM ms) (cA ms) (cC ms pl) where
 am j hj p _:=if_pos hj
 au q _ p _:=by
  unfold cA
  rw [if_neg (by omega),Nat.add_sub_cancel_left]
 cm j hj:=if_pos hj
 cu q _:=if_neg (by omega)
theorem fCatT_II {xs ys:List Int} (h:xs.length+ys.length<=1000):fCatT (tI xs) (tI ys)=.ok (tI (xs++ys)):=by
 show (if _ then _ else _)=_
 rw [if_pos ⟨by simpa using h,noLs_ints xs,noLs_ints ys⟩,<- List.map_append]
theorem ms_rng (ms:List Mv) (f:Mv->List Int):ms.map f=(List.range ms.length).map fun j=>f (ms.getD j ([],[])):=by
 apply List.ext_getElem
 ·simp
 ·intro i h1 h2
  have:i<ms.length:=by simpa using h1
  simp [List.getD_eq_getElem?_getD,this]
theorem first_ok {ms:List Mv} {m pl:Nat} (h1:1<=m) (h6:m<=6) (hms:∀ x∈ms,okN m x) (h8:ms.length<=8) (hpl:pl<m):f_first_table [tM_ ms,.int (pl:Int),.int (m:Int)]=.ok (lS (rowsL m (ms.length+m) (fun i j=>cA ms j i) (cC ms pl))):=by
 generalize hk:ms.length=k at h8
 have e1:∀ N mg me ρ (h:∀ x∈ms,∃ ρ1,mg (mW x) (ρ++List.replicate (N-ρ.length) Sl.un)=some ρ1/\me ρ1=.ok (tI (vec m fun p=>x.2.getD p 0-x.1.getD p 0))),mComp N mg yes me (ms.map mW) ρ=.ok (.lst ((List.range k).map fun j=>tI (vec m (stM ms j)))):=fun N mg me ρ h=>by
  rw [mComp_all (fun x=>tI (vec m fun p=>x.2.getD p 0-x.1.getD p 0)) _ _ ρ (by omega) h]
  have:=ms_rng ms fun x=>vec m fun p=>x.2.getD p 0-x.1.getD p 0
  rw [show (ms.map fun x=>tI (vec m fun p=>x.2.getD p 0-x.1.getD p 0))=(ms.map fun x=>vec m fun p=>x.2.getD p 0-x.1.getD p 0).map tI by rw [List.map_map]; rfl,this,List.map_map,hk]; rfl
 have e2:∀ N mg me ρ (f:Nat->List Int) (h:∀ i∈List.range m,∃ ρ1,mg (.int (i:Nat)) (ρ++List.replicate (N-ρ.length) Sl.un)=some ρ1/\me ρ1=.ok (tI (f i))),mComp N mg yes me ((List.range m).map fun i=>W.int (i:Nat)) ρ=.ok (.lst ((List.range m).map fun i=>tI (f i))):=fun N mg me ρ f h=>mComp_all (fun i=>tI (f i)) _ _ ρ (by simp; omega) h
 have e3:∀ N mg me ρ (f:Nat->Int) (h:∀ j∈List.range k,∃ ρ1,mg (tI (vec m (stM ms j))) (ρ++List.replicate (N-ρ.length) Sl.un)=some ρ1/\me ρ1=.ok (.int (f j))),mComp N mg yes me ((List.range k).map fun j=>tI (vec m (stM ms j))) ρ=.ok (lI (vec k f)):=fun N mg me ρ f h=>by
  rw [mComp_all (fun j=>W.int (f j)) _ _ ρ (by simp; omega) h,mapI]
 have fr:fRepT (.tup [.int 0]) (.int (m:Int))=.ok (tI (vec m fun _=>0)):=by
  show (if _ then _ else _)=_
  rw [if_pos ⟨by simp,by simp; omega,by omega,by omega⟩,Int.toNat_natCast]
  have:(List.replicate m [W.int 0]).flatten=(vec m fun _=>0).map W.int:=by
   clear hpl h1 h6 hms e1 e2 e3
   induction m with
   | zero=>rfl
   | succ m ih=>
    rw [List.replicate_succ,List.flatten_cons,ih]
    unfold vec
    rw [List.range_succ_eq_map,List.map_cons,List.map_cons,List.map_map,List.map_map,List.map_map]; rfl
  rw [this]
 exists rpB,m_first_table
 rw [e1]
 rotate_left
 ·intro x hx
  have k1:=change_ok h6 (hms x hx)
  refine ⟨_,rfl,?_⟩
  exists k1
 exists rp18
 rw [e2 _ _ _ _ fun i=>vec (k+m) fun j=>cA ms j i]
 rotate_left
 ·intro i hi
  have hi:i<m:=by simpa using hi
  have ku:=unit_ok (p:=i) h6
  have kc:=fCatT_II (xs:=vec k fun j =>-stM ms j i) (ys:=vec m fun q=>if q=i then 1 else 0) (by simp; omega)
  have ev:(vec k fun j =>-stM ms j i)++(vec m fun q=>if q=i then 1 else 0)=vec (k+m) fun j=>cA ms j i:=by
   rw [vec_add]
   congr 1
   ·refine List.map_congr_left fun j hj=>?_
    have:j<k:=by simpa using hj
    unfold cA
    rw [hk,if_pos this]
   ·refine List.map_congr_left fun q _=>?_
    unfold cA
    rw [hk,if_neg (show ¬ (k+q<k) by omega),Nat.add_sub_cancel_left]
  rw [ev] at kc
  refine ⟨_,rfl,?_⟩
  exists rp18
  rw [e3 _ _ _ _ fun j =>-stM ms j i]
  ·exists ku,kc
  ·intro j hj
   have a1:L2.atI ((vec m (stM ms j)).map W.int) (i:Int)=some (.int (stM ms j i)):=by
    have:=atW_of (ws:=(vec m (stM ms j)).map W.int) (k:=i) (w:=.int (stM ms j i)) (by rw [List.getElem?_map,List.getElem?_map,List.getElem?_range hi]; rfl)
    exact this
   refine ⟨_,rfl,?_⟩
   exists a1
 exists rp18
 rw [e3 _ _ _ _ fun j=>stM ms j pl]
 rotate_left
 ·intro j hj
  have a1:L2.atI ((vec m (stM ms j)).map W.int) (pl:Int)=some (.int (stM ms j pl)):=by
   have:=atW_of (ws:=(vec m (stM ms j)).map W.int) (k:=pl) (w:=.int (stM ms j pl)) (by rw [List.getElem?_map,List.getElem?_map,List.getElem?_range hpl]; rfl)
   exact this
  refine ⟨_,rfl,?_⟩
  exists a1
 have kc:=fCatT_II (xs:=vec k fun j=>stM ms j pl) (ys:=vec m fun _=>0) (by simp; omega)
 have ev:(vec k fun j=>stM ms j pl)++(vec m fun _=>0)=vec (k+m) (cC ms pl):=by
  rw [vec_add]
  congr 1
  ·refine List.map_congr_left fun j hj=>?_
   have:j<k:=by simpa using hj
   unfold cC
   rw [hk,if_pos this]
  ·refine List.map_congr_left fun q _=>?_
   unfold cC
   rw [hk,if_neg (by omega)]
 rw [ev] at kc
 exists fr,kc,chk_no (noL_tI (vec (k+m) (cC ms pl)))
 show _=R.ok (W.lst ((rowsL m (k+m) (fun i j=>cA ms j i) (cC ms pl)).map tI))
 rw [List.map_append,List.map_map]; rfl
theorem enu_atI {xs:List Int} {i:Nat} {w:W} (h:((xs.map W.int).mapIdx fun i x=>W.tup [.int (i:Int),x])[i]?=some w):i<xs.length/\w=.tup [.int (i:Int),.int (xs.getD i 0)]:=by
 rw [List.getElem?_mapIdx,List.getElem?_map] at h
 by_cases hi:i<xs.length
 ·rw [List.getElem?_eq_getElem hi] at h
  cases h
  exact ⟨hi,by rw [List.getD_eq_getElem?_getD,List.getElem?_eq_getElem hi]; rfl⟩
 ·rw [List.getElem?_eq_none (by omega)] at h; cases h
inductive Com (n:Nat) (o:Nat->Int):W->Prop where
 | none:(∀ j,j<n->o j<=0)->Com n o .non
 | some {j:Nat}:j<n->0<o j->(∀ i,i<j->o i<=0)->Com n o (.int (j:Int))
theorem coming_ok {m n:Nat} {t:Nat->Nat->Int} {o:Nat->Int} (hm:m<=6) (hn:n<=100):Ok (f_coming [lS (rowsL m n t o)]) (Com n o):=by
 have a1:=rows_last m n t o
 have hl:=vec_len n o
 exists rpB,m_coming,a1
 refine ok_end (po_fors (fun i ρ=>∃ (x y:Sl),ρ = [.par (lS (rowsL m n t o)),x,y]/\∀ j,j<i->o j<=0) ⟨_,_,rfl,fun j hj=>absurd hj (Nat.not_lt_zero _)⟩ ?_ ?_)
 ·rintro i u ρ hu ⟨x,y,rfl,hall⟩
  obtain ⟨hi,rfl⟩:=enu_atI hu
  have hi:i<n:=by rw [<- hl]; exact hi
  have ev:(vec n o).getD i 0=o i:=vec_getD hi
  rw [ev]
  refine ⟨_,rfl,?_⟩
  exists rp18
  refine po_if (fun h=>?_) (fun h=>?_)
  ·have h:=of_decide_eq_true h
   exists rp18
   exact .some hi h hall
  ·have h:=of_decide_eq_false h
   exists rp18
   refine ⟨_,_,rfl,fun j hj=>?_⟩
   by_cases e:j=i
   ·subst e; omega
   ·exact hall j (by omega)
 ·rintro ρ ⟨x,y,rfl,hall⟩
  have hall:∀ j,j<n->o j<=0:=fun j hj=>hall j (by rw [List.length_mapIdx,List.length_map,hl]; exact hj)
  exists rp18
  exact .none hall
theorem ex_least (key:Nat->Int):∀ L:List Nat,L ≠ []->∃ i∈L,∀ j∈L,key i<=key j
 | [],h=>absurd rfl h
 | [a],_=>⟨a,List.mem_cons_self,fun j hj=>by rw [List.mem_singleton.mp hj]; exact Int.le_refl _⟩
 | a::b::L,_=>by
  obtain ⟨i,hi,hm⟩:=ex_least key (b::L) (by simp)
  by_cases q:key a<=key i
  ·refine ⟨a,List.mem_cons_self,fun j hj=>?_⟩
   rcases List.mem_cons.mp hj with rfl | hj
   ·exact Int.le_refl _
   ·have:=hm j hj; omega
  ·refine ⟨i,List.mem_cons_of_mem _ hi,fun j hj=>?_⟩
   rcases List.mem_cons.mp hj with rfl | hj
   ·omega
   ·exact hm j hj
inductive Lea (m:Nat) (h:Nat->Nat) (t:Nat->Nat->Int) (s:Nat):W->Prop where
 | none:(∀ i,i<m->t i s<=0)->Lea m h t s .non
 | some {r:Nat}:Lv m h t s r->Lea m h t s (.int (r:Int))
theorem leaving_ok {m n s:Nat} {t:Nat->Nat->Int} {o:Nat->Int} {h:Nat->Nat} (hm:m<=6) (hn:n<=100) (hs:s<n):Ok (f_leaving [lS (rowsL m n t o),lI (vec m fun i=>(h i:Int)),.int (s:Int)]) (Lea m h t s):=by
 have e1:∀ N mg mc me ρ (q:∀ i∈List.range m,∃ ρ1,mg (.int (i:Nat)) (ρ++List.replicate (N-ρ.length) Sl.un)=some ρ1/\mc ρ1=.ok (decide (0<t i s))/\me ρ1=.ok (.int (i:Nat))),mComp N mg mc me ((List.range m).map fun i=>W.int (i:Nat)) ρ=.ok (lI (((List.range m).filter fun i=>decide (0<t i s)).map fun (i:Nat)=>(i:Int))):=fun N mg mc me ρ q=>by
  rw [mComp_filter (fun i=>W.int (i:Nat)) _ (fun i=>decide (0<t i s)) _ ρ (by simp; omega) fun i hi=>by
   obtain ⟨ρ1,a1,a2,a3⟩:=q i hi
   exact ⟨ρ1,a1,a2,fun _=>a3⟩,mapI]
 have hl:=vec_len m fun i=>(h i:Int)
 exists rpB,m_leaving
 rw [e1]
 rotate_left
 ·intro i hi
  have hi:i<m:=by simpa using hi
  have a1:=rows_i (n:=n) (t:=t) (o:=o) hi
  have a2:L2.atI ((vec n (t i)).map W.int) (s:Int)=some (.int (t i s)):=by
   have:=atW_of (ws:=(vec n (t i)).map W.int) (k:=s) (w:=.int (t i s)) (by rw [List.getElem?_map,List.getElem?_map,List.getElem?_range hs]; rfl)
   exact this
  refine ⟨_,rfl,?_,?_⟩
  ·exists a1,a2
  ·exists rp18
 generalize hL:(List.range m).filter (fun i=>decide (0<t i s))=L
 have hLm:∀ i,i∈L↔i<m/\0<t i s:=fun i=>by rw [<- hL,List.mem_filter,List.mem_range,decide_eq_true_iff]
 have hmr:minR (L.map fun (i:Nat)=>(i:Int)) (vec m fun i=>(h i:Int))=.ok (vW (minI (fun i=>(vec m fun i=>(h i:Int)).getD i.toNat 0) (L.map fun (i:Nat)=>(i:Int)))):=by
  unfold minR
  rw [if_pos]
  rw [List.all_eq_true]
  intro x hx
  obtain ⟨i,hi,rfl⟩:=List.mem_map.mp hx
  have:=(hLm i).mp hi
  rw [Bool.and_eq_true,decide_eq_true_iff,decide_eq_true_iff,hl]
  omega
 exists hmr
 unfold minI
 cases q:(L.map fun (i:Nat)=>(i:Int)).find? (fun i=>(L.map fun (i:Nat)=>(i:Int)).all fun x=>decide ((vec m fun i=>(h i:Int)).getD i.toNat 0<=(vec m fun i=>(h i:Int)).getD x.toNat 0)) with
 | none=>
  have hnil:L = []:=Classical.byContradiction fun ne=>by
   obtain ⟨i,hi,hmi⟩:=ex_least (fun i=>(h i:Int)) L ne
   have:=List.find?_eq_none.mp q (i:Int) (List.mem_map.mpr ⟨i,hi,rfl⟩)
   refine this (List.all_eq_true.mpr fun x hx=>?_)
   obtain ⟨j,hj,rfl⟩:=List.mem_map.mp hx
   rw [decide_eq_true_iff,Int.toNat_natCast,Int.toNat_natCast,vec_getD ((hLm i).mp hi).1,vec_getD ((hLm j).mp hj).1]
   exact hmi j hj
  refine ⟨_,rfl,.none fun i hi=>?_⟩
  have:=mt (hLm i).mpr (by rw [hnil]; exact List.not_mem_nil)
  omega
 | some x=>
  obtain ⟨hx,_⟩:=List.find?_eq_some_iff_append.mp q
  obtain ⟨i,hi,rfl⟩:=List.mem_map.mp (List.mem_of_find?_eq_some q)
  have hi2:=(hLm i).mp hi
  refine ⟨_,rfl,.some ⟨hi2.1,hi2.2,fun j hj hp=>?_⟩⟩
  have:=List.all_eq_true.mp hx (j:Int) (List.mem_map.mpr ⟨j,(hLm j).mpr ⟨hj,hp⟩,rfl⟩)
  have this:=of_decide_eq_true this
  rw [Int.toNat_natCast,Int.toNat_natCast,vec_getD hi2.1,vec_getD hj] at this
  omega
theorem bits_of_le {z:Int} {k:Nat} (h:-(2^k)<=z/\z<=2^k):Builtin.Int.intBits z<=k+1:=by
 refine intBits_le_iff.mpr ?_
 have h1:(z.natAbs:Int)<=((2^k:Nat):Int):=by push_cast; omega
 have h2:z.natAbs<=2^k:=by exact_mod_cast h1
 exact Nat.lt_of_le_of_lt h2 (Nat.pow_lt_pow_right (by decide) (Nat.lt_succ_self k))
theorem divL_big {i j:Int} (h0:0<j) (h:j<=2^400):fI CDivL gDiv (.int i) (.int j)=.ok (.int (i/j)):=by
 show (if CDivL i j then _ else _)=_
 rw [if_pos ⟨h0,Int.lt_of_le_of_lt h (by unfold big8; decide)⟩]
theorem cleared_ok {n s:Nat} {x b:Nat->Int} {d:Int} (hn:n<=100) (hs:s<n) (hx:∀ j,j<n->-(2^240)<=x j/\x j<=2^240) (hb:∀ j,j<n->-(2^240)<=b j/\b j<=2^240) (h0:0<d) (hd:d<=2^400) :
  f_cleared [tI (vec n x),tI (vec n b),.int (s:Int),.int d]=.ok (tI (vec n fun j=>(x j*b s-x s*b j)/d)):=by
 have hz:=zipR_2 (tI (vec n x)) (tI (vec n b)) _ _ rfl rfl
 rw [zipW_I2 (by rw [vec_len,vec_len]),vec_len] at hz
 have as:L2.atI ((vec n x).map W.int) (s:Int)=some (.int (x s)):=by
  have:=atW_of (ws:=(vec n x).map W.int) (k:=s) (w:=.int (x s)) (by rw [List.getElem?_map,List.getElem?_map,List.getElem?_range hs]; rfl)
  exact this
 have bs:L2.atI ((vec n b).map W.int) (s:Int)=some (.int (b s)):=by
  have:=atW_of (ws:=(vec n b).map W.int) (k:=s) (w:=.int (b s)) (by rw [List.getElem?_map,List.getElem?_map,List.getElem?_range hs]; rfl)
  exact this
 have e:∀ N mg me ρ (h:∀ j,j<n->∃ ρ1,mg (.tup [.int ((vec n x).getD j 0),.int ((vec n b).getD j 0)]) (ρ++List.replicate (N-ρ.length) Sl.un)=some ρ1/\me ρ1=.ok (.int ((x j*b s-x s*b j)/d))),mComp N mg yes me ((List.range n).map fun j=>W.tup [.int ((vec n x).getD j 0),.int ((vec n b).getD j 0)]) ρ=.ok (lI (vec n fun j=>(x j*b s-x s*b j)/d)):=fun N mg me ρ h=>by
  rw [mComp_all (fun j=>.int ((x j*b s-x s*b j)/d)) _ _ ρ (by simpa using (by omega:n<=1000)) (fun k hk=>h k (by simpa using hk)),mapI]
 exists rpB,m_cleared,hz
 rw [e]
 ·exists rp18
 ·intro j hj
  have b1:=bits_of_le (hx j hj)
  have b2:=bits_of_le (hx s hs)
  have b3:=bits_of_le (hb j hj)
  have b4:=bits_of_le (hb s hs)
  have v1:(vec n x).getD j 0=x j:=vec_getD hj
  have v2:(vec n b).getD j 0=b j:=vec_getD hj
  have m1:fI CMulB gMul (.int (x j)) (.int (b s))=.ok (.int (x j*b s)):=mulB_b (by omega)
  have m2:fI CMulB gMul (.int (x s)) (.int (b j))=.ok (.int (x s*b j)):=mulB_b (by omega)
  have m3:=divL_big (i:=x j*b s-x s*b j) h0 hd
  rw [v1,v2]
  refine ⟨_,rfl,?_⟩
  exists as,bs,m1,m2,m3
def pvT (t:Nat->Nat->Int) (r s:Nat) (d:Int) (i j:Nat):Int:=if i=r then t r j else (t i j*t r s-t i s*t r j)/d
def pvO (t:Nat->Nat->Int) (o:Nat->Int) (r s:Nat) (d:Int) (j:Nat):Int:=(o j*t r s-o s*t r j)/d
theorem enu_rows {m n:Nat} {t:Nat->Nat->Int} {o:Nat->Int}:((rowsL m n t o).map tI).mapIdx (fun i x=>W.tup [.int (i:Int),x])=(List.range (m+1)).map fun (i:Nat)=>W.tup [.int (i:Int),tI (if i<m then vec n (t i) else vec n o)]:=by
 apply List.ext_getElem
 ·simp
 ·intro i h1 h2
  have hi:i<m+1:=by simpa using h2
  rw [List.getElem_mapIdx,List.getElem_map,List.getElem_map,List.getElem_range]
  by_cases q:i<m
  ·rw [if_pos q,List.getElem_append_left (by simpa using q)]; simp
  ·have:i=m:=by omega
   subst this
   rw [if_neg (Nat.lt_irrefl _),List.getElem_append_right (by simp)]; simp
theorem pivoted_ok {m n r s:Nat} {t:Nat->Nat->Int} {o:Nat->Int} {d:Int} (hm:m<=6) (hn:n<=100) (hr:r<m) (hs:s<n) (ht:∀ i,i<m->∀ j,j<n->-(2^240)<=t i j/\t i j<=2^240) (ho:∀ j,j<n->-(2^240)<=o j/\o j<=2^240) (h0:0<d) (hd:d<=2^400) :
  f_pivoted [lS (rowsL m n t o),.int (r:Int),.int (s:Int),.int d]=.ok (lS (rowsL m n (pvT t r s d) (pvO t o r s d))):=by
 have a1:=rows_i (n:=n) (t:=t) (o:=o) hr
 have e:∀ N mg me ρ (h:∀ i∈List.range (m+1),∃ ρ1,mg (.tup [.int (i:Int),tI (if i<m then vec n (t i) else vec n o)]) (ρ++List.replicate (N-ρ.length) Sl.un)=some ρ1/\me ρ1=.ok (tI (if i<m then vec n (pvT t r s d i) else vec n (pvO t o r s d)))),mComp N mg yes me ((List.range (m+1)).map fun (i:Nat)=>W.tup [.int (i:Int),tI (if i<m then vec n (t i) else vec n o)]) ρ=.ok (lS (rowsL m n (pvT t r s d) (pvO t o r s d))):=fun N mg me ρ h=>by
  rw [mComp_all (fun i=>tI (if i<m then vec n (pvT t r s d i) else vec n (pvO t o r s d))) _ _ ρ (by simp; omega) h]
  congr 2
  rw [List.range_succ,List.map_append,List.map_append,List.map_map]
  congr 1
  ·refine List.map_congr_left fun i hi=>?_
   have:i<m:=by simpa using hi
   rw [if_pos this]; rfl
  ·simp
 have he:enuW [lS (rowsL m n t o)]=.ok ((List.range (m+1)).map fun (i:Nat)=>W.tup [.int (i:Int),tI (if i<m then vec n (t i) else vec n o)]):=by rw [<- enu_rows]; rfl
 exists rpB,m_pivoted,a1,he
 rw [e]
 ·exists rp18
 ·intro i hi
  have hi:i<m+1:=by simpa using hi
  refine ⟨_,rfl,?_⟩
  by_cases q:i=r
  ·subst q
   have d1:decide ((i:Int)=(i:Int))=true:=decide_eq_true rfl
   rw [if_pos hr,if_pos hr]
   have ev:vec n (pvT t i s d i)=vec n (t i):=List.map_congr_left fun j _=>if_pos rfl
   rw [ev]
   exists fEq_ii,d1
  ·have d1:decide ((i:Int)=(r:Int))=false:=decide_eq_false (by omega)
   by_cases q2:i<m
   ·have k1:=cleared_ok (x:=t i) (b:=t r) hn hs (ht i q2) (ht r hr) h0 hd
    have ev:vec n (pvT t r s d i)=vec n fun j=>(t i j*t r s-t i s*t r j)/d:=List.map_congr_left fun j _=>if_neg q
    rw [if_pos q2,if_pos q2,ev]
    exists fEq_ii,d1,k1
   ·have k1:=cleared_ok (x:=o) (b:=t r) hn hs ho (ht r hr) h0 hd
    rw [if_neg q2,if_neg q2]
    exists fEq_ii,d1,k1
    rfl
theorem gcd_ok {a b:Int} (ha:0<=a) (hb:0<=b):f_greatest_divisor [.int a,.int b]=.ok (.int (Int.gcd a b:Nat)):=by
 have fin:Ok (f_greatest_divisor [.int a,.int b]) fun v=>v=.int (Int.gcd a b:Nat):=by
  exists rpB,m_greatest_divisor
  refine ok_end (po_seq ?_)
  refine po_while (fun M ρ=>∃ (x y:Int) (z:Sl),(ρ = [.par (.int x),.par (.int y),z]\/ρ = [.val (.int x),.val (.int y),z])/\0<=x/\0<=y/\Int.gcd x y=Int.gcd a b/\M=y.toNat) ?_ b.toNat _ ⟨a,b,.un,.inl rfl,ha,hb,rfl,rfl⟩
  rintro M ρ ⟨x,y,z,hρ,hx,hy,hg,hM⟩
  by_cases h0:y=0
  ·have d1:decide (y=0)=true:=decide_eq_true h0
   refine ⟨false,?_,?_⟩
   ·rcases hρ with rfl | rfl
    all_goals exists d1
   rw [if_neg (by decide)]
   have hgx:(Int.gcd a b:Int)=x:=by
    rw [<- hg,h0,Int.gcd_zero_right]
    omega
   rcases hρ with rfl | rfl
   all_goals
    exists rp18
    rw [hgx]
  ·have d1:decide (y=0)=false:=decide_eq_false h0
   have h1:0<y:=by omega
   refine ⟨true,?_,?_⟩
   ·rcases hρ with rfl | rfl
    all_goals exists d1
   rw [if_pos rfl]
   have q0:0<=x%y:=Int.emod_nonneg _ h0
   have q1:x%y<y:=Int.emod_lt_of_pos _ h1
   have hg2:Int.gcd y (x%y)=Int.gcd a b:=by
    have e:=Int.gcd_add_mul_left_left y (x%y) (x/y)
    rw [Int.emod_add_mul_ediv] at e
    rw [<- hg,Int.gcd_comm y,e]
   rcases hρ with rfl | rfl
   all_goals
    exists rp18
    exact ⟨(x%y).toNat,by omega,y,x%y,_,.inr rfl,hy,q0,hg2,rfl⟩
 obtain ⟨v,e,rfl⟩:=fin
 exact e
theorem int_at {xs:List Int} {i:Nat} {w:W} (h:(xs.map W.int)[i]?=some w):i<xs.length/\w=.int (xs.getD i 0):=by
 rw [List.getElem?_map] at h
 by_cases hi:i<xs.length
 ·rw [List.getElem?_eq_getElem hi] at h
  cases h
  exact ⟨hi,by rw [List.getD_eq_getElem?_getD,List.getElem?_eq_getElem hi]; rfl⟩
 ·rw [List.getElem?_eq_none (by omega)] at h; cases h
theorem least_ok {L:W} {xs:List Int} (hL:L=lI xs\/L=tI xs) (hl:xs.length<=100) (h0:∀ x∈xs,0<=x/\x<=2^400) (hp:∃ j,j<xs.length/\0<xs.getD j 0):Ok (f_in_least_numbers [L]) fun v=>∃ (g:Int) (ys:List Int),v=tI ys/\0<g/\ys.length=xs.length/\∀ i,i<xs.length->xs.getD i 0=g*ys.getD i 0:=by
 have hx:∀ j,j<xs.length->0<=xs.getD j 0/\xs.getD j 0<=2^400:=fun j hj=>memD h0 hj
 have e:∀ (g:Int) N mg me ρ (h:∀ x∈xs,∃ ρ1,mg (.int x) (ρ++List.replicate (N-ρ.length) Sl.un)=some ρ1/\me ρ1=.ok (.int (x/g))),mComp N mg yes me (xs.map W.int) ρ=.ok (lI (xs.map fun x=>x/g)):=fun g N mg me ρ h=>by
  rw [mComp_all (fun x=>W.int (x/g)) _ _ ρ (by omega) h,mapI]
 rcases hL with rfl | rfl
 all_goals
  exists rpB,m_in_least_numbers
  refine ok_end (po_fors (fun i ρ=>∃ (g:Nat) (y:Sl),(ρ = [.par (lI xs),.val (.int (g:Int)),y]\/ρ = [.par (tI xs),.val (.int (g:Int)),y])/\(∀ j,j<i->(g:Int)∣xs.getD j 0)/\((∃ j,j<i/\0<xs.getD j 0)->0<g)) ⟨0,_,by first | exact .inl rfl | exact .inr rfl,fun j hj=>absurd hj (Nat.not_lt_zero _),fun zz96=>by obtain ⟨j,hj,_⟩:=zz96; exact absurd hj (Nat.not_lt_zero _)⟩ ?_ ?_)
  ·rintro i u ρ hu ⟨g,y,hρ,h1,h2⟩
   obtain ⟨hi,rfl⟩:=int_at hu
   have k1:=gcd_ok (a:=(g:Int)) (b:=xs.getD i 0) (by omega) (hx i hi).1
   have fin:(∀ j,j<i+1->((Int.gcd (g:Int) (xs.getD i 0):Nat):Int)∣xs.getD j 0)/\((∃ j,j<i+1/\0<xs.getD j 0)->0<Int.gcd (g:Int) (xs.getD i 0)):=by
    refine ⟨fun j hj=>?_,fun ⟨j,hj,hp⟩=>?_⟩
    ·by_cases e:j=i
     ·subst e; exact Int.gcd_dvd_right ..
     ·exact Int.dvd_trans (Int.gcd_dvd_left ..) (h1 j (by omega))
    ·refine Nat.pos_of_ne_zero fun z=>?_
     have z:=Int.gcd_eq_zero_iff.mp z
     by_cases e:j=i
     ·subst e; omega
     ·have:=h2 ⟨j,by omega,hp⟩; omega
   rcases hρ with rfl | rfl
   all_goals
    refine ⟨_,rfl,?_⟩
    exists k1
    exact ⟨_,_,by first | exact .inl rfl | exact .inr rfl,fin⟩
  ·rintro ρ ⟨g,y,hρ,h1,h2⟩
   rw [List.length_map] at h1 h2
   have g0:=h2 hp
   obtain ⟨j,hj,hjp⟩:=hp
   have gb:(g:Int)<=2^400:=Int.le_trans (Int.le_of_dvd hjp (h1 j hj)) (hx j hj).2
   have fin:∃ (g':Int) (ys:List Int),tI (xs.map fun x=>x/(g:Int))=tI ys/\0<g'/\ys.length=xs.length/\∀ i,i<xs.length->xs.getD i 0=g'*ys.getD i 0:=by
    refine ⟨g,_,rfl,by omega,List.length_map _,fun i hi=>?_⟩
    have:(xs.map fun x=>x/(g:Int)).getD i 0=xs.getD i 0/(g:Int):=by
     rw [List.getD_eq_getElem?_getD,List.getD_eq_getElem?_getD,List.getElem?_map,List.getElem?_eq_getElem hi]; rfl
    rw [this,Int.mul_ediv_cancel' (h1 i hi)]
   rcases hρ with rfl | rfl
   all_goals
    exists rp18
    rw [e (g:Int)]
    ·exists rp18
     exact fin
    ·intro x _
     have m3:=divL_big (i:=x) (j:=(g:Int)) (by omega) gb
     refine ⟨_,rfl,?_⟩
     exists m3
theorem cut_to {xs:List Int} {n:Nat} (h:n<=xs.length):cutI xs none (some (n:Int))=xs.take n:=by
 unfold cutI
 rw [HT.sIx_nat,HT.sIx_none,List.drop_zero,Nat.min_eq_left h,Nat.sub_zero]
theorem cut_fr {xs:List Int} {n:Nat} (h:n<=xs.length):cutI xs (some (n:Int)) none=xs.drop n:=by
 unfold cutI
 rw [HT.sIx_nat,HT.sIx_none,Nat.min_eq_left h,List.take_of_length_le (by rw [List.length_drop]; omega)]
theorem vec_take (k m:Nat) (f:Nat->Int):(vec (k+m) f).take k=vec k f:=by
 rw [vec_add,List.take_left' (vec_len _ _)]
theorem vec_drop (k m:Nat) (f:Nat->Int):(vec (k+m) f).drop k=vec m fun q=>f (k+q):=by
 rw [vec_add,List.drop_left' (vec_len _ _)]
theorem vec_set {n:Nat} {f:Nat->Int} {i:Nat} {v:Int}:(vec n f).set i v=vec n fun j=>if j=i then v else f j:=by
 apply List.ext_getElem
 ·simp
 ·intro j h1 h2
  have hj:j<n:=by simpa using h2
  rw [List.getElem_set]
  simp only [vec,List.getElem_map,List.getElem_range]
  by_cases e:i=j
  ·rw [if_pos e,if_pos e.symm]
  ·rw [if_neg e,if_neg fun q=>e q.symm]
theorem rep0 (n:Nat) (h:n<=100):fRep true (.lst [.int 0]) (.int (n:Int))=.ok (lI (vec n fun _=>0)):=by
 rw [fRep_1 (by omega)]
 have:(List.replicate ((n:Int).toNat) [W.int 0]).flatten=(vec n fun _=>0).map W.int:=by
  rw [Int.toNat_natCast]
  apply List.ext_getElem?
  intro k
  rw [List.getElem?_map,List.getElem?_map,List.flatten_replicate_singleton]
  by_cases hk:k<n
  ·rw [List.getElem?_range hk,List.getElem?_eq_getElem (by simpa using hk)]; simp
  ·rw [List.getElem?_eq_none (by simpa using hk),List.getElem?_eq_none (by simpa using hk)]; rfl
 rw [this]
 rfl
theorem vec_at {n:Nat} {f:Nat->Int} {i:Nat} (h:i<n):L2.atI ((vec n f).map W.int) (i:Int)=some (.int (f i)):=by
 have:=atW_of (ws:=(vec n f).map W.int) (k:=i) (w:=.int (f i)) (by rw [List.getElem?_map,List.getElem?_map,List.getElem?_range h]; rfl)
 exact this
section
variable {m n:Nat} {A:Nat->Nat->Int} {c:Nat->Int} {h:Nat->Nat} {t:Nat->Nat->Int} {o:Nat->Int} {d:Int}
theorem dir_step (T:Tab m n A c h t o d) {s i:Nat} (hi:i<m) (hs:h i≠s) (j:Nat):dirY (i+1) h t d s j=if j=h i then-t i s else dirY i h t d s j:=by
 unfold dirY
 have e:sumN (i+1) (fun r=>if h r=j then t r s else 0)=sumN i (fun r=>if h r=j then t r s else 0)+if h i=j then t i s else 0:=rfl
 rw [e]
 by_cases q:j=h i
 ·subst q
  rw [if_pos rfl,if_pos rfl,if_neg hs,sumN_zero fun r hr=>if_neg fun z=>by have:=T.inj (by omega) hi z; omega]
  omega
 ·rw [if_neg (show ¬ (h i=j) from fun z=>q z.symm),if_neg (show ¬ (j=h i) from q)]; omega
theorem bag_ok {k:Nat} {A:Nat->Nat->Int} {c:Nat->Int} (T:Tab m (k+m) A c h t o d) {s:Nat} (h1:1<=m) (hm:m<=6) (hk:k<=8) (hs:s<k+m) (ho:0<o s) (hn:∀ i,i<m->t i s<=0) (hb:∀ j,dirY m h t d s j<=2^400) (hp:∃ j,j<k/\0<dirY m h t d s j) :
  Ok (f_bag_of [lS (rowsL m (k+m) t o),lI (vec m fun i=>(h i:Int)),.int (s:Int),.int d,.int (k:Int)]) fun v=>∃ (g:Int) (ys:List Int),v=tI ys/\0<g/\ys.length=k/\∀ j,j<k->dirY m h t d s j=g*ys.getD j 0:=by
 have nb:∀ i,i<m->h i≠s:=fun i hi e=>by
  have:=T.ozero hi
  rw [e] at this
  omega
 have a1:=rows_i (n:=k+m) (t:=t) (o:=o) (show 0<m by omega)
 have l1:((rowsL m (k+m) t o).getD 0 []).length=k+m:=by
  rw [List.getD_eq_getElem?_getD,List.getElem?_append_left (by rw [List.length_map,List.length_range]; omega),List.getElem?_map,List.getElem?_range (by omega)]
  exact vec_len _ _
 have r0:=rep0 (k+m) (by omega)
 have l2:=vec_len (k+m) fun _=>0
 have he:enuW [lI (vec m fun i=>(h i:Int))]=.ok (((vec m fun i=>(h i:Int)).map W.int).mapIdx fun i x=>W.tup [.int (i:Int),x]):=rfl
 have x1:ixN (k+m) (s:Int)=some s:=by unfold ixN; rw [if_pos (by omega),if_pos (by omega),Int.toNat_natCast]
 exists rpB,m_bag_of,a1,r0,he,l1,l2,x1
 have d0:(vec (k+m) fun _=>0).set s d=vec (k+m) (dirY 0 h t d s):=by
  rw [vec_set]
  refine List.map_congr_left fun j _=>?_
  show _=(if j=s then d else 0)+(-1)*(0:Int)
  omega
 rw [d0]
 refine ok_end (po_fors (fun i ρ=>∃ (x y:Sl),ρ = [.par (lS (rowsL m (k+m) t o)),.par (lI (vec m fun i=>(h i:Int))),.par (.int (s:Int)),.par (.int d),.par (.int (k:Int)),.own ((vec (k+m) (dirY i h t d s)).map W.int),x,y]) ⟨_,_,rfl⟩ ?_ ?_)
 ·rintro i u ρ hu ⟨x,y,rfl⟩
  obtain ⟨hi,rfl⟩:=enu_atI hu
  have hi:i<m:=by simpa using hi
  have ev:(vec m fun i=>(h i:Int)).getD i 0=(h i:Int):=vec_getD hi
  have b1:=rows_i (n:=k+m) (t:=t) (o:=o) hi
  have b2:=vec_at (f:=t i) hs
  have hh:=T.hn i hi
  have x2:ixN (k+m) (h i:Int)=some (h i):=by unfold ixN; rw [if_pos (by omega),if_pos (by omega),Int.toNat_natCast]
  have l3:=vec_len (k+m) (dirY i h t d s)
  rw [ev]
  refine ⟨_,rfl,?_⟩
  exists b1,b2,l3,x2
  have d1:(vec (k+m) (dirY i h t d s)).set (h i) (- t i s)=vec (k+m) (dirY (i+1) h t d s):=by
   rw [vec_set]
   exact List.map_congr_left fun j _=>(dir_step T hi (nb i hi) j).symm
  rw [d1]
  exact ⟨_,_,rfl⟩
 ·rintro ρ ⟨x,y,rfl⟩
  have hl:(((vec m fun i=>(h i:Int)).map W.int).mapIdx fun i x=>W.tup [.int (i:Int),x]).length=m:=by simp
  rw [hl]
  have l4:=vec_len (k+m) (dirY m h t d s)
  have c1:cutI (vec (k+m) (dirY m h t d s)) none (some (k:Int))=vec k (dirY m h t d s):=by
   rw [cut_to (by rw [l4]; omega),vec_take]
  have l5:=vec_len k (dirY m h t d s)
  have kk:=least_ok (.inl rfl) (xs:=vec k (dirY m h t d s)) (by rw [l5]; omega) (fun z hz=>by
   obtain ⟨j,_,rfl⟩:=List.mem_map.mp hz
   exact ⟨T.dirP ho hn j,hb j⟩) (by
   obtain ⟨j,hj,hp⟩:=hp
   exact ⟨j,by rw [l5]; exact hj,by rw [vec_getD hj]; exact hp⟩)
  exists c1
  obtain ⟨v,e,g,ys,rfl,g0,hy,hall⟩:=kk
  exists e
  refine ⟨g,ys,rfl,g0,hy.trans l5,fun j hj=>?_⟩
  have:=hall j (by rw [l5]; exact hj)
  rw [vec_getD hj] at this
  exact this
theorem shifted_ok {x b:Nat->Int} {d:Int} (hm:m<=6) (hd:-(2^400)<=d/\d<=2^400) (hb:∀ j,j<m->-(2^400)<=b j/\b j<=2^400):f_shifted [lI (vec m x),tI (vec m b),.int d]=.ok (tI (vec m fun p=>x p+d*b p)):=by
 have hz:=zipR_2 (lI (vec m x)) (tI (vec m b)) _ _ rfl rfl
 rw [zipW_I2 (by rw [vec_len,vec_len]),vec_len] at hz
 have e:∀ N mg me ρ (h:∀ j,j<m->∃ ρ1,mg (.tup [.int ((vec m x).getD j 0),.int ((vec m b).getD j 0)]) (ρ++List.replicate (N-ρ.length) Sl.un)=some ρ1/\me ρ1=.ok (.int (x j+d*b j))),mComp N mg yes me ((List.range m).map fun j=>W.tup [.int ((vec m x).getD j 0),.int ((vec m b).getD j 0)]) ρ=.ok (lI (vec m fun j=>x j+d*b j)):=fun N mg me ρ h=>by
  rw [mComp_all (fun j=>.int (x j+d*b j)) _ _ ρ (by simpa using (by omega:m<=1000)) (fun k hk=>h k (by simpa using hk)),mapI]
 exists rpB,m_shifted,hz
 rw [e]
 ·exists rp18
 ·intro j hj
  have b1:=bits_of_le hd
  have b2:=bits_of_le (hb j hj)
  have m1:fI CMulB gMul (.int d) (.int (b j))=.ok (.int (d*b j)):=mulB_b (by omega)
  have v1:(vec m x).getD j 0=x j:=vec_getD hj
  have v2:(vec m b).getD j 0=b j:=vec_getD hj
  rw [v1,v2]
  refine ⟨_,rfl,?_⟩
  exists m1
theorem weights_ok {k pl:Nat} (h1:1<=m) (hm:m<=6) (hk:k<=8) (hpl:pl<m) (h0:0<d) (hd:d<=2^399) (ho:∀ j,j<k+m->o j<=0 /\ -(2^399)<=o j) :
  Ok (f_weights_of [lS (rowsL m (k+m) t o),.int (pl:Int),.int d,.int (k:Int)]) fun v=>∃ (g:Int) (ys:List Int),v=tI ys/\0<g/\ys.length=m/\∀ p,p<m ->-o (k+p)+d*(if p=pl then 1 else 0)=g*ys.getD p 0:=by
 have a1:=rows_last m (k+m) t o
 have l1:=vec_len (k+m) o
 have c1:cutI (vec (k+m) o) (some (k:Int)) none=vec m fun q=>o (k+q):=by
  rw [cut_fr (by rw [l1]; omega),vec_drop]
 have e:∀ N mg me ρ (h:∀ q∈List.range m,∃ ρ1,mg (.int (o (k+q))) (ρ++List.replicate (N-ρ.length) Sl.un)=some ρ1/\me ρ1=.ok (.int (- o (k+q)))),mComp N mg yes me ((vec m fun q=>o (k+q)).map W.int) ρ=.ok (lI (vec m fun q =>-o (k+q))):=fun N mg me ρ h=>by
  rw [List.map_map]
  show mComp N mg yes me (List.map (fun q=>W.int (o (k+q))) (List.range m)) ρ=_
  rw [mComp_all (fun q=>W.int (- o (k+q))) _ _ ρ (by simp; omega) h,mapI]
 have l2:=vec_len m fun q =>-o (k+q)
 have ku:=unit_ok (p:=pl) hm
 have ks:=shifted_ok (x:=fun q =>-o (k+q)) (b:=fun q=>if q=pl then 1 else 0) (d:=d) hm ⟨by omega,by omega⟩ (fun j _=>by split <;> decide)
 have l5:=vec_len m fun p =>-o (k+p)+d*if p=pl then 1 else 0
 have kk:=least_ok (.inr rfl) (xs:=vec m fun p =>-o (k+p)+d*if p=pl then 1 else 0) (by rw [l5]; omega) (fun z hz=>by
  obtain ⟨p,hp,rfl⟩:=List.mem_map.mp hz
  have hp:p<m:=by simpa using hp
  have:=ho (k+p) (by omega)
  by_cases e:p=pl
  ·rw [if_pos e]; omega
  ·rw [if_neg e]; omega) ⟨pl,by rw [l5]; exact hpl,by
   rw [vec_getD hpl,if_pos rfl]
   have:=ho (k+pl) (by omega)
   omega⟩
 exists rpB,m_weights_of,a1,c1
 rw [e]
 rotate_left
 ·intro q _
  refine ⟨_,rfl,?_⟩
  exists rp18
 exists l2,ku,ks
 obtain ⟨v,e,g,ys,rfl,g0,hy,hall⟩:=kk
 exists e
 refine ⟨_,rfl,g,ys,rfl,g0,hy.trans l5,fun j hj=>?_⟩
 have:=hall j (by rw [l5]; exact hj)
 rw [vec_getD hj] at this
 exact this
end
theorem sumN_dvd {d:Int} {f:Nat->Int}:∀ {n:Nat},(∀ i,i<n->d∣f i)->d∣sumN n f
 | 0,_=>⟨0,by rw [Int.mul_zero]; rfl⟩
 | n+1,h=>Int.dvd_add (sumN_dvd fun i hi=>h i (Nat.lt_succ_of_lt hi)) (h n (Nat.lt_succ_self n))
section
variable {m n:Nat} {A:Nat->Nat->Int} {c:Nat->Int} {h:Nat->Nat} {t:Nat->Nat->Int} {o:Nat->Int} {d:Int}
theorem Tab.dt (T:Tab m n A c h t o d) {r s i j:Nat} (hr:r<m) (hs:s<n) (hi:i<m) (hj:j<n):d∣t i j*t r s-t i s*t r j:=by
 by_cases e:i=r
 ·subst e
  rw [Int.mul_comm (t i j),Int.sub_self]
  exact ⟨0,by rw [Int.mul_zero]⟩
 ·exact ⟨_,(T.step hr hs hi hj e).symm⟩
theorem Tab.do_ (T:Tab m n A c h t o d) {r s j:Nat} (hr:r<m) (hs:s<n) (hj:j<n):d∣o j*t r s-o s*t r j:=by
 have e:sumN m (fun i=>c (h i)*(t i j*t r s-t i s*t r j))=t r s*sumN m (fun i=>c (h i)*t i j)+(- t r j)*sumN m (fun i=>c (h i)*t i s):=by
  rw [<- sumN_mul,<- sumN_mul,<- sumN_add]
  refine sumN_congr fun i _=>?_
  rw [Int.mul_sub,Int.neg_mul,<- Int.mul_assoc,<- Int.mul_assoc,Int.mul_comm (t r s),Int.mul_comm (t r j)]
  omega
 have e2:o j*t r s-o s*t r j=d*(c j*t r s-c s*t r j)-sumN m (fun i=>c (h i)*(t i j*t r s-t i s*t r j)):=by
  rw [e,T.oo j hj,T.oo s hs,Int.sub_mul,Int.sub_mul,Int.mul_sub,Int.neg_mul,<- Int.mul_assoc,<- Int.mul_assoc,Int.mul_comm (t r s) (sumN m _),Int.mul_comm (t r j) (sumN m _)]
  omega
 rw [e2]
 exact Int.dvd_sub (Int.dvd_mul_right _ _) (sumN_dvd fun i hi=>Int.dvd_trans (T.dt hr hs hi hj) (Int.dvd_mul_left _ _))
theorem Tab.next (T:Tab m n A c h t o d) {r s:Nat} (hr:r<m) (hs:s<n) (hp:0<t r s):Tab m n A c (hup h r s) (pvT t r s d) (pvO t o r s d) (t r s):=
 T.pivot hr hs hp (fun j _=>if_pos rfl) (fun i hi e j hj=>by
  unfold pvT
  rw [if_neg e,Int.mul_ediv_cancel' (T.dt hr hs hi hj)]) (fun j hj=>by
  unfold pvO
  rw [Int.mul_ediv_cancel' (T.do_ hr hs hj)])
end
theorem sumN_ex {n:Nat} {f g:Nat->Int} (hf:∀ j,j<n->0<=f j) (h:0<sumN n fun j=>f j*g j):∃ j,j<n/\0<f j:=Classical.byContradiction fun q=>by
 have:sumN n (fun j=>f j*g j)=0:=sumN_zero fun j hj=>by
  have z:f j=0:=by
   have:=hf j hj
   by_cases e:0<f j
   ·exact absurd ⟨j,hj,e⟩ q
   ·omega
  rw [z,Int.zero_mul]
 omega
structure Wts (ms:List Mv) (m pl:Nat) (w:List Int):Prop where
 len:w.length=m
 nn:∀ p,p<m->0<=w.getD p 0/\w.getD p 0<=2^300
 one:1<=w.getD pl 0
 down:∀ j,j<ms.length->sumN m (fun p=>w.getD p 0*stM ms j p)<=0
structure Bag_ (ms:List Mv) (m pl:Nat) (y:List Int):Prop where
 len:y.length=ms.length
 nn:∀ j,j<ms.length->0<=y.getD j 0/\y.getD j 0<=2^400
 up:∀ p,p<m->(if p=pl then 1 else 0)<=sumN ms.length (fun j=>y.getD j 0*stM ms j p)
inductive Cei (ms:List Mv) (m pl:Nat):W->Prop where
 | w {y:List Int}:Wts ms m pl y->Cei ms m pl (.tup [.str "weights",tI y])
 | b {y:List Int}:Bag_ ms m pl y->Cei ms m pl (.tup [.str "bag",tI y])
theorem part_le {g y x B:Int} (h0:0<g) (h1:0<=x) (h2:x<=B) (e:x=g*y):0<=y/\y<=B:=by
 have y0:0<=y:=by
  by_cases q:0<=y
  ·exact q
  ·have:g*y<0:=Int.mul_neg_of_pos_of_neg h0 (by omega)
   omega
 have:1*y<=g*y:=Int.mul_le_mul_of_nonneg_right (by omega) y0
 omega
theorem sumN_g {n:Nat} {g:Int} {x y z:Nat->Int} (e:∀ j,j<n->x j=g*y j):sumN n (fun j=>x j*z j)=g*sumN n (fun j=>y j*z j):=by
 rw [<- sumN_mul]
 exact sumN_congr fun j hj=>by rw [e j hj,Int.mul_assoc]
theorem mul_le_0 {g y:Int} (h0:0<g) (h:g*y<=0):y<=0:=by
 by_cases q:y<=0
 ·exact q
 ·have:=Int.mul_pos h0 (show 0<y by omega)
  omega
theorem mul_ge_0 {g y:Int} (h0:0<g) (h:0<=g*y):0<=y:=by
 by_cases q:0<=y
 ·exact q
 ·have:=Int.mul_neg_of_pos_of_neg h0 (show y<0 by omega)
  omega
theorem mul_gt_0 {g y:Int} (h0:0<g) (h:0<g*y):0<y:=by
 by_cases q:0<y
 ·exact q
 ·have:=Int.mul_nonneg (Int.le_of_lt h0) (show 0 <=-y by omega)
  rw [Int.mul_neg] at this
  omega
theorem ceiling_ok {ms:List Mv} {m pl:Nat} (h1:1<=m) (h6:m<=6) (hms:∀ x∈ms,okN m x) (h8:ms.length<=8) (hpl:pl<m) (hB:∀ j,j<ms.length->∀ p,p<m->-mM<=stM ms j p/\stM ms j p<=mM):Ok (f_ceiling [tM_ ms,.int (pl:Int),.int (m:Int)]) (Cei ms m pl):=by
 have C:=colsM ms m pl
 have hA:∀ j,j<ms.length+m->∀ p,p<m->-mM<=cA ms j p/\cA ms j p<=mM:=fun j hj p hp=>by
  unfold cA
  by_cases q:j<ms.length
  ·rw [if_pos q]
   have:=hB j q p hp
   omega
  ·rw [if_neg q]
   split <;> decide
 have hc:∀ j,j<ms.length+m->-mM<=cC ms pl j/\cC ms pl j<=mM:=fun j hj=>by
  unfold cC
  by_cases q:j<ms.length
  ·rw [if_pos q]; exact hB j q pl hpl
  ·rw [if_neg q]; decide
 have kf:=first_ok h1 h6 hms h8 hpl
 have S0:∃ S:TB m (ms.length+m) (cA ms) (cC ms pl),S.h=(fun i=>ms.length+i)/\S.t=(fun i j=>cA ms j i)/\S.o=cC ms pl/\S.d=1:=⟨⟨_,_,_,1,C.first⟩,rfl,rfl,rfl,rfl⟩
 obtain ⟨S0,s1,s2,s3,s4⟩:=S0
 have e:∀ N mg me ρ (h:∀ i∈List.range m,∃ ρ1,mg (.int (i:Nat)) (ρ++List.replicate (N-ρ.length) Sl.un)=some ρ1/\me ρ1=.ok (.int ((ms.length:Int)+(i:Int)))),mComp N mg yes me ((List.range m).map fun i=>W.int (i:Nat)) ρ=.ok (lI (vec m fun i=>(S0.h i:Int))):=fun N mg me ρ h=>by
  rw [mComp_all (fun (i:Nat)=>W.int ((ms.length:Int)+(i:Int))) _ _ ρ (by simp; omega) h,mapI,s1]
  congr 2
 have kf:f_first_table [tM_ ms,.int (pl:Int),.int (m:Int)]=.ok (lS (rowsL m (ms.length+m) S0.t S0.o)):=by rw [s2,s3]; exact kf
 have hn:ms.length+m<=100:=by omega
 have kc:∀ S:TB m (ms.length+m) (cA ms) (cC ms pl),∃ w,f_coming [lS (rowsL m (ms.length+m) S.t S.o)]=.ok w/\slotF w=.val w/\Com (ms.length+m) S.o w:=fun S=>by
  obtain ⟨w,ew,hw⟩:=coming_ok (t:=S.t) (o:=S.o) h6 hn
  exact ⟨w,ew,by cases hw <;> rfl,hw⟩
 exists rpB,m_ceiling,kf
 rw [e]
 rotate_left
 ·intro i _
  refine ⟨_,rfl,?_⟩
  exists rp18
 obtain ⟨w,ew,hs,hw⟩:=kc S0
 exists ew,hs
 refine ok_end (po_seq ?_)
 refine po_while (fun M ρ=>∃ (L:Nat) (S:TB m (ms.length+m) (cA ms) (cC ms pl)) (w:W) (z:Sl),ρ = [.par (tM_ ms),.par (.int (pl:Int)),.par (.int (m:Int)),.own ((rowsL m (ms.length+m) S.t S.o).map tI),.own ((vec m fun i=>(S.h i:Int)).map W.int),.val (.int S.d),.val w,z]/\Run S0 L S/\Com (ms.length+m) S.o w/\M=2^(ms.length+m)-L) ?_ _ _ ⟨0,S0,w,.un,by rw [s4],.zero,hw,rfl⟩
 rintro M ρ ⟨L,S,w,z,rfl,hrun,hw,hM⟩
 have T:=S.ok
 have hd:=T.bd h6 hA
 have ht:=T.bt h6 hA
 have ho:=T.bo h6 hA hc
 have hL:=hrun.lt
 cases hw with
 | none hall=>
  refine ⟨false,?_,?_⟩
  ·exists rp18
  rw [if_neg (by decide)]
  have kw:=weights_ok (k:=ms.length) (t:=S.t) (o:=S.o) (d:=S.d) h1 h6 h8 hpl T.dp (Int.le_trans hd (by decide)) fun j hj=>⟨hall j hj,Int.le_trans (by decide) (ho j hj).1⟩
  obtain ⟨v,ev,g,ys,rfl,g0,hy,hall2⟩:=kw
  exists ev
  refine .w ⟨hy,fun p hp=>?_,?_,fun j hj=>?_⟩
  ·refine part_le g0 (x :=-S.o (ms.length+p)+S.d*(if p=pl then 1 else 0)) ?_ ?_ (hall2 p hp)
   ·have:=hall (ms.length+p) (by omega)
    have:=T.dp
    by_cases q:p=pl
    ·rw [if_pos q]; omega
    ·rw [if_neg q]; omega
   ·have:=ho (ms.length+p) (by omega)
    have k1:(2:Int)^240+2^197<=2^300:=by decide
    by_cases q:p=pl
    ·rw [if_pos q]; omega
    ·rw [if_neg q]; omega
  ·have e:=hall2 pl hpl
   rw [if_pos rfl] at e
   have:=hall (ms.length+pl) (by omega)
   have:=T.dp
   exact mul_gt_0 g0 (by omega)
  ·have e:=C.weights T hpl hj
   rw [sumN_g (y:=fun p=>ys.getD p 0) hall2] at e
   exact mul_le_0 g0 (by rw [e]; exact hall j (by omega))
 | @some s hs hos hless=>
  refine ⟨true,?_,?_⟩
  ·exists rp18
  rw [if_pos rfl]
  obtain ⟨v,ev,hv⟩:=leaving_ok (t:=S.t) (o:=S.o) (h:=S.h) h6 hn hs
  cases hv with
  | none hle=>
   have dy:∀ j,dirY m S.h S.t S.d s j<=2^400:=fun j=>by
    have nb:∀ i,i<m->S.h i≠s:=fun i hi e=>by
     have:=T.ozero hi
     rw [e] at this
     omega
    have k1:(2:Int)^197<=2^400:=by decide
    by_cases js:j=s
    ·subst js
     rw [Tab.dirS nb]; omega
    ·by_cases jb:∃ i,i<m/\S.h i=j
     ·obtain ⟨i,hi,e⟩:=jb
      have e2:=T.dirB (s:=s) hi (nb i hi)
      rw [e] at e2
      have:=ht i hi s hs
      omega
     ·rw [Tab.dirN (fun i hi e=>jb ⟨i,hi,e⟩) js]
      decide
   obtain ⟨b1,b2⟩:=C.bag T hs
   have dp:=T.dirP hos hle
   have kb:=bag_ok T h1 h6 h8 hs hos hle dy (sumN_ex (g:=fun j=>stM ms j pl) (fun j _=>dp j) (by rw [b2]; exact hos))
   obtain ⟨v,ev2,g,ys,rfl,g0,hy,hall2⟩:=kb
   exists ev,ev2
   refine .b ⟨hy,fun j hj=>part_le g0 (dp j) (dy j) (hall2 j hj),fun p hp=>?_⟩
   have e1:=b1 p hp
   have e2:=b2
   rw [sumN_g (y:=fun j=>ys.getD j 0) hall2] at e1 e2
   by_cases q:p=pl
   ·subst q
    rw [if_pos rfl]
    exact mul_gt_0 g0 (by rw [e2]; exact hos)
   ·rw [if_neg q]
    exact mul_ge_0 g0 (by rw [e1]; exact dp _)
  | @some r hlv=>
   have T2:=T.next hlv.lt hs hlv.pos
   have kp:=pivoted_ok (t:=S.t) (o:=S.o) (d:=S.d) h6 hn hlv.lt hs (fun i hi j hj=>by
    have:=ht i hi j hj
    have k1:(2:Int)^197<=2^240:=by decide
    omega) ho T.dp (Int.le_trans hd (by decide))
   obtain ⟨S',q1,q2,q3,q4⟩:∃ S':TB m (ms.length+m) (cA ms) (cC ms pl),S'.h=hup S.h r s/\S'.t=pvT S.t r s S.d/\S'.o=pvO S.t S.o r s S.d/\S'.d=S.t r s:=⟨⟨_,_,_,_,T2⟩,rfl,rfl,rfl,rfl⟩
   have kp:f_pivoted [lS (rowsL m (ms.length+m) S.t S.o),.int (r:Int),.int (s:Int),.int S.d]=.ok (lS (rowsL m (ms.length+m) S'.t S'.o)):=by rw [q2,q3]; exact kp
   obtain ⟨w,ew,hsw,hw⟩:=kc S'
   have a1:=rows_i (n:=ms.length+m) (t:=S'.t) (o:=S'.o) hlv.lt
   have a2:=vec_at (f:=S'.t r) hs
   have a3:S'.t r s=S'.d:=by rw [q2,q4]; exact if_pos rfl
   have x2:ixN m (r:Int)=some r:=by
    have:=hlv.lt
    unfold ixN; rw [if_pos (by omega),if_pos (by omega),Int.toNat_natCast]
   have l3:=vec_len m fun i=>(S.h i:Int)
   have d1:(vec m fun i=>(S.h i:Int)).set r (s:Int)=vec m fun i=>(S'.h i:Int):=by
    rw [vec_set,q1]
    refine List.map_congr_left fun i _=>?_
    show (if i=r then (s:Int) else (S.h i:Int))=((hup S.h r s i:Nat):Int)
    unfold hup
    by_cases e:i=r
    ·rw [if_pos e,if_pos e]
    ·rw [if_neg e,if_neg e]
   have mv:Mv_ S S' s (S.h r):=⟨hs,hos,hless,r,hlv.lt,rfl,hlv.pos,hlv.least,q1⟩
   exists ev,kp,l3,x2,a1,a2,a3,ew,hsw,d1
   exact ⟨2^(ms.length+m)-(L+1),by omega,L+1,S',w,_,rfl,.succ hrun mv,hw,rfl⟩
theorem sq_le {k:Int} (h0:0<=k) (h1:k<=1000):0<=k*k/\k*k<=1000000:=⟨Int.mul_nonneg h0 h0,by
 have:=Int.mul_le_mul h1 h1 h0 (by omega:(0:Int)<=1000)
 omega⟩
theorem mulS {i j:Int} (hi:-(2^60)<=i/\i<=2^60) (hj:-(2^410)<=j/\j<=2^410):fI CMulB gMul (.int i) (.int j)=.ok (.int (i*j)):=by
 have b1:=bits_of_le hi
 have b2:=bits_of_le hj
 exact mulB_b (by omega)
theorem s60 {i:Int} (h:-1152921504606846976<=i/\i<=1152921504606846976):-(2^60)<=i/\i<=2^60:=by
 have:(2:Int)^60=1152921504606846976:=by decide
 omega
theorem s410 {i:Int} (h:-1152921504606846976<=i/\i<=1152921504606846976):-(2^410)<=i/\i<=2^410:=by
 have:(1152921504606846976:Int)<=2^410:=by decide
 omega
theorem mulN {i j:Int} (hi:-1152921504606846976<=i/\i<=1152921504606846976) (hj:-1152921504606846976<=j/\j<=1152921504606846976):fI CMulB gMul (.int i) (.int j)=.ok (.int (i*j)):=mulS (s60 hi) (s410 hj)
theorem cell_ok {ns:List Int} {k:Int} (h0:0<=k):Ok (f__law_cell_at [.scr (ns.map W.int),.int k]) fun w=>∃ z:Int,w=.int z:=by
 by_cases h:k<(ns.length:Int)
 ·exists rpB,m__law_cell_at,decide_eq_true h
  exact ⟨_,rfl,_,rfl⟩
 ·exists rpB,m__law_cell_at,decide_eq_false h
  exact ⟨_,rfl,_,rfl⟩
theorem stream_ok {c sa n:Int} (hs0:0<=sa) (hs1:sa<=1000) (hn0:0<=n) (hn1:n<=1000):Ok (f__law_stream [.int c,.int sa,.int n]) fun w=>∃ ns:List Int,w=lI ns/\ns.length=n.toNat/\∀ x∈ns,0<=x/\x<1000000000039:=by
 have sq:=sq_le hs0 hs1
 have m1:=mulN (i:=sa) (j:=sa) (by omega) (by omega)
 have z0:=Int.emod_nonneg c (show (1000000000039:Int)≠0 by decide)
 have z1:=Int.emod_lt_of_pos c (show (0:Int)<1000000000039 by decide)
 have m2:=mulN (i:=c%1000000000039+1) (j:=sa*sa+48271) (by omega) (by omega)
 exists rpB,m__law_stream,m1,m2
 have y0:=Int.emod_nonneg ((c%1000000000039+1)*(sa*sa+48271)) (show (1000000000039:Int)≠0 by decide)
 have y1:=Int.emod_lt_of_pos ((c%1000000000039+1)*(sa*sa+48271)) (show (0:Int)<1000000000039 by decide)
 refine ok_end (po_fors (fun i ρ=>∃ (ns:List Int) (z:Int) (v:Sl),ρ = [.par (.int c),.par (.int sa),.par (.int n),.own (ns.map W.int),.val (.int z),v]/\(0<=z/\z<1000000000039)/\ns.length=i/\∀ x∈ns,0<=x/\x<1000000000039)
  ⟨[],_,_,rfl,⟨y0,y1⟩,rfl,by simp⟩ ?_ ?_)
 ·rintro i w ρ hw ⟨ns,z,v,rfl,hz,hl,hns⟩
  obtain ⟨hi,rfl⟩:=rng_at hw
  have m3:=mulN (i:=z) (j:=z) (by omega) (by omega)
  have m4:=mulN (i:=48271) (j:=z) (by omega) (by omega)
  refine ⟨_,rfl,?_⟩
  exists m3,m4
  have x0:=Int.emod_nonneg (z*z+48271*z+(i:Int)+1) (show (1000000000039:Int)≠0 by decide)
  have x1:=Int.emod_lt_of_pos (z*z+48271*z+(i:Int)+1) (show (0:Int)<1000000000039 by decide)
  refine ⟨ns ++ [_],_,_,rfl,⟨x0,x1⟩,by simp [hl],fun x hx=>?_⟩
  rcases List.mem_append.mp hx with h | h
  ·exact hns x h
  ·have:=List.mem_singleton.mp h; subst this; exact ⟨x0,x1⟩
 ·rintro ρ ⟨ns,z,v,rfl,hz,hl,hns⟩
  exists rp18
  exact ⟨ns,rfl,by simpa using hl,hns⟩
theorem paired_all {α:Type} {q:α->Int->Prop} {P:Int->Prop} (h:∀ a z,q a z->P z):∀ {as:List α} {zs:List Int},Paired q as zs->∀ z∈zs,P z
 | _,_,.nil=>by simp
 | _,_,.cons a r=>fun z hz=>by
  rcases List.mem_cons.mp hz with e | e
  ·subst e; exact h _ _ a
  ·exact paired_all h r z e
def bd (B:Int) (x:Int):Prop:=0<=x/\x<=B
theorem wide {i:Int} (h0:0<=i) (h:i<2):∃ v:Int,L2.atI [W.int 9,W.int 200] i=some (.int v)/\9<=v/\v<=200:=by
 have:i=0\/i=1:=by omega
 rcases this with rfl | rfl
 ·exact ⟨9,rfl,by omega,by omega⟩
 ·exact ⟨200,rfl,by omega,by omega⟩
theorem topv {B i:Int} (hB:4<=B) (h0:0<=i) (h:i<4):∃ v:Int,L2.atI [W.int 4,W.int 4,W.int 4,W.int B] i=some (.int v)/\4<=v/\v<=B:=by
 have:i=0\/i=1\/i=2\/i=3:=by omega
 rcases this with rfl | rfl | rfl | rfl
 ·exact ⟨4,rfl,by omega,by omega⟩
 ·exact ⟨4,rfl,by omega,by omega⟩
 ·exact ⟨4,rfl,by omega,by omega⟩
 ·exact ⟨B,rfl,by omega,by omega⟩
theorem lweights_ok {c:Int} {n:Nat} (h1:1<=n) (h6:n<=6):Ok (f__law_weights [.int c,.int (n:Int)]) fun w=>∃ ws:List Int,w=lI ws/\ws.length=n/\(∀ x∈ws,bd 200 x)/\∃ j,j<n/\ws.getD j 0=1:=by
 obtain ⟨_,e1,xs,rfl,hxl,hxs⟩:=stream_ok (c:=c) (sa:=4) (n:=(n:Int)+2) (by omega) (by omega) (by omega) (by omega)
 have hxl:xs.length=n+2:=by rw [hxl]; omega
 have g0:=memD (P:=fun x=>0<=x/\x<1000000000039) hxs (i:=n) (by omega)
 obtain ⟨v,hv,hv0,hv1⟩:=wide (i:=xs.getD n 0%2) (by omega) (by omega)
 exists rpB,m__law_weights,e1,hv
 refine ok_end (po_sets ?_)
 refine ok_comp (as:=List.range n) (fun _ z=>bd 200 z) (by simp; omega) ?_ ?_
 ·intro k hk
  have hk:k<n:=by simpa using hk
  refine ⟨_,rfl,?_⟩
  exists rp18
  have z0:=Int.emod_nonneg (xs.getD k 0) (show v+1≠0 by omega)
  have z1:=Int.emod_lt_of_pos (xs.getD k 0) (show 0<v+1 by omega)
  exact ⟨_,rfl,_,rfl,by omega,by omega⟩
 intro ws hws
 have hwn:∀ x∈ws,bd 200 x:=paired_all (P:=bd 200) (fun _ _ h=>h) hws
 replace hws:=Paired.length hws
 rw [List.length_range] at hws
 have z0:=Int.emod_nonneg (xs.getD ((n:Int)+1).toNat 0) (show (n:Int)≠0 by omega)
 have z1:=Int.emod_lt_of_pos (xs.getD ((n:Int)+1).toNat 0) (show 0<(n:Int) by omega)
 exists rp18
 refine ⟨_,rfl,by rw [List.length_set]; exact hws.symm,set_all hwn ⟨by omega,by omega⟩,(xs.getD ((n:Int)+1).toNat 0%(n:Int)).toNat,by omega,?_⟩
 rw [List.getD_eq_getElem?_getD,List.getElem?_set_self (by omega)]; rfl
def okB (n:Nat) (m:Mv):Prop:=okN n m/\(∀ x∈m.1,x<=1000000000)/\(∀ x∈m.2,x<=1000000000)
theorem cut_0 {xs:List Int} {n:Nat} (h:n<=xs.length):(cutI xs none (some (n:Int))).length=n:=by
 rw [cut_to h,List.length_take]; omega
theorem free_ok {c t:Int} {n:Nat} (h1:1<=n) (h6:n<=6) (ht0:0<=t) (ht1:t<=100):Ok (f__law_free_move [.int c,.int t,.int (n:Int)]) fun w=>∃ m:Mv,w=mW m/\okB n m:=by
 obtain ⟨_,e1,xs,rfl,hxl,hxs⟩:=stream_ok (c:=c) (sa:=t+5) (n:=2*(n:Int)+1) (by omega) (by omega) (by omega) (by omega)
 have hxl:xs.length=2*n+1:=by rw [hxl]; omega
 have g0:=memD (P:=fun x=>0<=x/\x<1000000000039) hxs (i:=(2*(n:Int)).toNat) (by omega)
 obtain ⟨v,hv,hv0,hv1⟩:=topv (B:=1000000001) (i:=xs.getD (2*(n:Int)).toNat 0%4) (by omega) (by omega) (by omega)
 have c1:cutI xs none (some (2*(n:Int)))=xs.take (2*n):=by
  have:=cut_to (xs:=xs) (n:=2*n) (by omega)
  rw [<- this]; push_cast; rfl
 exists rpB,m__law_free_move,e1,hv,c1
 refine ok_end (po_sets ?_)
 refine ok_comp (fun _ z=>bd 1000000000 z) (by rw [List.length_take]; omega) ?_ ?_
 ·intro x hx
  have z0:=Int.emod_nonneg (x/2) (show v≠0 by omega)
  have z1:=Int.emod_lt_of_pos (x/2) (show 0<v by omega)
  have m1:=mulN (i:=x/2%v) (j:=x%2) (by omega) (by omega)
  refine ⟨_,rfl,?_⟩
  exists m1
  refine ⟨_,rfl,_,rfl,?_⟩
  have:x%2=0\/x%2=1:=by omega
  unfold bd
  rcases this with q | q
  ·rw [q,Int.mul_zero]; omega
  ·rw [q,Int.mul_one]; omega
 intro zs hz
 have hzn:∀ x∈zs,bd 1000000000 x:=paired_all (P:=bd 1000000000) (fun _ _ h=>h) hz
 replace hz:=Paired.length hz
 rw [List.length_take] at hz
 have q1:=cut_to (xs:=zs) (n:=n) (by omega)
 have q2:=cut_fr (xs:=zs) (n:=n) (by omega)
 exists q1,q2
 refine ⟨(zs.take n,zs.drop n),rfl,⟨by rw [List.length_take]; omega,by rw [List.length_drop]; omega,fun x hx=>(hzn x (List.mem_of_mem_take hx)).1,fun x hx=>(hzn x (List.mem_of_mem_drop hx)).1⟩,fun x hx=>?_,fun x hx=>?_⟩
 ·have:=(hzn x (List.mem_of_mem_take hx)).2; omega
 ·have:=(hzn x (List.mem_of_mem_drop hx)).2; omega
theorem pick_bd {x v:Int} {b:Prop} [Decidable b] (hv0:4<=v) (hv1:v<=900001):bd 900000 (x/3%v*(if b then 1 else 0)):=by
 have z0:=Int.emod_nonneg (x/3) (show v≠0 by omega)
 have z1:=Int.emod_lt_of_pos (x/3) (show 0<v by omega)
 unfold bd
 split
 ·rw [Int.mul_one]; omega
 ·rw [Int.mul_zero]; omega
theorem ok_sumf {N':Nat} {mg:W->Rho->Option Rho} {mc:Rho->R Bool} {me:Rho->R W} {α:Type} {as:List α} {s:α->W} {ρ:Rho} {P:W->Prop} (f:α->Int) (c:α->Bool) (hl:as.length<=1000)
  (h:∀ a∈as,∃ ρ1,mg (s a) (ρ++List.replicate (N'-ρ.length) Sl.un)=some ρ1/\mc ρ1=.ok (c a)/\(c a=true->me ρ1=.ok (.int (f a)))) (hp:P (.int ((as.filter c).map f).sum)):Ok (Rcons (mComp N' mg mc me (as.map s) ρ) (.ok [])>>=fInts gSum) P:=
 ok_bindL (okL_1 ⟨_,mComp_filter (fun a=>.int (f a)) s c as ρ hl h,⟨_,by rw [mapI,fInts_m]; rfl,hp⟩⟩)
theorem sum_bd {B:Int}:∀ {zs:List Int},(∀ x∈zs,-B<=x/\x<=B)->-((zs.length:Int)*B)<=zs.sum/\zs.sum<=(zs.length:Int)*B
 | [],_=>by simp
 | z::zs,h=>by
  have h1:=h z (by simp)
  have h2:=sum_bd fun x hx=>h x (List.mem_cons_of_mem _ hx)
  have e:((z::zs).length:Int)*B=(zs.length:Int)*B+B:=by rw [List.length_cons,Int.natCast_succ,Int.add_mul,Int.one_mul]
  rw [List.sum_cons,e]
  omega
theorem cut_a {xs:List Int} {a b:Nat} (h:a<=b) (hb:b<=xs.length):(cutI xs (some (a:Int)) (some (b:Int))).length=b-a:=by
 unfold cutI
 rw [HT.sIx_nat,HT.sIx_nat,List.length_take,List.length_drop]
 omega
theorem getB {zs:List Int} {B:Int} (hB:0<=B) (h:∀ x∈zs,bd B x) (k:Nat):bd B (zs.getD k 0):=by
 by_cases hk:k<zs.length
 ·exact memD h hk
 ·rw [List.getD_eq_getElem?_getD]; simp [hk]; unfold bd; omega
theorem bd_le {a b:Int} {x:Int} (h:bd a x) (hab:a<=b):bd b x:=by unfold bd at *; omega
theorem kept_ok {c t kd:Int} {n:Nat} {ws:List Int} (h1:1<=n) (h6:n<=6) (ht0:0<=t) (ht1:t<=100) (hwl:ws.length=n) (hwn:∀ x∈ws,bd 200 x) (hw1:∃ j,j<n/\ws.getD j 0=1):Ok (f__law_kept_move [.int c,.int t,lI ws,.int kd]) fun w=>∃ m:Mv,w=mW m/\okB n m:=by
 obtain ⟨_,e1,xs,rfl,hxl,hxs⟩:=stream_ok (c:=c) (sa:=t+5) (n:=2*(n:Int)+4) (by omega) (by omega) (by omega) (by omega)
 have hxl:xs.length=2*n+4:=by rw [hxl]; omega
 obtain ⟨v,hv,hv0,hv1⟩:=topv (B:=900001) (i:=xs.getD (2*(n:Int)).toNat 0%4) (by omega) (by omega) (by omega)
 have l1:=cut_0 (xs:=xs) (n:=n) (by omega)
 have l2:(cutI xs (some (n:Int)) (some (2*(n:Int)))).length=n:=by
  have:=cut_a (xs:=xs) (a:=n) (b:=2*n) (by omega) (by omega)
  rw [show ((2*n:Nat):Int)=2*(n:Int) by push_cast; rfl] at this
  omega
 obtain ⟨hd,rest,hf⟩:∃ hd rest,(List.range n).filter (fun k=>decide (ws.getD k 0=1))=hd::rest:=by
  obtain ⟨j,hj,e⟩:=hw1
  cases q:(List.range n).filter (fun k=>decide (ws.getD k 0=1)) with
  | nil=>
   have:j∈(List.range n).filter (fun k=>decide (ws.getD k 0=1)):=List.mem_filter.mpr ⟨List.mem_range.mpr hj,decide_eq_true e⟩
   rw [q] at this
   cases this
  | cons a l=>exact ⟨a,l,rfl⟩
 have hdn:hd<n:=by
  have:hd∈(List.range n).filter (fun k=>decide (ws.getD k 0=1)):=by rw [hf]; exact List.mem_cons_self
  exact List.mem_range.mp (List.mem_filter.mp this).1
 have e2:∀ N mg mc me ρ (q:∀ i∈List.range n,∃ ρ1,mg (.int (i:Nat)) (ρ++List.replicate (N-ρ.length) Sl.un)=some ρ1/\mc ρ1=.ok (decide (ws.getD i 0=1))/\me ρ1=.ok (.int (i:Nat))),mComp N mg mc me ((List.range n).map fun i=>W.int (i:Nat)) ρ=.ok (.lst (.int (hd:Int)::rest.map fun i=>W.int (i:Nat))):=fun N mg mc me ρ q=>by
  rw [mComp_filter (fun i=>W.int (i:Nat)) _ (fun i=>decide (ws.getD i 0=1)) _ ρ (by simp; omega) fun i hi=>by
   obtain ⟨ρ1,a1,a2,a3⟩:=q i hi
   exact ⟨ρ1,a1,a2,fun _=>a3⟩,hf]
  rfl
 have a0:L2.atI (.int (hd:Int)::rest.map fun i=>W.int (i:Nat)) 0=some (.int (hd:Int)):=atW_of (k:=0) rfl
 subst hwl
 exists rpB,m__law_kept_move
 rw [e2]
 rotate_left
 ·intro k hk
  have hk:k<ws.length:=by simpa using hk
  refine ⟨_,rfl,?_,?_⟩
  ·exists rp18
  ·exists rp18
 exists a0,e1,hv
 have hm:∀ (x:Int) (b:Prop) [Decidable b],fI CMulB gMul (.int (x/3%v)) (.int (if b then 1 else 0))=.ok (.int (x/3%v*if b then 1 else 0)):=fun x b _=>by
  have z0:=Int.emod_nonneg (x/3) (show v≠0 by omega)
  have z1:=Int.emod_lt_of_pos (x/3) (show 0<v by omega)
  exact mulN (by omega) (by split <;> decide)
 refine ok_end (po_sets ?_)
 refine ok_comp (fun _ z=>bd 900000 z) (by omega) ?_ ?_
 ·intro x hx
  refine ⟨_,rfl,?_⟩
  exists hm
  exact ⟨_,rfl,_,rfl,pick_bd hv0 hv1⟩
 intro ta hta
 have htn:∀ x∈ta,bd 900000 x:=paired_all (P:=bd 900000) (fun _ _ h=>h) hta
 replace hta:=Paired.length hta
 exists rp18
 refine po_sets ?_
 refine ok_comp (fun _ z=>bd 900000 z) (by omega) ?_ ?_
 ·intro x hx
  refine ⟨_,rfl,?_⟩
  exists hm
  exact ⟨_,rfl,_,rfl,pick_bd hv0 hv1⟩
 intro pu hpu
 have hpn:∀ x∈pu,bd 900000 x:=paired_all (P:=bd 900000) (fun _ _ h=>h) hpu
 replace hpu:=Paired.length hpu
 exists rp18
 refine po_sets ?_
 refine ok_sumf (fun k=>ws.getD k 0*(pu.getD k 0-ta.getD k 0)) (fun k=>!decide ((k:Int)=(hd:Int))) (by rw [List.length_range]; omega) ?_ ?_
 ·intro k hk
  have hk:k<ws.length:=by simpa using hk
  have r0:=getB (by omega) hwn k
  have r1:=getB (by omega) htn k
  have r2:=getB (by omega) hpn k
  unfold bd at r0 r1 r2
  have m1:=mulN (i:=ws.getD k 0) (j:=pu.getD k 0-ta.getD k 0) (by omega) (by omega)
  refine ⟨_,rfl,?_,fun _=>?_⟩
  ·exists fEq_ii
  ·exists m1
 have hD:-900000000<=(((List.range ws.length).filter (fun k:Nat=>!decide ((k:Int)=(hd:Int)))).map (fun k:Nat=>ws.getD k 0*(pu.getD k 0-ta.getD k 0))).sum/\(((List.range ws.length).filter (fun k:Nat=>!decide ((k:Int)=(hd:Int)))).map (fun k:Nat=>ws.getD k 0*(pu.getD k 0-ta.getD k 0))).sum<=900000000:=by
  have hs:=sum_bd (B:=200*900000) (zs:=((List.range ws.length).filter (fun k:Nat=>!decide ((k:Int)=(hd:Int)))).map (fun k:Nat=>ws.getD k 0*(pu.getD k 0-ta.getD k 0))) fun x hx=>by
   obtain ⟨k,_,rfl⟩:=List.mem_map.mp hx
   have r0:=getB (by omega) hwn k
   have r1:=getB (by omega) htn k
   have r2:=getB (by omega) hpn k
   unfold bd at r0 r1 r2
   exact abs_mul (a:=ws.getD k 0) (A:=200) ⟨by omega,r0.2⟩ ⟨by omega,by omega⟩
  have hl:(((List.range ws.length).filter (fun k:Nat=>!decide ((k:Int)=(hd:Int)))).map (fun k:Nat=>ws.getD k 0*(pu.getD k 0-ta.getD k 0))).length<=5:=by
   rw [List.length_map]
   have:=List.length_filter_lt_length_iff_exists (p:=fun k:Nat=>!decide ((k:Int)=(hd:Int))) (l:=List.range ws.length) |>.mpr ⟨hd,List.mem_range.mpr hdn,by simp⟩
   rw [List.length_range] at this; omega
  generalize (((List.range ws.length).filter (fun k:Nat=>!decide ((k:Int)=(hd:Int)))).map (fun k:Nat=>ws.getD k 0*(pu.getD k 0-ta.getD k 0))).length=z at *
  omega
 generalize (((List.range ws.length).filter (fun k:Nat=>!decide ((k:Int)=(hd:Int)))).map (fun k:Nat=>ws.getD k 0*(pu.getD k 0-ta.getD k 0))).sum=D at *
 exists rp18
 have z0:=Int.emod_nonneg (xs.getD (2*(ws.length:Int)+1).toNat 0) (show (ws.length:Int)≠0 by omega)
 have z1:=Int.emod_lt_of_pos (xs.getD (2*(ws.length:Int)+1).toNat 0) (show 0<(ws.length:Int) by omega)
 generalize xs.getD (2*(ws.length:Int)+1).toNat 0%(ws.length:Int)=at_ at *
 obtain ⟨ta2,et,hta2,htn2⟩:∃ ta2,ta.set hd (max 0 D)=ta2/\ta2.length=ws.length/\∀ x∈ta2,bd 900000000 x:=⟨_,rfl,by rw [List.length_set]; omega,set_all (fun x hx=>bd_le (htn x hx) (by omega)) (by unfold bd; omega)⟩
 obtain ⟨pu2,ep,hpu2,hpn2⟩:∃ pu2,pu.set hd (max 0 (0-D))=pu2/\pu2.length=ws.length/\∀ x∈pu2,bd 900000000 x:=⟨_,rfl,by rw [List.length_set]; omega,set_all (fun x hx=>bd_le (hpn x hx) (by omega)) (by unfold bd; omega)⟩
 rw [et,ep]
 clear et ep hta hpu htn hpn
 have r1:=getB (by omega) htn2 at_.toNat
 have r2:=getB (by omega) hpn2 at_.toNat
 unfold bd at r1 r2
 refine po_cut (fun ρ=>∃ (ta:List Int),ρ = [.par (.int c),.par (.int t),.par (lI ws),.par (.int kd),.val (.int ws.length),.val (.int hd),.own (xs.map W.int),.val (.int v),.own (ta.map W.int),.own (pu2.map W.int),.val (.int D),.val (.int at_)]/\ta.length=ws.length/\(∀ x∈ta,bd 1000000000 x)) ?_ ?_
 ·refine po_if (fun h=>?_) (fun h=>?_)
  ·exists rp18
   refine ⟨_,rfl,by rw [List.length_set]; exact hta2,set_all (fun x hx=>bd_le (htn2 x hx) (by omega)) ?_⟩
   unfold bd
   omega
  ·exists rp18
   exact ⟨ta2,rfl,hta2,fun x hx=>bd_le (htn2 x hx) (by omega)⟩
 rintro ρ ⟨ta,rfl,hta,htn⟩
 exists rp18
 refine po_cut (fun ρ=>∃ (pu:List Int),ρ = [.par (.int c),.par (.int t),.par (lI ws),.par (.int kd),.val (.int ws.length),.val (.int hd),.own (xs.map W.int),.val (.int v),.own (ta.map W.int),.own (pu.map W.int),.val (.int D),.val (.int at_)]/\pu.length=ws.length/\(∀ x∈pu,bd 1000000000 x)) ?_ ?_
 ·refine po_if (fun h=>?_) (fun h=>?_)
  ·exists rp18
   refine ⟨_,rfl,by rw [List.length_set]; exact hpu2,set_all (fun x hx=>bd_le (hpn2 x hx) (by omega)) ?_⟩
   unfold bd
   omega
  ·exists rp18
   exact ⟨pu2,rfl,hpu2,fun x hx=>bd_le (hpn2 x hx) (by omega)⟩
 rintro ρ ⟨pu,rfl,hpu,hpn⟩
 exists rp18
 exact ⟨(ta,pu),rfl,⟨hta,hpu,fun x hx=>(htn x hx).1,fun x hx=>(hpn x hx).1⟩,fun x hx=>(htn x hx).2,fun x hx=>(hpn x hx).2⟩
theorem lmoves_ok {ns:List Int} {n:Nat} (h1:1<=n) (h6:n<=6):Ok (f__law_moves [.scr (ns.map W.int),.int (n:Int)]) fun w=>∃ ms:List Mv,w=tM_ ms/\ms.length<=8/\∀ m∈ms,okB n m:=by
 obtain ⟨_,e1,first,rfl⟩:=cell_ok (ns:=ns) (k:=0) (by omega)
 obtain ⟨_,e2,c1,rfl⟩:=cell_ok (ns:=ns) (k:=1) (by omega)
 obtain ⟨_,e3,ws,rfl,hwl,hwn,hw1⟩:=lweights_ok (c:=c1) h1 h6
 exists rpB,m__law_moves,e1,e2,e3
 refine ok_end (po_fors (fun i ρ=>∃ (ms:List Mv) (a b:Sl),ρ = [.par (.scr (ns.map W.int)),.par (.int (n:Int)),.val (.int first),.val (.int (first/54%3)),.own (ws.map W.int),.own (ms.map mW),a,b]/\ms.length=i/\∀ m∈ms,okB n m) ⟨[],_,_,rfl,rfl,fun m hm=>absurd hm List.not_mem_nil⟩ ?_ ?_)
 ·rintro i w ρ hw ⟨ms,a,b,rfl,hl,hms⟩
  obtain ⟨hi,rfl⟩:=rng_at hw
  obtain ⟨_,e4,c2,rfl⟩:=cell_ok (ns:=ns) (k:=2+(i:Int)) (by omega)
  obtain ⟨_,e5,m1,rfl,hm1⟩:=free_ok (c:=c2) (t:=(i:Int)) h1 h6 (by omega) (by omega)
  obtain ⟨_,e6,m2,rfl,hm2⟩:=kept_ok (c:=c2) (t:=(i:Int)) (kd:=first/54%3) h1 h6 (by omega) (by omega) hwl hwn hw1
  refine ⟨_,rfl,?_⟩
  exists e4
  refine po_if (fun h=>?_) (fun h=>?_)
  ·exists e5
   refine ⟨ms ++ [m1],_,_,by rw [List.map_append]; rfl,by rw [List.length_append,hl]; rfl,fun m hm=>?_⟩
   rcases List.mem_append.mp hm with q | q
   ·exact hms m q
   ·rw [List.mem_singleton.mp q]; exact hm1
  ·exists e6
   refine ⟨ms ++ [m2],_,_,by rw [List.map_append]; rfl,by rw [List.length_append,hl]; rfl,fun m hm=>?_⟩
   rcases List.mem_append.mp hm with q | q
   ·exact hms m q
   ·rw [List.mem_singleton.mp q]; exact hm2
 ·rintro ρ ⟨ms,a,b,rfl,hl,hms⟩
  exists rp18
  refine ⟨ms,rfl,?_,hms⟩
  rw [hl,List.length_map,List.length_range]
  omega
theorem stM_bd {n:Nat} {ms:List Mv} (h:∀ m∈ms,okB n m) {j p:Nat} (hj:j<ms.length) (hp:p<n):-mM<=stM ms j p/\stM ms j p<=mM:=by
 have hm:=h _ (List.getElem_mem hj)
 have e:ms.getD j ([],[])=ms[j]:=by rw [List.getD_eq_getElem?_getD,List.getElem?_eq_getElem hj]; rfl
 unfold stM
 rw [e]
 have a1:=nn_at hm.1.2.2.1 p
 have a2:=nn_at hm.1.2.2.2 p
 have b1:=memD hm.2.1 (i:=p) (by rw [hm.1.1]; exact hp)
 have b2:=memD hm.2.2 (i:=p) (by rw [hm.1.2.1]; exact hp)
 show -(2000000000:Int)<=_/\_<=(2000000000:Int)
 omega
theorem sumN_list (f:Nat->Int):∀ n:Nat,((List.range n).map f).sum=sumN n f
 | 0=>rfl
 | n+1=>by
  rw [List.range_succ,List.map_append,List.sum_append,sumN_list f n]
  show _+(f n+0)=sumN n f+f n
  omega
theorem okB.C {n:Nat} {m:Mv} (h:okB n m):okC n m:=⟨h.1.1,h.1.2.1,fun x hx=>⟨h.1.2.2.1 x hx,h.2.1 x hx⟩,fun x hx=>⟨h.1.2.2.2 x hx,h.2.2 x hx⟩⟩
theorem shiftT_ok {m:Nat} {x y:Nat->Int} (hm:m<=6):f_shifted [tI (vec m x),tI (vec m y),.int 1]=.ok (tI (vec m fun p=>x p+1*y p)):=by
 have hz:=zipR_2 (tI (vec m x)) (tI (vec m y)) _ _ rfl rfl
 rw [zipW_I2 (by rw [vec_len,vec_len]),vec_len] at hz
 have e:∀ N mg me ρ (h:∀ j,j<m->∃ ρ1,mg (.tup [.int ((vec m x).getD j 0),.int ((vec m y).getD j 0)]) (ρ++List.replicate (N-ρ.length) Sl.un)=some ρ1/\me ρ1=.ok (.int (x j+1*y j))),mComp N mg yes me ((List.range m).map fun j=>W.tup [.int ((vec m x).getD j 0),.int ((vec m y).getD j 0)]) ρ=.ok (lI (vec m fun j=>x j+1*y j)):=fun N mg me ρ h=>by
  rw [mComp_all (fun j=>.int (x j+1*y j)) _ _ ρ (by simpa using (by omega:m<=1000)) (fun k hk=>h k (by simpa using hk)),mapI]
 exists rpB,m_shifted,hz
 rw [e]
 ·exists rp18
 ·intro j hj
  have v1:(vec m x).getD j 0=x j:=vec_getD hj
  have v2:(vec m y).getD j 0=y j:=vec_getD hj
  rw [v1,v2]
  refine ⟨_,rfl,?_⟩
  exists rp18
structure WtA (ms:List Mv) (m:Nat) (y:List Int):Prop where
 len:y.length=m
 pos:∀ p,p<m->1<=y.getD p 0/\y.getD p 0<=2^400
 down:∀ j,j<ms.length->sumN m (fun p=>y.getD p 0*stM ms j p)<=0
inductive Lev (ms:List Mv) (m:Nat) (wc:Nat->W):W->Prop where
 | b {p:Nat} {y:List Int}:p<m->wc p=.tup [.str "bag",tI y]->(∀ q,q<p->∃ z,wc q=.tup [.str "weights",tI z])->Lev ms m wc (.tup [.str "bag",.int (p:Int),tI y])
 | w {y:List Int}:(∀ q,q<m->∃ z,wc q=.tup [.str "weights",tI z])->WtA ms m y->Lev ms m wc (.tup [.str "weights",tI y])
theorem fRepT_0 {m:Nat} (h1:1<=m) (h6:m<=6):fRepT (.tup [.int 0]) (.int (m:Int))=.ok (tI (vec m fun _=>0)):=by
 show (if _ then _ else _)=_
 rw [if_pos ⟨by simp,by simp; omega,by omega,by omega⟩,Int.toNat_natCast]
 have:(List.replicate m [W.int 0]).flatten=(vec m fun _=>0).map W.int:=by
  clear h1 h6
  induction m with
  | zero=>rfl
  | succ m ih=>
   rw [List.replicate_succ,List.flatten_cons,ih]
   unfold vec
   rw [List.range_succ_eq_map,List.map_cons,List.map_cons,List.map_map,List.map_map,List.map_map]; rfl
 rw [this]
theorem level_ok {ms:List Mv} {m:Nat} (h1:1<=m) (h6:m<=6) {wc:Nat->W} (hc:∀ p,p<m->f_ceiling [tM_ ms,.int (p:Int),.int (m:Int)]=.ok (wc p)/\Cei ms m p (wc p)):Ok (f_level [tM_ ms,.int (m:Int)]) (Lev ms m wc):=by
 have fr:=fRepT_0 h1 h6
 have s1:fEqS false (W.str "weights") (W.str "bag")=.ok (.bl false):=rfl
 have s2:fEqS false (W.str "bag") (W.str "bag")=.ok (.bl true):=rfl
 exists rpB,m_level,fr
 refine ok_end (po_fors (fun i ρ=>∃ (x:Nat->Int) (a b:Sl),ρ = [.par (tM_ ms),.par (.int (m:Int)),.val (tI (vec m x)),a,b]/\i<=m/\(∀ p,p<m->0<=x p/\x p<=(i:Int)*2^300)/\(∀ p,p<i->1<=x p)/\(∀ j,j<ms.length->sumN m (fun p=>x p*stM ms j p)<=0)/\∀ q,q<i->∃ z,wc q=.tup [.str "weights",tI z]) ⟨_,_,_,rfl,by omega,fun p _=>⟨Int.le_refl _,by simp⟩,fun p hp=>absurd hp (Nat.not_lt_zero _),fun j _=>sumN_nonpos fun p _=>(by rw [Int.zero_mul]; exact Int.le_refl _),fun q hq=>absurd hq (Nat.not_lt_zero _)⟩ ?_ ?_)
 ·rintro i u ρ hu ⟨x,a,b,rfl,him,hx,hx1,hx2,hx3⟩
  obtain ⟨hi,rfl⟩:=rng_at hu
  obtain ⟨e1,hw⟩:=hc i hi
  generalize hwi:wc i=w at e1 hw
  cases hw with
  | @w y hy=>
   have a0:L2.atI [W.str "weights",tI y] 0=some (.str "weights"):=rfl
   have a1:L2.atI [W.str "weights",tI y] 1=some (tI y):=rfl
   have ey:y=vec m fun p=>y.getD p 0:=by
    have:=as_rng y
    rw [hy.len] at this
    exact this.symm
   have k1:=shiftT_ok (x:=x) (y:=fun p=>y.getD p 0) h6
   rw [<- ey] at k1
   refine ⟨_,rfl,?_⟩
   exists e1,a0,a1,s1,k1
   refine ⟨fun p=>x p+1*y.getD p 0,_,_,rfl,by omega,fun p hp=>?_,fun p hp=>?_,fun j hj=>?_,fun q hq=>?_⟩
   ·have q1:=hx p hp
    have q2:=hy.nn p hp
    have:((i+1:Nat):Int)*2^300=(i:Int)*2^300+2^300:=by rw [Int.natCast_succ,Int.add_mul,Int.one_mul]
    show 0<=x p+1*y.getD p 0/\x p+1*y.getD p 0<=_
    omega
   ·have q1:=hx p (by omega)
    have q2:=hy.nn p (by omega)
    show 1<=x p+1*y.getD p 0
    by_cases e:p=i
    ·subst e
     have:=hy.one
     omega
    ·have:=hx1 p (by omega)
     omega
   ·have q1:=hx2 j hj
    have q2:=hy.down j hj
    have e:sumN m (fun p=>(x p+1*y.getD p 0)*stM ms j p)=sumN m (fun p=>x p*stM ms j p)+sumN m fun p=>y.getD p 0*stM ms j p:=by
     rw [<- sumN_add]
     exact sumN_congr fun p _=>by rw [Int.one_mul,Int.add_mul]
    show sumN m (fun p=>(x p+1*y.getD p 0)*stM ms j p)<=0
    omega
   ·by_cases e:q=i
    ·subst e; exact ⟨y,hwi⟩
    ·exact hx3 q (by omega)
  | @b y hy=>
   have a0:L2.atI [W.str "bag",tI y] 0=some (.str "bag"):=rfl
   have a1:L2.atI [W.str "bag",tI y] 1=some (tI y):=rfl
   refine ⟨_,rfl,?_⟩
   exists e1,a0,a1,s2
   exact .b hi hwi hx3
 ·rintro ρ ⟨x,a,b,rfl,him,hx,hx1,hx2,hx3⟩
  rw [List.length_map,List.length_range] at hx hx1 hx3
  have l5:=vec_len m x
  obtain ⟨v,e,g,ys,rfl,hg,hyl,hye⟩:=least_ok (.inr rfl) (xs:=vec m x) (by rw [l5]; omega) (fun z hz=>by
   obtain ⟨p,hp,rfl⟩:=List.mem_map.mp hz
   have q:=hx p (by simpa using hp)
   refine ⟨q.1,Int.le_trans q.2 (Int.le_trans (Int.mul_le_mul_of_nonneg_right (show (m:Int)<=6 by omega) (by decide)) (by decide))⟩) ⟨0,by rw [l5]; omega,by
    rw [vec_getD (by omega)]
    have:=hx1 0 (by omega)
    omega⟩
  have hye:∀ p,p<m->x p=g*ys.getD p 0:=fun p hp=>by
   have:=hye p (by rw [l5]; exact hp)
   rwa [vec_getD hp] at this
  exists e
  refine .w hx3 ⟨by rw [hyl,l5],fun p hp=>?_,fun j hj=>mul_le_0 hg ?_⟩
  ·have q:=hx p hp
   have q2:x p<=2^400:=Int.le_trans q.2 (Int.le_trans (Int.mul_le_mul_of_nonneg_right (show (m:Int)<=6 by omega) (by decide)) (by decide))
   have:=part_le hg q.1 q2 (hye p hp)
   have:=mul_gt_0 hg (show 0<g*ys.getD p 0 by rw [<- hye p hp]; exact hx1 p hp)
   omega
  ·rw [<- sumN_g hye]
   exact hx2 j hj
def srcL (g t p:List Int):List Int:=(List.range g.length).map fun k=>max (t.getD k 0) (g.getD k 0-p.getD k 0+t.getD k 0)
theorem source_ok {g t p:List Int} (ht:t.length=g.length) (hp:p.length=g.length) (hg:g.length<=6):f_source [tI g,.tup [tI t,tI p]]=.ok (tI (srcL g t p)):=by
 have a0:L2.atI [tI t,tI p] 0=some (tI t):=rfl
 have a1:L2.atI [tI t,tI p] 1=some (tI p):=rfl
 have hz:=zipR_3 (tI g) (tI t) (tI p) _ _ _ rfl rfl rfl
 rw [zipW_I3 ht hp] at hz
 exists rpB,m_source,a0,a1,hz
 have e:∀ N mg me ρ (h:∀ k,k<g.length->∃ ρ1,mg (.tup [.int (g.getD k 0),.int (t.getD k 0),.int (p.getD k 0)]) (ρ++List.replicate (N-ρ.length) Sl.un)=some ρ1/\me ρ1=.ok (.int (max (t.getD k 0) (g.getD k 0-p.getD k 0+t.getD k 0)))),mComp N mg yes me ((List.range g.length).map fun k=>.tup [.int (g.getD k 0),.int (t.getD k 0),.int (p.getD k 0)]) ρ=.ok (lI (srcL g t p)):=fun N mg me ρ h=>by
  rw [mComp_all (fun k=>.int (max (t.getD k 0) (g.getD k 0-p.getD k 0+t.getD k 0))) _ _ ρ (by simpa using (by omega:g.length<=1000)) (fun k hk=>h k (by simpa using hk)),mapI]
  rfl
 rw [e]
 ·exists rp18
 ·intro k hk
  refine ⟨_,rfl,?_⟩
  exists rp18
theorem fRepT_1 {z:W} {k:Int} (h:1<=k/\k<=1000):fRepT (.tup [z]) (.int k)=.ok (.tup (List.replicate k.toNat [z]).flatten):=by
 show (if _ then _ else _)=_
 rw [if_pos ⟨List.cons_ne_nil _ _,by simp; omega,h.1,h.2⟩]
def tp (ms:List Mv) (k:Nat) (r:Int):Int×Int:=((ms.getD r.toNat ([],[])).1.getD k 0,(ms.getD r.toNat ([],[])).2.getD k 0)
def col (ms:List Mv) (k:Nat) (rs:List Int):List (Int×Int):=rs.map (tp ms k)
def hur1:List (Int×Int)->Int
 | []=>0
 | a::r=>max a.1 (hur1 r-a.2+a.1)
def sum1:List (Int×Int)->Int
 | []=>0
 | a::r=>a.2-a.1+sum1 r
theorem sum1_app:∀ (a b:List (Int×Int)),sum1 (a++b)=sum1 a+sum1 b
 | [],b=>by simp [sum1]
 | x::a,b=>by simp only [List.cons_append,sum1,sum1_app a b]; omega
def hurL (n:Nat) (ms:List Mv) (rs:List Int):List Int:=(List.range n).map fun k=>hur1 (col ms k rs)
def sumL (n:Nat) (ms:List Mv) (rs:List Int):List Int:=(List.range n).map fun k=>sum1 (col ms k rs)
theorem hurL_len (n:Nat) (ms:List Mv) (rs:List Int):(hurL n ms rs).length=n:=by simp [hurL]
theorem sumL_len (n:Nat) (ms:List Mv) (rs:List Int):(sumL n ms rs).length=n:=by simp [sumL]
theorem zeros (n:Nat) (f:Nat->Int) (h:∀ k,f k=0):List.replicate n (0:Int)=(List.range n).map f:=by
 apply List.ext_getElem
 ·simp
 ·intro i h1 h2; simp [h]
theorem noughts_ok {b:List Int} {w:W} (h1:1<=b.length) (h6:b.length<=6):f_noughts [.tup [tI b,w]]=.ok (tI (List.replicate b.length 0)):=by
 have a0:L2.atI [tI b,w] 0=some (tI b):=rfl
 exists rpB,m_noughts,a0,fRepT_1
abbrev okR (ms:List Mv) (rs:List Int):Prop:=∀ r∈rs,0<=r/\r<(ms.length:Int)
theorem hurdle_ok {b:List Int} {ms:List Mv} {rs:List Int} (h1:1<=b.length) (h6:b.length<=6) (hm:∀ m∈ms,okN b.length m) (hr:okR ms rs):f_hurdle [.tup [tI b,tM_ ms],lI rs]=.ok (tI (hurL b.length ms rs)):=by
 have fin:Ok (f_hurdle [.tup [tI b,tM_ ms],lI rs]) fun v=>v=tI (hurL b.length ms rs):=by
  have k0:=noughts_ok (b:=b) (w:=tM_ ms) h1 h6
  have a1:L2.atI [tI b,tM_ ms] 1=some (tM_ ms):=rfl
  exists rpB,m_hurdle,k0
  rw [<- List.map_reverse]
  refine ok_end (po_fors (fun i ρ=>∃ (a:Sl),ρ = [.par (.tup [tI b,tM_ ms]),.par (lI rs),.val (tI (hurL b.length ms (rs.reverse.take i).reverse)),a]) ⟨.un,by rw [zeros b.length (fun k=>hur1 (col ms k [])) (fun _=>rfl)]; rfl⟩ ?_ ?_)
  ·rintro i w ρ hw ⟨a,rfl⟩
   obtain ⟨hi,rfl⟩:=map_at hw
   have hri:0<=rs.reverse.getD i 0/\rs.reverse.getD i 0<(ms.length:Int):=memD (P:=fun r=>0<=r/\r<(ms.length:Int)) (fun r h=>hr r (List.mem_reverse.mp h)) hi
   have e1:=atM hri.1 hri.2
   have hk:=getM hm (show (rs.reverse.getD i 0).toNat<ms.length by omega)
   have e2:=source_ok (g:=hurL b.length ms (rs.reverse.take i).reverse) (t:=(ms.getD (rs.reverse.getD i 0).toNat ([],[])).1) (p:=(ms.getD (rs.reverse.getD i 0).toNat ([],[])).2) (by rw [hurL_len,hk.1]) (by rw [hurL_len,hk.2.1]) (by rw [hurL_len]; exact h6)
   refine ⟨_,rfl,?_⟩
   exists a1,e1,e2
   refine ⟨.par (.int (rs.reverse.getD i 0)),?_⟩
   have:srcL (hurL b.length ms (rs.reverse.take i).reverse) (ms.getD (rs.reverse.getD i 0).toNat ([],[])).1 (ms.getD (rs.reverse.getD i 0).toNat ([],[])).2=hurL b.length ms (rs.reverse.take (i+1)).reverse:=by
    have q:(rs.reverse.take (i+1)).reverse=rs.reverse.getD i 0::(rs.reverse.take i).reverse:=by
     rw [List.take_succ,List.reverse_append,List.getD_eq_getElem?_getD]
     simp only [List.getElem?_eq_getElem hi]; rfl
    rw [q]
    unfold srcL
    rw [hurL_len]
    refine List.map_congr_left fun k hk=>?_
    rw [show (hurL b.length ms (rs.reverse.take i).reverse).getD k 0=_ from vec_getD (by simpa using hk)]
    rfl
   rw [this]
  ·rintro ρ ⟨a,rfl⟩
   rw [List.length_map,List.take_length,List.reverse_reverse]
   exists rp18
 obtain ⟨v,e,rfl⟩:=fin
 exact e
theorem shw_ok {g d:List Int} {z:Int} (hl:d.length=g.length) (h6:g.length<=1000) (hz:-1000000<=z/\z<=1000000):f_shifted [tI g,tI d,.int z]=.ok (tI ((List.range g.length).map fun k=>g.getD k 0+z*d.getD k 0)):=by
 have hzz:=zipR_2 (tI g) (tI d) _ _ rfl rfl
 rw [zipW_I2 hl] at hzz
 exists rpB,m_shifted,hzz
 have e:∀ N mg me ρ (h:∀ k,k<g.length->∃ ρ1,mg (.tup [.int (g.getD k 0),.int (d.getD k 0)]) (ρ++List.replicate (N-ρ.length) Sl.un)=some ρ1/\me ρ1=.ok (.int (g.getD k 0+z*d.getD k 0))),mComp N mg yes me ((List.range g.length).map fun k=>W.tup [.int (g.getD k 0),.int (d.getD k 0)]) ρ=.ok (lI ((List.range g.length).map fun k=>g.getD k 0+z*d.getD k 0)):=fun N mg me ρ h=>by
  rw [mComp_all (fun k=>.int (g.getD k 0+z*d.getD k 0)) _ _ ρ (by simpa using h6) (fun k hk=>h k (by simpa using hk)),mapI]
 rw [e]
 ·exists rp18
 ·intro k hk
  refine ⟨_,rfl,?_⟩
  exists rp18
theorem col_succ {ms:List Mv} {k i:Nat} {rs:List Int} (h:i<rs.length):col ms k (rs.take (i+1))=col ms k (rs.take i) ++ [tp ms k (rs.getD i 0)]:=by
 unfold col
 rw [List.take_succ,List.map_append,List.getD_eq_getElem?_getD]
 simp only [List.getElem?_eq_getElem h]; rfl
theorem sum_ok {b:List Int} {ms:List Mv} {rs:List Int} (h1:1<=b.length) (h6:b.length<=6) (hm:∀ m∈ms,okN b.length m) (hr:okR ms rs):f_sum_of [.tup [tI b,tM_ ms],lI rs]=.ok (tI (sumL b.length ms rs)):=by
 have fin:Ok (f_sum_of [.tup [tI b,tM_ ms],lI rs]) fun v=>v=tI (sumL b.length ms rs):=by
  have k0:=noughts_ok (b:=b) (w:=tM_ ms) h1 h6
  have a1:L2.atI [tI b,tM_ ms] 1=some (tM_ ms):=rfl
  exists rpB,m_sum_of,k0
  refine ok_end (po_fors (fun i ρ=>∃ (a:Sl),ρ = [.par (.tup [tI b,tM_ ms]),.par (lI rs),.val (tI (sumL b.length ms (rs.take i))),a]) ⟨.un,by rw [zeros b.length (fun k=>sum1 (col ms k [])) (fun _=>rfl)]; rfl⟩ ?_ ?_)
  ·rintro i w ρ hw ⟨a,rfl⟩
   obtain ⟨hi,rfl⟩:=map_at hw
   have hri:0<=rs.getD i 0/\rs.getD i 0<(ms.length:Int):=memD (P:=fun r=>0<=r/\r<(ms.length:Int)) hr hi
   have e1:=atM hri.1 hri.2
   have hk:=getM hm (show (rs.getD i 0).toNat<ms.length by omega)
   have e2:=change_ok h6 hk
   have e3:=shw_ok (g:=sumL b.length ms (rs.take i)) (d:=(List.range b.length).map fun k=>(ms.getD (rs.getD i 0).toNat ([],[])).2.getD k 0-(ms.getD (rs.getD i 0).toNat ([],[])).1.getD k 0) (z:=1) (by simp [sumL]) (by rw [sumL_len]; omega) (by omega)
   refine ⟨_,rfl,?_⟩
   exists a1,e1,e2,e3
   refine ⟨.par (.int (rs.getD i 0)),?_⟩
   rw [sumL_len]
   have:((List.range b.length).map fun k=>(sumL b.length ms (rs.take i)).getD k 0+1*((List.range b.length).map fun k=>(ms.getD (rs.getD i 0).toNat ([],[])).2.getD k 0-(ms.getD (rs.getD i 0).toNat ([],[])).1.getD k 0).getD k 0)=sumL b.length ms (rs.take (i+1)):=by
    refine List.map_congr_left fun k hk=>?_
    have hk:k<b.length:=by simpa using hk
    rw [vec_getD hk,show (sumL b.length ms (rs.take i)).getD k 0=_ from vec_getD hk,col_succ hi,sum1_app,Int.one_mul]
    simp only [sum1,tp]; omega
   rw [this]
  ·rintro ρ ⟨a,rfl⟩
   rw [List.length_map,List.take_length]
   exists rp18
 obtain ⟨v,e,rfl⟩:=fin
 exact e
theorem weigh_ok {m:Nat} {y d:List Int} (h6:m<=6) (hy:y.length=m) (hd:d.length=m) (hm:∀ p,p<m->fI CMulB gMul (.int (y.getD p 0)) (.int (d.getD p 0))=.ok (.int (y.getD p 0*d.getD p 0))):f_weigh [tI y,tI d]=.ok (.int (sumN m fun p=>y.getD p 0*d.getD p 0)):=by
 have hz:=zipR_2 (tI y) (tI d) _ _ rfl rfl
 rw [zipW_I2 (by rw [hy,hd]),hy] at hz
 have e:∀ N mg me ρ (h:∀ j∈List.range m,∃ ρ1,mg (.tup [.int (y.getD j 0),.int (d.getD j 0)]) (ρ++List.replicate (N-ρ.length) Sl.un)=some ρ1/\me ρ1=.ok (.int (y.getD j 0*d.getD j 0))),mComp N mg yes me ((List.range m).map fun j=>W.tup [.int (y.getD j 0),.int (d.getD j 0)]) ρ=.ok (lI (vec m fun j=>y.getD j 0*d.getD j 0)):=fun N mg me ρ h=>by
  rw [mComp_all (fun j=>.int (y.getD j 0*d.getD j 0)) _ _ ρ (by simp; omega) h,mapI]
 have gs:gSum (vec m fun j=>y.getD j 0*d.getD j 0)=sumN m fun p=>y.getD p 0*d.getD p 0:=sumN_list _ _
 exists rpB,m_weigh,hz
 rw [e]
 ·exists gs
 ·intro j hj
  have m1:=hm j (by simpa using hj)
  refine ⟨_,rfl,?_⟩
  exists m1
theorem all_t {α:Type} (s:α->W) {y:List α} (hl:y.length<=1000):∀ N mg me ρ (_:∀ x∈y,∃ ρ1,mg (s x) (ρ++List.replicate (N-ρ.length) Sl.un)=some ρ1/\me ρ1=.ok (.bl true)),mComp N mg yes me (y.map s) ρ=.ok (.lst ((y.map fun _=>true).map W.bl)):=fun N mg me ρ h=>by
 rw [mComp_all (fun _=>W.bl true) _ _ ρ hl h,List.map_map]; rfl
theorem gAll_t {α:Type} (y:List α):gAll (y.map fun _=>true)=true:=by
 unfold gAll
 rw [List.all_map,List.all_eq_true]
 exact fun _ _=>rfl
theorem falling_ok {ms:List Mv} {m:Nat} {y:List Int} (h6:m<=6) (h8:ms.length<=8) (hms:∀ z∈ms,okB m z) (hy:WtA ms m y):f_is_falling [tM_ ms,tI y]=.ok (.bl true):=by
 have hyl:=hy.len
 have k1:f_weighed_changes [tM_ ms,tI y]=.ok (lI (vec ms.length fun j=>sumN m fun p=>y.getD p 0*stM ms j p)):=by
  have e:∀ N mg me ρ (h:∀ j∈List.range ms.length,∃ ρ1,mg (mW (ms.getD j ([],[]))) (ρ++List.replicate (N-ρ.length) Sl.un)=some ρ1/\me ρ1=.ok (.int (sumN m fun p=>y.getD p 0*stM ms j p))),mComp N mg yes me (ms.map mW) ρ=.ok (lI (vec ms.length fun j=>sumN m fun p=>y.getD p 0*stM ms j p)):=fun N mg me ρ h=>by
   have:ms.map mW=(List.range ms.length).map fun j=>mW (ms.getD j ([],[])):=by
    refine List.ext_getElem (by simp) fun j h1 h2=>?_
    have hj:j<ms.length:=by simpa using h1
    simp [List.getD_eq_getElem?_getD,List.getElem?_eq_getElem hj]
   rw [this,mComp_all (fun j=>.int (sumN m fun p=>y.getD p 0*stM ms j p)) _ _ ρ (by simp; omega) h,mapI]
  exists rpB,m_weighed_changes
  rw [e]
  ·exists rp18
  ·intro j hj
   have hj:j<ms.length:=by simpa using hj
   have hk:=getM (fun m hm=>(hms m hm).1) hj
   have k2:=change_ok h6 hk
   have k3:=weigh_ok (y:=y) (d:=(List.range m).map fun k=>(ms.getD j ([],[])).2.getD k 0-(ms.getD j ([],[])).1.getD k 0) h6 hyl (by simp) fun p hp=>by
    have q:=stM_bd hms hj hp
    change -(2000000000:Int)<=_/\_<=(2000000000:Int) at q
    rw [vec_getD hp]
    unfold stM at q
    exact mulB_R (by omega)
   have:(sumN m fun p=>y.getD p 0*((List.range m).map fun k=>(ms.getD j ([],[])).2.getD k 0-(ms.getD j ([],[])).1.getD k 0).getD p 0)=sumN m fun p=>y.getD p 0*stM ms j p:=sumN_congr fun p hp=>by
    rw [vec_getD hp]; rfl
   rw [this] at k3
   refine ⟨_,rfl,?_⟩
   exists k2,k3
 exists rpB,m_is_falling,k1
 rw [all_t W.int (by omega)]
 rotate_left
 ·intro x hx
  obtain ⟨p,hp,rfl⟩:=List.getElem_of_mem hx
  have hq:=(hy.pos p (by omega)).1
  rw [List.getD_eq_getElem?_getD,List.getElem?_eq_getElem hp] at hq
  change 1<=y[p] at hq
  have d1:decide (0<=y[p])=true:=decide_eq_true (by omega)
  refine ⟨_,rfl,?_⟩
  exists d1
 exists gAll_t
 rw [all_t W.int (by rw [vec_len]; omega)]
 rotate_left
 ·intro x hx
  obtain ⟨j,hj,rfl⟩:=List.mem_map.mp hx
  have d1:decide (sumN m (fun p=>y.getD p 0*stM ms j p)<=0)=true:=decide_eq_true (hy.down j (by simpa using hj))
  refine ⟨_,rfl,?_⟩
  exists d1
 exists gAll_t
theorem lnumbers_ok {y:List Int} {k:Nat} {lo:Int} (hl:y.length=k) (h0:∀ x∈y,lo<=x):Ok (f__law_numbers [tI y,.int (k:Int),.int lo]) fun v=>v=.bl true:=by
 subst hl
 exists rpB,m__law_numbers
 refine ok_end (po_fors (fun i ρ=>∃ a,ρ = [.par (tI y),.par (.int (y.length:Int)),.par (.int lo),a]) ⟨_,rfl⟩ ?_ ?_)
 ·rintro i u ρ hu ⟨a,rfl⟩
  obtain ⟨hi,rfl⟩:=int_at hu
  have d1:decide (y.getD i 0<lo)=false:=decide_eq_false (by have:=memD h0 hi; omega)
  refine ⟨_,rfl,?_⟩
  exists d1
  exact ⟨_,rfl⟩
 ·rintro ρ ⟨a,rfl⟩
  exists rp18
theorem shiftZ_ok {m:Nat} {x y:Nat->Int} {z:Int} (hm:m<=6) (hy:∀ p,p<m->-2000000000<=y p/\y p<=2000000000):f_shifted [tI (vec m x),tI (vec m y),.int z]=.ok (tI (vec m fun p=>x p+z*y p)):=by
 have hz:=zipR_2 (tI (vec m x)) (tI (vec m y)) _ _ rfl rfl
 rw [zipW_I2 (by rw [vec_len,vec_len]),vec_len] at hz
 have e:∀ N mg me ρ (h:∀ j,j<m->∃ ρ1,mg (.tup [.int ((vec m x).getD j 0),.int ((vec m y).getD j 0)]) (ρ++List.replicate (N-ρ.length) Sl.un)=some ρ1/\me ρ1=.ok (.int (x j+z*y j))),mComp N mg yes me ((List.range m).map fun j=>W.tup [.int ((vec m x).getD j 0),.int ((vec m y).getD j 0)]) ρ=.ok (lI (vec m fun j=>x j+z*y j)):=fun N mg me ρ h=>by
  rw [mComp_all (fun j=>.int (x j+z*y j)) _ _ ρ (by simpa using (by omega:m<=1000)) (fun k hk=>h k (by simpa using hk)),mapI]
 exists rpB,m_shifted,hz
 rw [e]
 ·exists rp18
 ·intro j hj
  have v1:(vec m x).getD j 0=x j:=vec_getD hj
  have v2:(vec m y).getD j 0=y j:=vec_getD hj
  have q:=hy j hj
  have m1:=mulB_R (i:=z) (j:=y j) (by omega)
  rw [v1,v2]
  refine ⟨_,rfl,?_⟩
  exists m1
section
variable {b:List Int} {ms:List Mv} {i:Nat} (h1:1<=b.length) (h6:b.length<=6) (hms:∀ z∈ms,okB b.length z) (hi:i<ms.length)
include h1 h6 hms hi
theorem hur_one:f_hurdle [.tup [tI b,tM_ ms],lI [(i:Int)]]=.ok (tI (vec b.length fun p=>(ms.getD i ([],[])).1.getD p 0)):=by
 rw [hurdle_ok h1 h6 (fun m hm=>(hms m hm).1) fun r hr=>by rw [List.mem_singleton.mp hr]; omega]
 have:hurL b.length ms [(i:Int)]=vec b.length fun p=>(ms.getD i ([],[])).1.getD p 0:=by
  refine List.map_congr_left fun p hp=>?_
  have:=nn_at (getM (fun m hm=>(hms m hm).1) hi).2.2.2 p
  show max ((ms.getD (i:Int).toNat ([],[])).1.getD p 0) (0-(ms.getD (i:Int).toNat ([],[])).2.getD p 0+(ms.getD (i:Int).toNat ([],[])).1.getD p 0)=_
  rw [Int.toNat_natCast]
  omega
 rw [this]
theorem sum_one:f_sum_of [.tup [tI b,tM_ ms],lI [(i:Int)]]=.ok (tI (vec b.length (stM ms i))):=by
 rw [sum_ok h1 h6 (fun m hm=>(hms m hm).1) fun r hr=>by rw [List.mem_singleton.mp hr]; omega]
 have:sumL b.length ms [(i:Int)]=vec b.length (stM ms i):=by
  refine List.map_congr_left fun p hp=>?_
  show (ms.getD (i:Int).toNat ([],[])).2.getD p 0-(ms.getD (i:Int).toNat ([],[])).1.getD p 0+0=_
  rw [Int.toNat_natCast]
  unfold stM
  omega
 rw [this]
theorem goes_one {x:Nat->Int} {z:Int} (hz:0<=z) (hx:∀ p,p<b.length->z*(ms.getD i ([],[])).1.getD p 0<=x p):f_goes [.tup [tI b,tM_ ms],tI (vec b.length x),lI [(i:Int)],.int z]=.ok (.bl true):=by
 have k1:=hur_one h1 h6 hms hi
 have k2:=sum_one h1 h6 hms hi
 have k3:=shiftZ_ok (x:=x) (y:=stM ms i) (z:=z-1) h6 fun p hp=>stM_bd hms hi hp
 have hk:=getM (fun m hm=>(hms m hm).1) hi
 have l1:=vec_len b.length x
 have l2:=vec_len b.length fun p=>x p+(z-1)*stM ms i p
 have l3:=vec_len b.length fun p=>(ms.getD i ([],[])).1.getD p 0
 have k4:=covers_ok (a:=vec b.length x) (b:=vec b.length fun p=>(ms.getD i ([],[])).1.getD p 0) (by rw [l1,l3])
 have k5:=covers_ok (a:=vec b.length fun p=>x p+(z-1)*stM ms i p) (b:=vec b.length fun p=>(ms.getD i ([],[])).1.getD p 0) (by rw [l2,l3])
 have fin:Ok (f_goes [.tup [tI b,tM_ ms],tI (vec b.length x),lI [(i:Int)],.int z]) fun v=>v=.bl true:=by
  exists rpB,m_goes
  refine ok_end (po_ifs (fun h=>?_) (fun h=>?_))
  ·exists rp18
  ·have hz1:1<=z:=by
    have:z≠0:=of_decide_eq_false h
    omega
   rw [cov_t fun p hp=>by
    rw [l1] at hp
    rw [vec_getD hp,vec_getD hp]
    have q:=hx p hp
    have t0:=nn_at hk.2.2.1 p
    have:=Int.mul_le_mul_of_nonneg_right hz1 t0
    omega] at k4
   rw [cov_t fun p hp=>by
    rw [l2] at hp
    rw [vec_getD hp,vec_getD hp]
    have q:=hx p hp
    have p0:=nn_at hk.2.2.2 p
    have e:(z-1)*stM ms i p=(z-1)*(ms.getD i ([],[])).2.getD p 0-(z*(ms.getD i ([],[])).1.getD p 0-(ms.getD i ([],[])).1.getD p 0):=by
     unfold stM
     rw [Int.mul_sub,Int.sub_mul (c:=(ms.getD i ([],[])).1.getD p 0),Int.one_mul]
    have:=Int.mul_nonneg (show 0<=z-1 by omega) p0
    rw [e]
    omega] at k5
   exists k1,k2,k3,k4,k5
 obtain ⟨v,e,rfl⟩:=fin
 exact e
end
theorem sumN_nn {f:Nat->Int}:∀ {n:Nat},(∀ k,k<n->0<=f k)->0<=sumN n f
 | 0,_=>Int.le_refl 0
 | n+1,h=>Int.add_nonneg (sumN_nn fun k hk=>h k (Nat.lt_succ_of_lt hk)) (h n (Nat.lt_succ_self n))
theorem sumN_up {f:Nat->Int} {i:Nat}:∀ {n:Nat},i<=n->(∀ k,k<n->0<=f k)->sumN i f<=sumN n f
 | 0,h,_=>by rw [Nat.le_zero.mp h]; exact Int.le_refl _
 | n+1,h,hn=>by
  by_cases e:i=n+1
  ·subst e; exact Int.le_refl _
  ·have h1:=sumN_up (f:=f) (i:=i) (n:=n) (by omega) fun k hk=>hn k (Nat.lt_succ_of_lt hk)
   have h2:=hn n (Nat.lt_succ_self n)
   show sumN i f<=sumN n f+f n
   omega
abbrev blW (y:List Int) (k:Nat):W:=.tup [lI [(k:Int)],.int (y.getD k 0)]
theorem stride_ok {b y:List Int} {ms:List Mv} {x:Nat->Int} (h1:1<=b.length) (h6:b.length<=6) (h8:ms.length<=8) (hms:∀ z∈ms,okB b.length z) (hy:∀ k,k<ms.length->0<=y.getD k 0) (hx:∀ p,p<b.length->sumN ms.length (fun k=>y.getD k 0*(ms.getD k ([],[])).1.getD p 0)<=x p):f_stride [.tup [tI b,tM_ ms],tI (vec b.length x),.lst ((List.range ms.length).map (blW y))]=.ok (tI (vec b.length fun p=>x p+sumN ms.length fun k=>y.getD k 0*stM ms k p)):=by
 have hm:=fun m hm=>(hms m hm).1
 have fin:Ok (f_stride [.tup [tI b,tM_ ms],tI (vec b.length x),.lst ((List.range ms.length).map (blW y))]) fun v=>v=tI (vec b.length fun p=>x p+sumN ms.length fun k=>y.getD k 0*stM ms k p):=by
  have he:enuW [.lst ((List.range ms.length).map (blW y))]=.ok (((List.range ms.length).map (blW y)).mapIdx fun i x=>W.tup [.int (i:Int),x]):=rfl
  exists rpB,m_stride,he,chk_no (noL_tI (vec b.length x))
  refine ok_end (po_fors (fun i ρ=>∃ (a4 a5 a6 a7:Sl),ρ = [.par (.tup [tI b,tM_ ms]),.par (tI (vec b.length x)),.par (.lst ((List.range ms.length).map (blW y))),.val (tI (vec b.length fun p=>x p+sumN i fun k=>y.getD k 0*stM ms k p)),a4,a5,a6,a7]) ⟨_,_,_,_,by
   have:(vec b.length fun p=>x p+sumN 0 fun k=>y.getD k 0*stM ms k p)=vec b.length x:=List.map_congr_left fun p _=>Int.add_zero _
   rw [this]⟩ ?_ ?_)
  ·rintro i u ρ hu ⟨a4,a5,a6,a7,rfl⟩
   rw [List.getElem?_mapIdx,List.getElem?_map] at hu
   have hi:i<ms.length:=by
    rcases Nat.lt_or_ge i ms.length with q | q
    ·exact q
    ·rw [List.getElem?_eq_none (by simpa using q)] at hu; cases hu
   rw [List.getElem?_range hi] at hu
   cases hu
   have a0:L2.atI [lI [(i:Int)],.int (y.getD i 0)] 0=some (lI [(i:Int)]):=rfl
   have a1:L2.atI [lI [(i:Int)],.int (y.getD i 0)] 1=some (.int (y.getD i 0)):=rfl
   have k1:=goes_one (i:=i) (x:=fun p=>x p+sumN i fun k=>y.getD k 0*stM ms k p) h1 h6 hms hi (hy i hi) fun p hp=>by
    have e:sumN i (fun k=>y.getD k 0*stM ms k p)+sumN i (fun k=>y.getD k 0*(ms.getD k ([],[])).1.getD p 0)=sumN i fun k=>y.getD k 0*(ms.getD k ([],[])).2.getD p 0:=by
     rw [<- sumN_add]
     refine sumN_congr fun k _=>?_
     unfold stM
     rw [Int.mul_sub]; omega
    have q1:0<=sumN i fun k=>y.getD k 0*(ms.getD k ([],[])).2.getD p 0:=sumN_nn fun k hk=>Int.mul_nonneg (hy k (by omega)) (nn_at (getM hm (show k<ms.length by omega)).2.2.2 p)
    have q2:=sumN_up (f:=fun k=>y.getD k 0*(ms.getD k ([],[])).1.getD p 0) (i:=i+1) (n:=ms.length) (by omega) fun k hk=>Int.mul_nonneg (hy k hk) (nn_at (getM hm hk).2.2.1 p)
    have q3:=hx p hp
    change sumN i (fun k=>y.getD k 0*(ms.getD k ([],[])).1.getD p 0)+y.getD i 0*(ms.getD i ([],[])).1.getD p 0<=_ at q2
    show _<=x p+sumN i fun k=>y.getD k 0*stM ms k p
    omega
   have k2:=sum_one (i:=i) h1 h6 hms hi
   have k3:=shiftZ_ok (x:=fun p=>x p+sumN i fun k=>y.getD k 0*stM ms k p) (y:=stM ms i) (z:=y.getD i 0) h6 fun p hp=>stM_bd hms hi hp
   have e3:(vec b.length fun p=>(x p+sumN i fun k=>y.getD k 0*stM ms k p)+y.getD i 0*stM ms i p)=vec b.length fun p=>x p+sumN (i+1) fun k=>y.getD k 0*stM ms k p:=List.map_congr_left fun p _=>by
    show _=x p+(sumN i (fun k=>y.getD k 0*stM ms k p)+y.getD i 0*stM ms i p)
    omega
   rw [e3] at k3
   refine ⟨_,rfl,?_⟩
   exists a0,a1,k1,k2,k3
   exact ⟨_,_,_,_,rfl⟩
  ·rintro ρ ⟨a4,a5,a6,a7,rfl⟩
   rw [List.length_mapIdx,List.length_map,List.length_range]
   exists rp18
 obtain ⟨v,e,rfl⟩:=fin
 exact e
theorem baggoes_ok {b y:List Int} {ms:List Mv} {pl:Nat} (h1:1<=b.length) (h6:b.length<=6) (h8:ms.length<=8) (hms:∀ z∈ms,okB b.length z) (hpl:pl<b.length) (hy:Bag_ ms b.length pl y):Ok (f__law_bag_goes [.tup [tI b,tM_ ms],.int (pl:Int),tI y]) fun v=>v=.bl true:=by
 have hyl:=hy.len
 have hyn:=fun k hk=>(hy.nn k hk).1
 have m0:L2.atI [tI b,tM_ ms] 0=some (tI b):=rfl
 have m1:L2.atI [tI b,tM_ ms] 1=some (tM_ ms):=rfl
 have et:∀ N mg me ρ (h:∀ m∈ms,∃ ρ1,mg (mW m) (ρ++List.replicate (N-ρ.length) Sl.un)=some ρ1/\me ρ1=.ok (tI m.1)),mComp N mg yes me (ms.map mW) ρ=.ok (lS (ms.map fun m=>m.1)):=fun N mg me ρ h=>by
  rw [mComp_all (fun m=>tI m.1) _ _ ρ (by omega) h]
  show _=R.ok (W.lst ((ms.map fun m=>m.1).map tI))
  rw [List.map_map]; rfl
 exists rpB,m__law_bag_goes,m0,m1
 rw [et]
 rotate_left
 ·intro m hm
  have a0:L2.atI [tI m.1,tI m.2] 0=some (tI m.1):=rfl
  refine ⟨_,rfl,?_⟩
  exists a0,chk_no (noL_tI m.1)
 exists rp18
 have hm:=fun m hm=>(hms m hm).1
 obtain ⟨S,hS⟩:∃ S:Nat->Int,∀ p,S p=sumN ms.length fun k=>y.getD k 0*(ms.getD k ([],[])).1.getD p 0:=⟨_,fun _=>rfl⟩
 obtain ⟨D,hD⟩:∃ D:Nat->Int,∀ p,D p=sumN ms.length fun k=>y.getD k 0*stM ms k p:=⟨_,fun _=>rfl⟩
 have es:∀ N mg me ρ (h:∀ p∈List.range b.length,∃ ρ1,mg (.int (p:Nat)) (ρ++List.replicate (N-ρ.length) Sl.un)=some ρ1/\me ρ1=.ok (.int (S p))),mComp N mg yes me ((List.range b.length).map fun p=>W.int (p:Nat)) ρ=.ok (lI (vec b.length S)):=fun N mg me ρ h=>by
  rw [mComp_all (fun p=>W.int (S p)) _ _ ρ (by simp; omega) h,mapI]
 have ei:∀ (f:Nat->Int) N mg me ρ (h:∀ k∈List.range ms.length,∃ ρ1,mg (.int (k:Nat)) (ρ++List.replicate (N-ρ.length) Sl.un)=some ρ1/\me ρ1=.ok (.int (f k))),mComp N mg yes me ((List.range ms.length).map fun k=>W.int (k:Nat)) ρ=.ok (lI (vec ms.length f)):=fun f N mg me ρ h=>by
  rw [mComp_all (fun k=>W.int (f k)) _ _ ρ (by simp; omega) h,mapI]
 have eb:∀ N mg me ρ (h:∀ k∈List.range ms.length,∃ ρ1,mg (.int (k:Nat)) (ρ++List.replicate (N-ρ.length) Sl.un)=some ρ1/\me ρ1=.ok (blW y k)),mComp N mg yes me ((List.range ms.length).map fun k=>W.int (k:Nat)) ρ=.ok (.lst ((List.range ms.length).map (blW y))):=fun N mg me ρ h=>mComp_all (blW y) _ _ ρ (by simp; omega) h
 rw [es]
 rotate_left
 ·intro p hp
  have hp:p<b.length:=by simpa using hp
  refine ⟨_,rfl,?_⟩
  exists hyl
  rw [ei fun k=>y.getD k 0*(ms.getD k ([],[])).1.getD p 0]
  rotate_left
  ·intro k hk
   have hk:k<ms.length:=by simpa using hk
   have l1:=(getM hm hk).1
   have hb:=hms (ms.getD k ([],[])) (by rw [List.getD_eq_getElem?_getD,List.getElem?_eq_getElem hk]; exact List.getElem_mem _)
   have q0:=nn_at hb.1.2.2.1 p
   have q1:=memD hb.2.1 (i:=p) (by omega)
   have g1:(ms.map fun m=>m.1).getD k []=(ms.getD k ([],[])).1:=by
    rw [List.getD_eq_getElem?_getD,List.getElem?_map,List.getD_eq_getElem?_getD,List.getElem?_eq_getElem hk]; rfl
   have mm:=mulB_R (i:=y.getD k 0) (j:=(ms.getD k ([],[])).1.getD p 0) (by omega)
   refine ⟨_,rfl,?_⟩
   exists g1,mm
  exists rp18
  rw [hS]
  show R.ok (W.int (((List.range ms.length).map fun k=>y.getD k 0*(ms.getD k ([],[])).1.getD p 0).sum))=_
  rw [sumN_list]
 exists hyl
 rw [eb]
 rotate_left
 ·intro k hk
  have hk:k<ms.length:=by simpa using hk
  refine ⟨_,rfl,?_⟩
  exists rp18
  rfl
 have k1:=stride_ok (x:=S) h1 h6 h8 hms hyn fun p _=>by rw [hS]; exact Int.le_refl _
 have up:∀ p,p<b.length->(if p=pl then 1 else 0)<=D p:=fun p hp=>by rw [hD]; exact hy.up p hp
 have e1:(vec b.length fun p=>S p+sumN ms.length fun k=>y.getD k 0*stM ms k p)=vec b.length fun p=>S p+D p:=List.map_congr_left fun p _=>by rw [hD]
 rw [e1] at k1
 have k2:=stride_ok (x:=fun p=>S p+D p) h1 h6 h8 hms hyn fun p hp=>by
  rw [<- hS]
  have:=up p hp
  show S p<=S p+D p
  split at this <;> omega
 have e2:(vec b.length fun p=>(S p+D p)+sumN ms.length fun k=>y.getD k 0*stM ms k p)=vec b.length fun p=>S p+D p+D p:=List.map_congr_left fun p _=>by rw [hD]
 rw [e2] at k2
 exists k1,k2
 refine ok_end (po_fors (fun i ρ=>∃ a9,ρ = [.par (.tup [tI b,tM_ ms]),.par (.int (pl:Int)),.par (tI y),.val (.int (b.length:Int)),.own (((ms.map fun m=>m.1)).map tI),.val (tI (vec b.length S)),.own ((List.range ms.length).map (blW y)),.val (tI (vec b.length fun p=>S p+D p)),.val (tI (vec b.length fun p=>S p+D p+D p)),a9]) ⟨_,rfl⟩ ?_ ?_)
 ·rintro p u ρ hu ⟨a9,rfl⟩
  obtain ⟨hp,rfl⟩:=rng_at hu
  have v0:(vec b.length S).getD p 0=S p:=vec_getD hp
  have v1:(vec b.length fun p=>S p+D p).getD p 0=S p+D p:=vec_getD hp
  have v2:(vec b.length fun p=>S p+D p+D p).getD p 0=S p+D p+D p:=vec_getD hp
  have l0:=vec_len b.length S
  have l1:=vec_len b.length fun p=>S p+D p
  have l2:=vec_len b.length fun p=>S p+D p+D p
  have mm:=mulB_L (i:=2) (j:=S p+D p) (by omega)
  have q:=up p hp
  have d1:decide (S p+D p<S p+if (p:Int)=(pl:Int) then 1 else 0)=false:=decide_eq_false (by
   by_cases e:p=pl
   ·rw [if_pos e] at q
    rw [if_pos (by rw [e])]; omega
   ·rw [if_neg e] at q
    rw [if_neg (by omega)]; omega)
  have d2:decide (S p+D p+D p=2*(S p+D p)-S p)=true:=decide_eq_true (by omega)
  refine ⟨_,rfl,?_⟩
  exists v0,v1,v2,mm,fEq_ii,d1,d2
  exact ⟨_,rfl⟩
 ·rintro ρ ⟨a9,rfl⟩
  exists rp18
theorem beh_at {s:List Int} {m:Mv} {p:Nat} (h:p<s.length):(behS s m).getD p 0=s.getD p 0+(m.2.getD p 0-m.1.getD p 0):=by
 unfold behS
 rw [List.getD_eq_getElem?_getD,List.getElem?_map,List.getElem?_range h]; rfl
theorem cov_of {a c:List Int} (h:covB a c=true) {p:Nat} (hp:p<a.length):c.getD p 0<=a.getD p 0:=by
 unfold covB at h
 exact of_decide_eq_true (List.all_eq_true.mp h p (by simpa using hp))
theorem sumN_ge {f:Nat->Int} {r n:Nat} (hr:r<n) (h:∀ k,k<n->0<=f k):f r<=sumN n f:=by
 have:=sumN_up (f:=f) (i:=r+1) (n:=n) (by omega) h
 have h2:=sumN_nn (f:=f) (n:=r) fun k hk=>h k (by omega)
 change sumN r f+f r<=_ at this
 omega
structure Dn (b y s:List Int):Prop where
 len:s.length=b.length
 nn:nn s
 le:sumN b.length (fun p=>y.getD p 0*s.getD p 0)<=sumN b.length fun p=>y.getD p 0*b.getD p 0
theorem Dn.go {b y s:List Int} {ms:List Mv} (hms:∀ z∈ms,okB b.length z) (hd:∀ j,j<ms.length->sumN b.length (fun p=>y.getD p 0*stM ms j p)<=0) (h:Dn b y s) {m:Mv} (hm:m∈ms) (hc:covB s m.1=true):Dn b y (behS s m)/\sumN b.length (fun p=>y.getD p 0*(behS s m).getD p 0)<=sumN b.length fun p=>y.getD p 0*s.getD p 0:=by
 have key:sumN b.length (fun p=>y.getD p 0*(behS s m).getD p 0)<=sumN b.length fun p=>y.getD p 0*s.getD p 0:=by
  obtain ⟨j,hj,rfl⟩:=List.getElem_of_mem hm
  have e:sumN b.length (fun p=>y.getD p 0*(behS s ms[j]).getD p 0)=sumN b.length (fun p=>y.getD p 0*s.getD p 0)+sumN b.length fun p=>y.getD p 0*stM ms j p:=by
   rw [<- sumN_add]
   refine sumN_congr fun p hp=>?_
   rw [beh_at (by rw [h.len]; exact hp),Int.mul_add]
   unfold stM
   rw [List.getD_eq_getElem?_getD (l:=ms),List.getElem?_eq_getElem hj]; rfl
  have:=hd j hj
  omega
 refine ⟨⟨by rw [behS_len,h.len],fun x hx=>?_,Int.le_trans key h.le⟩,key⟩
 obtain ⟨k,hk,rfl⟩:=List.mem_map.mp hx
 have:=cov_of hc (show k<s.length by simpa using hk)
 have:=nn_at (hms m hm).1.2.2.2 k
 show 0<=s.getD k 0+(m.2.getD k 0-m.1.getD k 0)
 omega
section
variable {b rs y:List Int} {ms:List Mv} (h6:b.length<=6) (hms:∀ z∈ms,okB b.length z) (hb:nn b) (hb9:∀ x∈b,x<=1000000000) (hgo:goP ms b rs) (hl:rs.length<=100) (hd:∀ j,j<ms.length->sumN b.length (fun p=>y.getD p 0*stM ms j p)<=0)
include hms hb hgo hd
theorem dn_all:∀ {i:Nat},i<=rs.length->Dn b y (stn ms b (rs.take i))
 | 0,_=>⟨rfl,hb,Int.le_refl _⟩
 | i+1,h=>by
  have g:=hgo i (by omega)
  rw [stn_suc (by omega)]
  exact ((dn_all (i:=i) (by omega)).go hms hd (by
   unfold mvA
   rw [List.getD_eq_getElem?_getD,List.getElem?_eq_getElem (by omega)]; exact List.getElem_mem _) g.2).1
theorem dn_step {i:Nat} (h:i<rs.length):sumN b.length (fun p=>y.getD p 0*(stn ms b (rs.take (i+1))).getD p 0)<=sumN b.length fun p=>y.getD p 0*(stn ms b (rs.take i)).getD p 0:=by
 have g:=hgo i h
 rw [stn_suc h]
 exact ((dn_all hms hb hgo hd (i:=i) (by omega)).go hms hd (by
  unfold mvA
  rw [List.getD_eq_getElem?_getD,List.getElem?_eq_getElem (by omega)]; exact List.getElem_mem _) g.2).2
include h6 hb9 hl
theorem keptd_ok {pl:Nat} (hpl:pl<b.length) (hy:Wts ms b.length pl y):Ok (f__law_kept_down [lS (stns ms b rs),.int (pl:Int),tI y]) fun v=>v=.bl true:=by
 have hyl:=hy.len
 have sl:(stns ms b rs).length=rs.length+1:=by simp [stns]
 have g0:(stns ms b rs).getD 0 []=b:=by
  unfold stns
  rw [List.getD_eq_getElem?_getD,List.getElem?_map,List.getElem?_range (by omega)]; rfl
 have k1:=weigh_ok (y:=y) (d:=b) h6 hyl rfl fun p hp=>by
  have q0:=nn_at hb p
  have q1:=memD hb9 hp
  exact mulB_R (by omega)
 have y1:=hy.one
 have dv:fI CDivL gDiv (.int (sumN b.length fun p=>y.getD p 0*b.getD p 0)) (.int (y.getD pl 0))=.ok (.int ((sumN b.length fun p=>y.getD p 0*b.getD p 0)/y.getD pl 0)):=divL_big (by omega) (Int.le_trans (hy.nn pl hpl).2 (by decide))
 exists rpB,m__law_kept_down,g0,k1,dv
 refine ok_end (po_fors (fun i ρ=>∃ a,ρ = [.par (lS (stns ms b rs)),.par (.int (pl:Int)),.par (tI y),.val (.int ((sumN b.length fun p=>y.getD p 0*b.getD p 0)/y.getD pl 0)),a]) ⟨_,rfl⟩ ?_ ?_)
 ·rintro i u ρ hu ⟨a,rfl⟩
  unfold stns at hu
  rw [List.map_map] at hu
  obtain ⟨hi,rfl⟩:=range_at hu
  have hs:=dn_all hms hb hgo hd (i:=i) (by omega)
  have hsl:=hs.len
  change ∃ ρ1,gN .U 4 (tI (stn ms b (rs.take i))) _=_/\_
  generalize stn ms b (rs.take i)=s at hs hsl
  have d1:decide ((sumN b.length fun p=>y.getD p 0*b.getD p 0)/y.getD pl 0<s.getD pl 0)=false:=decide_eq_false (by
   have q:=sumN_ge (f:=fun p=>y.getD p 0*s.getD p 0) hpl fun k hk=>Int.mul_nonneg (hy.nn k hk).1 (nn_at hs.nn k)
   have q2:=hs.le
   have:=Int.le_ediv_of_mul_le (c:=y.getD pl 0) (by omega) (show s.getD pl 0*y.getD pl 0<=sumN b.length fun p=>y.getD p 0*b.getD p 0 by rw [Int.mul_comm]; omega)
   omega)
  refine ⟨_,rfl,?_⟩
  exists d1
  exact ⟨_,rfl⟩
 ·rintro ρ ⟨a,rfl⟩
  exists rp18
end
theorem top2 {i:Int} (h0:0<=i) (h:i<2):∃ v:Int,L2.atI [W.int 4,W.int 1000000001] i=some (.int v)/\4<=v/\v<=1000000001:=by
 have:i=0\/i=1:=by omega
 rcases this with rfl | rfl
 ·exact ⟨4,rfl,by omega,by omega⟩
 ·exact ⟨1000000001,rfl,by omega,by omega⟩
theorem fil_nil {g:Nat->Bool} {n:Nat} (h:∀ q,q<n->g q=false):(List.range n).filter g = []:=by
 rw [List.filter_eq_nil_iff]
 exact fun q hq=>by rw [h q (List.mem_range.mp hq)]; decide
theorem fil_hd {g:Nat->Bool} {p:Nat}:∀ {n:Nat},p<n->g p=true->(∀ q,q<p->g q=false)->∃ r,(List.range n).filter g=p::r
 | 0,h,_,_=>absurd h (Nat.not_lt_zero _)
 | n+1,h,hp,hq=>by
  rw [List.range_succ,List.filter_append]
  by_cases e:p=n
  ·subst e
   rw [fil_nil hq]
   exact ⟨[],by simp [hp]⟩
  ·obtain ⟨r,hr⟩:=fil_hd (n:=n) (by omega) hp hq
   rw [hr]
   exact ⟨_,rfl⟩
theorem wt_mu {b y s:List Int} {ms:List Mv} (h6:b.length<=6) (hb:nn b) (hb9:∀ x∈b,x<=1000000000) (hy:WtA ms b.length y) (hs:Dn b y s) {p:Nat} (hp:p<b.length):fI CMulB gMul (.int (y.getD p 0)) (.int (s.getD p 0))=.ok (.int (y.getD p 0*s.getD p 0)):=by
 have q:=hy.pos p hp
 have s0:=nn_at hs.nn p
 have hle:∀ {n:Nat},n<=b.length->sumN n (fun p=>y.getD p 0*b.getD p 0)<=(n:Int)*(2^400*1000000000):=fun {n}=>by
  induction n with
  | zero=>intro _; rw [Int.natCast_zero,Int.zero_mul]; exact Int.le_refl _
  | succ n ih=>
   intro hn
   have:=ih (by omega)
   have:=Int.mul_le_mul (hy.pos n (by omega)).2 (memD hb9 (i:=n) (by omega)) (nn_at hb n) (by decide)
   rw [Int.natCast_succ,Int.add_mul,Int.one_mul]
   show sumN n (fun p=>y.getD p 0*b.getD p 0)+y.getD n 0*b.getD n 0<=_
   omega
 have g1:s.getD p 0<=y.getD p 0*s.getD p 0:=by
  have:=Int.mul_le_mul_of_nonneg_right q.1 s0
  omega
 have g2:=sumN_ge (f:=fun p=>y.getD p 0*s.getD p 0) hp fun k hk=>Int.mul_nonneg (by have:=(hy.pos k hk).1; omega) (nn_at hs.nn k)
 have g3:=hs.le
 have g4:(b.length:Int)*(2^400*1000000000)<=2^460:=Int.le_trans (Int.mul_le_mul_of_nonneg_right (show (b.length:Int)<=6 by omega) (by decide)) (by decide)
 have b1:=bits_of_le (z:=y.getD p 0) (k:=400) ⟨Int.le_trans (by decide) q.1,q.2⟩
 have b2:=bits_of_le (z:=s.getD p 0) (k:=460) ⟨Int.le_trans (by decide) s0,Int.le_trans g1 (Int.le_trans g2 (Int.le_trans g3 (Int.le_trans (hle (Nat.le_refl _)) g4)))⟩
 exact mulB_b (by omega)
theorem law_pure (ns:List Int) (h:ns.length<=63) (_:∀ x∈ns,Builtin.Int.intBits x<=1048576):f_law [.scr (ns.map W.int)]=.ok (.bl true):=by
 have fin:Ok (f_law [.scr (ns.map W.int)]) fun v=>v=.bl true:=by
  obtain ⟨_,e0,c0,rfl⟩:=cell_ok (ns:=ns) (k:=0) (by omega)
  obtain ⟨_,e10,c10,rfl⟩:=cell_ok (ns:=ns) (k:=10) (by omega)
  obtain ⟨n,hn⟩:∃ n:Nat,1+c0%6=(n:Int):=⟨(1+c0%6).toNat,by omega⟩
  have h1:1<=n:=by omega
  have h6:n<=6:=by omega
  obtain ⟨_,e3,ms,rfl,h8,hms⟩:=lmoves_ok (ns:=ns) h1 h6
  obtain ⟨v,hv,hv0,hv1⟩:=top2 (i:=c0/162%2) (by omega) (by omega)
  obtain ⟨_,e5,xs,rfl,hxl,hxs⟩:=stream_ok (c:=c10) (sa:=50) (n:=(n:Int)) (by omega) (by omega) (by omega) (by omega)
  obtain ⟨_,e6,ys,rfl,hyl,hys⟩:=stream_ok (c:=c0) (sa:=51) (n:=6) (by omega) (by omega) (by omega) (by omega)
  have hcl:(cutI ns (some 11) (some 25)).length<=63:=Nat.le_trans (cutI_len _ _ _) h
  have ec:TP.chks false (ys.map W.int++(cutI ns (some 11) (some 25)).map W.int)=.ok (lI (ys++cutI ns (some 11) (some 25))):=by rw [<- List.map_append]; exact chks_I false _
  have hst:(ys++cutI ns (some 11) (some 25)).length<=100:=by rw [List.length_append]; omega
  have ex:∀ N mg me ρ (h:∀ x∈xs,∃ ρ1,mg (.int x) (ρ++List.replicate (N-ρ.length) Sl.un)=some ρ1/\me ρ1=.ok (.int (x%v))),mComp N mg yes me (xs.map W.int) ρ=.ok (lI (xs.map fun x=>x%v)):=fun N mg me ρ h=>by
   rw [mComp_all (fun x=>W.int (x%v)) _ _ ρ (by omega) h,mapI]
  obtain ⟨b,hbx⟩:∃ b,b=xs.map fun x=>x%v:=⟨_,rfl⟩
  have hbl:b.length=n:=by rw [hbx,List.length_map,hxl]; omega
  have hbc:cc b:=fun x hx=>by
   rw [hbx] at hx
   obtain ⟨z,_,rfl⟩:=List.mem_map.mp hx
   have z0:=Int.emod_nonneg z (show v≠0 by omega)
   have z1:=Int.emod_lt_of_pos z (show 0<v by omega)
   exact ⟨z0,by omega⟩
  rw [<- hbx] at ex
  exists rpB,m_law,e0,hn,e3,hv,e10,e5
  rw [ex]
  rotate_left
  ·intro x hx
   refine ⟨_,rfl,?_⟩
   exists rp18
  subst hbl
  have hmN:∀ m∈ms,okN b.length m:=fun m hm=>(hms m hm).1
  obtain ⟨_,er,rs,rfl,hgo,hrl⟩:=row_ok h6 hmN h8 hst
  have ek:=moor_ok h1 h6 hbc (fun m hm=>(hms m hm).C) h8
  have es:=stands_ok h6 hmN hgo (by omega)
  have hSl:(stns ms b rs).length=rs.length+1:=by simp [stns]
  have hb9:∀ x∈b,x<=1000000000:=fun x hx=>(hbc x hx).2
  obtain ⟨wc,hwc⟩:∃ wc:Nat->W,∀ p,p<b.length->f_ceiling [tM_ ms,.int (p:Int),.int (b.length:Int)]=.ok (wc p)/\Cei ms b.length p (wc p):=by
   have q:=fun p (hp:p<b.length)=>ceiling_ok h1 h6 hmN h8 hp (fun j hj p hp=>stM_bd hms hj hp)
   refine ⟨fun p=>if hp:p<b.length then (q p hp).choose else .non,fun p hp=>?_⟩
   dsimp only
   rw [dif_pos hp]
   exact (q p hp).choose_spec
  obtain ⟨wl,el,hwl⟩:=level_ok h1 h6 hwc
  obtain ⟨g,hg⟩:∃ g:Nat->Bool,∀ p,p<b.length->(g p=true/\∃ y,wc p=.tup [.str "bag",tI y]/\Bag_ ms b.length p y)\/(g p=false/\∃ y,wc p=.tup [.str "weights",tI y]/\Wts ms b.length p y):=by
   refine ⟨fun p=>(match wc p with | .tup (.str s::_)=>decide (s=("bag" : Str)) | _=>false),fun p hp=>?_⟩
   obtain ⟨_,hw⟩:=hwc p hp
   dsimp only
   generalize wc p=w at hw
   cases hw with
   | @b y hy=>exact .inl ⟨show decide (("bag" : Str) = "bag")=true from decide_eq_true rfl,y,rfl,hy⟩
   | @w y hy=>exact .inr ⟨show decide (("weights" : Str) = "bag")=false by decide +kernel,y,rfl,hy⟩
  exists ek,e6,ec
  rw [er]
  exists es
  have s1:fEqS false (W.str "bag") (W.str "bag")=.ok (.bl true):=rfl
  have s2:fEqS false (W.str "weights") (W.str "bag")=.ok (.bl false):=rfl
  refine ok_end (po_fors (fun i ρ=>∃ (zs:List Int) (a9 a10 a11:Sl),ρ = [.par (.scr (ns.map W.int)),.val (.int c0),.val (.int (b.length:Int)),.val (tM_ ms),.val (.int v),.val (tI b),.val (.tup [tI b,tM_ ms]),.own ((stns ms b rs).map tI),.own (zs.map W.int),a9,a10,a11,.un,.un]/\zs=((List.range i).filter g).map fun k:Nat=>(k:Int)) ⟨[],_,_,_,rfl,rfl⟩ ?_ ?_)
  ·rintro p u ρ hu ⟨zs,a9,a10,a11,rfl,hzs⟩
   obtain ⟨hp,rfl⟩:=rng_at hu
   obtain ⟨k1,_⟩:=hwc p hp
   have hzl:zs.length<=6:=by
    rw [hzs,List.length_map]
    refine Nat.le_trans (List.length_filter_le _ _) ?_
    rw [List.length_range]; omega
   refine ⟨_,rfl,?_⟩
   rcases hg p hp with ⟨g1,y,e,hy⟩ | ⟨g1,y,e,hy⟩
   ·rw [e] at k1
    exists k1,s1
    refine ⟨zs ++ [(p:Int)],_,_,_,rfl,?_⟩
    rw [hzs,List.range_succ,List.filter_append,List.map_append]
    simp [g1]
   ·rw [e] at k1
    obtain ⟨_,k2,rfl⟩:=keptd_ok h6 hms hbc.nn hb9 hgo (by omega) hy.down hp hy
    exists k1,s2,k2
    refine ⟨zs,_,_,_,rfl,?_⟩
    rw [hzs,List.range_succ,List.filter_append,List.map_append]
    simp [g1]
  rintro ρ ⟨zs,a9,a10,a11,rfl,hzs⟩
  rw [List.length_map,List.length_range] at hzs
  have q0:fEq false (.lst (zs.map W.int)) (.lst [])=.ok (.bl (decide (zs = []))):=fEq_lI false zs []
  cases hwl with
  | @w y hall hy=>
   have hz0:zs = []:=by
    rw [hzs,fil_nil fun q hq=>?_]
    ·rfl
    ·rcases hg q hq with ⟨_,z,e,_⟩ | ⟨g1,_⟩
     ·obtain ⟨z',e'⟩:=hall q hq
      rw [e] at e'; cases e'
     ·exact g1
   have a0:L2.atI [W.str "weights",tI y] 0=some (.str "weights"):=rfl
   have a1:L2.atI [W.str "weights",tI y] 1=some (tI y):=rfl
   have s3:fEqS true (W.str "weights") (W.str "weights")=.ok (.bl false):=rfl
   obtain ⟨_,k1,rfl⟩:=lnumbers_ok (lo:=1) hy.len (fun x hx=>by
    obtain ⟨p,hp,rfl⟩:=List.getElem_of_mem hx
    have:=(hy.pos p (by rw [<- hy.len]; exact hp)).1
    rw [List.getD_eq_getElem?_getD,List.getElem?_eq_getElem hp] at this
    exact this)
   have k2:=falling_ok h6 h8 hms hy
   have hdn:=fun i (hi:i<=rs.length)=>dn_all hms hbc.nn hgo hy.down (i:=i) hi
   obtain ⟨F,hF⟩:∃ F:Nat->Int,F=fun i=>sumN b.length fun p=>y.getD p 0*(stn ms b (rs.take i)).getD p 0:=⟨_,rfl⟩
   have ekn:∀ N mg me ρ (h:∀ i∈List.range (rs.length+1),∃ ρ1,mg (tI (stn ms b (rs.take i))) (ρ++List.replicate (N-ρ.length) Sl.un)=some ρ1/\me ρ1=.ok (.int (F i))),mComp N mg yes me ((stns ms b rs).map tI) ρ=.ok (lI (vec (rs.length+1) F)):=fun N mg me ρ h=>by
    unfold stns
    rw [List.map_map]
    show mComp N mg yes me ((List.range (rs.length+1)).map fun i=>tI (stn ms b (rs.take i))) ρ=_
    rw [mComp_all (fun i=>.int (F i)) _ _ ρ (by simp; omega) h,mapI]
   have q00:fEq false (.lst []) (.lst [])=.ok (.bl true):=fEq_lI false [] []
   rw [hz0]
   exists el,q00,a0,a1,s3,k1,k2
   rw [ekn]
   rotate_left
   ·intro i hi
    have hi:i<=rs.length:=by have:=List.mem_range.mp hi; omega
    have k3:=weigh_ok (y:=y) (d:=stn ms b (rs.take i)) h6 hy.len (hdn i hi).len fun p hp=>wt_mu h6 hbc.nn hb9 hy (hdn i hi) hp
    refine ⟨_,rfl,?_⟩
    rw [hF]
    exists a1,k3
   have er2:(((rs.length+1:Nat):Int)-1).toNat=rs.length:=by omega
   have lF:=vec_len (rs.length+1) F
   have ef:∀ N mg mc me ρ (h:∀ k∈List.range rs.length,∃ ρ1,mg (.int (1+(k:Nat))) (ρ++List.replicate (N-ρ.length) Sl.un)=some ρ1/\mc ρ1=.ok false),mComp N mg mc me ((List.range rs.length).map fun k=>W.int (1+(k:Nat))) ρ=.ok (.lst []):=fun N mg mc me ρ h=>by
    rw [mComp_filter (fun _=>.non) _ (fun _=>false) _ ρ (by simp; omega) fun a ha=>by
     obtain ⟨ρ1,q1,q2⟩:=h a ha
     exact ⟨ρ1,q1,q2,fun z=>by cases z⟩]
    simp
   exists rp18
   rw [er2,ef]
   rotate_left
   ·intro k hk
    have hk:k<rs.length:=List.mem_range.mp hk
    have v1:(vec (rs.length+1) F).getD (1+(k:Int)).toNat 0=F (k+1):=by
     rw [show (1+(k:Int)).toNat=k+1 by omega]; exact vec_getD (by omega)
    have v2:(vec (rs.length+1) F).getD (1+(k:Int)-1).toNat 0=F k:=by
     rw [show (1+(k:Int)-1).toNat=k by omega]; exact vec_getD (by omega)
    have d1:decide (F k<F (k+1))=false:=decide_eq_false (by
     have:=dn_step hms hbc.nn hgo hy.down hk
     rw [hF]
     show ¬ (sumN b.length fun p=>y.getD p 0*(stn ms b (rs.take k)).getD p 0)<sumN b.length fun p=>y.getD p 0*(stn ms b (rs.take (k+1))).getD p 0
     omega)
    refine ⟨_,rfl,?_⟩
    exists v1,v2,d1
   exists rp18
  | @b p y hp hwp hless=>
   have hgp:g p=true/\Bag_ ms b.length p y:=by
    rcases hg p hp with ⟨g1,y',e,hy⟩ | ⟨g1,y',e,_⟩
    ·rw [hwp] at e
     injection e with e
     injection e with _ e
     injection e with e _
     injection e with e
     rw [(List.map_inj_right fun _ _ h=>by injection h).mp e]
     exact ⟨g1,hy⟩
    ·rw [hwp] at e; cases e
   obtain ⟨g1,hy⟩:=hgp
   obtain ⟨r,hr⟩:=fil_hd hp g1 fun q hq=>by
    rcases hg q (by omega) with ⟨_,z,e,_⟩ | ⟨g2,_⟩
    ·obtain ⟨z',e'⟩:=hless q hq
     rw [e] at e'; cases e'
    ·exact g2
   have hz1:zs=(p:Int)::r.map fun k:Nat=>(k:Int):=by rw [hzs,hr]; rfl
   have d0:decide (zs = [])=false:=decide_eq_false (by rw [hz1]; exact List.cons_ne_nil _ _)
   rw [d0] at q0
   have z0:L2.atI (zs.map W.int) 0=some (.int (p:Int)):=by rw [hz1]; exact atW_of (k:=0) rfl
   have a0:L2.atI [W.str "bag",.int (p:Int),tI y] 0=some (.str "bag"):=rfl
   have a1:L2.atI [W.str "bag",.int (p:Int),tI y] 1=some (.int (p:Int)):=rfl
   have a2:L2.atI [W.str "bag",.int (p:Int),tI y] 2=some (tI y):=rfl
   have s3:fEqS true (W.str "bag") (W.str "bag")=.ok (.bl false):=rfl
   have yl:=hy.len
   obtain ⟨_,k1,rfl⟩:=lnumbers_ok (lo:=0) hy.len (fun x hx=>by
    obtain ⟨p,hp,rfl⟩:=List.getElem_of_mem hx
    have:=(hy.nn p (by rw [<- hy.len]; exact hp)).1
    rw [List.getD_eq_getElem?_getD,List.getElem?_eq_getElem hp] at this
    exact this)
   obtain ⟨_,k2,rfl⟩:=baggoes_ok h1 h6 h8 hms hp hy
   have hne:0<y.length:=by
    have:=hy.up p hp
    rw [if_pos rfl] at this
    rw [yl]
    refine Nat.pos_of_ne_zero fun q=>?_
    rw [q] at this
    change (1:Int)<=0 at this
    omega
   have kb:fBest maxL [tI y]=.ok (.int (maxL y)):=fBest_t hne
   have d1:decide ((p:Int)=(p:Int))=true:=decide_eq_true rfl
   exists el,q0,a0,a1,a2,s3,z0,fEq_ii,d1,k1,kb
   cases hdec:decide (1000000000000000000000000000000000000000000000000000000000000<=maxL y) with
   | true=>exists hdec
   | false=>exists hdec,k2
 obtain ⟨v,e,rfl⟩:=fin
 exact e
end K59
set_option maxHeartbeats 4000000
open PySem L2 TP
namespace K59
def xAdd {K:Frag} {d:Mode}:=(o2_I0 (K:=K) (d:=d) (g:=gAdd) (fun _ _=>rfl) (fun _ _ _=>.int))
def xSub {K:Frag} {d:Mode}:=(o2_I0 (K:=K) (d:=d) (g:=gSub) (fun _ _=>rfl) (fun _ _ _=>.int))
def xLt {K:Frag} {d:Mode}:=(o2_I0 (K:=K) (d:=d) (g:=gLt) (fun _ _=>rfl) (fun _ _ _=>.bl))
def xLe {K:Frag} {d:Mode}:=(o2_I0 (K:=K) (d:=d) (g:=gLe) (fun _ _=>rfl) (fun _ _ _=>.bl))
def xGt {K:Frag} {d:Mode}:=(o2_I0 (K:=K) (d:=d) (g:=gGt) (fun _ _=>rfl) (fun _ _ _=>.bl))
def xGe {K:Frag} {d:Mode}:=(o2_I0 (K:=K) (d:=d) (g:=gGe) (fun _ _=>rfl) (fun _ _ _=>.bl))
local macro_rules | `(tactic| trivial)=>`(tactic| first | exact Or.inl rfl | exact Or.inr rfl | exact Or.inr (Or.inl rfl) | exact Or.inr (Or.inr rfl) | assumption | exact ⟨rfl,rfl,rfl,by decide +kernel,rfl,by decide +kernel,by decide +kernel⟩ | exact ⟨rfl,by decide +kernel,by decide +kernel,by decide +kernel,by decide +kernel,by decide,by decide +kernel,by decide +kernel⟩)
abbrev hk (w:World):Frag:=hxheap w.params
structure Blt (mg:Str->Option Value):Prop where
 all_:mg "all" = none
 bool_:mg "bool" = none
 enumerate_:mg "enumerate" = none
 int_:mg "int" = none
 isinstance_:mg "isinstance" = none
 len_:mg "len" = none
 list_:mg "list" = none
 max_:mg "max" = none
 min_:mg "min" = none
 range_:mg "range" = none
 reversed_:mg "reversed" = none
 sum_:mg "sum" = none
 tuple_:mg "tuple" = none
 zip_:mg "zip" = none
structure Cst (mg:Str->Option Value):Prop where
 GREATEST_COUNT:∃ t,mg "GREATEST_COUNT" = some (.int 1000000000 t)
 MOST_PLACES:∃ t,mg "MOST_PLACES" = some (.int 6 t)
 MOST_MOVES:∃ t,mg "MOST_MOVES" = some (.int 8 t)
def En (w:World) (mg:Str->Option Value):Prop:=∃ h:Heap,(hk w).In h/\h.Ns mainGlobals mg
theorem bn {w:World} {mg:Str->Option Value} (Y:En w mg) {x:Str} (e:PySem.W.nsIn (hk w) mainGlobals x=some none):mg x=none:=Y.elim fun _ q=>PySem.W.mg_none_of q.1 q.2 e
theorem bl {w:World} {mg:Str->Option Value} (Y:En w mg):Blt mg:=⟨bn Y (by kernel_rfl),bn Y (by kernel_rfl),bn Y (by kernel_rfl),bn Y (by kernel_rfl),bn Y (by kernel_rfl),bn Y (by kernel_rfl),bn Y (by kernel_rfl),bn Y (by kernel_rfl),bn Y (by kernel_rfl),bn Y (by kernel_rfl),bn Y (by kernel_rfl),bn Y (by kernel_rfl),bn Y (by kernel_rfl),bn Y (by kernel_rfl)⟩
theorem cs {w:World} {mg:Str->Option Value} (Y:En w mg):Cst mg:=Y.elim fun _ q=>⟨⟨250,PySem.W.mg_of q.1 q.2 (by kernel_rfl)⟩,⟨252,PySem.W.mg_of q.1 q.2 (by kernel_rfl)⟩,⟨254,PySem.W.mg_of q.1 q.2 (by kernel_rfl)⟩⟩
abbrev FD (nm:String) (i:Nat) (pm:Value) (c:Nat):FuncData:=PySem.W.fnOf nm nm (defArgs (top i)) (defBody (top i)) (defScope (top i)) .none .none .none pm none (.ref c) .none
theorem dk {w:World} {mg:Str->Option Value} (Y:En w mg) {nm:String} {i c:Nat} {f:Addr} {pm:Value} {ps:List Str}
  (e:(PySem.W.nsIn (hk w) mainGlobals nm,(hk w).lookup f,PySem.W.codeIn (hk w) (.ref c) nm,PySem.W.keepIn (hk w) (.ref f))=(some (some (.ref f)),some (hxG nm i pm c),true,true))
  (hb:∀ (kV doc pm:Value) (an:Option Addr) (cdv ct:Value) (us:List Value),us.length=ps.length->bindArgs (PySem.W.fnOf nm nm (defArgs (top i)) (defBody (top i)) (defScope (top i)) .none kV doc pm an cdv ct) ⟨us,[]⟩=pure (ps.zip us)):Def (hk w) mg nm (top i) ps f (FD nm i pm c):=by
 obtain ⟨h,X,G⟩:=Y
 injection e with a e
 injection e with l e
 injection e with c k
 have F:=fun_mk (st:=top i) l c k
 exact ⟨F,PySem.W.mg_of X G a,F.binds hb⟩
theorem okF {P:Program} {w:World} {K:Frag} {mg:Str->Option Value} {base:Heap} {x:Str} {st:Stmt} {ps:List Str} {f:Addr} {fd:FuncData} (D:Def K mg x st ps f fd) {N:List Str} {k n l:Nat} {d:Mode} {m:Rho->R Fl} (S:FnScope N ps (defScope st)) (hd:d=.F\/d=.V) (hn:ps.length=n) (hl:N.length=l) (b:∀ {cdv:Value} {A:Around} {outer:List Env} {s:Shared} {H:Hp} {E:XK},Room k (A.deeper (PyProof.Rows.envOfC x (defScope st) s.heap.objs.size f cdv))->PSs (cxOf CX0 P w K mg base N x (defScope st) f cdv A outer s H E).nox (defBody st) (tSt K (fun _ _=>False) d m)):FnOk P w K mg base CX0 (k+1) f fd ps (spM K n d (runB n l m)):=by
 subst hn hl
 exact D.F.ok S (fun _ _ _ _ h=>h.1) fun cdv A outer s H vs Q E hr h=>⟨_,b hr,c_body hd h⟩
theorem okL {P:Program} {w:World} {K:Frag} {mg:Str->Option Value} {base:Heap} {x:Str} {st:Stmt} {ps:List Str} {f:Addr} {fd:FuncData} (D:Def K mg x st ps f fd) {N:List Str} {k n l:Nat} {d:Mode} {m:Rho->R Fl} (S:FnScope N ps (defScope st)) (hd:d=.F\/d=.V) (hn:ps.length=n) (hl:N.length=l) (b:∀ {A:Around} {outer:List Env} {s:Shared} {H:Hp} {E:XK},Room k (A.deeper (PyProof.Rows.envOfC x (defScope st) s.heap.objs.size f fd.code))->PSs (cxOf CX0 P w K mg base N x (defScope st) f fd.code A outer s H E).nox (defBody st) (tSt K (fun _ _=>False) d m)):FnOk P w K mg base CX0 (k+1) f fd ps (spM K n d (runB n l m)):=by
 subst hn hl
 exact D.F.okC S (fun _ _ _ _ h=>h.1) fun A outer s H vs Q E hr h=>⟨_,b hr,c_body hd h⟩
theorem qcD {X:Cx} {K:Frag} {d:Mode} {e:Expr} {es:List Expr} {pos:Pos} {mr:Rho->R (List W)} {k:Nat} {f:Addr} {fd:FuncData} {ps:List Str} {x:Str} {st:Stmt} {p:Pos} {n N:Nat} {m:Rho->R Fl} (F:FnOk X.prog X.w X.K X.mg X.base CX0 k f fd ps (spM K n d (runB n N m))) (D:Def X.K X.mg x st ps f fd)
  (ha:PA X (e::es) (tA K (fun _ _=>False) .B mr)) (hd:d=.F\/d=.V:=by first | exact .inl rfl | exact .inr rfl) (hr:Room k X.A:=by exact Room.mono (by assumption) (by decide)) (hg:Gl X x:=by rfl) (hdb:(x == ("__debug__" : Str))=false:=by decide) (he:starEach (e::es) X.env=(false,eval e X.env)::starEach es X.env:=by rfl) (hpl:(backTo pos (starEach es X.env)).any (·.1)=false:=by rfl) :
  PE X (.Call (.Name x p) (e::es) [] pos) (tM K (fun _ _=>False) d (bA (runB n N m) mr)):=q_call F hd hr hg D.m D.F.kp D.b ha hdb he hpl
theorem lamIn:((206,129,26, "leaving.<locals>.<lambda>"): Addr×Nat×Nat×Str)∈L2.lamT:=by
 unfold L2.lamT; exact List.mem_cons_self
theorem q_compn {X:Cx} {K:Frag} {EX:EXT} {cs:Scope} {N':List Str} {n:Nat} {tg iter elt:Expr} {ifs:List Expr} {dd:Mode} {g:TG} {mg:W->Rho->Option Rho} {mi:Rho->R (List W)} {ta:Rho->R Bool} {ma:Rho->R W} {pos:Pos} (S:CompScope X.env.scope cs X.N N') (hc:X.calm=true) (hi:PI X tg iter (tIt K EX false dd mi))
  (hg:∀ cl ex s H,PG (cxComp X cs cl N' ex s H) tg g) (hgt:Gt K dd g mg) (hk:GKeep X.N.length g) (ht:∀ cl ex s H,PIf (cxComp X cs cl N' ex s H) ifs (tT K EX ta)) (he:∀ cl ex s H,PE (cxComp X cs cl N' ex s H) elt (tM K EX .V ma))
  (hn:N'.length=n:=by rfl) (hs:∀ x,foldedSetIterable iter X.env x=pure x:=by intro _; rfl):PE X (.ListComp elt [⟨tg,iter,ifs,0⟩] cs pos) (tM K EX .F (vComp n mi mg ta ma)):=by
 subst hn; exact q_comp S hc hi hg hgt hk ht he hs
theorem q_setcn {X:Cx} {K:Frag} {EX:EXT} {d:Mode} {i n:Nat} {y:Str} {py:Pos} {cs:Scope} {N':List Str} {tg iter elt:Expr} {ifs:List Expr} {dd:Mode} {g:TG} {mg:W->Rho->Option Rho} {mi:Rho->R (List W)} {ta:Rho->R Bool} {ma:Rho->R W} {cpos pos:Pos} (S:CompScope X.env.scope cs X.N N') (hc:X.calm=true) (hi:PI X tg iter (tIt K EX false dd mi))
  (hg:∀ cl ex s H,PG (cxComp X cs cl N' ex s H) tg g) (hgt:Gt K dd g mg) (hk:GKeep X.N.length g) (ht:∀ cl ex s H,PIf (cxComp X cs cl N' ex s H) ifs (tT K EX ta)) (he:∀ cl ex s H,PE (cxComp X cs cl N' ex s H) elt (tM K EX .V ma))
  (hN:X.N.Nodup) (hy:X.N[i]?=some y) (hl:Loc X.env.scope y)
  (hn:N'.length=n:=by rfl) (hsw:swapsWith (.ListComp elt [⟨tg,iter,ifs,0⟩] cs cpos) (some (.Name y py)) pos.line X.env=pure true:=by rfl) (hf:X.fn y=true\/X.env.scope.names.lookup y=some .local:=by first | exact .inl rfl | exact .inr rfl | assumption)
  (hs:∀ x,foldedSetIterable iter X.env x=pure x:=by intro _; rfl):PS X (.Assign [.Name y py] (.ListComp elt [⟨tg,iter,ifs,0⟩] cs cpos) pos) (tSt K EX d (sF i (vComp n mi mg ta ma))):=by
 subst hn; exact q_setc S hc hi hg hgt hk ht he hN hy hl hsw hf hs
theorem q_compCn {X:Cx} {K:Frag} {EX:EXT} {cs:Scope} {N':List Str} {y:Str} {n:Nat} {tg iter elt:Expr} {ifs:List Expr} {dd:Mode} {g:TG} {mg:W->Rho->Option Rho} {mi:Rho->R (List W)} {ta:Rho->R Bool} {ma:Rho->R W} {pos:Pos} (S:CompScopeC X.env.scope cs X.N N' y) (hc:X.calm=true) (hi:PI X tg iter (tIt K EX false dd mi))
  (hg:∀ cl ex s H,PG (cxCompC X cs y cl N' ex s H) tg g) (hgt:Gt K dd g mg) (hk:GKeep X.N.length g) (ht:∀ cl ex s H,PIf (cxCompC X cs y cl N' ex s H) ifs (tT K EX ta)) (he:∀ cl ex s H,PE (cxCompC X cs y cl N' ex s H) elt (tM K EX .V ma))
  (hn:N'.length=n:=by rfl) (hs:∀ x,foldedSetIterable iter X.env x=pure x:=by intro _; rfl):PE X (.ListComp elt [⟨tg,iter,ifs,0⟩] cs pos) (tM K EX .F (vComp n mi mg ta ma)):=by
 subst hn; exact q_compC S hc hi hg hgt hk ht he hs
theorem q_setcCn {X:Cx} {K:Frag} {EX:EXT} {d:Mode} {i n:Nat} {y:Str} {py:Pos} {cs:Scope} {N':List Str} {yc:Str} {tg iter elt:Expr} {ifs:List Expr} {dd:Mode} {g:TG} {mg:W->Rho->Option Rho} {mi:Rho->R (List W)} {ta:Rho->R Bool} {ma:Rho->R W} {cpos pos:Pos} (S:CompScopeC X.env.scope cs X.N N' yc) (hc:X.calm=true) (hi:PI X tg iter (tIt K EX false dd mi))
  (hg:∀ cl ex s H,PG (cxCompC X cs yc cl N' ex s H) tg g) (hgt:Gt K dd g mg) (hk:GKeep X.N.length g) (ht:∀ cl ex s H,PIf (cxCompC X cs yc cl N' ex s H) ifs (tT K EX ta)) (he:∀ cl ex s H,PE (cxCompC X cs yc cl N' ex s H) elt (tM K EX .V ma))
  (hN:X.N.Nodup) (hy:X.N[i]?=some y) (hl:Loc X.env.scope y)
  (hn:N'.length=n:=by rfl) (hsw:swapsWith (.ListComp elt [⟨tg,iter,ifs,0⟩] cs cpos) (some (.Name y py)) pos.line X.env=pure true:=by rfl) (hf:X.fn y=true\/X.env.scope.names.lookup y=some .local:=by first | exact .inl rfl | exact .inr rfl | assumption)
  (hs:∀ x,foldedSetIterable iter X.env x=pure x:=by intro _; rfl):PS X (.Assign [.Name y py] (.ListComp elt [⟨tg,iter,ifs,0⟩] cs cpos) pos) (tSt K EX d (sF i (vComp n mi mg ta ma))):=by
 subst hn; exact q_setcC S hc hi hg hgt hk ht he hN hy hl hsw hf hs
theorem us0 {P:List Value->Prop} (h:P []):∀ us:List Value,us.length=0->P us:=fun us e=>by
 rw [List.length_eq_zero_iff.mp e]; exact h
theorem us1 {P:List Value->Prop} (h:∀ a0,P [a0]):∀ us:List Value,us.length=1->P us:=fun us e=>by
 cases us with
 | nil=>cases e
 | cons a us=>exact us0 (P:=fun us=>P (a::us)) (h a) us (Nat.succ.inj e)
theorem us2 {P:List Value->Prop} (h:∀ a0 a1,P [a0,a1]):∀ us:List Value,us.length=2->P us:=fun us e=>by
 cases us with
 | nil=>cases e
 | cons a us=>exact us1 (P:=fun us=>P (a::us)) (fun a1=>h a a1) us (Nat.succ.inj e)
theorem us3 {P:List Value->Prop} (h:∀ a0 a1 a2,P [a0,a1,a2]):∀ us:List Value,us.length=3->P us:=fun us e=>by
 cases us with
 | nil=>cases e
 | cons a us=>exact us2 (P:=fun us=>P (a::us)) (fun a1 a2=>h a a1 a2) us (Nat.succ.inj e)
theorem us4 {P:List Value->Prop} (h:∀ a0 a1 a2 a3,P [a0,a1,a2,a3]):∀ us:List Value,us.length=4->P us:=fun us e=>by
 cases us with
 | nil=>cases e
 | cons a us=>exact us3 (P:=fun us=>P (a::us)) (fun a1 a2 a3=>h a a1 a2 a3) us (Nat.succ.inj e)
theorem us5 {P:List Value->Prop} (h:∀ a0 a1 a2 a3 a4,P [a0,a1,a2,a3,a4]):∀ us:List Value,us.length=5->P us:=fun us e=>by
 cases us with
 | nil=>cases e
 | cons a us=>exact us4 (P:=fun us=>P (a::us)) (fun a1 a2 a3 a4=>h a a1 a2 a3 a4) us (Nat.succ.inj e)
theorem scis_count:FnScope ["thing"] ["thing"] (defScope (top 8)):=by trivial
theorem scmust_be_listed:FnScope ["things", "what", "fewest", "most"] ["things", "what", "fewest", "most"] (defScope (top 12)):=by trivial
theorem scmade_counts:FnScope ["things", "what", "many", "thing"] ["things", "what", "many"] (defScope (top 11)):=by trivial
theorem scmade_move:FnScope ["move", "many"] ["move", "many"] (defScope (top 10)):=by trivial
theorem scmoor:FnScope ["begin", "moves", "many", "stand"] ["begin", "moves"] (defScope (top 9)):=by trivial
theorem sccovers:FnScope ["stand", "other", "number", "wanted"] ["stand", "other"] (defScope (top 13)):=by trivial
theorem scable:FnScope ["stand", "move"] ["stand", "move"] (defScope (top 14)):=by trivial
theorem scchange:FnScope ["move"] ["move"] (defScope (top 16)):=by trivial
theorem scafter:FnScope ["stand", "move"] ["stand", "move"] (defScope (top 15)):=by trivial
theorem scsource:FnScope ["stand", "move"] ["stand", "move"] (defScope (top 18)):=by trivial
theorem scstands_of:FnScope ["moor", "stand", "row", "stands", "at", "number", "move"] ["moor", "stand", "row"] (defScope (top 20)):=by trivial
theorem scnoughts:FnScope ["moor"] ["moor"] (defScope (top 26)):=by trivial
theorem schurdle:FnScope ["moor", "row", "needed", "number"] ["moor", "row"] (defScope (top 21)):=by trivial
theorem scshifted:FnScope ["stand", "step", "times"] ["stand", "step", "times"] (defScope (top 25)):=by trivial
theorem scsum_of:FnScope ["moor", "row", "total", "number"] ["moor", "row"] (defScope (top 22)):=by trivial
theorem scgoes:FnScope ["moor", "stand", "row", "times", "needed", "last"] ["moor", "stand", "row", "times"] (defScope (top 24)):=by trivial
theorem scstride:FnScope ["moor", "stand", "blocks", "here", "at", "block", "row", "times"] ["moor", "stand", "blocks"] (defScope (top 23)):=by trivial
theorem scweigh:FnScope ["weights", "counts"] ["weights", "counts"] (defScope (top 28)):=by trivial
theorem scweighed_changes:FnScope ["moves", "weights"] ["moves", "weights"] (defScope (top 29)):=by trivial
theorem scis_falling:FnScope ["moves", "weights"] ["moves", "weights"] (defScope (top 30)):=by trivial
theorem scunit:FnScope ["place", "many"] ["place", "many"] (defScope (top 32)):=by trivial
theorem scfirst_table:FnScope ["moves", "place", "many", "steps", "table"] ["moves", "place", "many"] (defScope (top 35)):=by trivial
theorem sccoming:FnScope ["table", "column", "gain"] ["table"] (defScope (top 36)):=by trivial
theorem scleaving:FnScope ["table", "held", "column", "lines"] ["table", "held", "column"] (defScope (top 37)):=by trivial
theorem sccleared:FnScope ["row", "by", "column", "scale"] ["row", "by", "column", "scale"] (defScope (top 39)):=by trivial
theorem scpivoted:FnScope ["table", "line", "column", "scale", "by"] ["table", "line", "column", "scale"] (defScope (top 38)):=by trivial
theorem scgreatest_divisor:FnScope ["one", "other", "rest"] ["one", "other"] (defScope (top 43)):=by trivial
theorem scin_least_numbers:FnScope ["numbers", "shared", "number"] ["numbers"] (defScope (top 42)):=by trivial
theorem scweights_of:FnScope ["table", "place", "scale", "many_moves", "losses"] ["table", "place", "scale", "many_moves"] (defScope (top 41)):=by trivial
theorem scbag_of:FnScope ["table", "held", "column", "scale", "many_moves", "times", "line", "holder"] ["table", "held", "column", "scale", "many_moves"] (defScope (top 40)):=by trivial
theorem scceiling:FnScope ["moves", "place", "many", "table", "held", "scale", "column", "line"] ["moves", "place", "many"] (defScope (top 34)):=by trivial
theorem sclevel:FnScope ["moves", "many", "total", "place", "told"] ["moves", "many"] (defScope (top 44)):=by trivial
theorem sc_law_cell_at:FnScope ["_law_script", "_law_k"] ["_law_script", "_law_k"] (defScope (top 46)):=by trivial
theorem sc_law_stream:FnScope ["_law_cell", "_law_turn", "_law_many", "_law_found", "_law_number", "_law_k"] ["_law_cell", "_law_turn", "_law_many"] (defScope (top 47)):=by trivial
theorem sc_law_weights:FnScope ["_law_cell", "_law_many", "_law_xs", "_law_wide", "_law_weights_here"] ["_law_cell", "_law_many"] (defScope (top 48)):=by trivial
theorem sc_law_free_move:FnScope ["_law_cell", "_law_turn", "_law_many", "_law_xs", "_law_top", "_law_counts"] ["_law_cell", "_law_turn", "_law_many"] (defScope (top 49)):=by trivial
theorem sc_law_kept_move:FnScope ["_law_cell", "_law_turn", "_law_weights_here", "_law_kind", "_law_many", "_law_head", "_law_xs", "_law_top", "_law_take", "_law_put", "_law_drift", "_law_at"] ["_law_cell", "_law_turn", "_law_weights_here", "_law_kind"] (defScope (top 50)):=by trivial
theorem sc_law_moves:FnScope ["_law_script", "_law_many", "_law_first", "_law_kind", "_law_weights_here", "_law_moves_here", "_law_k", "_law_cell"] ["_law_script", "_law_many"] (defScope (top 51)):=by trivial
theorem sc_law_row:FnScope ["_law_begin", "_law_moves_here", "_law_steps", "_law_row_here", "_law_stand", "_law_step", "_law_went", "_law_turn", "_law_number", "_law_take", "_law_put", "_law_lacks"] ["_law_begin", "_law_moves_here", "_law_steps"] (defScope (top 52)):=by trivial
theorem sc_law_bag_goes:FnScope ["_law_land", "_law_place", "_law_bag", "_law_many", "_law_takes", "_law_stand", "_law_blocks", "_law_one", "_law_two", "_law_p"] ["_law_land", "_law_place", "_law_bag"] (defScope (top 53)):=by trivial
theorem sc_law_numbers:FnScope ["_law_found", "_law_count", "_law_low", "_law_one"] ["_law_found", "_law_count", "_law_low"] (defScope (top 54)):=by trivial
theorem sc_law_kept_down:FnScope ["_law_stands", "_law_place", "_law_weights_here", "_law_most", "_law_stand"] ["_law_stands", "_law_place", "_law_weights_here"] (defScope (top 55)):=by trivial
theorem sclaw:FnScope ["_law_script", "_law_first", "_law_many", "_law_moves_here", "_law_top", "_law_begin", "_law_land", "_law_stands", "_law_risen", "_law_place", "_law_kind", "_law_numbers_here", "_law_found", "_law_known"] ["_law_script"] (defScope (top 56)):=by trivial
section
variable {P:Program} {w:World} {mg:Str->Option Value} {base:Heap} (Y:En w mg)
include Y
theorem dis_count:Def (hk w) mg "is_count" (top 8) ["thing"] 65 (FD "is_count" 8 hxM4 64):=dk Y (by kernel_rfl) fun _ _ _ _ _ _=>us1 fun _=>rfl
theorem okis_count:FnOk P w (hk w) mg base CX0 1 65 (FD "is_count" 8 hxM4 64) ["thing"] (spM (hk w) 1 .F f_is_count):=by
 obtain ⟨tkGREATEST_COUNT,hcGREATEST_COUNT⟩:=(cs Y).GREATEST_COUNT
 exact okF (dis_count Y) scis_count (.inl rfl) rfl rfl fun hr=>(q_cons (q_if_ (PW.pt (q_tor (q_val (q_cb call_isi b_isi (by rfl) (bl Y).isinstance_ PyProof.Rows.boot_isinstance (q_acons (qv .B 0) (q_acons (@q_ty _ _ _ _ _ _ _ (by rfl) (bl Y).bool_ bt_bool (by decide) (by decide)) q_anil)))) (q_tor1 (q_tnot (q_val (q_cb call_isi b_isi (by rfl) (bl Y).isinstance_ PyProof.Rows.boot_isinstance (q_acons (qv .B 0) (q_acons (@q_ty _ _ _ _ _ _ _ (by rfl) (bl Y).int_ bt_int (by decide) (by decide)) q_anil)))))))) (q_last (q_ret q_bl)) q_nil) (q_last (q_ret (@q_chain _ _ _ _ _ _ _ _ _ _ _ _ _ _ _ _ _ _ op_le xLe op_le xLe q_int (qv .B 0) (@q_globI _ _ _ _ _ _ _ _ rfl hcGREATEST_COUNT (by decide)) (by with_unfolding_all rfl)))))
theorem dmust_be_listed:Def (hk w) mg "must_be_listed" (top 12) ["things", "what", "fewest", "most"] 91 (FD "must_be_listed" 12 hxM4 90):=dk Y (by kernel_rfl) fun _ _ _ _ _ _=>us4 fun _ _ _ _=>rfl
theorem okmust_be_listed:FnOk P w (hk w) mg base CX0 1 91 (FD "must_be_listed" 12 hxM4 90) ["things", "what", "fewest", "most"] (spM (hk w) 4 .F f_must_be_listed):=
 okF (dmust_be_listed Y) scmust_be_listed (.inl rfl) rfl rfl fun hr=>(q_cons (q_if_ (q_tnot (q_val (q_cb call_isiT b_isiT (by rfl) (bl Y).isinstance_ PyProof.Rows.boot_isinstance (q_acons (qv .B 0) (q_acons (q_UB (q_tupU (q_acons (@q_ty _ _ _ _ _ _ _ (by rfl) (bl Y).list_ bt_list (by decide) (by decide)) (q_acons (@q_ty _ _ _ _ _ _ _ (by rfl) (bl Y).tuple_ bt_tuple (by decide) (by decide)) q_anil)))) q_anil))))) (q_last q_never) q_nil) (q_last (q_if_ (q_tnot (@q_tchain _ _ _ _ _ _ _ _ _ _ _ _ _ _ _ _ _ op_le xLe op_le xLe (qv .B 2) (q_cb K_len b_len (by rfl) (bl Y).len_ PySem.boot_len (q_acons (qv .B 0) q_anil)) (qv .B 3) (by with_unfolding_all rfl))) (q_last q_never) q_nil)))
theorem dmade_counts:Def (hk w) mg "made_counts" (top 11) ["things", "what", "many"] 84 (FD "made_counts" 11 hxM4 83):=dk Y (by kernel_rfl) fun _ _ _ _ _ _=>us3 fun _ _ _=>rfl
theorem okmade_counts:FnOk P w (hk w) mg base CX0 2 84 (FD "made_counts" 11 hxM4 83) ["things", "what", "many"] (spM (hk w) 3 .F f_made_counts):=
 okF (dmade_counts Y) scmade_counts (.inl rfl) rfl rfl fun hr=>(q_cons (@q_expr _ _ _ _ _ _ _ _ (qcD (okmust_be_listed Y) (dmust_be_listed Y) (q_acons (qv .B 0) (q_acons (qv .B 1) (q_acons (qv .B 2) (q_acons (qv .B 2) q_anil))))) (by rfl)) (q_cons (q_for PassesOwn.never rfl (q_iSqU (qv .U 0)) (@pg_name _ _ 3 _ scmade_counts.nd rfl (by trivial) (by trivial)) gt_U (q_last (q_if_ (q_tnot (q_val (q_CB (q_FC (qcD (okis_count Y) (dis_count Y) (q_acons (qv .B 3) q_anil)))))) (q_last q_never) q_nil))) (q_last (q_ret (q_ct K_tup (b_tup (c:=false)) (by rfl) (bl Y).tuple_ bt_tuple (q_acons (qv .B 0) q_anil))))))
theorem dmade_move:Def (hk w) mg "made_move" (top 10) ["move", "many"] 77 (FD "made_move" 10 hxM4 76):=dk Y (by kernel_rfl) fun _ _ _ _ _ _=>us2 fun _ _=>rfl
theorem okmade_move:FnOk P w (hk w) mg base CX0 3 77 (FD "made_move" 10 hxM4 76) ["move", "many"] (spM (hk w) 2 .F f_made_move):=
 okF (dmade_move Y) scmade_move (.inl rfl) rfl rfl fun hr=>(q_cons (@q_expr _ _ _ _ _ _ _ _ (qcD (okmust_be_listed Y) (dmust_be_listed Y) (q_acons (qv .B 0) (q_acons q_str (q_aint (q_aint q_anil))))) (by rfl)) (q_last (q_ret (q_tup (q_acons (q_FV (qcD (okmade_counts Y) (dmade_counts Y) (q_acons (q_UB (q_ixU (qv .B 0) q_int)) (q_acons q_str (q_acons (qv .B 1) q_anil))))) (q_acons (q_FV (qcD (okmade_counts Y) (dmade_counts Y) (q_acons (q_UB (q_ixU (qv .B 0) q_int)) (q_acons q_str (q_acons (qv .B 1) q_anil))))) q_anil))))))
theorem dmoor:Def (hk w) mg "moor" (top 9) ["begin", "moves"] 70 (FD "moor" 9 hxM4 69):=dk Y (by kernel_rfl) fun _ _ _ _ _ _=>us2 fun _ _=>rfl
theorem okmoor:FnOk P w (hk w) mg base CX0 4 70 (FD "moor" 9 hxM4 69) ["begin", "moves"] (spM (hk w) 2 .F f_moor):=by
 obtain ⟨tkMOST_PLACES,hcMOST_PLACES⟩:=(cs Y).MOST_PLACES
 obtain ⟨tkMOST_MOVES,hcMOST_MOVES⟩:=(cs Y).MOST_MOVES
 exact okF (dmoor Y) scmoor (.inl rfl) rfl rfl fun hr=>(q_cons (@q_expr _ _ _ _ _ _ _ _ (qcD (okmust_be_listed Y) (dmust_be_listed Y) (q_acons (qv .B 0) (q_acons q_str (q_aint (q_acons (@q_globI _ _ _ _ _ _ _ _ rfl hcMOST_PLACES (by decide)) q_anil))))) (by rfl)) (q_cons (q_setF (i:=2) scmoor.nd rfl (by trivial) (q_cb K_len b_len (by rfl) (bl Y).len_ PySem.boot_len (q_acons (qv .B 0) q_anil)) (by rfl) (by trivial)) (q_cons (q_setF (i:=3) scmoor.nd rfl (by trivial) (qcD (okmade_counts Y) (dmade_counts Y) (q_acons (qv .B 0) (q_acons q_str (q_acons (qv .B 2) q_anil)))) (by rfl) (by trivial)) (q_cons (@q_expr _ _ _ _ _ _ _ _ (qcD (okmust_be_listed Y) (dmust_be_listed Y) (q_acons (qv .B 1) (q_acons q_str (q_aint (q_acons (@q_globI _ _ _ _ _ _ _ _ rfl hcMOST_MOVES (by decide)) q_anil))))) (by rfl)) (q_last (q_frz (q_ret (q_tup (q_acons (qv .V 3) (q_acons (q_FV (q_ct K_tup (b_tup (c:=true)) (by rfl) (bl Y).tuple_ bt_tuple (q_acons (q_FC (q_compn (show CompScope (defScope (top 9)) _ ["begin", "moves", "many", "stand"] ["begin", "moves", "many", "stand", "move"] from by trivial) rfl (q_iSqB (qv .B 1)) (fun _ _ _ _=>(@pg_name _ _ 4 _ (by decide +kernel:(["begin", "moves", "many", "stand", "move"]:List Str).Nodup) rfl (Or.inl rfl) (.inr rfl))) gt_U (gk_name (show 4<=4 by decide)) (fun _ _ _ _=>q_pifN) (fun _ _ _ _=>(q_FV (qcD (okmade_move Y) (dmade_move Y) (q_acons (qv .B 4) (q_acons (qv .B 2) q_anil))))))) q_anil))) q_anil))))))))))
theorem dcovers:Def (hk w) mg "covers" (top 13) ["stand", "other"] 98 (FD "covers" 13 hxM4 97):=dk Y (by kernel_rfl) fun _ _ _ _ _ _=>us2 fun _ _=>rfl
theorem okcovers:FnOk P w (hk w) mg base CX0 1 98 (FD "covers" 13 hxM4 97) ["stand", "other"] (spM (hk w) 2 .F f_covers):=
 okF (dcovers Y) sccovers (.inl rfl) rfl rfl fun hr=>(q_cons (q_for PassesOwn.never rfl (q_zipU (by rfl) (bl Y).zip_ (q_acons (qv .U 0) (q_acons (qv .U 1) q_anil))) (@pg_tupK _ (hk w) _ _ _ _ 2 rfl (pgs_cons (@pg_name _ _ 2 _ sccovers.nd rfl (by trivial) (by trivial)) (pgs_cons (@pg_name _ _ 3 _ sccovers.nd rfl (by trivial) (by trivial)) pgs_nil)) (by rfl) (by rfl) (by rfl)) (gt_tup (.inr rfl) (gts_cons (.inr rfl) gt_U (gts_cons (.inr rfl) gt_U gts_nil))) (q_last (q_if_ (q_tcmp op_lt xLt (qv .B 2) (qv .B 3)) (q_last (q_ret q_bl)) q_nil))) (q_last (q_ret q_bl)))
theorem dable:Def (hk w) mg "able" (top 14) ["stand", "move"] 105 (FD "able" 14 hxM4 104):=dk Y (by kernel_rfl) fun _ _ _ _ _ _=>us2 fun _ _=>rfl
theorem okable:FnOk P w (hk w) mg base CX0 2 105 (FD "able" 14 hxM4 104) ["stand", "move"] (spM (hk w) 2 .F f_able):=
 okF (dable Y) scable (.inl rfl) rfl rfl fun hr=>(q_last (q_ret (qcD (okcovers Y) (dcovers Y) (q_acons (qv .B 0) (q_acons (q_UB (q_ixU (qv .B 1) q_int)) q_anil)))))
theorem dchange:Def (hk w) mg "change" (top 16) ["move"] 115 (FD "change" 16 hxM4 114):=dk Y (by kernel_rfl) fun _ _ _ _ _ _=>us1 fun _=>rfl
theorem okchange:FnOk P w (hk w) mg base CX0 1 115 (FD "change" 16 hxM4 114) ["move"] (spM (hk w) 1 .F f_change):=
 okF (dchange Y) scchange (.inl rfl) rfl rfl fun hr=>(q_last (q_ret (q_ct K_tup (b_tup (c:=true)) (by rfl) (bl Y).tuple_ bt_tuple (q_acons (q_FC (q_compn (show CompScope (defScope (top 16)) _ ["move"] ["move", "take", "put"] from by trivial) rfl (q_zipB (by rfl) (bl Y).zip_ (q_acons (q_UB (q_ixU (qv .B 0) q_int)) (q_acons (q_UB (q_ixU (qv .B 0) q_int)) q_anil))) (fun _ _ _ _=>(@pg_tupK _ (hk w) _ _ _ _ 2 rfl (pgs_cons (@pg_name _ _ 1 _ (by decide +kernel:(["move", "take", "put"]:List Str).Nodup) rfl (Or.inl rfl) (.inr rfl)) (pgs_cons (@pg_name _ _ 2 _ (by decide +kernel:(["move", "take", "put"]:List Str).Nodup) rfl (Or.inl rfl) (.inr rfl)) pgs_nil)) (by rfl) (by rfl) (by rfl))) (gt_tup (.inr rfl) (gts_cons (.inr rfl) gt_U (gts_cons (.inr rfl) gt_U gts_nil))) (gk_tup (gk_cons (show 1<=1 by decide) (gk_cons (show 1<=2 by decide) gk_nil))) (fun _ _ _ _=>q_pifN) (fun _ _ _ _=>(q_op op_sub xSub (qv .B 2) (qv .B 1))))) q_anil))))
theorem dafter:Def (hk w) mg "after" (top 15) ["stand", "move"] 110 (FD "after" 15 hxM4 109):=dk Y (by kernel_rfl) fun _ _ _ _ _ _=>us2 fun _ _=>rfl
theorem okafter:FnOk P w (hk w) mg base CX0 3 110 (FD "after" 15 hxM4 109) ["stand", "move"] (spM (hk w) 2 .F f_after):=
 okF (dafter Y) scafter (.inl rfl) rfl rfl fun hr=>(q_cons (q_if_ (q_tnot (q_val (q_CB (q_FC (qcD (okable Y) (dable Y) (q_acons (qv .B 0) (q_acons (qv .B 1) q_anil))))))) (q_last q_never) q_nil) (q_last (q_ret (q_ct K_tup (b_tup (c:=true)) (by rfl) (bl Y).tuple_ bt_tuple (q_acons (q_FC (q_compn (show CompScope (defScope (top 15)) _ ["stand", "move"] ["stand", "move", "number", "step"] from by trivial) rfl (q_zipB (by rfl) (bl Y).zip_ (q_acons (qv .B 0) (q_acons (q_CB (q_FC (qcD (okchange Y) (dchange Y) (q_acons (qv .B 1) q_anil)))) q_anil))) (fun _ _ _ _=>(@pg_tupK _ (hk w) _ _ _ _ 2 rfl (pgs_cons (@pg_name _ _ 2 _ (by decide +kernel:(["stand", "move", "number", "step"]:List Str).Nodup) rfl (Or.inl rfl) (.inr rfl)) (pgs_cons (@pg_name _ _ 3 _ (by decide +kernel:(["stand", "move", "number", "step"]:List Str).Nodup) rfl (Or.inl rfl) (.inr rfl)) pgs_nil)) (by rfl) (by rfl) (by rfl))) (gt_tup (.inr rfl) (gts_cons (.inr rfl) gt_U (gts_cons (.inr rfl) gt_U gts_nil))) (gk_tup (gk_cons (show 2<=2 by decide) (gk_cons (show 2<=3 by decide) gk_nil))) (fun _ _ _ _=>q_pifN) (fun _ _ _ _=>(q_op op_add xAdd (qv .B 2) (qv .B 3))))) q_anil)))))
theorem dsource:Def (hk w) mg "source" (top 18) ["stand", "move"] 120 (FD "source" 18 hxM2 119):=dk Y (by kernel_rfl) fun _ _ _ _ _ _=>us2 fun _ _=>rfl
theorem oksource:FnOk P w (hk w) mg base CX0 1 120 (FD "source" 18 hxM2 119) ["stand", "move"] (spM (hk w) 2 .F f_source):=
 okF (dsource Y) scsource (.inl rfl) rfl rfl fun hr=>(q_last (q_ret (q_ct K_tup (b_tup (c:=true)) (by rfl) (bl Y).tuple_ bt_tuple (q_acons (q_FC (q_compn (show CompScope (defScope (top 18)) _ ["stand", "move"] ["stand", "move", "number", "take", "put"] from by trivial) rfl (q_zipB (by rfl) (bl Y).zip_ (q_acons (qv .B 0) (q_acons (q_UB (q_ixU (qv .B 1) q_int)) (q_acons (q_UB (q_ixU (qv .B 1) q_int)) q_anil)))) (fun _ _ _ _=>(@pg_tupK _ (hk w) _ _ _ _ 3 rfl (pgs_cons (@pg_name _ _ 2 _ (by decide +kernel:(["stand", "move", "number", "take", "put"]:List Str).Nodup) rfl (Or.inl rfl) (.inr rfl)) (pgs_cons (@pg_name _ _ 3 _ (by decide +kernel:(["stand", "move", "number", "take", "put"]:List Str).Nodup) rfl (Or.inl rfl) (.inr rfl)) (pgs_cons (@pg_name _ _ 4 _ (by decide +kernel:(["stand", "move", "number", "take", "put"]:List Str).Nodup) rfl (Or.inl rfl) (.inr rfl)) pgs_nil))) (by rfl) (by rfl) (by rfl))) (gt_tup (.inr rfl) (gts_cons (.inr rfl) gt_U (gts_cons (.inr rfl) gt_U (gts_cons (.inr rfl) gt_U gts_nil)))) (gk_tup (gk_cons (show 2<=2 by decide) (gk_cons (show 2<=3 by decide) (gk_cons (show 2<=4 by decide) gk_nil)))) (fun _ _ _ _=>q_pifN) (fun _ _ _ _=>(q_cb (call_max2 rfl) (b_2 (g:=gMax)) (by rfl) (bl Y).max_ bt_max (q_acons (qv .B 3) (q_acons (q_op op_add xAdd (q_op op_sub xSub (qv .B 2) (qv .B 4)) (qv .B 3)) q_anil)))))) q_anil))))
theorem dstands_of:Def (hk w) mg "stands_of" (top 20) ["moor", "stand", "row"] 127 (FD "stands_of" 20 hxM5 126):=dk Y (by kernel_rfl) fun _ _ _ _ _ _=>us3 fun _ _ _=>rfl
theorem okstands_of:FnOk P w (hk w) mg base CX0 4 127 (FD "stands_of" 20 hxM5 126) ["moor", "stand", "row"] (spM (hk w) 3 .F f_stands_of):=
 okF (dstands_of Y) scstands_of (.inl rfl) rfl rfl fun hr=>(q_cons (q_setF (i:=3) scstands_of.nd rfl (by trivial) (q_lst (q_acons (qv .V 1) q_anil)) (by rfl) (by trivial)) (q_cons (q_for PassesOwn.never rfl (@q_enuU _ _ _ _ _ _ _ _ _ _ (by rfl) (bl Y).enumerate_ (q_acons (qv .U 2) q_anil) (by rfl) (by rfl)) (@pg_tupK _ (hk w) _ _ _ _ 2 rfl (pgs_cons (@pg_name _ _ 4 _ scstands_of.nd rfl (by trivial) (by trivial)) (pgs_cons (@pg_name _ _ 5 _ scstands_of.nd rfl (by trivial) (by trivial)) pgs_nil)) (by rfl) (by rfl) (by rfl)) (gt_tup (.inr rfl) (gts_cons (.inr rfl) gt_U (gts_cons (.inr rfl) gt_U gts_nil))) (q_cons (@q_setU _ _ _ _ _ _ _ 6 _ _ scstands_of.nd rfl (by trivial) (q_ixU (q_UB (q_ixU (qv .B 0) q_int)) (qv .B 5)) (by rfl) (by trivial)) (q_cons (q_if_ (q_tnot (q_val (q_CB (q_FC (qcD (okable Y) (dable Y) (q_acons (q_UB (q_ixU (qv .B 3) (q_un un_neg (o1_U (g:=gNeg) (fun _=>rfl) (fun _ _=>.int)) q_int))) (q_acons (qv .B 6) q_anil))))))) (q_last q_never) q_nil) (q_last (@q_app _ _ _ _ _ _ _ 3 _ _ _ _ rfl (by trivial) (q_FV (qcD (okafter Y) (dafter Y) (q_acons (q_UB (q_ixU (qv .B 3) (q_un un_neg (o1_U (g:=gNeg) (fun _=>rfl) (fun _ _=>.int)) q_int))) (q_acons (qv .B 6) q_anil)))) (by decide) (by decide) (by rfl) (by rfl) (by rfl) (by rfl) (by rfl)))))) (q_last (@q_retv _ _ _ _ _ 3 _ _ (.inl rfl) (by rfl) (by trivial) (by decide) (by decide)))))
theorem dnoughts:Def (hk w) mg "noughts" (top 26) ["moor"] 167 (FD "noughts" 26 hxM5 166):=dk Y (by kernel_rfl) fun _ _ _ _ _ _=>us1 fun _=>rfl
theorem oknoughts:FnOk P w (hk w) mg base CX0 1 167 (FD "noughts" 26 hxM5 166) ["moor"] (spM (hk w) 1 .F f_noughts):=
 okF (dnoughts Y) scnoughts (.inl rfl) rfl rfl fun hr=>(q_last (q_ret (q_op op_repT o2_repT (q_FC (q_tup (q_aint q_anil))) (q_cb K_len b_len (by rfl) (bl Y).len_ PySem.boot_len (q_acons (q_UB (q_ixU (qv .B 0) q_int)) q_anil)))))
theorem dhurdle:Def (hk w) mg "hurdle" (top 21) ["moor", "row"] 134 (FD "hurdle" 21 hxM5 133):=dk Y (by kernel_rfl) fun _ _ _ _ _ _=>us2 fun _ _=>rfl
theorem okhurdle:FnOk P w (hk w) mg base CX0 2 134 (FD "hurdle" 21 hxM5 133) ["moor", "row"] (spM (hk w) 2 .F f_hurdle):=
 okF (dhurdle Y) schurdle (.inl rfl) rfl rfl fun hr=>(q_cons (q_setF (i:=2) schurdle.nd rfl (by trivial) (qcD (oknoughts Y) (dnoughts Y) (q_acons (qv .B 0) q_anil)) (by rfl) (by trivial)) (q_cons (q_for PassesOwn.never rfl (@q_rvU _ _ _ _ _ _ _ _ (by rfl) (bl Y).reversed_ (q_acons (qv .U 1) q_anil) (by rfl) (by rfl)) (@pg_name _ _ 3 _ schurdle.nd rfl (by trivial) (by trivial)) gt_U (q_last (q_setF (i:=2) schurdle.nd rfl (by trivial) (qcD (oksource Y) (dsource Y) (q_acons (qv .B 2) (q_acons (q_UB (q_ixU (q_UB (q_ixU (qv .B 0) q_int)) (qv .B 3))) q_anil))) (by rfl) (by trivial)))) (q_last (@q_retv _ _ _ _ _ 2 _ _ (.inl rfl) (by rfl) (by trivial) (by decide) (by decide)))))
theorem dshifted:Def (hk w) mg "shifted" (top 25) ["stand", "step", "times"] 160 (FD "shifted" 25 hxM5 159):=dk Y (by kernel_rfl) fun _ _ _ _ _ _=>us3 fun _ _ _=>rfl
theorem okshifted:FnOk P w (hk w) mg base CX0 1 160 (FD "shifted" 25 hxM5 159) ["stand", "step", "times"] (spM (hk w) 3 .F f_shifted):=
 okF (dshifted Y) scshifted (.inl rfl) rfl rfl fun hr=>(q_last (q_ret (q_ct K_tup (b_tup (c:=true)) (by rfl) (bl Y).tuple_ bt_tuple (q_acons (q_FC (q_compn (show CompScope (defScope (top 25)) _ ["stand", "step", "times"] ["stand", "step", "times", "number", "by"] from by trivial) rfl (q_zipB (by rfl) (bl Y).zip_ (q_acons (qv .B 0) (q_acons (qv .B 1) q_anil))) (fun _ _ _ _=>(@pg_tupK _ (hk w) _ _ _ _ 2 rfl (pgs_cons (@pg_name _ _ 3 _ (by decide +kernel:(["stand", "step", "times", "number", "by"]:List Str).Nodup) rfl (Or.inl rfl) (.inr rfl)) (pgs_cons (@pg_name _ _ 4 _ (by decide +kernel:(["stand", "step", "times", "number", "by"]:List Str).Nodup) rfl (Or.inl rfl) (.inr rfl)) pgs_nil)) (by rfl) (by rfl) (by rfl))) (gt_tup (.inr rfl) (gts_cons (.inr rfl) gt_U (gts_cons (.inr rfl) gt_U gts_nil))) (gk_tup (gk_cons (show 3<=3 by decide) (gk_cons (show 3<=4 by decide) gk_nil))) (fun _ _ _ _=>q_pifN) (fun _ _ _ _=>(q_op op_add xAdd (qv .B 3) (q_op op_mulB (o2_I (C:=CMulB) (g:=gMul) (fun _ _=>rfl) (fun _ _ _=>.int)) (qv .B 2) (qv .B 4)))))) q_anil))))
theorem dsum_of:Def (hk w) mg "sum_of" (top 22) ["moor", "row"] 141 (FD "sum_of" 22 hxM5 140):=dk Y (by kernel_rfl) fun _ _ _ _ _ _=>us2 fun _ _=>rfl
theorem oksum_of:FnOk P w (hk w) mg base CX0 2 141 (FD "sum_of" 22 hxM5 140) ["moor", "row"] (spM (hk w) 2 .F f_sum_of):=
 okF (dsum_of Y) scsum_of (.inl rfl) rfl rfl fun hr=>(q_cons (q_setF (i:=2) scsum_of.nd rfl (by trivial) (qcD (oknoughts Y) (dnoughts Y) (q_acons (qv .B 0) q_anil)) (by rfl) (by trivial)) (q_cons (q_for PassesOwn.never rfl (q_iSqU (qv .U 1)) (@pg_name _ _ 3 _ scsum_of.nd rfl (by trivial) (by trivial)) gt_U (q_last (q_setF (i:=2) scsum_of.nd rfl (by trivial) (qcD (okshifted Y) (dshifted Y) (q_acons (qv .B 2) (q_acons (q_CB (q_FC (qcD (okchange Y) (dchange Y) (q_acons (q_UB (q_ixU (q_UB (q_ixU (qv .B 0) q_int)) (qv .B 3))) q_anil)))) (q_aint q_anil)))) (by rfl) (by trivial)))) (q_last (@q_retv _ _ _ _ _ 2 _ _ (.inl rfl) (by rfl) (by trivial) (by decide) (by decide)))))
theorem dgoes:Def (hk w) mg "goes" (top 24) ["moor", "stand", "row", "times"] 155 (FD "goes" 24 hxM5 154):=dk Y (by kernel_rfl) fun _ _ _ _ _ _=>us4 fun _ _ _ _=>rfl
theorem okgoes:FnOk P w (hk w) mg base CX0 3 155 (FD "goes" 24 hxM5 154) ["moor", "stand", "row", "times"] (spM (hk w) 4 .F f_goes):=
 okF (dgoes Y) scgoes (.inl rfl) rfl rfl fun hr=>(q_cons (q_if_ (q_tcmp op_eq o2_eqS (qv .B 3) q_int) (q_last (q_ret q_bl)) q_nil) (q_cons (q_setF (i:=4) scgoes.nd rfl (by trivial) (qcD (okhurdle Y) (dhurdle Y) (q_acons (qv .B 0) (q_acons (qv .B 2) q_anil))) (by rfl) (by trivial)) (q_cons (q_setF (i:=5) scgoes.nd rfl (by trivial) (qcD (okshifted Y) (dshifted Y) (q_acons (qv .B 1) (q_acons (q_CB (q_FC (qcD (oksum_of Y) (dsum_of Y) (q_acons (qv .B 0) (q_acons (qv .B 2) q_anil))))) (q_acons (q_op op_sub xSub (qv .B 3) q_int) q_anil)))) (by rfl) (by trivial)) (q_last (q_ret (q_and (q_CB (q_FC (qcD (okcovers Y) (dcovers Y) (q_acons (qv .B 1) (q_acons (qv .B 4) q_anil))))) (q_one (qcD (okcovers Y) (dcovers Y) (q_acons (qv .B 5) (q_acons (qv .B 4) q_anil))))))))))
theorem dstride:Def (hk w) mg "stride" (top 23) ["moor", "stand", "blocks"] 148 (FD "stride" 23 hxM5 147):=dk Y (by kernel_rfl) fun _ _ _ _ _ _=>us3 fun _ _ _=>rfl
theorem okstride:FnOk P w (hk w) mg base CX0 4 148 (FD "stride" 23 hxM5 147) ["moor", "stand", "blocks"] (spM (hk w) 3 .F f_stride):=
 okF (dstride Y) scstride (.inl rfl) rfl rfl fun hr=>(q_cons (q_setV (i:=3) scstride.nd rfl (by trivial) (qv .V 1) (by rfl) (by trivial)) (q_cons (q_for PassesOwn.never rfl (@q_enuU _ _ _ _ _ _ _ _ _ _ (by rfl) (bl Y).enumerate_ (q_acons (qv .U 2) q_anil) (by rfl) (by rfl)) (@pg_tupK _ (hk w) _ _ _ _ 2 rfl (pgs_cons (@pg_name _ _ 4 _ scstride.nd rfl (by trivial) (by trivial)) (pgs_cons (@pg_name _ _ 5 _ scstride.nd rfl (by trivial) (by trivial)) pgs_nil)) (by rfl) (by rfl) (by rfl)) (gt_tup (.inr rfl) (gts_cons (.inr rfl) gt_U (gts_cons (.inr rfl) gt_U gts_nil))) (q_cons (@q_setU _ _ _ _ _ _ _ 6 _ _ scstride.nd rfl (by trivial) (q_ixU (qv .B 5) q_int) (by rfl) (by trivial)) (q_cons (@q_setU _ _ _ _ _ _ _ 7 _ _ scstride.nd rfl (by trivial) (q_ixU (qv .B 5) q_int) (by rfl) (by trivial)) (q_cons (q_if_ (q_tnot (q_val (q_CB (q_FC (qcD (okgoes Y) (dgoes Y) (q_acons (qv .B 0) (q_acons (qv .B 3) (q_acons (qv .B 6) (q_acons (qv .B 7) q_anil))))))))) (q_last q_never) q_nil) (q_last (q_setF (i:=3) scstride.nd rfl (by trivial) (qcD (okshifted Y) (dshifted Y) (q_acons (qv .B 3) (q_acons (q_CB (q_FC (qcD (oksum_of Y) (dsum_of Y) (q_acons (qv .B 0) (q_acons (qv .B 6) q_anil))))) (q_acons (qv .B 7) q_anil)))) (by rfl) (by trivial))))))) (q_last (@q_retv _ _ _ _ _ 3 _ _ (.inl rfl) (by rfl) (by trivial) (by decide) (by decide)))))
theorem dweigh:Def (hk w) mg "weigh" (top 28) ["weights", "counts"] 172 (FD "weigh" 28 hxM6 171):=dk Y (by kernel_rfl) fun _ _ _ _ _ _=>us2 fun _ _=>rfl
theorem okweigh:FnOk P w (hk w) mg base CX0 1 172 (FD "weigh" 28 hxM6 171) ["weights", "counts"] (spM (hk w) 2 .F f_weigh):=
 okF (dweigh Y) scweigh (.inl rfl) rfl rfl fun hr=>(q_last (q_ret (q_cb (call_sumL rfl) (b_ints (g:=gSum)) (by rfl) (bl Y).sum_ bt_sum (q_acons (q_CB (q_FC (q_compn (show CompScope (defScope (top 28)) _ ["weights", "counts"] ["weights", "counts", "weight", "number"] from by trivial) rfl (q_zipB (by rfl) (bl Y).zip_ (q_acons (qv .B 0) (q_acons (qv .B 1) q_anil))) (fun _ _ _ _=>(@pg_tupK _ (hk w) _ _ _ _ 2 rfl (pgs_cons (@pg_name _ _ 2 _ (by decide +kernel:(["weights", "counts", "weight", "number"]:List Str).Nodup) rfl (Or.inl rfl) (.inr rfl)) (pgs_cons (@pg_name _ _ 3 _ (by decide +kernel:(["weights", "counts", "weight", "number"]:List Str).Nodup) rfl (Or.inl rfl) (.inr rfl)) pgs_nil)) (by rfl) (by rfl) (by rfl))) (gt_tup (.inr rfl) (gts_cons (.inr rfl) gt_U (gts_cons (.inr rfl) gt_U gts_nil))) (gk_tup (gk_cons (show 2<=2 by decide) (gk_cons (show 2<=3 by decide) gk_nil))) (fun _ _ _ _=>q_pifN) (fun _ _ _ _=>(q_op op_mulB (o2_I (C:=CMulB) (g:=gMul) (fun _ _=>rfl) (fun _ _ _=>.int)) (qv .B 2) (qv .B 3)))))) q_anil))))
theorem dweighed_changes:Def (hk w) mg "weighed_changes" (top 29) ["moves", "weights"] 177 (FD "weighed_changes" 29 hxM6 176):=dk Y (by kernel_rfl) fun _ _ _ _ _ _=>us2 fun _ _=>rfl
theorem okweighed_changes:FnOk P w (hk w) mg base CX0 2 177 (FD "weighed_changes" 29 hxM6 176) ["moves", "weights"] (spM (hk w) 2 .F f_weighed_changes):=
 okF (dweighed_changes Y) scweighed_changes (.inl rfl) rfl rfl fun hr=>(q_last (q_ret (q_compn (show CompScope (defScope (top 29)) _ ["moves", "weights"] ["moves", "weights", "move"] from by trivial) rfl (q_iSqB (qv .B 0)) (fun _ _ _ _=>(@pg_name _ _ 2 _ (by decide +kernel:(["moves", "weights", "move"]:List Str).Nodup) rfl (Or.inl rfl) (.inr rfl))) gt_U (gk_name (show 2<=2 by decide)) (fun _ _ _ _=>q_pifN) (fun _ _ _ _=>(q_FV (qcD (okweigh Y) (dweigh Y) (q_acons (qv .B 1) (q_acons (q_CB (q_FC (qcD (okchange Y) (dchange Y) (q_acons (qv .B 2) q_anil)))) q_anil))))))))
theorem dis_falling:Def (hk w) mg "is_falling" (top 30) ["moves", "weights"] 182 (FD "is_falling" 30 hxM6 181):=dk Y (by kernel_rfl) fun _ _ _ _ _ _=>us2 fun _ _=>rfl
theorem okis_falling:FnOk P w (hk w) mg base CX0 3 182 (FD "is_falling" 30 hxM6 181) ["moves", "weights"] (spM (hk w) 2 .F f_is_falling):=
 okF (dis_falling Y) scis_falling (.inl rfl) rfl rfl fun hr=>(q_last (q_ret (q_and (q_cb (call_allL rfl) (b_bools (g:=gAll)) (by rfl) (bl Y).all_ bt_all (q_acons (q_CB (q_FC (q_compn (show CompScope (defScope (top 30)) _ ["moves", "weights"] ["moves", "weights", "weight"] from by trivial) rfl (q_iSqB (qv .B 1)) (fun _ _ _ _=>(@pg_name _ _ 2 _ (by decide +kernel:(["moves", "weights", "weight"]:List Str).Nodup) rfl (Or.inl rfl) (.inr rfl))) gt_U (gk_name (show 2<=2 by decide)) (fun _ _ _ _=>q_pifN) (fun _ _ _ _=>(q_cmp op_ge xGe (qv .B 2) q_int))))) q_anil)) (q_one (q_cb (call_allL rfl) (b_bools (g:=gAll)) (by rfl) (bl Y).all_ bt_all (q_acons (q_CB (q_FC (q_compn (show CompScope (defScope (top 30)) _ ["moves", "weights"] ["moves", "weights", "moved"] from by trivial) rfl (q_iSqB (q_CB (q_FC (qcD (okweighed_changes Y) (dweighed_changes Y) (q_acons (qv .B 0) (q_acons (qv .B 1) q_anil)))))) (fun _ _ _ _=>(@pg_name _ _ 2 _ (by decide +kernel:(["moves", "weights", "moved"]:List Str).Nodup) rfl (Or.inl rfl) (.inr rfl))) gt_U (gk_name (show 2<=2 by decide)) (fun _ _ _ _=>q_pifN) (fun _ _ _ _=>(q_cmp op_le xLe (qv .B 2) q_int))))) q_anil))))))
theorem dunit:Def (hk w) mg "unit" (top 32) ["place", "many"] 187 (FD "unit" 32 hxM1 186):=dk Y (by kernel_rfl) fun _ _ _ _ _ _=>us2 fun _ _=>rfl
theorem okunit:FnOk P w (hk w) mg base CX0 1 187 (FD "unit" 32 hxM1 186) ["place", "many"] (spM (hk w) 2 .F f_unit):=
 okF (dunit Y) scunit (.inl rfl) rfl rfl fun hr=>(q_last (q_ret (q_ct K_tup (b_tup (c:=true)) (by rfl) (bl Y).tuple_ bt_tuple (q_acons (q_FC (q_compn (show CompScope (defScope (top 32)) _ ["place", "many"] ["place", "many", "at"] from by trivial) rfl (q_rng1 (by rfl) (bl Y).range_ (q_acons (qv .B 1) q_anil)) (fun _ _ _ _=>(@pg_name _ _ 2 _ (by decide +kernel:(["place", "many", "at"]:List Str).Nodup) rfl (Or.inl rfl) (.inr rfl))) gt_U (gk_name (show 2<=2 by decide)) (fun _ _ _ _=>q_pifN) (fun _ _ _ _=>(q_if (q_tcmp (op_eqD (hu64 hr)) (o2_eqD (neg:=false)) (qv .B 2) (qv .B 0)) q_int q_int)))) q_anil))))
theorem dfirst_table:Def (hk w) mg "first_table" (top 35) ["moves", "place", "many"] 197 (FD "first_table" 35 hxM3 196):=dk Y (by kernel_rfl) fun _ _ _ _ _ _=>us3 fun _ _ _=>rfl
theorem okfirst_table:FnOk P w (hk w) mg base CX0 2 197 (FD "first_table" 35 hxM3 196) ["moves", "place", "many"] (spM (hk w) 3 .F f_first_table):=
 okF (dfirst_table Y) scfirst_table (.inl rfl) rfl rfl fun hr=>(q_cons (q_setF (i:=3) scfirst_table.nd rfl (by trivial) (q_compn (show CompScope (defScope (top 35)) _ ["moves", "place", "many", "steps", "table"] ["moves", "place", "many", "steps", "table", "move"] from by trivial) rfl (q_iSqB (qv .B 0)) (fun _ _ _ _=>(@pg_name _ _ 5 _ (by decide +kernel:(["moves", "place", "many", "steps", "table", "move"]:List Str).Nodup) rfl (Or.inl rfl) (.inr rfl))) gt_U (gk_name (show 5<=5 by decide)) (fun _ _ _ _=>q_pifN) (fun _ _ _ _=>(q_FV (qcD (okchange Y) (dchange Y) (q_acons (qv .B 5) q_anil))))) (by rfl) (by trivial)) (q_cons (q_setcCn (i:=4) (show CompScopeC (defScope (top 35)) _ ["moves", "place", "many", "steps", "table"] ["moves", "place", "many", "steps", "table", "at"] "at" from ⟨rfl,⟨fun _ _=>rfl,fun _=>rfl⟩,by decide +kernel,by rfl,by decide +kernel,by decide +kernel,by decide +kernel,by decide,by decide +kernel,by decide +kernel⟩) rfl (q_rng1 (by rfl) (bl Y).range_ (q_acons (qv .B 2) q_anil)) (fun _ _ _ _=>(@pg_name _ _ 5 _ (by decide +kernel:(["moves", "place", "many", "steps", "table", "at"]:List Str).Nodup) rfl (Or.inr rfl) (.inl (by first | rfl | exact beq_self_eq_true _)))) gt_U (gk_name (show 5<=5 by decide)) (fun _ _ _ _=>q_pifN) (fun _ _ _ _=>(q_FV (q_op op_cat3 o2_catT (q_CB (q_FC (q_ct K_tup (b_tup (c:=true)) (by rfl) (bl Y).tuple_ bt_tuple (q_acons (q_FC (q_compn (by exact compNestC ⟨rfl,by decide +kernel,by decide +kernel,by decide +kernel,by decide +kernel,by decide,by decide +kernel,by decide +kernel⟩) rfl (q_iSqB (qv .B 3)) (fun _ _ _ _=>(@pg_name _ _ 6 _ (by decide +kernel:(["moves", "place", "many", "steps", "table", "at", "step"]:List Str).Nodup) rfl (Or.inl rfl) (.inr rfl))) gt_U (gk_name (show 6<=6 by decide)) (fun _ _ _ _=>q_pifN) (fun _ _ _ _=>(q_un un_neg (o1_U (g:=gNeg) (fun _=>rfl) (fun _ _=>.int)) (q_UB (q_ixU (qv .B 6) (qv .B 5))))))) q_anil)))) (q_CB (q_FC (qcD (okunit Y) (dunit Y) (q_acons (qv .B 5) (q_acons (qv .B 2) q_anil)))))))) scfirst_table.nd rfl (by trivial)) (q_cons (@q_app _ _ _ _ _ _ _ 4 _ _ _ _ rfl (by trivial) (q_FV (q_op op_cat3 o2_catT (q_CB (q_FC (q_ct K_tup (b_tup (c:=true)) (by rfl) (bl Y).tuple_ bt_tuple (q_acons (q_FC (q_compn (show CompScope (defScope (top 35)) _ ["moves", "place", "many", "steps", "table"] ["moves", "place", "many", "steps", "table", "step"] from by trivial) rfl (q_iSqB (qv .B 3)) (fun _ _ _ _=>(@pg_name _ _ 5 _ (by decide +kernel:(["moves", "place", "many", "steps", "table", "step"]:List Str).Nodup) rfl (Or.inl rfl) (.inr rfl))) gt_U (gk_name (show 5<=5 by decide)) (fun _ _ _ _=>q_pifN) (fun _ _ _ _=>(q_chkV (q_ixU (qv .B 5) (qv .B 1)))))) q_anil)))) (q_CB (q_FC (q_op op_repT o2_repT (q_FC (q_tup (q_aint q_anil))) (qv .C 2)))))) (by decide) (by decide) (by rfl) (by rfl) (by rfl) (by rfl) (by rfl)) (q_last (@q_retv _ _ _ _ _ 4 _ _ (.inl rfl) (by rfl) (by trivial) (by decide) (by decide))))))
theorem dcoming:Def (hk w) mg "coming" (top 36) ["table"] 204 (FD "coming" 36 hxM3 203):=dk Y (by kernel_rfl) fun _ _ _ _ _ _=>us1 fun _=>rfl
theorem okcoming:FnOk P w (hk w) mg base CX0 1 204 (FD "coming" 36 hxM3 203) ["table"] (spM (hk w) 1 .F f_coming):=
 okF (dcoming Y) sccoming (.inl rfl) rfl rfl fun hr=>(q_cons (q_for PassesOwn.never rfl (@q_enuU _ _ _ _ _ _ _ _ _ _ (by rfl) (bl Y).enumerate_ (q_acons (q_ixU (qv .B 0) (q_un un_neg (o1_U (g:=gNeg) (fun _=>rfl) (fun _ _=>.int)) q_int)) q_anil) (by rfl) (by rfl)) (@pg_tupK _ (hk w) _ _ _ _ 2 rfl (pgs_cons (@pg_name _ _ 1 _ sccoming.nd rfl (by trivial) (by trivial)) (pgs_cons (@pg_name _ _ 2 _ sccoming.nd rfl (by trivial) (by trivial)) pgs_nil)) (by rfl) (by rfl) (by rfl)) (gt_tup (.inr rfl) (gts_cons (.inr rfl) gt_U (gts_cons (.inr rfl) gt_U gts_nil))) (q_last (q_if_ (q_tcmp op_gt xGt (qv .B 2) q_int) (q_last (@q_retv _ _ _ _ _ 1 _ _ (.inl rfl) (by rfl) (by trivial) (by decide) (by decide))) q_nil))) (q_last (q_ret q_non)))
theorem dleaving:Def (hk w) mg "leaving" (top 37) ["table", "held", "column"] 209 (FD "leaving" 37 hxM3 208):=dk Y (by kernel_rfl) fun _ _ _ _ _ _=>us3 fun _ _ _=>rfl
theorem okleaving:FnOk P w (hk w) mg base CX0 3 209 (FD "leaving" 37 hxM3 208) ["table", "held", "column"] (spM (hk w) 3 .F f_leaving):=
 okL (dleaving Y) scleaving (.inl rfl) rfl rfl fun hr=>(q_cons (q_setcn (i:=3) (show CompScope (defScope (top 37)) _ ["table", "held", "column", "lines"] ["table", "held", "column", "lines", "line"] from by trivial) rfl (q_rng1 (by rfl) (bl Y).range_ (q_acons (q_cb K_len b_len (by rfl) (bl Y).len_ PySem.boot_len (q_acons (qv .B 1) q_anil)) q_anil)) (fun _ _ _ _=>(@pg_name _ _ 4 _ (by decide +kernel:(["table", "held", "column", "lines", "line"]:List Str).Nodup) rfl (Or.inl rfl) (.inr rfl))) gt_U (gk_name (show 4<=4 by decide)) (fun _ _ _ _=>(q_pif1 (q_tcmp op_gt xGt (q_UB (q_ixU (q_UB (q_ixU (qv .B 0) (qv .B 4))) (qv .B 2))) q_int))) (fun _ _ _ _=>(qv .V 4)) scleaving.nd rfl (by trivial)) (q_last (q_ret (@q_minL _ _ _ _ 208 _ _ _ _ _ _ _ _ _ _ _ _ _ 1 _ lamIn (by kernel_rfl) (by rfl) (by rfl) (by rfl) (by rfl) (by rfl) (by rfl) rfl _ (by exact hr) (by rfl) (bl Y).min_ (q_acons (qv .B 3) q_anil) (by rfl) (by rfl) (by rfl) (by rfl) (by rfl) (by rfl)))))
theorem dcleared:Def (hk w) mg "cleared" (top 39) ["row", "by", "column", "scale"] 219 (FD "cleared" 39 hxM3 218):=dk Y (by kernel_rfl) fun _ _ _ _ _ _=>us4 fun _ _ _ _=>rfl
theorem okcleared:FnOk P w (hk w) mg base CX0 1 219 (FD "cleared" 39 hxM3 218) ["row", "by", "column", "scale"] (spM (hk w) 4 .F f_cleared):=
 okF (dcleared Y) sccleared (.inl rfl) rfl rfl fun hr=>(q_last (q_ret (q_ct K_tup (b_tup (c:=true)) (by rfl) (bl Y).tuple_ bt_tuple (q_acons (q_FC (q_compn (show CompScope (defScope (top 39)) _ ["row", "by", "column", "scale"] ["row", "by", "column", "scale", "number", "mate"] from by trivial) rfl (q_zipB (by rfl) (bl Y).zip_ (q_acons (qv .B 0) (q_acons (qv .B 1) q_anil))) (fun _ _ _ _=>(@pg_tupK _ (hk w) _ _ _ _ 2 rfl (pgs_cons (@pg_name _ _ 4 _ (by decide +kernel:(["row", "by", "column", "scale", "number", "mate"]:List Str).Nodup) rfl (Or.inl rfl) (.inr rfl)) (pgs_cons (@pg_name _ _ 5 _ (by decide +kernel:(["row", "by", "column", "scale", "number", "mate"]:List Str).Nodup) rfl (Or.inl rfl) (.inr rfl)) pgs_nil)) (by rfl) (by rfl) (by rfl))) (gt_tup (.inr rfl) (gts_cons (.inr rfl) gt_U (gts_cons (.inr rfl) gt_U gts_nil))) (gk_tup (gk_cons (show 4<=4 by decide) (gk_cons (show 4<=5 by decide) gk_nil))) (fun _ _ _ _=>q_pifN) (fun _ _ _ _=>(q_op op_fdivL (o2_I (C:=CDivL) (g:=gDiv) (fun _ _=>rfl) (fun _ _ _=>.int)) (q_op op_sub xSub (q_op op_mulB (o2_I (C:=CMulB) (g:=gMul) (fun _ _=>rfl) (fun _ _ _=>.int)) (qv .B 4) (q_UB (q_ixU (qv .B 1) (qv .B 2)))) (q_op op_mulB (o2_I (C:=CMulB) (g:=gMul) (fun _ _=>rfl) (fun _ _ _=>.int)) (q_UB (q_ixU (qv .B 0) (qv .B 2))) (qv .B 5))) (qv .B 3))))) q_anil))))
theorem dpivoted:Def (hk w) mg "pivoted" (top 38) ["table", "line", "column", "scale"] 214 (FD "pivoted" 38 hxM3 213):=dk Y (by kernel_rfl) fun _ _ _ _ _ _=>us4 fun _ _ _ _=>rfl
theorem okpivoted:FnOk P w (hk w) mg base CX0 2 214 (FD "pivoted" 38 hxM3 213) ["table", "line", "column", "scale"] (spM (hk w) 4 .F f_pivoted):=
 okF (dpivoted Y) scpivoted (.inl rfl) rfl rfl fun hr=>(q_cons (@q_setU _ _ _ _ _ _ _ 4 _ _ scpivoted.nd rfl (by trivial) (q_ixU (qv .B 0) (qv .B 1)) (by rfl) (by trivial)) (q_last (q_ret (q_compn (show CompScope (defScope (top 38)) _ ["table", "line", "column", "scale", "by"] ["table", "line", "column", "scale", "by", "at", "row"] from by trivial) rfl (@q_enuB _ _ _ _ _ _ _ _ _ _ (by rfl) (bl Y).enumerate_ (q_acons (qv .B 0) q_anil) (by rfl) (by rfl)) (fun _ _ _ _=>(@pg_tupK _ (hk w) _ _ _ _ 2 rfl (pgs_cons (@pg_name _ _ 5 _ (by decide +kernel:(["table", "line", "column", "scale", "by", "at", "row"]:List Str).Nodup) rfl (Or.inl rfl) (.inr rfl)) (pgs_cons (@pg_name _ _ 6 _ (by decide +kernel:(["table", "line", "column", "scale", "by", "at", "row"]:List Str).Nodup) rfl (Or.inl rfl) (.inr rfl)) pgs_nil)) (by rfl) (by rfl) (by rfl))) (gt_tup (.inr rfl) (gts_cons (.inr rfl) gt_U (gts_cons (.inr rfl) gt_U gts_nil))) (gk_tup (gk_cons (show 5<=5 by decide) (gk_cons (show 5<=6 by decide) gk_nil))) (fun _ _ _ _=>q_pifN) (fun _ _ _ _=>(q_if (q_tcmp (op_eqD (hu64 hr)) (o2_eqD (neg:=false)) (qv .B 5) (qv .B 1)) (qv .V 6) (q_FV (qcD (okcleared Y) (dcleared Y) (q_acons (qv .B 6) (q_acons (qv .B 4) (q_acons (qv .B 2) (q_acons (qv .B 3) q_anil))))))))))))
theorem dgreatest_divisor:Def (hk w) mg "greatest_divisor" (top 43) ["one", "other"] 243 (FD "greatest_divisor" 43 hxM3 242):=dk Y (by kernel_rfl) fun _ _ _ _ _ _=>us2 fun _ _=>rfl
theorem okgreatest_divisor:FnOk P w (hk w) mg base CX0 1 243 (FD "greatest_divisor" 43 hxM3 242) ["one", "other"] (spM (hk w) 2 .F f_greatest_divisor):=
 okF (dgreatest_divisor Y) scgreatest_divisor (.inl rfl) rfl rfl fun hr=>(q_cons (q_while PassesOwn.never (q_tcmp op_ne o2_neS (qv .B 1) q_int) (q_cons (q_setV (i:=2) scgreatest_divisor.nd rfl (by trivial) (q_op op_mod (o2_I (C:=cMod) (g:=gMod) (fun _ _=>rfl) (fun _ _ _=>.int)) (qv .B 0) (qv .B 1)) (by rfl) (by trivial)) (q_cons (q_setV (i:=0) scgreatest_divisor.nd rfl (by trivial) (qv .V 1) (by rfl) (by trivial)) (q_last (q_setV (i:=1) scgreatest_divisor.nd rfl (by trivial) (qv .V 2) (by rfl) (by trivial)))))) (q_last (@q_retv _ _ _ _ _ 0 _ _ (.inl rfl) (by rfl) (by trivial) (by decide) (by decide))))
theorem din_least_numbers:Def (hk w) mg "in_least_numbers" (top 42) ["numbers"] 236 (FD "in_least_numbers" 42 hxM3 235):=dk Y (by kernel_rfl) fun _ _ _ _ _ _=>us1 fun _=>rfl
theorem okin_least_numbers:FnOk P w (hk w) mg base CX0 2 236 (FD "in_least_numbers" 42 hxM3 235) ["numbers"] (spM (hk w) 1 .F f_in_least_numbers):=
 okF (din_least_numbers Y) scin_least_numbers (.inl rfl) rfl rfl fun hr=>(q_cons (q_setV (i:=1) scin_least_numbers.nd rfl (by trivial) q_int (by rfl) (by trivial)) (q_cons (q_for PassesOwn.never rfl (q_iSqU (qv .U 0)) (@pg_name _ _ 2 _ scin_least_numbers.nd rfl (by trivial) (by trivial)) gt_U (q_last (q_setF (i:=1) scin_least_numbers.nd rfl (by trivial) (qcD (okgreatest_divisor Y) (dgreatest_divisor Y) (q_acons (qv .B 1) (q_acons (qv .B 2) q_anil))) (by rfl) (by trivial)))) (q_last (q_ret (q_ct K_tup (b_tup (c:=true)) (by rfl) (bl Y).tuple_ bt_tuple (q_acons (q_FC (q_compn (show CompScope (defScope (top 42)) _ ["numbers", "shared", "number"] ["numbers", "shared", "#number", "number"] from by trivial) rfl (q_iSqB (qv .B 0)) (fun _ _ _ _=>(@pg_name _ _ 3 _ (by decide +kernel:(["numbers", "shared", "#number", "number"]:List Str).Nodup) rfl (Or.inl rfl) (.inr rfl))) gt_U (gk_name (show 3<=3 by decide)) (fun _ _ _ _=>q_pifN) (fun _ _ _ _=>(q_op op_fdivL (o2_I (C:=CDivL) (g:=gDiv) (fun _ _=>rfl) (fun _ _ _=>.int)) (qv .B 3) (qv .B 1))))) q_anil))))))
theorem dweights_of:Def (hk w) mg "weights_of" (top 41) ["table", "place", "scale", "many_moves"] 231 (FD "weights_of" 41 hxM3 230):=dk Y (by kernel_rfl) fun _ _ _ _ _ _=>us4 fun _ _ _ _=>rfl
theorem okweights_of:FnOk P w (hk w) mg base CX0 3 231 (FD "weights_of" 41 hxM3 230) ["table", "place", "scale", "many_moves"] (spM (hk w) 4 .F f_weights_of):=
 okF (dweights_of Y) scweights_of (.inl rfl) rfl rfl fun hr=>(q_cons (q_setcn (i:=4) (show CompScope (defScope (top 41)) _ ["table", "place", "scale", "many_moves", "losses"] ["table", "place", "scale", "many_moves", "losses", "gain"] from by trivial) rfl (q_iSqB (q_CB (q_FC (@q_slT _ _ _ _ _ _ _ _ _ _ _ (q_UB (q_ixU (qv .B 0) (q_un un_neg (o1_U (g:=gNeg) (fun _=>rfl) (fun _ _=>.int)) q_int))) (q_pS (qv .B 3)) q_pN (by rfl))))) (fun _ _ _ _=>(@pg_name _ _ 5 _ (by decide +kernel:(["table", "place", "scale", "many_moves", "losses", "gain"]:List Str).Nodup) rfl (Or.inl rfl) (.inr rfl))) gt_U (gk_name (show 5<=5 by decide)) (fun _ _ _ _=>q_pifN) (fun _ _ _ _=>(q_un un_neg (o1_U (g:=gNeg) (fun _=>rfl) (fun _ _=>.int)) (qv .B 5))) scweights_of.nd rfl (by trivial)) (q_last (q_ret (qcD (okin_least_numbers Y) (din_least_numbers Y) (q_acons (q_CB (q_FC (qcD (okshifted Y) (dshifted Y) (q_acons (qv .B 4) (q_acons (q_CB (q_FC (qcD (okunit Y) (dunit Y) (q_acons (qv .B 1) (q_acons (q_cb K_len b_len (by rfl) (bl Y).len_ PySem.boot_len (q_acons (qv .B 4) q_anil)) q_anil))))) (q_acons (qv .B 2) q_anil)))))) q_anil)))))
theorem dbag_of:Def (hk w) mg "bag_of" (top 40) ["table", "held", "column", "scale", "many_moves"] 226 (FD "bag_of" 40 hxM3 225):=dk Y (by kernel_rfl) fun _ _ _ _ _ _=>us5 fun _ _ _ _ _=>rfl
theorem okbag_of:FnOk P w (hk w) mg base CX0 3 226 (FD "bag_of" 40 hxM3 225) ["table", "held", "column", "scale", "many_moves"] (spM (hk w) 5 .F f_bag_of):=
 okF (dbag_of Y) scbag_of (.inl rfl) rfl rfl fun hr=>(q_cons (q_setF (i:=5) scbag_of.nd rfl (by trivial) (q_op op_rep (o2_rep (c:=true)) (q_FC (q_lst (q_aint q_anil))) (q_cb K_len b_len (by rfl) (bl Y).len_ PySem.boot_len (q_acons (q_UB (q_ixU (qv .B 0) q_int)) q_anil))) (by rfl) (by trivial)) (q_cons (@q_set _ _ _ _ _ _ _ _ 5 _ _ _ _ rfl (by trivial) (qv .B 2) (qv .V 3) (by decide) (by decide) (@pg_sub _ _ _ _ _ _ _ (@pv _ 5 _ _ (by rfl) (by trivial) (by decide) (by decide)) (qv .B 2) set_list (by intro _; rfl)) (by rfl) (by rfl)) (q_cons (q_for PassesOwn.never rfl (@q_enuU _ _ _ _ _ _ _ _ _ _ (by rfl) (bl Y).enumerate_ (q_acons (qv .U 1) q_anil) (by rfl) (by rfl)) (@pg_tupK _ (hk w) _ _ _ _ 2 rfl (pgs_cons (@pg_name _ _ 6 _ scbag_of.nd rfl (by trivial) (by trivial)) (pgs_cons (@pg_name _ _ 7 _ scbag_of.nd rfl (by trivial) (by trivial)) pgs_nil)) (by rfl) (by rfl) (by rfl)) (gt_tup (.inr rfl) (gts_cons (.inr rfl) gt_U (gts_cons (.inr rfl) gt_U gts_nil))) (q_last (@q_set _ _ _ _ _ _ _ _ 5 _ _ _ _ rfl (by trivial) (qv .B 7) (q_un un_neg (o1_U (g:=gNeg) (fun _=>rfl) (fun _ _=>.int)) (q_UB (q_ixU (q_UB (q_ixU (qv .B 0) (qv .B 6))) (qv .B 2)))) (by decide) (by decide) (@pg_sub _ _ _ _ _ _ _ (@pv _ 5 _ _ (by rfl) (by trivial) (by decide) (by decide)) (qv .B 7) set_list (by intro _; rfl)) (by rfl) (by rfl)))) (q_last (q_ret (qcD (okin_least_numbers Y) (din_least_numbers Y) (q_acons (q_CB (q_FC (@q_sl _ _ _ _ _ _ true _ _ _ _ _ (qv .C 5) q_pN (q_pS (qv .B 4)) (by rfl)))) q_anil)))))))
theorem dceiling:Def (hk w) mg "ceiling" (top 34) ["moves", "place", "many"] 192 (FD "ceiling" 34 hxM3 191):=dk Y (by kernel_rfl) fun _ _ _ _ _ _=>us3 fun _ _ _=>rfl
theorem okceiling:FnOk P w (hk w) mg base CX0 4 192 (FD "ceiling" 34 hxM3 191) ["moves", "place", "many"] (spM (hk w) 3 .F f_ceiling):=
 okF (dceiling Y) scceiling (.inl rfl) rfl rfl fun hr=>(q_cons (q_setF (i:=3) scceiling.nd rfl (by trivial) (qcD (okfirst_table Y) (dfirst_table Y) (q_acons (qv .B 0) (q_acons (qv .B 1) (q_acons (qv .B 2) q_anil)))) (by rfl) (by trivial)) (q_cons (q_setcn (i:=4) (show CompScope (defScope (top 34)) _ ["moves", "place", "many", "table", "held", "scale", "column", "line"] ["moves", "place", "many", "table", "held", "scale", "column", "line", "at"] from by trivial) rfl (q_rng1 (by rfl) (bl Y).range_ (q_acons (qv .B 2) q_anil)) (fun _ _ _ _=>(@pg_name _ _ 8 _ (by decide +kernel:(["moves", "place", "many", "table", "held", "scale", "column", "line", "at"]:List Str).Nodup) rfl (Or.inl rfl) (.inr rfl))) gt_U (gk_name (show 8<=8 by decide)) (fun _ _ _ _=>q_pifN) (fun _ _ _ _=>(q_op op_add xAdd (q_cb K_len b_len (by rfl) (bl Y).len_ PySem.boot_len (q_acons (qv .B 0) q_anil)) (qv .B 8))) scceiling.nd rfl (by trivial)) (q_cons (q_setV (i:=5) scceiling.nd rfl (by trivial) q_int (by rfl) (by trivial)) (q_cons (q_setF (i:=6) scceiling.nd rfl (by trivial) (qcD (okcoming Y) (dcoming Y) (q_acons (qv .B 3) q_anil)) (by rfl) (by trivial)) (q_cons (q_while PassesOwn.never (q_tcmp op_notN o2_notN (qv .B 6) q_non) (q_cons (q_setF (i:=7) scceiling.nd rfl (by trivial) (qcD (okleaving Y) (dleaving Y) (q_acons (qv .B 3) (q_acons (qv .B 4) (q_acons (qv .B 6) q_anil)))) (by rfl) (by trivial)) (q_cons (q_if_ (q_tcmp op_isN o2_isN (qv .B 7) q_non) (q_last (q_ret (q_tup (q_acons q_str (q_acons (q_FV (qcD (okbag_of Y) (dbag_of Y) (q_acons (qv .B 3) (q_acons (qv .B 4) (q_acons (qv .B 6) (q_acons (qv .B 5) (q_acons (q_cb K_len b_len (by rfl) (bl Y).len_ PySem.boot_len (q_acons (qv .B 0) q_anil)) q_anil))))))) q_anil))))) q_nil) (q_cons (q_setF (i:=3) scceiling.nd rfl (by trivial) (qcD (okpivoted Y) (dpivoted Y) (q_acons (qv .B 3) (q_acons (qv .B 7) (q_acons (qv .B 6) (q_acons (qv .B 5) q_anil))))) (by rfl) (by trivial)) (q_cons (q_frz (@q_set _ _ _ _ _ _ _ _ 4 _ _ _ _ rfl (by trivial) (qv .B 7) (qv .V 6) (by decide) (by decide) (@pg_sub _ _ _ _ _ _ _ (@pv _ 4 _ _ (by rfl) (by trivial) (by decide) (by decide)) (qv .B 7) set_list (by intro _; rfl)) (by rfl) (by rfl))) (q_cons (q_setV (i:=5) scceiling.nd rfl (by trivial) (q_ixV (q_VC (q_ixV (qv .C 3) (qv .C 7))) (qv .C 6)) (by rfl) (by trivial)) (q_last (q_setF (i:=6) scceiling.nd rfl (by trivial) (qcD (okcoming Y) (dcoming Y) (q_acons (qv .B 3) q_anil)) (by rfl) (by trivial))))))))) (q_last (q_ret (q_tup (q_acons q_str (q_acons (q_FV (qcD (okweights_of Y) (dweights_of Y) (q_acons (qv .B 3) (q_acons (qv .B 1) (q_acons (qv .B 5) (q_acons (q_cb K_len b_len (by rfl) (bl Y).len_ PySem.boot_len (q_acons (qv .B 0) q_anil)) q_anil)))))) q_anil))))))))))
theorem dlevel:Def (hk w) mg "level" (top 44) ["moves", "many"] 250 (FD "level" 44 hxM3 249):=dk Y (by kernel_rfl) fun _ _ _ _ _ _=>us2 fun _ _=>rfl
theorem oklevel:FnOk P w (hk w) mg base CX0 5 250 (FD "level" 44 hxM3 249) ["moves", "many"] (spM (hk w) 2 .F f_level):=
 okF (dlevel Y) sclevel (.inl rfl) rfl rfl fun hr=>(q_cons (q_setF (i:=2) sclevel.nd rfl (by trivial) (q_op op_repT o2_repT (q_FC (q_tup (q_aint q_anil))) (qv .C 1)) (by rfl) (by trivial)) (q_cons (q_for PassesOwn.never rfl (q_rng1 (by rfl) (bl Y).range_ (q_acons (qv .B 1) q_anil)) (@pg_name _ _ 3 _ sclevel.nd rfl (by trivial) (by trivial)) gt_U (q_cons (q_setF (i:=4) sclevel.nd rfl (by trivial) (qcD (okceiling Y) (dceiling Y) (q_acons (qv .B 0) (q_acons (qv .B 3) (q_acons (qv .B 1) q_anil)))) (by rfl) (by trivial)) (q_cons (q_if_ (q_tcmp op_eq o2_eqS (q_UB (q_ixU (qv .B 4) q_int)) q_str) (q_last (q_ret (q_tup (q_acons q_str (q_acons (qv .V 3) (q_acons (q_ixV (qv .C 4) q_int) q_anil)))))) q_nil) (q_last (q_setF (i:=2) sclevel.nd rfl (by trivial) (qcD (okshifted Y) (dshifted Y) (q_acons (qv .B 2) (q_acons (q_UB (q_ixU (qv .B 4) q_int)) (q_aint q_anil)))) (by rfl) (by trivial)))))) (q_last (q_ret (q_tup (q_acons q_str (q_acons (q_FV (qcD (okin_least_numbers Y) (din_least_numbers Y) (q_acons (qv .B 2) q_anil))) q_anil)))))))
theorem d_law_cell_at:Def (hk w) mg "_law_cell_at" (top 46) ["_law_script", "_law_k"] 257 (FD "_law_cell_at" 46 hxM0 256):=dk Y (by kernel_rfl) fun _ _ _ _ _ _=>us2 fun _ _=>rfl
theorem ok_law_cell_at:FnOk P w (hk w) mg base CX0 1 257 (FD "_law_cell_at" 46 hxM0 256) ["_law_script", "_law_k"] (spM (hk w) 2 .F f__law_cell_at):=
 okF (d_law_cell_at Y) sc_law_cell_at (.inl rfl) rfl rfl fun hr=>(q_cons (q_if_ (q_tcmp op_lt xLt (qv .B 1) (q_cb K_len b_len (by rfl) (bl Y).len_ PySem.boot_len (q_acons (qv .B 0) q_anil))) (q_last (q_ret (q_chkF (q_ixU (qv .B 0) (qv .B 1))))) q_nil) (q_last (q_ret q_int)))
theorem d_law_stream:Def (hk w) mg "_law_stream" (top 47) ["_law_cell", "_law_turn", "_law_many"] 264 (FD "_law_stream" 47 hxM0 263):=dk Y (by kernel_rfl) fun _ _ _ _ _ _=>us3 fun _ _ _=>rfl
theorem ok_law_stream:FnOk P w (hk w) mg base CX0 1 264 (FD "_law_stream" 47 hxM0 263) ["_law_cell", "_law_turn", "_law_many"] (spM (hk w) 3 .F f__law_stream):=
 okF (d_law_stream Y) sc_law_stream (.inl rfl) rfl rfl fun hr=>(q_cons (q_setF (i:=3) sc_law_stream.nd rfl (by trivial) (q_lst q_anil) (by rfl) (by trivial)) (q_cons (q_setV (i:=4) sc_law_stream.nd rfl (by trivial) (q_op op_mod (o2_I (C:=cMod) (g:=gMod) (fun _ _=>rfl) (fun _ _ _=>.int)) (q_op op_mulB (o2_I (C:=CMulB) (g:=gMul) (fun _ _=>rfl) (fun _ _ _=>.int)) (q_op op_add xAdd (q_op op_mod (o2_I (C:=cMod) (g:=gMod) (fun _ _=>rfl) (fun _ _ _=>.int)) (qv .B 0) q_int) q_int) (q_op op_add xAdd (q_op op_mulB (o2_I (C:=CMulB) (g:=gMul) (fun _ _=>rfl) (fun _ _ _=>.int)) (qv .B 1) (qv .B 1)) q_int)) q_int) (by rfl) (by trivial)) (q_cons (q_for PassesOwn.never rfl (q_rng1 (by rfl) (bl Y).range_ (q_acons (qv .B 2) q_anil)) (@pg_name _ _ 5 _ sc_law_stream.nd rfl (by trivial) (by trivial)) gt_U (q_cons (q_setV (i:=4) sc_law_stream.nd rfl (by trivial) (q_op op_mod (o2_I (C:=cMod) (g:=gMod) (fun _ _=>rfl) (fun _ _ _=>.int)) (q_op op_add xAdd (q_op op_add xAdd (q_op op_add xAdd (q_op op_mulB (o2_I (C:=CMulB) (g:=gMul) (fun _ _=>rfl) (fun _ _ _=>.int)) (qv .B 4) (qv .B 4)) (q_op op_mulB (o2_I (C:=CMulB) (g:=gMul) (fun _ _=>rfl) (fun _ _ _=>.int)) q_int (qv .B 4))) (qv .B 5)) q_int) q_int) (by rfl) (by trivial)) (q_last (@q_app _ _ _ _ _ _ _ 3 _ _ _ _ rfl (by trivial) (qv .V 4) (by decide) (by decide) (by rfl) (by rfl) (by rfl) (by rfl) (by rfl))))) (q_last (@q_retv _ _ _ _ _ 3 _ _ (.inl rfl) (by rfl) (by trivial) (by decide) (by decide))))))
theorem d_law_weights:Def (hk w) mg "_law_weights" (top 48) ["_law_cell", "_law_many"] 269 (FD "_law_weights" 48 hxM0 268):=dk Y (by kernel_rfl) fun _ _ _ _ _ _=>us2 fun _ _=>rfl
theorem ok_law_weights:FnOk P w (hk w) mg base CX0 2 269 (FD "_law_weights" 48 hxM0 268) ["_law_cell", "_law_many"] (spM (hk w) 2 .F f__law_weights):=
 okF (d_law_weights Y) sc_law_weights (.inl rfl) rfl rfl fun hr=>(q_cons (q_setF (i:=2) sc_law_weights.nd rfl (by trivial) (qcD (ok_law_stream Y) (d_law_stream Y) (q_acons (qv .B 0) (q_aint (q_acons (q_op op_add xAdd (qv .B 1) q_int) q_anil)))) (by rfl) (by trivial)) (q_cons (q_setV (i:=3) sc_law_weights.nd rfl (by trivial) (q_ixV (q_FC (q_lst (q_aint (q_aint q_anil)))) (q_op op_mod (o2_I (C:=cMod) (g:=gMod) (fun _ _=>rfl) (fun _ _ _=>.int)) (q_UB (q_ixU (qv .B 2) (qv .B 1))) q_int)) (by rfl) (by trivial)) (q_cons (q_setcn (i:=4) (show CompScope (defScope (top 48)) _ ["_law_cell", "_law_many", "_law_xs", "_law_wide", "_law_weights_here"] ["_law_cell", "_law_many", "_law_xs", "_law_wide", "_law_weights_here", "_law_p"] from by trivial) rfl (q_rng1 (by rfl) (bl Y).range_ (q_acons (qv .B 1) q_anil)) (fun _ _ _ _=>(@pg_name _ _ 5 _ (by decide +kernel:(["_law_cell", "_law_many", "_law_xs", "_law_wide", "_law_weights_here", "_law_p"]:List Str).Nodup) rfl (Or.inl rfl) (.inr rfl))) gt_U (gk_name (show 5<=5 by decide)) (fun _ _ _ _=>q_pifN) (fun _ _ _ _=>(q_op op_mod (o2_I (C:=cMod) (g:=gMod) (fun _ _=>rfl) (fun _ _ _=>.int)) (q_UB (q_ixU (qv .B 2) (qv .B 5))) (q_op op_add xAdd (qv .B 3) q_int))) sc_law_weights.nd rfl (by trivial)) (q_cons (@q_set _ _ _ _ _ _ _ _ 4 _ _ _ _ rfl (by trivial) (q_op op_mod (o2_I (C:=cMod) (g:=gMod) (fun _ _=>rfl) (fun _ _ _=>.int)) (q_UB (q_ixU (qv .B 2) (q_op op_add xAdd (qv .B 1) q_int))) (qv .B 1)) q_int (by decide) (by decide) (@pg_sub _ _ _ _ _ _ _ (@pv _ 4 _ _ (by rfl) (by trivial) (by decide) (by decide)) (q_op op_mod (o2_I (C:=cMod) (g:=gMod) (fun _ _=>rfl) (fun _ _ _=>.int)) (q_UB (q_ixU (qv .B 2) (q_op op_add xAdd (qv .B 1) q_int))) (qv .B 1)) set_list (by intro _; rfl)) (by rfl) (by rfl)) (q_last (@q_retv _ _ _ _ _ 4 _ _ (.inl rfl) (by rfl) (by trivial) (by decide) (by decide)))))))
theorem d_law_free_move:Def (hk w) mg "_law_free_move" (top 49) ["_law_cell", "_law_turn", "_law_many"] 274 (FD "_law_free_move" 49 hxM0 273):=dk Y (by kernel_rfl) fun _ _ _ _ _ _=>us3 fun _ _ _=>rfl
theorem ok_law_free_move:FnOk P w (hk w) mg base CX0 2 274 (FD "_law_free_move" 49 hxM0 273) ["_law_cell", "_law_turn", "_law_many"] (spM (hk w) 3 .F f__law_free_move):=
 okF (d_law_free_move Y) sc_law_free_move (.inl rfl) rfl rfl fun hr=>(q_cons (q_setF (i:=3) sc_law_free_move.nd rfl (by trivial) (qcD (ok_law_stream Y) (d_law_stream Y) (q_acons (qv .B 0) (q_acons (q_op op_add xAdd (qv .B 1) q_int) (q_acons (q_op op_add xAdd (q_op op_mulB (o2_I (C:=CMulB) (g:=gMul) (fun _ _=>rfl) (fun _ _ _=>.int)) q_int (qv .B 2)) q_int) q_anil)))) (by rfl) (by trivial)) (q_cons (q_setV (i:=4) sc_law_free_move.nd rfl (by trivial) (q_ixV (q_FC (q_lst (q_aint (q_aint (q_aint (q_acons (q_op op_add xAdd (q_op op_pow (o2_I (C:=CPow) (g:=gPow) (fun _ _=>rfl) (fun _ _ _=>.int)) q_int q_int) q_int) q_anil)))))) (q_op op_mod (o2_I (C:=cMod) (g:=gMod) (fun _ _=>rfl) (fun _ _ _=>.int)) (q_UB (q_ixU (qv .B 3) (q_op op_mulB (o2_I (C:=CMulB) (g:=gMul) (fun _ _=>rfl) (fun _ _ _=>.int)) q_int (qv .B 2)))) q_int)) (by rfl) (by trivial)) (q_cons (q_setcn (i:=5) (show CompScope (defScope (top 49)) _ ["_law_cell", "_law_turn", "_law_many", "_law_xs", "_law_top", "_law_counts"] ["_law_cell", "_law_turn", "_law_many", "_law_xs", "_law_top", "_law_counts", "_law_x"] from by trivial) rfl (q_iSqB (q_CB (q_FC (@q_sl _ _ _ _ _ _ true _ _ _ _ _ (qv .C 3) q_pN (q_pS (q_op op_mulB (o2_I (C:=CMulB) (g:=gMul) (fun _ _=>rfl) (fun _ _ _=>.int)) q_int (qv .B 2))) (by rfl))))) (fun _ _ _ _=>(@pg_name _ _ 6 _ (by decide +kernel:(["_law_cell", "_law_turn", "_law_many", "_law_xs", "_law_top", "_law_counts", "_law_x"]:List Str).Nodup) rfl (Or.inl rfl) (.inr rfl))) gt_U (gk_name (show 6<=6 by decide)) (fun _ _ _ _=>q_pifN) (fun _ _ _ _=>(q_op op_mulB (o2_I (C:=CMulB) (g:=gMul) (fun _ _=>rfl) (fun _ _ _=>.int)) (q_op op_mod (o2_I (C:=cMod) (g:=gMod) (fun _ _=>rfl) (fun _ _ _=>.int)) (q_op op_fdiv (o2_I (C:=CDiv) (g:=gDiv) (fun _ _=>rfl) (fun _ _ _=>.int)) (qv .B 6) q_int) (qv .B 4)) (q_op op_mod (o2_I (C:=cMod) (g:=gMod) (fun _ _=>rfl) (fun _ _ _=>.int)) (qv .B 6) q_int))) sc_law_free_move.nd rfl (by trivial)) (q_last (q_ret (q_tup (q_acons (q_FV (q_ct K_tup (b_tup (c:=true)) (by rfl) (bl Y).tuple_ bt_tuple (q_acons (q_FC (@q_sl _ _ _ _ _ _ true _ _ _ _ _ (qv .C 5) q_pN (q_pS (qv .B 2)) (by rfl))) q_anil))) (q_acons (q_FV (q_ct K_tup (b_tup (c:=true)) (by rfl) (bl Y).tuple_ bt_tuple (q_acons (q_FC (@q_sl _ _ _ _ _ _ true _ _ _ _ _ (qv .C 5) (q_pS (qv .B 2)) q_pN (by rfl))) q_anil))) q_anil))))))))
theorem d_law_kept_move:Def (hk w) mg "_law_kept_move" (top 50) ["_law_cell", "_law_turn", "_law_weights_here", "_law_kind"] 279 (FD "_law_kept_move" 50 hxM0 278):=dk Y (by kernel_rfl) fun _ _ _ _ _ _=>us4 fun _ _ _ _=>rfl
theorem ok_law_kept_move:FnOk P w (hk w) mg base CX0 2 279 (FD "_law_kept_move" 50 hxM0 278) ["_law_cell", "_law_turn", "_law_weights_here", "_law_kind"] (spM (hk w) 4 .F f__law_kept_move):=
 okF (d_law_kept_move Y) sc_law_kept_move (.inl rfl) rfl rfl fun hr=>(q_cons (q_setF (i:=4) sc_law_kept_move.nd rfl (by trivial) (q_cb K_len b_len (by rfl) (bl Y).len_ PySem.boot_len (q_acons (qv .B 2) q_anil)) (by rfl) (by trivial)) (q_cons (q_setV (i:=5) sc_law_kept_move.nd rfl (by trivial) (q_ixV (q_FC (q_compn (show CompScope (defScope (top 50)) _ ["_law_cell", "_law_turn", "_law_weights_here", "_law_kind", "_law_many", "_law_head", "_law_xs", "_law_top", "_law_take", "_law_put", "_law_drift", "_law_at"] ["_law_cell", "_law_turn", "_law_weights_here", "_law_kind", "_law_many", "_law_head", "_law_xs", "_law_top", "_law_take", "_law_put", "_law_drift", "_law_at", "_law_p"] from by trivial) rfl (q_rng1 (by rfl) (bl Y).range_ (q_acons (qv .B 4) q_anil)) (fun _ _ _ _=>(@pg_name _ _ 12 _ (by decide +kernel:(["_law_cell", "_law_turn", "_law_weights_here", "_law_kind", "_law_many", "_law_head", "_law_xs", "_law_top", "_law_take", "_law_put", "_law_drift", "_law_at", "_law_p"]:List Str).Nodup) rfl (Or.inl rfl) (.inr rfl))) gt_U (gk_name (show 12<=12 by decide)) (fun _ _ _ _=>(q_pif1 (q_tcmp op_eq o2_eqS (q_UB (q_ixU (qv .B 2) (qv .B 12))) q_int))) (fun _ _ _ _=>(qv .V 12)))) q_int) (by rfl) (by trivial)) (q_cons (q_setF (i:=6) sc_law_kept_move.nd rfl (by trivial) (qcD (ok_law_stream Y) (d_law_stream Y) (q_acons (qv .B 0) (q_acons (q_op op_add xAdd (qv .B 1) q_int) (q_acons (q_op op_add xAdd (q_op op_mulB (o2_I (C:=CMulB) (g:=gMul) (fun _ _=>rfl) (fun _ _ _=>.int)) q_int (qv .B 4)) q_int) q_anil)))) (by rfl) (by trivial)) (q_cons (q_setV (i:=7) sc_law_kept_move.nd rfl (by trivial) (q_ixV (q_FC (q_lst (q_aint (q_aint (q_aint (q_aint q_anil)))))) (q_op op_mod (o2_I (C:=cMod) (g:=gMod) (fun _ _=>rfl) (fun _ _ _=>.int)) (q_UB (q_ixU (qv .B 6) (q_op op_mulB (o2_I (C:=CMulB) (g:=gMul) (fun _ _=>rfl) (fun _ _ _=>.int)) q_int (qv .B 4)))) q_int)) (by rfl) (by trivial)) (q_cons (q_setF (i:=8) sc_law_kept_move.nd rfl (by trivial) (q_compn (show CompScope (defScope (top 50)) _ ["_law_cell", "_law_turn", "_law_weights_here", "_law_kind", "_law_many", "_law_head", "_law_xs", "_law_top", "_law_take", "_law_put", "_law_drift", "_law_at"] ["_law_cell", "_law_turn", "_law_weights_here", "_law_kind", "_law_many", "_law_head", "_law_xs", "_law_top", "_law_take", "_law_put", "_law_drift", "_law_at", "_law_x"] from by trivial) rfl (q_iSqB (q_CB (q_FC (@q_sl _ _ _ _ _ _ true _ _ _ _ _ (qv .C 6) q_pN (q_pS (qv .B 4)) (by rfl))))) (fun _ _ _ _=>(@pg_name _ _ 12 _ (by decide +kernel:(["_law_cell", "_law_turn", "_law_weights_here", "_law_kind", "_law_many", "_law_head", "_law_xs", "_law_top", "_law_take", "_law_put", "_law_drift", "_law_at", "_law_x"]:List Str).Nodup) rfl (Or.inl rfl) (.inr rfl))) gt_U (gk_name (show 12<=12 by decide)) (fun _ _ _ _=>q_pifN) (fun _ _ _ _=>(q_op op_mulB (o2_I (C:=CMulB) (g:=gMul) (fun _ _=>rfl) (fun _ _ _=>.int)) (q_op op_mod (o2_I (C:=cMod) (g:=gMod) (fun _ _=>rfl) (fun _ _ _=>.int)) (q_op op_fdiv (o2_I (C:=CDiv) (g:=gDiv) (fun _ _=>rfl) (fun _ _ _=>.int)) (qv .B 12) q_int) (qv .B 7)) (q_ct call_int1 b_int (by rfl) (bl Y).int_ bt_int (q_acons (q_cmp op_gt xGt (q_op op_mod (o2_I (C:=cMod) (g:=gMod) (fun _ _=>rfl) (fun _ _ _=>.int)) (qv .B 12) q_int) q_int) q_anil))))) (by rfl) (by trivial)) (q_cons (q_setF (i:=9) sc_law_kept_move.nd rfl (by trivial) (q_compn (show CompScope (defScope (top 50)) _ ["_law_cell", "_law_turn", "_law_weights_here", "_law_kind", "_law_many", "_law_head", "_law_xs", "_law_top", "_law_take", "_law_put", "_law_drift", "_law_at"] ["_law_cell", "_law_turn", "_law_weights_here", "_law_kind", "_law_many", "_law_head", "_law_xs", "_law_top", "_law_take", "_law_put", "_law_drift", "_law_at", "_law_x"] from by trivial) rfl (q_iSqB (q_CB (q_FC (@q_sl _ _ _ _ _ _ true _ _ _ _ _ (qv .C 6) (q_pS (qv .B 4)) (q_pS (q_op op_mulB (o2_I (C:=CMulB) (g:=gMul) (fun _ _=>rfl) (fun _ _ _=>.int)) q_int (qv .B 4))) (by rfl))))) (fun _ _ _ _=>(@pg_name _ _ 12 _ (by decide +kernel:(["_law_cell", "_law_turn", "_law_weights_here", "_law_kind", "_law_many", "_law_head", "_law_xs", "_law_top", "_law_take", "_law_put", "_law_drift", "_law_at", "_law_x"]:List Str).Nodup) rfl (Or.inl rfl) (.inr rfl))) gt_U (gk_name (show 12<=12 by decide)) (fun _ _ _ _=>q_pifN) (fun _ _ _ _=>(q_op op_mulB (o2_I (C:=CMulB) (g:=gMul) (fun _ _=>rfl) (fun _ _ _=>.int)) (q_op op_mod (o2_I (C:=cMod) (g:=gMod) (fun _ _=>rfl) (fun _ _ _=>.int)) (q_op op_fdiv (o2_I (C:=CDiv) (g:=gDiv) (fun _ _=>rfl) (fun _ _ _=>.int)) (qv .B 12) q_int) (qv .B 7)) (q_ct call_int1 b_int (by rfl) (bl Y).int_ bt_int (q_acons (q_cmp op_gt xGt (q_op op_mod (o2_I (C:=cMod) (g:=gMod) (fun _ _=>rfl) (fun _ _ _=>.int)) (qv .B 12) q_int) q_int) q_anil))))) (by rfl) (by trivial)) (q_cons (q_setF (i:=10) sc_law_kept_move.nd rfl (by trivial) (q_cb (call_sumL rfl) (b_ints (g:=gSum)) (by rfl) (bl Y).sum_ bt_sum (q_acons (q_CB (q_FC (q_compn (show CompScope (defScope (top 50)) _ ["_law_cell", "_law_turn", "_law_weights_here", "_law_kind", "_law_many", "_law_head", "_law_xs", "_law_top", "_law_take", "_law_put", "_law_drift", "_law_at"] ["_law_cell", "_law_turn", "_law_weights_here", "_law_kind", "_law_many", "_law_head", "_law_xs", "_law_top", "_law_take", "_law_put", "_law_drift", "_law_at", "_law_p"] from by trivial) rfl (q_rng1 (by rfl) (bl Y).range_ (q_acons (qv .B 4) q_anil)) (fun _ _ _ _=>(@pg_name _ _ 12 _ (by decide +kernel:(["_law_cell", "_law_turn", "_law_weights_here", "_law_kind", "_law_many", "_law_head", "_law_xs", "_law_top", "_law_take", "_law_put", "_law_drift", "_law_at", "_law_p"]:List Str).Nodup) rfl (Or.inl rfl) (.inr rfl))) gt_U (gk_name (show 12<=12 by decide)) (fun _ _ _ _=>(q_pif1 (q_tcmp (op_neD (hu64 hr)) (o2_eqD (neg:=true)) (qv .B 12) (qv .B 5)))) (fun _ _ _ _=>(q_op op_mulB (o2_I (C:=CMulB) (g:=gMul) (fun _ _=>rfl) (fun _ _ _=>.int)) (q_UB (q_ixU (qv .B 2) (qv .B 12))) (q_op op_sub xSub (q_UB (q_ixU (qv .B 9) (qv .B 12))) (q_UB (q_ixU (qv .B 8) (qv .B 12))))))))) q_anil)) (by rfl) (by trivial)) (q_cons (@q_set _ _ _ _ _ _ _ _ 8 _ _ _ _ rfl (by trivial) (qv .B 5) (q_cb (call_max2 rfl) (b_2 (g:=gMax)) (by rfl) (bl Y).max_ bt_max (q_aint (q_acons (qv .B 10) q_anil))) (by decide) (by decide) (@pg_sub _ _ _ _ _ _ _ (@pv _ 8 _ _ (by rfl) (by trivial) (by decide) (by decide)) (qv .B 5) set_list (by intro _; rfl)) (by rfl) (by rfl)) (q_cons (@q_set _ _ _ _ _ _ _ _ 9 _ _ _ _ rfl (by trivial) (qv .B 5) (q_cb (call_max2 rfl) (b_2 (g:=gMax)) (by rfl) (bl Y).max_ bt_max (q_aint (q_acons (q_op op_sub xSub q_int (qv .B 10)) q_anil))) (by decide) (by decide) (@pg_sub _ _ _ _ _ _ _ (@pv _ 9 _ _ (by rfl) (by trivial) (by decide) (by decide)) (qv .B 5) set_list (by intro _; rfl)) (by rfl) (by rfl)) (q_cons (q_setV (i:=11) sc_law_kept_move.nd rfl (by trivial) (q_op op_mod (o2_I (C:=cMod) (g:=gMod) (fun _ _=>rfl) (fun _ _ _=>.int)) (q_UB (q_ixU (qv .B 6) (q_op op_add xAdd (q_op op_mulB (o2_I (C:=CMulB) (g:=gMul) (fun _ _=>rfl) (fun _ _ _=>.int)) q_int (qv .B 4)) q_int))) (qv .B 4)) (by rfl) (by trivial)) (q_cons (q_if_ (PW.pt (q_tand (q_tcmp op_eq o2_eqS (qv .B 3) q_int) (q_tand1 (q_tcmp op_eq o2_eqS (q_op op_mod (o2_I (C:=cMod) (g:=gMod) (fun _ _=>rfl) (fun _ _ _=>.int)) (q_UB (q_ixU (qv .B 6) (q_op op_add xAdd (q_op op_mulB (o2_I (C:=CMulB) (g:=gMul) (fun _ _=>rfl) (fun _ _ _=>.int)) q_int (qv .B 4)) q_int))) q_int) q_int)))) (q_last (@q_set _ _ _ _ _ _ _ _ 8 _ _ _ _ rfl (by trivial) (qv .B 11) (q_op op_add xAdd (q_UB (q_ixU (qv .B 8) (qv .B 11))) (q_op op_mod (o2_I (C:=cMod) (g:=gMod) (fun _ _=>rfl) (fun _ _ _=>.int)) (q_UB (q_ixU (qv .B 6) (q_op op_add xAdd (q_op op_mulB (o2_I (C:=CMulB) (g:=gMul) (fun _ _=>rfl) (fun _ _ _=>.int)) q_int (qv .B 4)) q_int))) q_int)) (by decide) (by decide) (@pg_sub _ _ _ _ _ _ _ (@pv _ 8 _ _ (by rfl) (by trivial) (by decide) (by decide)) (qv .B 11) set_list (by intro _; rfl)) (by rfl) (by rfl))) q_nil) (q_cons (q_if_ (PW.pt (q_tand (q_tcmp op_eq o2_eqS (qv .B 3) q_int) (q_tand1 (q_tcmp op_eq o2_eqS (q_op op_mod (o2_I (C:=cMod) (g:=gMod) (fun _ _=>rfl) (fun _ _ _=>.int)) (q_UB (q_ixU (qv .B 6) (q_op op_add xAdd (q_op op_mulB (o2_I (C:=CMulB) (g:=gMul) (fun _ _=>rfl) (fun _ _ _=>.int)) q_int (qv .B 4)) q_int))) q_int) q_int)))) (q_last (@q_set _ _ _ _ _ _ _ _ 9 _ _ _ _ rfl (by trivial) (qv .B 11) (q_op op_add xAdd (q_UB (q_ixU (qv .B 9) (qv .B 11))) (q_op op_mod (o2_I (C:=cMod) (g:=gMod) (fun _ _=>rfl) (fun _ _ _=>.int)) (q_UB (q_ixU (qv .B 6) (q_op op_add xAdd (q_op op_mulB (o2_I (C:=CMulB) (g:=gMul) (fun _ _=>rfl) (fun _ _ _=>.int)) q_int (qv .B 4)) q_int))) q_int)) (by decide) (by decide) (@pg_sub _ _ _ _ _ _ _ (@pv _ 9 _ _ (by rfl) (by trivial) (by decide) (by decide)) (qv .B 11) set_list (by intro _; rfl)) (by rfl) (by rfl))) q_nil) (q_last (q_ret (q_tup (q_acons (q_FV (q_ct K_tup (b_tup (c:=true)) (by rfl) (bl Y).tuple_ bt_tuple (q_acons (qv .C 8) q_anil))) (q_acons (q_FV (q_ct K_tup (b_tup (c:=true)) (by rfl) (bl Y).tuple_ bt_tuple (q_acons (qv .C 9) q_anil))) q_anil)))))))))))))))))
theorem d_law_moves:Def (hk w) mg "_law_moves" (top 51) ["_law_script", "_law_many"] 286 (FD "_law_moves" 51 hxM0 285):=dk Y (by kernel_rfl) fun _ _ _ _ _ _=>us2 fun _ _=>rfl
theorem ok_law_moves:FnOk P w (hk w) mg base CX0 3 286 (FD "_law_moves" 51 hxM0 285) ["_law_script", "_law_many"] (spM (hk w) 2 .F f__law_moves):=
 okF (d_law_moves Y) sc_law_moves (.inl rfl) rfl rfl fun hr=>(q_cons (q_setF (i:=2) sc_law_moves.nd rfl (by trivial) (qcD (ok_law_cell_at Y) (d_law_cell_at Y) (q_acons (qv .B 0) (q_aint q_anil))) (by rfl) (by trivial)) (q_cons (q_setV (i:=3) sc_law_moves.nd rfl (by trivial) (q_op op_mod (o2_I (C:=cMod) (g:=gMod) (fun _ _=>rfl) (fun _ _ _=>.int)) (q_op op_fdiv (o2_I (C:=CDiv) (g:=gDiv) (fun _ _=>rfl) (fun _ _ _=>.int)) (qv .B 2) q_int) q_int) (by rfl) (by trivial)) (q_cons (q_setF (i:=4) sc_law_moves.nd rfl (by trivial) (qcD (ok_law_weights Y) (d_law_weights Y) (q_acons (q_CB (q_FC (qcD (ok_law_cell_at Y) (d_law_cell_at Y) (q_acons (qv .B 0) (q_aint q_anil))))) (q_acons (qv .B 1) q_anil))) (by rfl) (by trivial)) (q_cons (q_setF (i:=5) sc_law_moves.nd rfl (by trivial) (q_lst q_anil) (by rfl) (by trivial)) (q_cons (q_for PassesOwn.never rfl (q_rng1 (by rfl) (bl Y).range_ (q_acons (q_op op_mod (o2_I (C:=cMod) (g:=gMod) (fun _ _=>rfl) (fun _ _ _=>.int)) (q_op op_add xAdd (q_op op_fdiv (o2_I (C:=CDiv) (g:=gDiv) (fun _ _=>rfl) (fun _ _ _=>.int)) (qv .B 2) q_int) q_int) q_int) q_anil)) (@pg_name _ _ 6 _ sc_law_moves.nd rfl (by trivial) (by trivial)) gt_U (q_cons (q_setF (i:=7) sc_law_moves.nd rfl (by trivial) (qcD (ok_law_cell_at Y) (d_law_cell_at Y) (q_acons (qv .B 0) (q_acons (q_op op_add xAdd q_int (qv .B 6)) q_anil))) (by rfl) (by trivial)) (q_last (q_if_ (PW.pt (q_tor (q_tcmp op_eq o2_eqS (qv .B 3) q_int) (q_tor1 (q_tcmp op_eq o2_eqS (q_op op_mod (o2_I (C:=cMod) (g:=gMod) (fun _ _=>rfl) (fun _ _ _=>.int)) (qv .B 7) q_int) q_int)))) (q_last (@q_app _ _ _ _ _ _ _ 5 _ _ _ _ rfl (by trivial) (q_FV (qcD (ok_law_free_move Y) (d_law_free_move Y) (q_acons (qv .B 7) (q_acons (qv .B 6) (q_acons (qv .B 1) q_anil))))) (by decide) (by decide) (by rfl) (by rfl) (by rfl) (by rfl) (by rfl))) (q_last (@q_app _ _ _ _ _ _ _ 5 _ _ _ _ rfl (by trivial) (q_FV (qcD (ok_law_kept_move Y) (d_law_kept_move Y) (q_acons (qv .B 7) (q_acons (qv .B 6) (q_acons (qv .B 4) (q_acons (qv .B 3) q_anil)))))) (by decide) (by decide) (by rfl) (by rfl) (by rfl) (by rfl) (by rfl))))))) (q_last (q_ret (q_ct K_tup (b_tup (c:=true)) (by rfl) (bl Y).tuple_ bt_tuple (q_acons (qv .C 5) q_anil)))))))))
theorem d_law_row:Def (hk w) mg "_law_row" (top 52) ["_law_begin", "_law_moves_here", "_law_steps"] 291 (FD "_law_row" 52 hxM0 290):=dk Y (by kernel_rfl) fun _ _ _ _ _ _=>us3 fun _ _ _=>rfl
theorem ok_law_row:FnOk P w (hk w) mg base CX0 1 291 (FD "_law_row" 52 hxM0 290) ["_law_begin", "_law_moves_here", "_law_steps"] (spM (hk w) 3 .F f__law_row):=
 okF (d_law_row Y) sc_law_row (.inl rfl) rfl rfl fun hr=>(q_cons (q_setF (i:=3) sc_law_row.nd rfl (by trivial) (q_lst q_anil) (by rfl) (by trivial)) (q_cons (q_setF (i:=4) sc_law_row.nd rfl (by trivial) (q_ct K_list (b_list (c:=false)) (by rfl) (bl Y).list_ bt_list (q_acons (qv .B 0) q_anil)) (by rfl) (by trivial)) (q_cons (q_for PassesOwn.never rfl (q_iSqU (qv .U 2)) (@pg_name _ _ 5 _ sc_law_row.nd rfl (by trivial) (by trivial)) gt_U (q_cons (q_setV (i:=6) sc_law_row.nd rfl (by trivial) q_bl (by rfl) (by trivial)) (q_last (q_for PassesOwn.never rfl (q_rng1 (by rfl) (bl Y).range_ (q_acons (q_cb K_len b_len (by rfl) (bl Y).len_ PySem.boot_len (q_acons (qv .B 1) q_anil)) q_anil)) (@pg_name _ _ 7 _ sc_law_row.nd rfl (by trivial) (by trivial)) gt_U (q_cons (q_setV (i:=8) sc_law_row.nd rfl (by trivial) (q_op op_mod (o2_I (C:=cMod) (g:=gMod) (fun _ _=>rfl) (fun _ _ _=>.int)) (q_op op_add xAdd (qv .B 5) (qv .B 7)) (q_cb K_len b_len (by rfl) (bl Y).len_ PySem.boot_len (q_acons (qv .B 1) q_anil))) (by rfl) (by trivial)) (q_cons (@q_asg _ _ _ _ _ _ _ _ _ _ _ (q_ixU (qv .B 1) (qv .B 8)) (@pg_tupK _ (hk w) _ _ _ _ 2 rfl (pgs_cons (@pg_name _ _ 9 _ sc_law_row.nd rfl (by trivial) (by trivial)) (pgs_cons (@pg_name _ _ 10 _ sc_law_row.nd rfl (by trivial) (by trivial)) pgs_nil)) (by rfl) (by rfl) (by rfl)) (gt_tup (.inr rfl) (gts_cons (.inr rfl) gt_U (gts_cons (.inr rfl) gt_U gts_nil))) (by rfl) (by rfl) (by rfl)) (q_cons (q_setcn (i:=11) (show CompScope (defScope (top 52)) _ ["_law_begin", "_law_moves_here", "_law_steps", "_law_row_here", "_law_stand", "_law_step", "_law_went", "_law_turn", "_law_number", "_law_take", "_law_put", "_law_lacks"] ["_law_begin", "_law_moves_here", "_law_steps", "_law_row_here", "_law_stand", "_law_step", "_law_went", "_law_turn", "_law_number", "_law_take", "_law_put", "_law_lacks", "_law_p"] from by trivial) rfl (q_rng1 (by rfl) (bl Y).range_ (q_acons (q_cb K_len b_len (by rfl) (bl Y).len_ PySem.boot_len (q_acons (qv .B 9) q_anil)) q_anil)) (fun _ _ _ _=>(@pg_name _ _ 12 _ (by decide +kernel:(["_law_begin", "_law_moves_here", "_law_steps", "_law_row_here", "_law_stand", "_law_step", "_law_went", "_law_turn", "_law_number", "_law_take", "_law_put", "_law_lacks", "_law_p"]:List Str).Nodup) rfl (Or.inl rfl) (.inr rfl))) gt_U (gk_name (show 12<=12 by decide)) (fun _ _ _ _=>(q_pif1 (q_tcmp op_lt xLt (q_UB (q_ixU (qv .B 4) (qv .B 12))) (q_UB (q_ixU (qv .B 9) (qv .B 12)))))) (fun _ _ _ _=>(qv .V 12)) sc_law_row.nd rfl (by trivial)) (q_last (q_if_ (PW.pt (q_tand (q_tnot (q_val (qv .B 6))) (q_tand1 (q_tcmp (op_eqD (hu64 hr)) (o2_eqD (neg:=false)) (qv .B 11) (q_CB (q_FC (q_lst q_anil))))))) (q_cons (q_setF (i:=4) sc_law_row.nd rfl (by trivial) (q_compn (show CompScope (defScope (top 52)) _ ["_law_begin", "_law_moves_here", "_law_steps", "_law_row_here", "_law_stand", "_law_step", "_law_went", "_law_turn", "_law_number", "_law_take", "_law_put", "_law_lacks"] ["_law_begin", "_law_moves_here", "_law_steps", "_law_row_here", "_law_stand", "_law_step", "_law_went", "_law_turn", "_law_number", "_law_take", "_law_put", "_law_lacks", "_law_p"] from by trivial) rfl (q_rng1 (by rfl) (bl Y).range_ (q_acons (q_cb K_len b_len (by rfl) (bl Y).len_ PySem.boot_len (q_acons (qv .B 9) q_anil)) q_anil)) (fun _ _ _ _=>(@pg_name _ _ 12 _ (by decide +kernel:(["_law_begin", "_law_moves_here", "_law_steps", "_law_row_here", "_law_stand", "_law_step", "_law_went", "_law_turn", "_law_number", "_law_take", "_law_put", "_law_lacks", "_law_p"]:List Str).Nodup) rfl (Or.inl rfl) (.inr rfl))) gt_U (gk_name (show 12<=12 by decide)) (fun _ _ _ _=>q_pifN) (fun _ _ _ _=>(q_op op_add xAdd (q_op op_sub xSub (q_UB (q_ixU (qv .B 4) (qv .B 12))) (q_UB (q_ixU (qv .B 9) (qv .B 12)))) (q_UB (q_ixU (qv .B 10) (qv .B 12)))))) (by rfl) (by trivial)) (q_cons (@q_app _ _ _ _ _ _ _ 3 _ _ _ _ rfl (by trivial) (qv .V 8) (by decide) (by decide) (by rfl) (by rfl) (by rfl) (by rfl) (by rfl)) (q_last (q_setV (i:=6) sc_law_row.nd rfl (by trivial) q_bl (by rfl) (by trivial))))) q_nil))))))))) (q_last (@q_retv _ _ _ _ _ 3 _ _ (.inl rfl) (by rfl) (by trivial) (by decide) (by decide))))))
theorem d_law_bag_goes:Def (hk w) mg "_law_bag_goes" (top 53) ["_law_land", "_law_place", "_law_bag"] 296 (FD "_law_bag_goes" 53 hxM0 295):=dk Y (by kernel_rfl) fun _ _ _ _ _ _=>us3 fun _ _ _=>rfl
theorem ok_law_bag_goes:FnOk P w (hk w) mg base CX0 5 296 (FD "_law_bag_goes" 53 hxM0 295) ["_law_land", "_law_place", "_law_bag"] (spM (hk w) 3 .F f__law_bag_goes):=
 okF (d_law_bag_goes Y) sc_law_bag_goes (.inl rfl) rfl rfl fun hr=>(q_cons (q_setF (i:=3) sc_law_bag_goes.nd rfl (by trivial) (q_cb K_len b_len (by rfl) (bl Y).len_ PySem.boot_len (q_acons (q_UB (q_ixU (qv .B 0) q_int)) q_anil)) (by rfl) (by trivial)) (q_cons (q_setF (i:=4) sc_law_bag_goes.nd rfl (by trivial) (q_compn (show CompScope (defScope (top 53)) _ ["_law_land", "_law_place", "_law_bag", "_law_many", "_law_takes", "_law_stand", "_law_blocks", "_law_one", "_law_two", "_law_p"] ["_law_land", "_law_place", "_law_bag", "_law_many", "_law_takes", "_law_stand", "_law_blocks", "#_law_one", "_law_two", "_law_p", "_law_one"] from by trivial) rfl (q_iSqB (q_UB (q_ixU (qv .B 0) q_int))) (fun _ _ _ _=>(@pg_name _ _ 10 _ (by decide +kernel:(["_law_land", "_law_place", "_law_bag", "_law_many", "_law_takes", "_law_stand", "_law_blocks", "#_law_one", "_law_two", "_law_p", "_law_one"]:List Str).Nodup) rfl (Or.inl rfl) (.inr rfl))) gt_U (gk_name (show 10<=10 by decide)) (fun _ _ _ _=>q_pifN) (fun _ _ _ _=>(q_chkV (q_ixU (qv .B 10) q_int)))) (by rfl) (by trivial)) (q_cons (q_setF (i:=5) sc_law_bag_goes.nd rfl (by trivial) (q_ct K_tup (b_tup (c:=true)) (by rfl) (bl Y).tuple_ bt_tuple (q_acons (q_FC (q_compCn (show CompScopeC (defScope (top 53)) _ ["_law_land", "_law_place", "_law_bag", "_law_many", "_law_takes", "_law_stand", "_law_blocks", "_law_one", "_law_two", "_law_p"] ["_law_land", "_law_place", "_law_bag", "_law_many", "_law_takes", "_law_stand", "_law_blocks", "_law_one", "_law_two", "#_law_p", "_law_p"] "_law_p" from ⟨rfl,⟨fun _ _=>rfl,fun _=>rfl⟩,by decide +kernel,by rfl,by decide +kernel,by decide +kernel,by decide +kernel,by decide,by decide +kernel,by decide +kernel⟩) rfl (q_rng1 (by rfl) (bl Y).range_ (q_acons (qv .B 3) q_anil)) (fun _ _ _ _=>(@pg_name _ _ 10 _ (by decide +kernel:(["_law_land", "_law_place", "_law_bag", "_law_many", "_law_takes", "_law_stand", "_law_blocks", "_law_one", "_law_two", "#_law_p", "_law_p"]:List Str).Nodup) rfl (Or.inr rfl) (.inl (by first | rfl | exact beq_self_eq_true _)))) gt_U (gk_name (show 10<=10 by decide)) (fun _ _ _ _=>q_pifN) (fun _ _ _ _=>(q_cb (call_sumL rfl) (b_ints (g:=gSum)) (by rfl) (bl Y).sum_ bt_sum (q_acons (q_CB (q_FC (q_compn (by exact compNestC ⟨rfl,by decide +kernel,by decide +kernel,by decide +kernel,by decide +kernel,by decide,by decide +kernel,by decide +kernel⟩) rfl (q_rng1 (by rfl) (bl Y).range_ (q_acons (q_cb K_len b_len (by rfl) (bl Y).len_ PySem.boot_len (q_acons (qv .B 2) q_anil)) q_anil)) (fun _ _ _ _=>(@pg_name _ _ 11 _ (by decide +kernel:(["_law_land", "_law_place", "_law_bag", "_law_many", "_law_takes", "_law_stand", "_law_blocks", "_law_one", "_law_two", "#_law_p", "_law_p", "_law_k"]:List Str).Nodup) rfl (Or.inl rfl) (.inr rfl))) gt_U (gk_name (show 11<=11 by decide)) (fun _ _ _ _=>q_pifN) (fun _ _ _ _=>(q_op op_mulB (o2_I (C:=CMulB) (g:=gMul) (fun _ _=>rfl) (fun _ _ _=>.int)) (q_UB (q_ixU (qv .B 2) (qv .B 11))) (q_UB (q_ixU (q_UB (q_ixU (qv .B 4) (qv .B 11))) (qv .B 10)))))))) q_anil))))) q_anil)) (by rfl) (by trivial)) (q_cons (q_setcn (i:=6) (show CompScope (defScope (top 53)) _ ["_law_land", "_law_place", "_law_bag", "_law_many", "_law_takes", "_law_stand", "_law_blocks", "_law_one", "_law_two", "_law_p"] ["_law_land", "_law_place", "_law_bag", "_law_many", "_law_takes", "_law_stand", "_law_blocks", "_law_one", "_law_two", "_law_p", "_law_k"] from by trivial) rfl (q_rng1 (by rfl) (bl Y).range_ (q_acons (q_cb K_len b_len (by rfl) (bl Y).len_ PySem.boot_len (q_acons (qv .B 2) q_anil)) q_anil)) (fun _ _ _ _=>(@pg_name _ _ 10 _ (by decide +kernel:(["_law_land", "_law_place", "_law_bag", "_law_many", "_law_takes", "_law_stand", "_law_blocks", "_law_one", "_law_two", "_law_p", "_law_k"]:List Str).Nodup) rfl (Or.inl rfl) (.inr rfl))) gt_U (gk_name (show 10<=10 by decide)) (fun _ _ _ _=>q_pifN) (fun _ _ _ _=>(q_FV (q_tup (q_acons (q_FV (q_lst (q_acons (qv .V 10) q_anil))) (q_acons (q_chkV (q_ixU (qv .B 2) (qv .B 10))) q_anil))))) sc_law_bag_goes.nd rfl (by trivial)) (q_cons (q_setF (i:=7) sc_law_bag_goes.nd rfl (by trivial) (qcD (okstride Y) (dstride Y) (q_acons (qv .B 0) (q_acons (qv .B 5) (q_acons (qv .B 6) q_anil)))) (by rfl) (by trivial)) (q_cons (q_setF (i:=8) sc_law_bag_goes.nd rfl (by trivial) (qcD (okstride Y) (dstride Y) (q_acons (qv .B 0) (q_acons (qv .B 7) (q_acons (qv .B 6) q_anil)))) (by rfl) (by trivial)) (q_cons (q_for PassesOwn.never rfl (q_rng1 (by rfl) (bl Y).range_ (q_acons (qv .B 3) q_anil)) (@pg_name _ _ 9 _ sc_law_bag_goes.nd rfl (by trivial) (by trivial)) gt_U (q_last (q_if_ (PW.pt (q_tor (q_tcmp op_lt xLt (q_UB (q_ixU (qv .B 7) (qv .B 9))) (q_op op_add xAdd (q_UB (q_ixU (qv .B 5) (qv .B 9))) (q_ct call_int1 b_int (by rfl) (bl Y).int_ bt_int (q_acons (q_cmp (op_eqD (hu64 hr)) (o2_eqD (neg:=false)) (qv .B 9) (qv .B 1)) q_anil)))) (q_tor1 (q_tcmp op_ne o2_neS (q_UB (q_ixU (qv .B 8) (qv .B 9))) (q_op op_sub xSub (q_op op_mulB (o2_I (C:=CMulB) (g:=gMul) (fun _ _=>rfl) (fun _ _ _=>.int)) q_int (q_UB (q_ixU (qv .B 7) (qv .B 9)))) (q_UB (q_ixU (qv .B 5) (qv .B 9)))))))) (q_last (q_ret q_bl)) q_nil))) (q_last (q_ret q_bl)))))))))
theorem d_law_numbers:Def (hk w) mg "_law_numbers" (top 54) ["_law_found", "_law_count", "_law_low"] 303 (FD "_law_numbers" 54 hxM0 302):=dk Y (by kernel_rfl) fun _ _ _ _ _ _=>us3 fun _ _ _=>rfl
theorem ok_law_numbers:FnOk P w (hk w) mg base CX0 1 303 (FD "_law_numbers" 54 hxM0 302) ["_law_found", "_law_count", "_law_low"] (spM (hk w) 3 .F f__law_numbers):=
 okF (d_law_numbers Y) sc_law_numbers (.inl rfl) rfl rfl fun hr=>(q_cons (q_if_ (PW.pt (q_tor (q_tnot (q_val (q_cb call_isi b_isi (by rfl) (bl Y).isinstance_ PyProof.Rows.boot_isinstance (q_acons (qv .B 0) (q_acons (@q_ty _ _ _ _ _ _ _ (by rfl) (bl Y).tuple_ bt_tuple (by decide) (by decide)) q_anil))))) (q_tor1 (q_tcmp op_ne o2_neS (q_cb K_len b_len (by rfl) (bl Y).len_ PySem.boot_len (q_acons (qv .B 0) q_anil)) (qv .B 1))))) (q_last (q_ret q_bl)) q_nil) (q_cons (q_for PassesOwn.never rfl (q_iSqU (qv .U 0)) (@pg_name _ _ 3 _ sc_law_numbers.nd rfl (by trivial) (by trivial)) gt_U (q_last (q_if_ (PW.pt (q_tor (q_tnot (q_val (q_cb call_isi b_isi (by rfl) (bl Y).isinstance_ PyProof.Rows.boot_isinstance (q_acons (qv .B 3) (q_acons (@q_ty _ _ _ _ _ _ _ (by rfl) (bl Y).int_ bt_int (by decide) (by decide)) q_anil))))) (q_tor (q_val (q_cb call_isi b_isi (by rfl) (bl Y).isinstance_ PyProof.Rows.boot_isinstance (q_acons (qv .B 3) (q_acons (@q_ty _ _ _ _ _ _ _ (by rfl) (bl Y).bool_ bt_bool (by decide) (by decide)) q_anil)))) (q_tor1 (q_tcmp op_lt xLt (qv .B 3) (qv .B 2)))))) (q_last (q_ret q_bl)) q_nil))) (q_last (q_ret q_bl))))
theorem d_law_kept_down:Def (hk w) mg "_law_kept_down" (top 55) ["_law_stands", "_law_place", "_law_weights_here"] 310 (FD "_law_kept_down" 55 hxM0 309):=dk Y (by kernel_rfl) fun _ _ _ _ _ _=>us3 fun _ _ _=>rfl
theorem ok_law_kept_down:FnOk P w (hk w) mg base CX0 2 310 (FD "_law_kept_down" 55 hxM0 309) ["_law_stands", "_law_place", "_law_weights_here"] (spM (hk w) 3 .F f__law_kept_down):=
 okF (d_law_kept_down Y) sc_law_kept_down (.inl rfl) rfl rfl fun hr=>(q_cons (q_setV (i:=3) sc_law_kept_down.nd rfl (by trivial) (q_op op_fdivL (o2_I (C:=CDivL) (g:=gDiv) (fun _ _=>rfl) (fun _ _ _=>.int)) (q_CB (q_FC (qcD (okweigh Y) (dweigh Y) (q_acons (qv .B 2) (q_acons (q_UB (q_ixU (qv .B 0) q_int)) q_anil))))) (q_UB (q_ixU (qv .B 2) (qv .B 1)))) (by rfl) (by trivial)) (q_cons (q_for PassesOwn.never rfl (q_iSqU (qv .U 0)) (@pg_name _ _ 4 _ sc_law_kept_down.nd rfl (by trivial) (by trivial)) gt_U (q_last (q_if_ (q_tcmp op_gt xGt (q_UB (q_ixU (qv .B 4) (qv .B 1))) (qv .B 3)) (q_last (q_ret q_bl)) q_nil))) (q_last (q_ret q_bl))))
theorem dlaw:Def (hk w) mg "law" (top 56) ["_law_script"] 315 (FD "law" 56 hxM0 314):=dk Y (by kernel_rfl) fun _ _ _ _ _ _=>us1 fun _=>rfl
theorem oklaw:FnOk P w (hk w) mg base CX0 6 315 (FD "law" 56 hxM0 314) ["_law_script"] (spM (hk w) 1 .F f_law):=
 okF (dlaw Y) sclaw (.inl rfl) rfl rfl fun hr=>(q_cons (q_setF (i:=1) sclaw.nd rfl (by trivial) (qcD (ok_law_cell_at Y) (d_law_cell_at Y) (q_acons (qv .B 0) (q_aint q_anil))) (by rfl) (by trivial)) (q_cons (q_setV (i:=2) sclaw.nd rfl (by trivial) (q_op op_add xAdd q_int (q_op op_mod (o2_I (C:=cMod) (g:=gMod) (fun _ _=>rfl) (fun _ _ _=>.int)) (qv .B 1) q_int)) (by rfl) (by trivial)) (q_cons (q_setF (i:=3) sclaw.nd rfl (by trivial) (qcD (ok_law_moves Y) (d_law_moves Y) (q_acons (qv .B 0) (q_acons (qv .B 2) q_anil))) (by rfl) (by trivial)) (q_cons (q_setV (i:=4) sclaw.nd rfl (by trivial) (q_ixV (q_FC (q_lst (q_aint (q_acons (q_op op_add xAdd (q_op op_pow (o2_I (C:=CPow) (g:=gPow) (fun _ _=>rfl) (fun _ _ _=>.int)) q_int q_int) q_int) q_anil)))) (q_op op_mod (o2_I (C:=cMod) (g:=gMod) (fun _ _=>rfl) (fun _ _ _=>.int)) (q_op op_fdiv (o2_I (C:=CDiv) (g:=gDiv) (fun _ _=>rfl) (fun _ _ _=>.int)) (qv .B 1) q_int) q_int)) (by rfl) (by trivial)) (q_cons (q_setF (i:=5) sclaw.nd rfl (by trivial) (q_ct K_tup (b_tup (c:=true)) (by rfl) (bl Y).tuple_ bt_tuple (q_acons (q_FC (q_compn (show CompScope (defScope (top 56)) _ ["_law_script", "_law_first", "_law_many", "_law_moves_here", "_law_top", "_law_begin", "_law_land", "_law_stands", "_law_risen", "_law_place", "_law_kind", "_law_numbers_here", "_law_found", "_law_known"] ["_law_script", "_law_first", "_law_many", "_law_moves_here", "_law_top", "_law_begin", "_law_land", "_law_stands", "_law_risen", "_law_place", "_law_kind", "_law_numbers_here", "_law_found", "_law_known", "_law_x"] from by trivial) rfl (q_iSqB (q_CB (q_FC (qcD (ok_law_stream Y) (d_law_stream Y) (q_acons (q_CB (q_FC (qcD (ok_law_cell_at Y) (d_law_cell_at Y) (q_acons (qv .B 0) (q_aint q_anil))))) (q_aint (q_acons (qv .B 2) q_anil))))))) (fun _ _ _ _=>(@pg_name _ _ 14 _ (by decide +kernel:(["_law_script", "_law_first", "_law_many", "_law_moves_here", "_law_top", "_law_begin", "_law_land", "_law_stands", "_law_risen", "_law_place", "_law_kind", "_law_numbers_here", "_law_found", "_law_known", "_law_x"]:List Str).Nodup) rfl (Or.inl rfl) (.inr rfl))) gt_U (gk_name (show 14<=14 by decide)) (fun _ _ _ _=>q_pifN) (fun _ _ _ _=>(q_op op_mod (o2_I (C:=cMod) (g:=gMod) (fun _ _=>rfl) (fun _ _ _=>.int)) (qv .B 14) (qv .B 4))))) q_anil)) (by rfl) (by trivial)) (q_cons (q_setF (i:=6) sclaw.nd rfl (by trivial) (qcD (okmoor Y) (dmoor Y) (q_acons (qv .B 5) (q_acons (qv .B 3) q_anil))) (by rfl) (by trivial)) (q_cons (q_setF (i:=7) sclaw.nd rfl (by trivial) (qcD (okstands_of Y) (dstands_of Y) (q_acons (qv .B 6) (q_acons (qv .B 5) (q_acons (q_CB (q_FC (qcD (ok_law_row Y) (d_law_row Y) (q_acons (qv .B 5) (q_acons (qv .B 3) (q_acons (q_CB (q_FC (q_op op_cat (o2_cat (c:=false)) (q_CB (q_FC (qcD (ok_law_stream Y) (d_law_stream Y) (q_acons (qv .B 1) (q_aint (q_aint q_anil)))))) (q_CB (q_FC (@q_sl _ _ _ _ _ _ false _ _ _ _ _ (qv .B 0) (q_pS q_int) (q_pS q_int) (by rfl))))))) q_anil)))))) q_anil)))) (by rfl) (by trivial)) (q_cons (q_setF (i:=8) sclaw.nd rfl (by trivial) (q_lst q_anil) (by rfl) (by trivial)) (q_cons (q_for PassesOwn.never rfl (q_rng1 (by rfl) (bl Y).range_ (q_acons (qv .B 2) q_anil)) (@pg_name _ _ 9 _ sclaw.nd rfl (by trivial) (by trivial)) gt_U (q_cons (@q_asg _ _ _ _ _ _ _ _ _ _ _ (q_VU (q_FV (qcD (okceiling Y) (dceiling Y) (q_acons (qv .B 3) (q_acons (qv .B 9) (q_acons (qv .B 2) q_anil)))))) (@pg_tupK _ (hk w) _ _ _ _ 2 rfl (pgs_cons (@pg_name _ _ 10 _ sclaw.nd rfl (by trivial) (by trivial)) (pgs_cons (@pg_name _ _ 11 _ sclaw.nd rfl (by trivial) (by trivial)) pgs_nil)) (by rfl) (by rfl) (by rfl)) (gt_tup (.inr rfl) (gts_cons (.inr rfl) gt_U (gts_cons (.inr rfl) gt_U gts_nil))) (by rfl) (by rfl) (by rfl)) (q_last (q_if_ (q_tcmp op_eq o2_eqS (qv .B 10) q_str) (q_last (@q_app _ _ _ _ _ _ _ 8 _ _ _ _ rfl (by trivial) (qv .V 9) (by decide) (by decide) (by rfl) (by rfl) (by rfl) (by rfl) (by rfl))) (q_last (q_if_ (q_tnot (q_val (q_CB (q_FC (qcD (ok_law_kept_down Y) (d_law_kept_down Y) (q_acons (qv .B 7) (q_acons (qv .B 9) (q_acons (qv .B 11) q_anil)))))))) (q_last (q_ret q_bl)) q_nil)))))) (q_cons (q_setF (i:=12) sclaw.nd rfl (by trivial) (qcD (oklevel Y) (dlevel Y) (q_acons (qv .B 3) (q_acons (qv .B 2) q_anil))) (by rfl) (by trivial)) (q_cons (q_if_ (PW.pt (q_tor (q_tnot (q_val (q_cb call_isi b_isi (by rfl) (bl Y).isinstance_ PyProof.Rows.boot_isinstance (q_acons (qv .B 12) (q_acons (@q_ty _ _ _ _ _ _ _ (by rfl) (bl Y).tuple_ bt_tuple (by decide) (by decide)) q_anil))))) (q_tor1 (q_tcmp op_lt xLt (q_cb K_len b_len (by rfl) (bl Y).len_ PySem.boot_len (q_acons (qv .B 12) q_anil)) q_int)))) (q_last (q_ret q_bl)) q_nil) (q_cons (q_if_ (q_tcmp (op_eqD (hu64 hr)) (o2_eqD (neg:=false)) (qv .B 8) (q_CB (q_FC (q_lst q_anil)))) (q_cons (q_if_ (PW.pt (q_tor (q_tcmp op_ne o2_neS (q_UB (q_ixU (qv .B 12) q_int)) q_str) (q_tor (q_tcmp op_ne o2_neS (q_cb K_len b_len (by rfl) (bl Y).len_ PySem.boot_len (q_acons (qv .B 12) q_anil)) q_int) (q_tor1 (q_tnot (q_val (q_CB (q_FC (qcD (ok_law_numbers Y) (d_law_numbers Y) (q_acons (q_UB (q_ixU (qv .B 12) q_int)) (q_acons (qv .B 2) (q_aint q_anil)))))))))))) (q_last (q_ret q_bl)) q_nil) (q_cons (q_if_ (q_tnot (q_val (q_CB (q_FC (qcD (okis_falling Y) (dis_falling Y) (q_acons (qv .B 3) (q_acons (q_UB (q_ixU (qv .B 12) q_int)) q_anil))))))) (q_last (q_ret q_bl)) q_nil) (q_cons (q_setF (i:=13) sclaw.nd rfl (by trivial) (q_compn (show CompScope (defScope (top 56)) _ ["_law_script", "_law_first", "_law_many", "_law_moves_here", "_law_top", "_law_begin", "_law_land", "_law_stands", "_law_risen", "_law_place", "_law_kind", "_law_numbers_here", "_law_found", "_law_known"] ["_law_script", "_law_first", "_law_many", "_law_moves_here", "_law_top", "_law_begin", "_law_land", "_law_stands", "_law_risen", "_law_place", "_law_kind", "_law_numbers_here", "_law_found", "_law_known", "_law_stand"] from by trivial) rfl (q_iSqB (qv .B 7)) (fun _ _ _ _=>(@pg_name _ _ 14 _ (by decide +kernel:(["_law_script", "_law_first", "_law_many", "_law_moves_here", "_law_top", "_law_begin", "_law_land", "_law_stands", "_law_risen", "_law_place", "_law_kind", "_law_numbers_here", "_law_found", "_law_known", "_law_stand"]:List Str).Nodup) rfl (Or.inl rfl) (.inr rfl))) gt_U (gk_name (show 14<=14 by decide)) (fun _ _ _ _=>q_pifN) (fun _ _ _ _=>(q_FV (qcD (okweigh Y) (dweigh Y) (q_acons (q_UB (q_ixU (qv .B 12) q_int)) (q_acons (qv .B 14) q_anil)))))) (by rfl) (by trivial)) (q_last (q_ret (q_cmp op_eq o2_eqS (q_cb K_len b_len (by rfl) (bl Y).len_ PySem.boot_len (q_acons (q_CB (q_FC (q_compn (show CompScope (defScope (top 56)) _ ["_law_script", "_law_first", "_law_many", "_law_moves_here", "_law_top", "_law_begin", "_law_land", "_law_stands", "_law_risen", "_law_place", "_law_kind", "_law_numbers_here", "_law_found", "_law_known"] ["_law_script", "_law_first", "_law_many", "_law_moves_here", "_law_top", "_law_begin", "_law_land", "_law_stands", "_law_risen", "_law_place", "_law_kind", "_law_numbers_here", "_law_found", "_law_known", "_law_k"] from by trivial) rfl (@q_rng2 _ _ _ _ _ _ _ _ _ _ (by rfl) (bl Y).range_ (q_aint (q_acons (q_cb K_len b_len (by rfl) (bl Y).len_ PySem.boot_len (q_acons (qv .B 13) q_anil)) q_anil)) (by rfl) (by rfl)) (fun _ _ _ _=>(@pg_name _ _ 14 _ (by decide +kernel:(["_law_script", "_law_first", "_law_many", "_law_moves_here", "_law_top", "_law_begin", "_law_land", "_law_stands", "_law_risen", "_law_place", "_law_kind", "_law_numbers_here", "_law_found", "_law_known", "_law_k"]:List Str).Nodup) rfl (Or.inl rfl) (.inr rfl))) gt_U (gk_name (show 14<=14 by decide)) (fun _ _ _ _=>(q_pif1 (q_tcmp op_gt xGt (q_UB (q_ixU (qv .B 13) (qv .B 14))) (q_UB (q_ixU (qv .B 13) (q_op op_sub xSub (qv .B 14) q_int)))))) (fun _ _ _ _=>(qv .V 14))))) q_anil)) q_int)))))) q_nil) (q_cons (q_if_ (PW.pt (q_tor (q_tcmp op_ne o2_neS (q_UB (q_ixU (qv .B 12) q_int)) q_str) (q_tor (q_tcmp op_ne o2_neS (q_cb K_len b_len (by rfl) (bl Y).len_ PySem.boot_len (q_acons (qv .B 12) q_anil)) q_int) (q_tor (q_tcmp (op_neD (hu64 hr)) (o2_eqD (neg:=true)) (q_UB (q_ixU (qv .B 12) q_int)) (q_UB (q_ixU (qv .B 8) q_int))) (q_tor1 (q_val (q_cb call_isi b_isi (by rfl) (bl Y).isinstance_ PyProof.Rows.boot_isinstance (q_acons (q_UB (q_ixU (qv .B 12) q_int)) (q_acons (@q_ty _ _ _ _ _ _ _ (by rfl) (bl Y).bool_ bt_bool (by decide) (by decide)) q_anil))))))))) (q_last (q_ret q_bl)) q_nil) (q_cons (q_if_ (q_tnot (q_val (q_CB (q_FC (qcD (ok_law_numbers Y) (d_law_numbers Y) (q_acons (q_UB (q_ixU (qv .B 12) q_int)) (q_acons (q_cb K_len b_len (by rfl) (bl Y).len_ PySem.boot_len (q_acons (qv .B 3) q_anil)) (q_aint q_anil)))))))) (q_last (q_ret q_bl)) q_nil) (q_last (q_ret (q_or (q_cmp op_ge xGe (q_cb (call_maxQ rfl) (b_best (g:=maxL)) (by rfl) (bl Y).max_ bt_max (q_acons (q_UB (q_ixU (qv .B 12) q_int)) q_anil)) (q_op op_pow (o2_I (C:=CPow) (g:=gPow) (fun _ _=>rfl) (fun _ _ _=>.int)) q_int q_int)) (q_one (qcD (ok_law_bag_goes Y) (d_law_bag_goes Y) (q_acons (qv .B 6) (q_acons (q_UB (q_ixU (qv .B 8) q_int)) (q_acons (q_UB (q_ixU (qv .B 12) q_int)) q_anil))))))))))))))))))))))
end
def spLaw (K:Frag):Sp:=fun vs H Q _=>∃ (a:Addr) (ns:List Int),vs = [.ref a]/\SqL K H a (ns.map V.int)/\ns.length<=63/\(∀ x∈ns,Builtin.Int.intBits x<=1048576)/\∀ H',Q (.bl true) H'
theorem all_ {l:PySem.W.OpenLaw} {w:World} {mg:Str->Option Value} {fa:Addr} (Y:En w mg) (hp:∀ ns:List Int,ns.length<=63->(∀ x∈ns,Builtin.Int.intBits x<=1048576)->f_law [.scr (ns.map W.int)]=.ok (.bl true)) (e:mg "law" = some (.ref fa)):∃ fd:FuncData,(∀ (s:Shared) (v:Value),BindsTo s fd ⟨[v],[]⟩ [("_law_script",v)])/\∀ base:Heap,(hk w).In base->base.Ns mainGlobals mg->FnOk l.prog w (hk w) mg base CX0 6 fa fd ["_law_script"] (spLaw (hk w)):=by
 cases e.symm.trans (dlaw Y).m
 exact ⟨FD "law" 56 hxM0 314,fun s v=>.of_eq rfl,fun base _ _=>law_ofB (oklaw Y) hp⟩
end K59
open PySem PySem.W PyProof.Rows
namespace K59
end K59
set_option maxHeartbeats 0 in
theorem PySem.Challenge.cw_tokenmoor_k59_whole_what_keeps_places_do_holds : PySem.Challenge.rw_tokenmoor_k59_whole_what_keeps_places_do.Holds := by
 w_on; o_law
 refine holds_open (q:=K59.view) (loose:=[]) (Xt:=fun s=>xlAt K59.view [] s&&recOk [] s) (XP:=XL K59.view [])
  (Yf:=K59.hook.obs) (Ya:=K59.hook.val) (YP:=K59.hook.says) (N:=4114) K59.hl0 K59.hook.of K59.hook.keeps
  (fun s e=>xl_of s (Bool.and_eq_true_iff.mp e).1) XL.keeps (by rfl) (by rfl) (by rfl)
  (fun s e=>recFacts_of (Bool.and_eq_true_iff.mp e).2) (by rfl) (by first | assumption | decide +kernel)
  (by decide +kernel) ⟨rfl,rfl,rfl,rfl,rfl,by decide +kernel⟩ ?hw ?hc
 (case hw=>w_witness2)
 refine L2.walk_ofKB (l:=PySem.Challenge.rw_tokenmoor_k59_whole_what_keeps_places_do) (n:=63) (k:=6) (x := "_law_script") (CX:=L2.CX0) (sp:=K59.spLaw) rfl (by decide) rfl ⟨rfl,by decide,by decide⟩ (fun w h Y=>PySem.W.km_in_of Y) (fun w h Y p hp=>by
  obtain rfl:p=((206,129,26, "leaving.<locals>.<lambda>"):PySem.Addr×Nat×Nat×PySem.Str):=by simpa [L2.lamT] using hp
  exact ⟨PySem.W.km_tabs_of Y 206 (by simp),L2.codeTab (PySem.W.codeHd_of_K (c:=208) (PySem.W.km_in_of Y) (by kernel_rfl)),by kernel_rfl,by unfold L2.lamT; rfl⟩)
  (fun w mg fa h X G e=>K59.all_ ⟨h,X,G⟩ K59.law_pure e)
  (fun K H a ns hl hb hO hS=>⟨a,ns,rfl,hS,hl,hb,fun _=>rfl⟩) fun _ _ _ _ z=>z
