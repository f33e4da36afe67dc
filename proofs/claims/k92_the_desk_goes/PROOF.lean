import PyProof.Rows.All
import Wide.All
import OpenK.AllK
import Wide.FinOn
import Lean
import PyProof.EqAt
import PyProof.EqKinds
import PyProof.TupleCall
import PyProof.ZipIter
import PyProof.TupleIter
import PyProof.WalksMore
import PyProof.EnumMake
import PyProof.Draws
import PyProof.P3In
import KE.KSortTup
import PyProof.Rows.SortWalk
import KE.IntBitsLaws
import KE.KRevIter
import PyProof.TupleOfGen
import PyProof.Rows.FStr
import PyProof.StrCalls2
import PyProof.StrBlockH
import PyProof.Rows.StrRules
import KE.KIntText
import KE.KDictList
import PyProof.StrWalks
import PyProof.DictWalks
import PyProof.MeetsDict
import PyProof.DictValues
import PyProof.Rows.Range3
import PyProof.StrBlock2
import PyProof.StrCalls6
import PyProof.PureStr
import PyProof.MeetsStr
import PyProof.Rows.StrNews2
import PyProof.StrCalls
import PyProof.Rows.TupIter
import PySem.Challenge.RW_tokenmoor_k92_the_desk_goes
open PySem.W (Frag)
set_option Elab.async false
set_option linter.all false
set_option compiler.extract_closed false
def ZU {p:Prop}(h:p:=by omega):p:=h
def WU {p:Prop}(h:p:=by rfl):p:=h
def Xaq {p:Prop}(h:p:=by trivial):p:=h
def Xaa {p:Prop}(h:p:=by decide):p:=h
def Xaf {p:Prop}(h:p:=by simp):p:=h
def Xak {p:Prop}(h:p:=by kernel_rfl):p:=h
def Xac {p:Prop}(h:p:=by decide +kernel):p:=h
def Xah {p:Prop}(h:p:=by first|exact Or.inl rfl|exact Or.inr rfl):p:=h
def Xai {p:Prop}(h:p:=by first|exact .inl rfl|exact .inr rfl|assumption):p:=h
def Xab {p:Prop}(h:p:=by first|exact Or.inl rfl|exact Or.inr (Or.inl rfl)|exact Or.inr (Or.inr rfl)):p:=h
def Xap {p:Prop}(h:p:=by first|exact nomark _|rfl):p:=h
abbrev ZQ:=List (PySem.Addr×PySem.Obj)
abbrev ZZ:=PySem.Str->Option PySem.Value
abbrev ZJ:=List (Option Int)
abbrev ZV:=Option Int
abbrev ZW:=List PySem.Value
abbrev ZK:=List PySem.Str
abbrev ZX:=List PySem.Expr
abbrev ZY:=Array PySem.Value
abbrev YJ:=PySem.Value->PySem.Shared->Prop
abbrev Uj:=Option PySem.Value
abbrev Wk:=List PySem.Stmt
abbrev Xao:=List (List Int)
abbrev Xaj:=List Int
def qK2:=@decide_eq_false
def qK4:=@PySem.wpAny_pure
def qK5:=@decide_eq_true
def qK6:=@PySem.wpAny_holding
def qK7:=@if_true
def qK8:=@PySem.wpAny_field
def qK9:=@PySem.wpAny_mono
def qL0:=@PySem.wpAny_newObj_type
def qL1:=@PySem.wpAny_Call_Name_kw
def qL2:=@PySem.wpAny_callSpecial?_slot
def qL3:=@PySem.wpAny_truthy_bool
def qL4:=@of_decide_eq_true
def qL5:=@PySem.wpAny_seqItems
def qL6:=@PySem.codeAny_mono
def qL7:=@PySem.wpAny_call_entry
def qL8:=@PySem.wpAny_standAt
def qL9:=@PySem.wpAny_call
def qM0:=@PySem.wpAny_setField_rec
def qM1:=@PySem.wpAny_loadPart
def qM2:=@PySem.call_meets
def qM3:=@beq_self_eq_true
def qM4:=@PySem.wpAny_attempt
def qM5:=@beq_eq_false_iff_ne
def qM6:=@PySem.wpAny_execs_nil
def qM7:=@PySem.wpAny_passesOwn
def qM8:=@if_false
def qM9:=@List.pairwise_cons
def qN0:=@PySem.wpAny_pyIter_tuple
def qN1:=@PySem.AutoSeq1.wpAny_loadPart'
def qN2:=@Nat.succ_add_eq_add_succ
def qN3:=@List.Pairwise.imp_of_mem
def qN4:=@PySem.typeIs_str
def qN5:=@List.getElem?_replicate
def qN6:=@PySem.wpAny_pyIter_list
def qN7:=@List.pairwise_map
def qN8:=@PySem.Calls.callWith_builtin
def qN9:=@List.take_succ_eq_append_getElem
def qO0:=@PySem.Str.empty_append
def qO1:=@List.length_replicate
def qO2:=@PySem.plainObj_wpAny_Assign_Attribute
def qO3:=@List.nodup_cons
def qO4:=@PySem.codeAny_call_builtin
def qO5:=@PySem.F.slot_zip_next
def qO6:=@Nat.not_lt_zero
def qO7:=@List.mem_of_mem_drop
def qO8:=@Int.mul_le_mul_of_nonneg_left
def qO9:=@PySem.W.plainGet_of
def qP0:=@PySem.W.looks_clsIn
def qP1:=@Nat.add_le_add_left
def qP2:=@Nat.add_sub_cancel'
def qP3:=@ne_true_of_eq_false
def qP4:=@List.getElem?_range
def qP5:=@List.take_succ_cons
def qP6:=@Bool.false_and
def qP8:=@Nat.le_succ
def qP9:=@PySem.wpAny_of_eq
def qQ0:=@List.filterMap_map
def qQ1:=@PySem.W.check_slot
def qQ2:=@PySem.tupleKind_room_in1
def qQ4:=@PySem.F.args_str_split_2
def qQ6:=@Option.isSome_map
def qQ7:=@List.take_add_one
def qQ8:=@Nat.le_of_lt_succ
def qQ9:=@Nat.add_sub_assoc
def qR0:=@PySem.F.entry_str_split
def qR1:=@beq_iff_eq
def qR2:=@List.mem_or_eq_of_mem_set
def qR3:=@PySem.wpAny_execs_cons
def qR4:=@Nat.le_of_eq
def qR5:=@List.getElem?_take_of_lt
def qR6:=@PySem.wpAny_typeOf
def qR8:=@Array.size_setIfInBounds
def qS0:=@Nat.succ_le_succ
def qS1:=@PySem.F.slot_str_split
def qS2:=@PySem.F.slot_dict_values
def qS3:=@List.getElem_map
def qS4:=@PySem.F.plainAttrs_list
def qS5:=@PySem.F.slot_list_index
def qS6:=@PySem.F.plainAttrs_dict
def qS7:=@List.of_mem_zip
def qS8:=@Nat.min_le_left
def qT0:=@List.nil_append
def qT1:=@List.range_succ
def qU9:=@List.drop_left
def qV3:=@Int.mul_nonneg
def qV4:=@Int.mul_le_mul
def qA0:=@PySem.wpAny_bind
def qA1:=@List.length_map
def qA2:=@PySem.Heap.get?_push_of_some
def qA3:=@if_pos
def qA4:=@List.getElem?_set_ne
def qA5:=@List.mem_cons_of_mem
def qA6:=@Nat.le_refl
def qA7:=@Subtype.property
def qA8:=@PySem.Str.length_append
def qA9:=@if_neg
def qB0:=@List.mem_map
def qB1:=@PySem.Heap.get?_push_size
def qB2:=@PySem.Heap.lt_size
def qB3:=@List.mem_cons_self
def qB4:=@List.getElem?_eq_some_iff
def qB5:=@List.mem_cons
def qB6:=@Nat.lt_of_lt_of_le
def qB7:=@List.length_range
def qB8:=@PySem.boot_len
def qB9:=@List.getElem?_set
def qC0:=@List.map_append
def qC1:=@Bool.false_ne_true
def qC2:=@List.length_cons
def qC3:=@PyProof.Rows.boot_isinstance
def qC4:=@List.length_append
def qC5:=@List.map_map
def qC6:=@List.getElem?_map
def qC7:=@List.getD_eq_getElem?_getD
def qC8:=@Nat.le_trans
def qC9:=@List.mem_range
def qD0:=@List.length_set
def qD1:=@List.getElem?_eq_getElem
def qD2:=@List.map_cons
def qD3:=@List.append_nil
def qD4:=@List.not_mem_nil
def qD5:=@Nat.ne_of_lt
def qD6:=@List.size_toArray
def qD7:=@List.getElem?_append_left
def qD8:=@List.take_of_length_le
def qD9:=@List.mem_of_getElem?
def qE0:=@List.all_eq_true
def qE1:=@Nat.zero_le
def qE2:=@List.mem_append
def qE3:=@List.mem_append_right
def qE4:=@List.getElem?_set_self
def qE5:=@List.mem_singleton
def qE6:=@Bool.and_eq_true
def qE7:=@Nat.lt_irrefl
def qE8:=@List.getElem?_append_right
def qE9:=@PySem.W.kia_one
def qF0:=@Option.map_eq_some_iff
def qF1:=@PySem.Heap.get?_update_self
def qF2:=@PyProof.Rows.callWith_type1
def qF3:=@List.length_take
def qF4:=@List.length_drop
def qF5:=@PySem.PassesOwn.never
def qF6:=@PySem.Str.append_assoc
def qF7:=@Int.toNat_natCast
def qF8:=@PySem.mem_of_lookup
def qF9:=@Int.emod_lt_of_pos
def qG0:=@PyProof.Rows.slot_tuple_getitem
def qG1:=@Int.emod_nonneg
def qG2:=@List.append_assoc
def qG3:=@Array.length_toList
def qG4:=@Nat.min_le_right
def qG5:=@PySem.Sem.wp_bind
def qG6:=@Nat.lt_of_le_of_lt
def qG7:=@List.mem_filter
def qG8:=@List.getElem?_zipWith
def qG9:=@Classical.choose_spec
def qH0:=@PySem.F.excBase_ValueError
def qH1:=@PySem.F.slot_tuple_iterator_next
def qH2:=@PySem.W.looks_findIn
def qH3:=@List.drop_eq_getElem_cons
def qH4:=@List.getElem_mem
def qH5:=@Nat.zero_add
def qH6:=@List.map_nil
def qH7:=@List.filterMap_cons
def qH8:=@List.map_congr_left
def qH9:=@Int.eq_ofNat_of_zero_le
def qI0:=@List.any_cons
def qI1:=@Bool.eq_iff_iff
def qI2:=@PySem.W.callWith_K
def qI3:=@List.length_nil
def qI4:=@List.getElem_range
def qI5:=@PySem.Sem.wp_mono
def qI6:=@PySem.F.plainAttrs_str
def qI7:=@Nat.ne_of_gt
def qI8:=@PySem.Heap.size_push
def qI9:=@List.getElem?_eq_none
def qJ0:=@List.drop_drop
def qJ1:=@PySem.StrLaws.strSub_toList
def qJ2:=@List.cons_append
def qJ3:=@List.getElem?_append
def qJ4:=@PySem.StrLaws.subAt_eq
def qJ5:=@PySem.Heap.get?_update_ne
def qJ6:=@Nat.le_of_lt
def qJ7:=@Bool.false_eq_true
def qJ8:=@List.getElem?_cons
def qJ9:=@List.take_zero
def qK0:=@List.ext_getElem?
def qK1:=@List.take_length
def qK3:=@List.ext_getElem
set_option maxRecDepth 100000
theorem Z1 (a:p)(b:q):p/\q:=⟨a,b⟩
noncomputable section
local macro_rules | `(tactic| omega)=>`(tactic| first | with_reducible assumption | decide | lia)
local macro_rules | `(tactic| show $e)=>`(tactic| exact $e)
set_option hygiene false
local macro_rules|`([ZE,$a])=>`((.ref $a))
local macro_rules|`([ZF,$a])=>`(Str.ofString $a)
local macro_rules|`([ZG,$a,$b])=>`((@qv _ _ _ _ $a $b _ WU Xab Xaa Xaa))
local macro_rules|`([ZH])=>`((hk w))
local macro_rules|`([ZI,$a,$b])=>`($a[i]?=some $b)
local macro_rules|`([ZL,$a])=>`(decide ($a))
local macro_rules|`([ZM,$a])=>`(($a).length)
local macro_rules|`([ZN])=>`((@b9 _ _ _ _ _ _ _))
local macro_rules|`([ZO,$a:term,$b:term])=>`(by rw[$a:term];show $b:term)
local macro_rules|`([ZP,$a])=>`((@b6 _ _ _ _ _ _ _ _ $a (@b7 _ _ _ _) WU))
local macro_rules|`([ZR,$a,$b,$c])=>`(PE X $a (tM K EX $b $c))
local macro_rules|`([ZS])=>`((@b8 _ _ _ _ _ _ _))
local macro_rules|`([ZT,$a])=>`((some $a))
local macro_rules|`([YD,$a,$b])=>`((.Name $a $b))
local macro_rules|`([YL,$a,$b,$c])=>`((if $a then $b else $c))
local macro_rules|`([YM,$a])=>`((.lst $a))
local macro_rules|`([YR,$a,$b,$c])=>`(Inv X pins $a $b $c)
local macro_rules|`([Yd,$a,$b])=>`((@b6 _ _ _ _ _ _ _ _ $a (@b6 _ _ _ _ _ _ _ _ $b (@b7 _ _ _ _) WU) WU))
local macro_rules|`(tactic|show 1 $a:ident $b)=>`(tactic|obtain ⟨$a:ident,rfl⟩:=$b)
local macro_rules|`([Yh])=>`((@qv _ _ _ _ .B 0 _ WU Xab Xaa Xaa))
local macro_rules|`([WH,$a,$b])=>`(⟨_,$a,$b⟩)
local macro_rules|`([WN,$a,$b,$c,$d,$e,$f])=>`(($a _ _ _ _ _ _ _ _ _ _ _ _ $b $c $d $e $f))
local macro_rules|`([Wb,$a])=>`((some (.ref $a)))
local macro_rules|`([Ws])=>`((.inl rfl))
local macro_rules|`([UE])=>`(Inv X pins a H s)
local macro_rules|`([UH])=>`((by show hr.mono Xaa))
local macro_rules|`([TC])=>`((e::es))
local macro_rules|`(tactic|show 2)=>`(tactic|show o.elim)
local macro_rules|`([TD,$a,$b])=>`(($a).mono λ_ _ _ q=>$b)
local macro_rules|`([TF,$a,$b,$c])=>`(($a _ _ _ _ _ _ _ _ $b $c))
local macro_rules|`([TH,$a,$b])=>`($a=.ok (.bl $b))
local macro_rules|`([TJ,$a,$b])=>`(if $a then $b else .stuck)
local macro_rules|`([TK,$a])=>`(($a Y).1.F.kp)
local macro_rules|`([TM,$a,$b])=>`(PIv K H0 G $a $b H)
local macro_rules|`([TN,$a])=>`($a b=some o)
local macro_rules|`([TQ,$a])=>`(show $a by omega)
local macro_rules|`([TR])=>`(List W->R W)
local macro_rules|`([Ta])=>`(List Str)
local macro_rules|`([Tb,$a])=>`((λ_ _ _ _=>$a))
local macro_rules|`([Tc,$a,$b])=>`((@i0 _ _ _ _ _ (@e9 _ _ _ _ _ _ _ _ $a $b (by show λ_ _=>rfl) WU)))
local macro_rules|`([Td])=>`((@qv _ _ _ _ .B 1 _ WU Xab Xaa Xaa))
local macro_rules|`([Te,$a])=>`($a<=sizeLine)
local macro_rules|`([Tf,$a,$b])=>`((@d7 _ _ _ _ _ _ _ _ _ $a $b))
local macro_rules|`([Th,$a])=>`(Reps K $a vs ws)
local macro_rules|`([Ti,$a,$b,$c,$d])=>`((@e8 _ _ _ _ _ _ _ _ _ _ _ _ $a $b $c $d (by first|show c9 _|rfl)))
local macro_rules|`(tactic|show 3 $a:ident $b:ident $c)=>`(tactic|obtain ⟨$a:ident,$b:ident,rfl⟩:=$c)
local macro_rules|`([Tj,$a])=>`((p1 (p2 $a)))
local macro_rules|`([Tk,$a])=>`((@b6 _ _ _ _ _ _ _ _ (@b8 _ _ _ _ _ _ _) $a WU))
local macro_rules|`([Tl,$a])=>`(.str (Str.ofString $a))
local macro_rules|`([Tm,$a])=>`(starEach $a X.env)
local macro_rules|`(tactic|show 4 $a:ident $b)=>`(tactic|(obtain ⟨H0,G,$a:ident,I,o⟩:=h;refine ⟨H0,G,$a:ident,I,$b⟩))
local macro_rules|`([Tn])=>`((@qv _ _ _ _ .B 2 _ WU Xab Xaa Xaa))
local macro_rules|`([To,$a,$b])=>`({ $a with heap:=$b })
local macro_rules|`([Tp,$a,$b])=>`((List.range $a).map $b)
local macro_rules|`([Tq])=>`(⟨_,rfl⟩)
local macro_rules|`([Tr,$a:term])=>`(by grind[$a:term])
local macro_rules|`([Ts,$a])=>`($a->Hp->Prop)
local macro_rules|`([Tt,$a])=>`((@d6 _ _ _ _ _ _ $a))
local macro_rules|`([Tu,$a,$b])=>`((@i6 _ _ _ _ _ _ _ $a _ _ nd rfl Xah $b WU Xai))
local macro_rules|`([Tv,$a,$b,$c])=>`(($a _ _ _ _ _ _ $b $c))
local macro_rules|`([Tw,$a,$b,$c])=>`(tM K EX $a $b $c H Q)
local macro_rules|`([Tx,$a])=>`((tSt K EX d $a))
local macro_rules|`([Ty])=>`((model X.prog X.w))
local macro_rules|`([Tz,$a:ident,$b:ident,$c:ident])=>`(λ $a:ident G1 H1 $b:ident $c:ident m1 o1=>?_)
local macro_rules|`([SA,$a,$b,$c])=>`(L2.atI $a $b=some $c)
local macro_rules|`([SB])=>`((envOfC qual scope s0.heap.objs.size I cd))
local macro_rules|`([SD,$a])=>`(qA7 (p:=$a) _)
local macro_rules|`([SE,$a])=>`((@l0 _ _ _ _ _ _ $a))
local macro_rules|`([SF,$a,$b])=>`((show $a from $b))
local macro_rules|`([SG,$a])=>`((@h9 _ _ _ _ _ $a))
local macro_rules|`([SH,$a])=>`(λ_ _ _ q=>$a)
local macro_rules|`([SI,$a,$b])=>`(($a pins s $b H _ I h))
local macro_rules|`([SJ,$a])=>`((false,eval $a X.env))
local macro_rules|`([SK,$a])=>`(show $a by decide)
local macro_rules|`([SL,$a])=>`((@d6 _ _ _ _ _ _ (@o0 _ _ _ _ _ _ _ $a)))
local macro_rules|`([SM,$a,$b])=>`(($a _ _ _ _ _ ($b)))
local macro_rules|`([SN])=>`((λz=>nomatch z))
local macro_rules|`([SO,$a,$b])=>`(Out EX G H $a $b Q)
local macro_rules|`(tactic|show 5 $a:ident)=>`(tactic|obtain ⟨H0,G,$a:ident,I,o⟩:=h)
local macro_rules|`([SQ,$a])=>`(hxO "tuple" (.seq $a 0))
local macro_rules|`([SR])=>`(s.heap.get? b=some o)
local macro_rules|`([SS,$a,$b,$c])=>`({ $a with heap:=$b,toks:=$c })
local macro_rules|`(tactic|show 6)=>`(tactic|refine ⟨_,rfl,?_⟩)
local macro_rules|`([ST,$a])=>`(wpAny (model prog w) A $a Q E s)
local macro_rules|`([SU,$a,$b,$c])=>`((@c8 _ _ _ _ _ _ _ _ $a (@c8 _ _ _ _ _ _ _ _ $b $c)))
local macro_rules|`([SV,$a,$b,$c])=>`((@u9 _ _ _ _ _ _ _ _ _ _ _ $a $b $c))
local macro_rules|`([SW])=>`((@u8 _ _ _ _))
local macro_rules|`([SX,$a])=>`((by simpa using $a))
local macro_rules|`([SY,$a,$b])=>`((.Call $a $b [] pos))
local macro_rules|`([SZ,$a])=>`((Md.sca rfl (λ_=>$a) d))
local macro_rules|`([Sv,$a,$b])=>`((@v7 _ _ _ _ _ _ _ _ _ _ _ _ $a $b (@o5 _ _ _ _ _)))
local macro_rules|`([Sw,$a,$b])=>`((@c7 _ _ _ _ _ _ _ _ _ _ _ _ _ i3 l7 $a $b))
local macro_rules|`(tactic|show 7 $a)=>`(tactic|intro pins s $a H Q I h)
local macro_rules|`([Sx,$a,$b])=>`(List.replicate ($a-$b) Sl.un)
local macro_rules|`([Sy,$a])=>`((eval $a X.env))
local macro_rules|`([Sz,$a])=>`(∀cl ex s H,$a)
local macro_rules|`([Rn,$a])=>`(.ok (.nx (a.set i $a)))
local macro_rules|`([I0,$a,$b])=>`((@b6 _ _ _ _ _ _ _ _ $a $b WU))
local macro_rules|`([z5,$a])=>`((Str.ofString $a).length)
local macro_rules|`([yc,$a,$b])=>`(wpAny (model X.prog X.w) X.A $a $b X.xe s)
local macro_rules|`([wr,$a,$b])=>`((.Attribute $a $b apos))
local macro_rules|`([tr,$a,$b])=>`(OpR X (compareOp $a) $b)
local macro_rules|`([rd,$a,$b])=>`((backTo $a (starEach es $b)).any (·.1)=false)
local macro_rules|`([re,$a])=>`(o _ G H (Ext.refl I.gh) $a)
local macro_rules|`([rj])=>`((j5 X cs cl N' ex s H))
local macro_rules|`([p5])=>`(Addr->Rho->R Fl)
local macro_rules|`([p6,$a])=>`(nsIn (hk w) mainGlobals $a)
local macro_rules|`([p7,$a])=>`((@f9 _ _ $a _ nd rfl Xah Xai))
local macro_rules|`([pr,$a,$b])=>`((@w4 _ _ _ _ _ _ _ $a _ _ nd rfl Xah $b WU Xai))
local macro_rules|`(tactic|show 8)=>`(tactic|refine i5 rfl rfl λp=>?_)
local macro_rules|`([ou,$a,$b])=>`(tSt K EX d $a D $b H)
local macro_rules|`(tactic|show 9 $a $b $c)=>`(tactic|show wD (dk Y $a) λD=>okF D.F (N:=$b) λhr nd=>$c)
local macro_rules|`([nc,$a,$b])=>`((@m9 _ _ _ _ _ $a $b WU))
local macro_rules|`([nt])=>`(.str (Str.ofString "refused"))
local macro_rules|`([kv,$a,$b,$c,$d])=>`((@f9 _ _ $a _ (by decide +kernel:$b) rfl $c $d))
local macro_rules|`([i1,$a])=>`((l5 (g:=$a) (λ_ _=>rfl) (λ_ _ _=>.int)))
local macro_rules|`([i2,$a])=>`((@j9 _ _ _ _ _ (@h9 _ _ _ _ _ ($a))))
local macro_rules|`([gV,$a])=>`((@q_o _ _ _ .F _ _ _ _ $a))
local macro_rules|`([gc,$a])=>`((hxS "/claim/cut.py" $a))
local macro_rules|`(tactic|show 10 $a:ident)=>`(tactic|(unfold $a:ident at o;split at o))
local macro_rules|`([fx,$a])=>`((@c7 _ _ _ _ _ _ _ _ _ _ _ _ _ l9 ZA $a (@b9 _ _ _ _ _ _ _)))
local macro_rules|`([ck,$a])=>`((some (.builtin $a)))
local macro_rules|`([cz])=>`(Vis X.env.scope x)
local macro_rules|`([Z00,$a])=>`((tStO K EX p C $a))
local macro_rules|`([Z01,$a])=>`((l5 (g:=$a) (λ_ _=>rfl) (λ_ _ _=>.bl)))
local macro_rules|`(tactic|show 11)=>`(tactic|rcases qB5.mp hw with rfl|hw)
local macro_rules|`([Z02])=>`([XXb,(x == ("__debug__"))=false])
local macro_rules|`([Z03,$a:term])=>`(by cases $a:term <;> rfl)
local macro_rules|`([Z04,$a])=>`(o v G H (Ext.refl I.gh) $a)
local macro_rules|`([Z05])=>`(List W->List W->KW->R RO)
local macro_rules|`([Z06,$a,$b])=>`((@c7 _ _ _ _ _ _ _ _ _ _ _ _ _ A9 (B0 (c:=true)) $a $b))
local macro_rules|`([Z07,$a,$b,$c])=>`(L2.atI ($a W.str) $b=some (.str $c))
local macro_rules|`([Z08])=>`([XXb,(x == ("__debug__" : Str))=false])
local macro_rules|`([Z09,$a])=>`({ cls:=.type "tuple",data:=.seq $a })
local macro_rules|`([Z0A,$a,$b])=>`({ cls:=.type $a,data:=.fields $b })
local macro_rules|`([Z0B])=>`(envOfC qual scope s.heap.objs.size f cd)
local macro_rules|`(tactic|show 12 $a)=>`(tactic|(.rw[qA9 $a]at o;show o.elim))
local macro_rules|`([Z0C,$a,$b])=>`(PySem.W.nsIn K mainGlobals $a=some (some (.ref $b)))
local macro_rules|`([Z0D])=>`((i4 (CXW P w) P w K mg base N qual scope I cd A outer s0 H0 E))
local macro_rules|`([Z0E,$a,$b])=>`((@O0 _ _ _ _ _ $a _ _ rfl Xab $b Xaa Xaa WU))
local macro_rules|`([Z0F])=>`((s.heap.objs.size+1))
local macro_rules|`([Z0G,$a,$b])=>`(@J8 _ _ _ _ _ _ _ _ $a $b (by show λ_ _=>rfl) WU)
local macro_rules|`([Z0H,$a])=>`((@j9 _ _ _ _ _ (@h9 _ _ _ _ _ $a)))
local macro_rules|`([Z0I,$a])=>`((@D9 _ _ _ _ _ _ _ _ _ _ (@b8 _ _ _ _ _ _ _) $a WU WU WU WU WU WU))
local macro_rules|`([Z0J,$a])=>`(W.str (Str.ofString $a))
local macro_rules|`([Z0K,$a,$b,$c,$d])=>`((@L5 _ _ _ _ _ _ _ _ _ _ _ _ _ $a $b $c $d (by first|show c9 _|rfl)))
local macro_rules|`([Z0L,$a])=>`((@i0 _ _ _ _ _ (@E5 _ _ _ _ _ _ _ $a)))
local macro_rules|`([Z0M])=>`((kwT b ms ps ns here bd))
local macro_rules|`([Z0N,$a,$b])=>`(swapsWith $a (some $b) pos.line X.env)
local macro_rules|`([Z0O])=>`([XXa,starEach (e::es) X.env=(false,eval e X.env)::starEach es X.env])
local macro_rules|`([Z0P,$a])=>`((@F6 _ _ _ _ _ _ _ _ _ WU (bl Y).range_ $a WU))
local macro_rules|`([Z0Q,$a,$b,$c,$d,$e])=>`((hxF $a $b $c .none .none .none $d none (.ref $e) .none))
local macro_rules|`([Z0R])=>`((hxS "tokenmoor.desk" 1127))
local macro_rules|`([Z0S,$a,$b,$c])=>`((sh w.params (hp w.params $a) $b os,th $a $c))
local macro_rules|`([Z0T,$a,$b,$c])=>`(FnOk X.prog X.w X.K X.mg X.base $a $b f fd ps $c)
local macro_rules|`([Z0U,$a])=>`((@j9 _ _ _ _ _ (@M8 _ _ _ _ _ ($a))))
local macro_rules|`([Z0V])=>`([XXb,(x == ("__classdict__"))=false])
local macro_rules|`([Z0W,$a])=>`((@v4 _ _ _ _ _ (@J0 _ _ _ _ _ _ _ $a)))
local macro_rules|`([Z0X])=>`((apos.endLine == TU.line)=true)
local macro_rules|`([Z0Y])=>`((i4 (CXW P w) P w K mg base N qual scope f cd A outer s H E))
local macro_rules|`(tactic|show 13 $a:ident)=>`(tactic|(obtain ⟨H0,G,a,I,o⟩:=h;refine ⟨H0,G,a,I,?_⟩;unfold $a:ident at o;revert o))
local macro_rules|`(tactic|show 14)=>`(tactic|obtain ⟨b,Uk,eb,hb,Uw,Ux,rb⟩:=this)
local macro_rules|`([Z0Z])=>`(Builtin.Int.intBits x<=1048576)
local macro_rules|`([Z0a,$a])=>`((@M3 _ _ _ _ _ _ (@N4 _ _ _ _ _ $a (by intro _;rfl))))
local macro_rules|`([Z0b,$a])=>`(⟨.none,none,(.fields $a),#[]⟩)
local macro_rules|`([Z0c])=>`([XXc,X.fn x=true\/X.env.scope.names.lookup x=some .local])
local macro_rules|`(tactic|show 15)=>`(tactic|show absurd (show false=true from hs) qC1)
local macro_rules|`([Z0d,$a])=>`(∀l,H l=none->Q (.ref l) (upd H l $a))
local macro_rules|`([Z0e,$a,$b])=>`((.ListComp $a [⟨tg,iter,$b,0⟩] cs pos))
local macro_rules|`(tactic|show 16 $a $b $c)=>`(tactic|intro EX H0 Hs G H $a a Ha Hb x y u v Q I s $b $c o)
local macro_rules|`(tactic|show 17)=>`(tactic|show o1 G1 _ H1 (Same.refl _) (O.setV m1))
local macro_rules|`([Z0f,$a])=>`([XXb,($a == ("__debug__" : Str))=false])
local macro_rules|`([Z0g,$a])=>`((@M6 _ (hk w) _ _ _ _ 2 rfl $a WU WU WU))
local macro_rules|`([Z0h])=>`(∀x,foldedSetIterable iter X.env x=pure x)
local macro_rules|`([Z0i])=>`((envOfC qual scope s.heap.objs.size f cd))
local macro_rules|`([Z0j])=>`((if ([]:List Keyword).isEmpty then 0 else 1))
local macro_rules|`([Z0k])=>`(PySem.W.mroIn K C (.type "BaseException")=some true)
local macro_rules|`([Z0l,$a,$b])=>`(FnOk P w K mg base (CXW P w) $a f fd ps $b)
local macro_rules|`(tactic|show 18)=>`(tactic|(rintro rfl;rw[qB9]at h2;simp only [qK7]at h2;split at h2 <;> simp at h2))
local macro_rules|`([Z0m])=>`((@Q7 _ _ _ _ _ (.inr rfl) (@n8 _ _ _ _ _ _ (.inr rfl) (@p9 _ _) (@n8 _ _ _ _ _ _ (.inr rfl) (@p9 _ _) (@K7 _ _)))))
local macro_rules|`([Z0n,$a,$b])=>`((PW.pt (@X6 _ _ _ _ _ _ _ _ _ $a (@R9 _ _ _ _ _ _ $b))))
local macro_rules|`([Z0o,$a,$b,$c])=>`(I.turned (λb o O e=>$a b o $b e) f0 f1 f3 $c f5)
local macro_rules|`(tactic|show 19)=>`(tactic|(intro X hP hw hK hc i pins s a H E I hf st hg;subst hP hw hK))
local macro_rules|`(tactic|show 20)=>`(tactic|obtain ⟨f0,f1,f2,f3,T,f5⟩:=hf it Xaf)
local macro_rules|`([Z0p])=>`(V->Option Int->Option Int->Hp->VK->Prop)
local macro_rules|`([Z0q])=>`((envOfC qual scope s0.heap.objs.size f0 cd))
local macro_rules|`([Z0r,$a,$b])=>`((backTo TU (starEach $a $b)).any (·.1)=false)
local macro_rules|`([Z0s])=>`((pls ps b).map (λp=>Str.join B1 (pw p)))
local macro_rules|`([Z0t])=>`(PySem.W.typeIn K (.ref C)=some (.type "type"))
local macro_rules|`([Z0u])=>`((i4 (CXW P w) P w K mg base N qual scope f0 cd A outer s0 H0 E))
local macro_rules|`([Z0v])=>`((backTo TU (starEach [e] X.env)).all (λx=>!x.1)&&(backToKw TU (keywordEach [] X.env)).all (λx=>x.1.isSome))
local macro_rules|`(tactic|show 21)=>`(tactic|(rintro rfl;rw[qB9]at h1;simp only [qK7]at h1;split at h1 <;> simp at h1))
local macro_rules|`([Z0w])=>`((i4 (CXW P w) P w K mg base N qual scope I cd A0 outer s0 H0 E))
local macro_rules|`([Z0x,$a,$b])=>`(($a _ _ _ _ _ _ _ _ _ _ _ WU (bl Y).zip_ $b WU WU WU))
local macro_rules|`([Z0y,$a,$b])=>`(@bZ _ _ _ _ _ _ _ $a _ _ _ _ rfl Xab $b Xaa Xaa WU WU WU WU WU)
local macro_rules|`([Z0z])=>`(PySem.W.findIn K (.ref C) (Str.ofString "__getattribute__")=some (some (.builtin "BaseException.__getattribute__")))
local macro_rules|`([Z10])=>`(PySem.W.findIn K (.ref C) (Str.ofString "__getattr__")=some none)
local macro_rules|`([Z11,$a,$b])=>`(⟨$a,I.os,I.bare,I.base,I.loc,I.cell,I.free,I.freeC,$b,I.hok,I.len⟩)
local macro_rules|`(tactic|show 22 $a)=>`(tactic|(rename_i ws i;obtain ⟨a,vs,rfl,hs,r⟩:=$a I;replace o:Out EX G H _ (toR _) Q:=o))
local macro_rules|`([Z12])=>`(hxO "builtin_function_or_method" (.fields #[(.builtin "type.__prepare__"),(.type "type")]))
local macro_rules|`([Z13,$a])=>`(hxO "builtin_function_or_method" (.fields #[(.builtin "object.__init_subclass__"),$a]))
local macro_rules|`([Z14])=>`((xs.drop (HT.sIx xs.length 0 lo)).take (HT.sIx xs.length xs.length hi-HT.sIx xs.length 0 lo))
local macro_rules|`([Z15])=>`((C3 (i4 (CXW P w) P w K mg base N qual scope O cd A outer s0 H0 E) E cs cl I ex s1 H1).env)
set_option hygiene false
def XXa_ {p:Prop}(h:p:=by rfl):p:=h
local macro_rules | `([XXa,$a])=>`(autoParam $a XXa_._auto_1)
def XXb_ {p:Prop}(h:p:=by decide):p:=h
local macro_rules | `([XXb,$a])=>`(autoParam $a XXb_._auto_1)
def XXc_ {p:Prop}(h:p:=by first|show .inl rfl|show .inr rfl|assumption):p:=h
local macro_rules | `([XXc,$a])=>`(autoParam $a XXc_._auto_1)
def XXd_ {p:Prop}(h:p:=by intro _;rfl):p:=h
local macro_rules | `([XXd,$a])=>`(autoParam $a XXd_._auto_1)
def XXe_ {p:Prop}(h:p:=by show ⟨rfl,rfl,rfl,Xac,rfl,Xac,Xac⟩):p:=h
local macro_rules | `([XXe,$a])=>`(autoParam $a XXe_._auto_1)
def XXf_ {p:Prop}(h:p:=by first|show c9 _|rfl):p:=h
local macro_rules | `([XXf,$a])=>`(autoParam $a XXf_._auto_1)
def XXg_ {p:Prop}(h:p:=by with_unfolding_all rfl):p:=h
local macro_rules | `([XXg,$a])=>`(autoParam $a XXg_._auto_1)
set_option genSizeOf false
set_option genSizeOfSpec false
namespace L2
open PySem PySem.Spec PyProof.Rows
def K8 (s:Stmt):Arguments:=match s with
 | .FunctionDef _ a _ _ _ _ _ _ _ _=>a
 |_=>{ posonlyargs:=[],args:=[],vararg:=none,kwonlyargs:=[],kw_defaults:=[],kwarg:=none,defaults:=[] }
def z7 (s:Stmt):List Stmt:=match s with
 | .FunctionDef _ _ b _ _ _ _ _ _ _=>b
 |_=>[]
noncomputable def d8 (s:Stmt):Scope:=match s with
 | .FunctionDef _ _ _ _ _ _ sc _ _ _=>sc
 |_=>{ kind:=.function,names:=[],isGenerator:=false,isCoroutine:=false }
end L2
open PySem.W (Frag)
namespace K92
open PySem L2 PySem.W PyProof.Rows
noncomputable abbrev P0:Program:=PySem.Challenge.pw_tokenmoor_k92_the_desk_goes
def top (i:Nat):Stmt:=P0.main.body.getD i (.Pass ⟨0,0,0,0⟩)
def N2 (s:Stmt) (n:String):Stmt:=match s with
 | .ClassDef _ _ _ b _ _ _ _ _ _ _=>(b.find? λx=>match x with |.FunctionDef m _ _ _ _ _ _ _ _ _=>m == [ZF,n]|_=>false).getD (.Pass ⟨0,0,0,0⟩)
 |_=>.Pass ⟨0,0,0,0⟩
noncomputable abbrev hxS (s:String)(t:Nat):Value:=.str (Str.ofString s) t
noncomputable abbrev hxI (i:Int):Value:=.int i 0
abbrev hxO (c:String)(d:Data):Obj:=⟨.type c,none,d,#[]⟩
abbrev hxE (P:Params)(s:String)(t:Nat)(v:Value):DictEntry:=⟨PyData.keyHash P (Str.ofString s),.str (Str.ofString s) t,v⟩
abbrev hxF (n q:String)(st:Stmt)(I kV doc pm:Value)(an:Option Addr)(cd ct:Value):Data:=.func (PySem.W.fnOf (Str.ofString n) (Str.ofString q) (K8 st) (z7 st) (d8 st) I kV doc pm an cd ct)
abbrev hxG (n:String)(i:Nat)(pm:Value)(c:Nat):Obj:=hxO "function" [Z0Q,n,n,top i,pm,c]
abbrev hxD (n:Str)(t:Nat) (l a:Int)(r8:Nat)(T:Nat)(a4 a3:Value)(a5:Nat) (I:Int)(O:Nat):Data:=.fields #[.str n t,.str n (t+1),.str (Str.ofString "/claim/cut.py") (t+2),hxI l,hxI a,hxI 0,hxI 0,hxI 3,.ref r8,.bool true,hxI 181,.ref T,.none,a4,a3,.ref a5,hxI I,hxI l,.str (Str.ofString "/claim/cut.py") O]
abbrev hyT (n q:Str)(st:Stmt):Obj:=⟨.none,none,.func { PySem.W.fnOf n q (K8 st) (z7 st) (d8 st) .none .none .none .none none .none .none with globals:=0 },#[]⟩
abbrev hxT n q:=hyT (Str.ofString n) (Str.ofString q)
abbrev hyG (n:Str)(i:Nat)(pm:Value)(c:Nat):Obj:=hxO "function" (.func (PySem.W.fnOf n n (K8 (top i)) (z7 (top i)) (d8 (top i)) .none .none .none pm none [ZE,c] .none))
abbrev hyE (P:Params)(s:Str)(t:Nat)(v:Value):DictEntry:=⟨PyData.keyHash P s,.str s t,v⟩
inductive Rw where
 |d (n:Str) (l c:Int) (ns:ZK)
 |n (s:Str)
 |v (n:Str) (x:Int)
 |s (n s:Str)
 |r (os:List Obj) (es:List DictEntry) (tb:ZW) (a t:Nat)
def toks (t:Nat):([Ta])->List Value
 | []=>[]
 |s::r=>.str s t::toks (t+1) r
def E0:Obj:=[SQ,#[]]
noncomputable def lo (i a t:Nat) (m:Value):List Rw->List Obj
 | []=>[]
 | .d n l c ns::r=>E0::⟨.none,none,.fields #[],#[]⟩::(match ns with
  | []=>hyT n n (top i)::hxO "code" (hxD n t l c a (a+1) .none .none (a+2) ((t+3:Nat):Int) (t+4))::hyG n i m (a+3)::lo (i+1) (a+5) (t+6) m r
  |_=>[SQ,(toks (t+3) ns).toArray]::E0::hyT n n (top i)::hxO "code" (hxD n t l c a (a+1) [ZE,a+2] [ZE,a+3] (a+4) ((t+3+ns.length:Nat):Int) (t+4+ns.length))::hyG n i m (a+5)::lo (i+1) (a+7) (t+6+ns.length) m r)
 | .n s::r=>lo (i+1) a (t+2) (.str s t) r
 | .v _ _::r=>lo (i+1) a (t+2) m r
 | .s _ _::r=>lo (i+1) a (t+2) m r
 | .r os _ _ x y::r=>os++lo (i+1) (a+x) (t+y) m r
noncomputable def le (P:Params) (a t:Nat):List Rw->List DictEntry
 | []=>[]
 | .d n _ _ ns::r=>let x:=match ns with |[]=>5|_=>7
  hyE P n (t+5+ns.length) [ZE,a+x-1]::le P (a+x) (t+6+ns.length) r
 | .n _::r=>le P a (t+2) r
 | .v n x::r=>hyE P n (t+1) (.int x t)::le P a (t+2) r
 | .s n s::r=>hyE P n (t+1) (.str s t)::le P a (t+2) r
 | .r _ es _ x y::r=>es++le P (a+x) (t+y) r
noncomputable def lt (a:Nat):List Rw->List Value
 | []=>[]
 | .d _ l _ ns::r=>let x:=match ns with |[]=>5|_=>7
  hxI l::hxI 0::.ref (a+x-2)::lt (a+x) r
 | .r _ _ tb x _::r=>tb++lt (a+x) r
 |_::r=>lt a r
noncomputable def ln (t:Nat) (m:Value):List Rw->Value
 | []=>m
 | .d _ _ _ ns::r=>ln (t+6+ns.length) m r
 | .n s::r=>ln (t+2) (.str s t) r
 | .v _ _::r=>ln (t+2) m r
 | .s _ _::r=>ln (t+2) m r
 | .r _ _ _ _ y::r=>ln (t+y) m r
def rwO (i:Nat):Rw:=match top i with
 | .FunctionDef n a _ _ _ _ s _ _ p=>.d n p.line a.args.length [YL,s.more.isEmpty,(s.names.filter λx=>x.2==.local).map (·.1),[]]
 | .Assign [.Name n _] (.Constant (.str s) _ _) _=>if n==[ZF,"__name__"] then .n s else .s n s
 | .Assign [.Name n _] (.Constant (.int x) _ _) _=>.v n x
 |_=>.n Str.empty
def rwS (a n:Nat):List Rw:=(List.range' a n).map rwO
def xr (P:Params) (n:String) (l:Int) (a t:Nat):Rw:=.r [[SQ,#[[ZE,24]]],
 [Z12],
 hxO "dict" (.dict #[hxE P "__module__" (t+7) (hxS "tokenmoor.errors" 187),hxE P "__qualname__" (t+9) (hxS n (t+8)),hxE P "__firstlineno__" (t+11) (.int l (t+10)),hxE P "__static_attributes__" (t+12) [ZE,a+8]] 4),
 [SQ,#[]],
 [Z0b,#[]],
 hxO "code" (.fields #[(hxS n (t+2)),(hxS n (t+3)),[gc,t+4],(hxI l),(hxI 0),(hxI 0),(hxI 0),(hxI 0),[ZE,a+4],(.bool false),(hxI 181),[ZE,a+5],.none,.none,.none,.none,(hxI (t+5:Nat)),(hxI l),[gc,t+6]]),
 ⟨(.type "frame"),none,.plain,#[[Wb,a+6],[Wb,3],[Wb,a+3],none,[ZT,hxS "tokenmoor.errors" 187],none,[Wb,0]]⟩,
 [SQ,#[]],
 hxO "dict" (.dict #[hxE P "__module__" (t+7) (hxS "tokenmoor.errors" 187),hxE P "__firstlineno__" (t+11) (.int l (t+10)),hxE P "__static_attributes__" (t+12) [ZE,a+8],hxE P "__doc__" (t+13) .none] 2),
 ⟨(.type "type"),none,(.cls { name:=n,bases:=[[ZE,24]],mro:=[[ZE,a+10],[ZE,24],(.type "ValueError"),(.type "Exception"),(.type "BaseException"),(.type "object")],ns:=a+9,qualname:=n,hasDict:=true,slotNames:=[],subclasses:=[],abstract:=false,collection:=none,hasDel:=false }),#[[Wb,a+1],none,[ZT,hxS n (t+0)],[ZT,hxS n (t+8)],[ck,"ValueError.__new__"],(some (.bool true))]⟩,
 hxO "super" (.fields #[[ZE,a+10],[ZE,a+10],[ZE,a+10]]),
 [Z13,[ZE,a+10]]] [hxE P n (t+15) [ZE,a+10]] [hxI l,hxI 0,.ref (a+6)] 12 16
@[irreducible] def rws (P:Params):List Rw:=rwO 0::[.r [[SQ,#[(.type "ValueError")]],
  [Z12],
  hxO "dict" (.dict #[hxE P "__module__" 196 (hxS "tokenmoor.errors" 187),hxE P "__qualname__" 198 (hxS "MoorError" 197),hxE P "__firstlineno__" 200 (.int 2 199),hxE P "__static_attributes__" 201 [ZE,22]] 4),
  [SQ,#[]],
  [Z0b,#[]],
  hxO "code" (.fields #[(hxS "MoorError" 191),(hxS "MoorError" 192),[gc,193],(hxI 2),(hxI 0),(hxI 0),(hxI 0),(hxI 0),[ZE,18],(.bool false),(hxI 181),[ZE,19],.none,.none,.none,.none,(hxI 194),(hxI 2),[gc,195]]),
  ⟨(.type "frame"),none,.plain,#[[Wb,20],[Wb,3],[Wb,17],none,[ZT,hxS "tokenmoor.errors" 187],none,[Wb,0]]⟩,
  [SQ,#[]],
  hxO "dict" (.dict #[hxE P "__module__" 196 (hxS "tokenmoor.errors" 187),hxE P "__firstlineno__" 200 (.int 2 199),hxE P "__static_attributes__" 201 [ZE,22],hxE P "__weakref__" 203 [ZE,25],hxE P "__doc__" 204 .none] 3),
  ⟨(.type "type"),none,(.cls { name := "MoorError",bases:=[(.type "ValueError")],mro:=[[ZE,24],(.type "ValueError"),(.type "Exception"),(.type "BaseException"),(.type "object")],ns:=23,qualname := "MoorError",hasDict:=true,slotNames:=[],subclasses:=[[ZE,37],[ZE,56],[ZE,68],[ZE,80],[ZE,92]],abstract:=false,collection:=none,hasDel:=false }),#[[Wb,15],none,[ZT,hxS "MoorError" 189],[ZT,hxS "MoorError" 197],[ck,"ValueError.__new__"],(some (.bool true))]⟩,
  hxO "getset_descriptor" (.fields #[(hxS "__weakref__" 202),[ZE,24],(.builtin "ExceptionGroup.__weakref__"),.none]),
  hxO "super" (.fields #[[ZE,24],[ZE,24],[ZE,24]]),
  [Z13,[ZE,24]]] [hxE P "MoorError" 206 [ZE,24]] [hxI 2,hxI 0,.ref 20] 13 18,
 xr P "NoMoor" 4 27 207,
 .r [[SQ,#[[ZE,24]]],
  [Z12],
  hxO "dict" (.dict #[hxE P "__module__" 230 (hxS "tokenmoor.errors" 187),hxE P "__qualname__" 232 (hxS "Stuck" 231),hxE P "__firstlineno__" 234 (.int 6 233),hxE P "__init__" 242 [ZE,53],hxE P "__static_attributes__" 244 [ZE,54]] 5),
  [SQ,#[]],
  [Z0b,#[(hxI 8),(hxI 4),[ZE,52]]],
  hxO "code" (.fields #[(hxS "Stuck" 225),(hxS "Stuck" 226),[gc,227],(hxI 6),(hxI 0),(hxI 0),(hxI 0),(hxI 0),[ZE,43],(.bool false),(hxI 181),[ZE,44],.none,.none,.none,.none,(hxI 228),(hxI 6),[gc,229]]),
  ⟨(.type "frame"),none,.plain,#[[Wb,45],[Wb,3],[Wb,42],none,[ZT,hxS "tokenmoor.errors" 187],none,[Wb,0]]⟩,
  [SQ,#[]],
  [Z0b,#[]],
  [SQ,#[(hxS "self" 238),(hxS "at" 239)]],
  [SQ,#[]],
  hxT "__init__" "Stuck.__init__" (N2 (top 3) "__init__"),
  hxO "code" (.fields #[(hxS "__init__" 235),(hxS "Stuck.__init__" 236),[gc,237],(hxI 8),(hxI 2),(hxI 0),(hxI 0),(hxI 3),[ZE,47],(.bool true),(hxI 181),[ZE,48],.none,[ZE,49],[ZE,50],[ZE,51],(hxI 240),(hxI 8),[gc,241]]),
  hxO "function" [Z0Q,"__init__","Stuck.__init__",N2 (top 3) "__init__",hxS "tokenmoor.errors" 187,52],
  [SQ,#[(hxS "at" 243)]],
  hxO "dict" (.dict #[hxE P "__module__" 230 (hxS "tokenmoor.errors" 187),hxE P "__firstlineno__" 234 (.int 6 233),hxE P "__init__" 242 [ZE,53],hxE P "__static_attributes__" 244 [ZE,54],hxE P "__doc__" 245 .none] 2),
  ⟨(.type "type"),none,(.cls { name := "Stuck",bases:=[[ZE,24]],mro:=[[ZE,56],[ZE,24],(.type "ValueError"),(.type "Exception"),(.type "BaseException"),(.type "object")],ns:=55,qualname := "Stuck",hasDict:=true,slotNames:=[],subclasses:=[],abstract:=false,collection:=none,hasDel:=false }),#[[Wb,40],none,[ZT,hxS "Stuck" 223],[ZT,hxS "Stuck" 231],[ck,"ValueError.__new__"],(some (.bool true))]⟩,
  hxO "super" (.fields #[[ZE,56],[ZE,56],[ZE,56]]),
  [Z13,[ZE,56]]] [hxE P "Stuck" 247 [ZE,56]] [hxI 6,hxI 0,.ref 45] 19 25,
 xr P "NoText" 10 58 248,
 xr P "NoName" 12 70 264,
 xr P "NoRow" 14 82 280]++rwS 7 121++[.r [[SQ,#[(hxS "now" 1133),(hxS "home" 1134),(hxS "show" 1135),(hxS "bounded" 1136),(hxS "end" 1137),(hxS "balances" 1138),(hxS "dry" 1139),(hxS "wet" 1140)]]] [hxE P "BARE_ROWS" 1141 [ZE,687]] [] 1 9,
 .r [[SQ,#[(hxS "cover" 1142),(hxS "reached" 1143)]]] [hxE P "COUNTED_ROWS" 1144 [ZE,688]] [] 1 3,
 .r [[SQ,#[(hxS "peak" 1145),(hxS "again" 1146)]]] [hxE P "NAMED_ROWS" 1147 [ZE,689]] [] 1 3,
 .r [[SQ,#[]],
  [Z12],
  hxO "dict" (.dict #[hxE P "__module__" 1155 [Z0R],hxE P "__qualname__" 1157 (hxS "Desk" 1156),hxE P "__firstlineno__" 1159 (.int 559 1158),hxE P "__init__" 1166 [ZE,703],hxE P "say" 1175 [ZE,710],hxE P "take_up" 1184 [ZE,717],hxE P "walk" 1190 [ZE,722],hxE P "answer" 1201 [ZE,729],hxE P "__static_attributes__" 1207 [ZE,730]] 9),
  [SQ,#[]],
  [Z0b,#[(hxI 561),(hxI 4),[ZE,702],(hxI 568),(hxI 4),[ZE,709],(hxI 585),(hxI 4),[ZE,716],(hxI 593),(hxI 4),[ZE,721],(hxI 600),(hxI 4),[ZE,728]]],
  hxO "code" (.fields #[(hxS "Desk" 1150),(hxS "Desk" 1151),[gc,1152],(hxI 559),(hxI 0),(hxI 0),(hxI 0),(hxI 0),[ZE,693],(.bool false),(hxI 181),[ZE,694],.none,.none,.none,.none,(hxI 1153),(hxI 559),[gc,1154]]),
  ⟨(.type "frame"),none,.plain,#[[Wb,695],[Wb,3],[Wb,692],none,[ZT,hxS "tokenmoor.desk" 1127],none,[Wb,0]]⟩,
  [SQ,#[]],
  [Z0b,#[]],
  [SQ,#[(hxS "self" 1163)]],
  [SQ,#[]],
  hxT "__init__" "Desk.__init__" (N2 (top 131) "__init__"),
  hxO "code" (.fields #[(hxS "__init__" 1160),(hxS "Desk.__init__" 1161),[gc,1162],(hxI 561),(hxI 1),(hxI 0),(hxI 0),(hxI 3),[ZE,697],(.bool true),(hxI 181),[ZE,698],.none,[ZE,699],[ZE,700],[ZE,701],(hxI 1164),(hxI 561),[gc,1165]]),
  hxO "function" [Z0Q,"__init__","Desk.__init__",N2 (top 131) "__init__",[Z0R],702],
  [SQ,#[]],
  [Z0b,#[]],
  [SQ,#[(hxS "self" 1170),(hxS "row" 1171),(hxS "words" 1172)]],
  [SQ,#[]],
  hxT "say" "Desk.say" (N2 (top 131) "say"),
  hxO "code" (.fields #[(hxS "say" 1167),(hxS "Desk.say" 1168),[gc,1169],(hxI 568),(hxI 2),(hxI 0),(hxI 0),(hxI 3),[ZE,704],(.bool true),(hxI 181),[ZE,705],.none,[ZE,706],[ZE,707],[ZE,708],(hxI 1173),(hxI 568),[gc,1174]]),
  hxO "function" [Z0Q,"say","Desk.say",N2 (top 131) "say",[Z0R],709],
  [SQ,#[]],
  [Z0b,#[]],
  [SQ,#[(hxS "self" 1179),(hxS "text" 1180),(hxS "told" 1181)]],
  [SQ,#[]],
  hxT "take_up" "Desk.take_up" (N2 (top 131) "take_up"),
  hxO "code" (.fields #[(hxS "take_up" 1176),(hxS "Desk.take_up" 1177),[gc,1178],(hxI 585),(hxI 2),(hxI 0),(hxI 0),(hxI 3),[ZE,711],(.bool true),(hxI 181),[ZE,712],.none,[ZE,713],[ZE,714],[ZE,715],(hxI 1182),(hxI 585),[gc,1183]]),
  hxO "function" [Z0Q,"take_up","Desk.take_up",N2 (top 131) "take_up",[Z0R],716],
  [SQ,#[]],
  [Z0b,#[]],
  hxT "walk" "Desk.walk" (N2 (top 131) "walk"),
  hxO "code" (.fields #[(hxS "walk" 1185),(hxS "Desk.walk" 1186),[gc,1187],(hxI 593),(hxI 2),(hxI 0),(hxI 0),(hxI 3),[ZE,718],(.bool true),(hxI 181),[ZE,719],.none,.none,.none,[ZE,720],(hxI 1188),(hxI 593),[gc,1189]]),
  hxO "function" [Z0Q,"walk","Desk.walk",N2 (top 131) "walk",[Z0R],721],
  [SQ,#[]],
  [Z0b,#[]],
  [SQ,#[(hxS "self" 1194),(hxS "words" 1195),(hxS "first" 1196),(hxS "moor" 1197),(hxS "place" 1198)]],
  [SQ,#[]],
  hxT "answer" "Desk.answer" (N2 (top 131) "answer"),
  hxO "code" (.fields #[(hxS "answer" 1191),(hxS "Desk.answer" 1192),[gc,1193],(hxI 600),(hxI 2),(hxI 0),(hxI 0),(hxI 3),[ZE,723],(.bool true),(hxI 181),[ZE,724],.none,[ZE,725],[ZE,726],[ZE,727],(hxI 1199),(hxI 600),[gc,1200]]),
  hxO "function" [Z0Q,"answer","Desk.answer",N2 (top 131) "answer",[Z0R],728],
  [SQ,#[(hxS "bound" 1202),(hxS "here" 1203),(hxS "moor" 1204),(hxS "moves" 1205),(hxS "places" 1206)]],
  hxO "dict" (.dict #[hxE P "__module__" 1155 [Z0R],hxE P "__firstlineno__" 1159 (.int 559 1158),hxE P "__init__" 1166 [ZE,703],hxE P "say" 1175 [ZE,710],hxE P "take_up" 1184 [ZE,717],hxE P "walk" 1190 [ZE,722],hxE P "answer" 1201 [ZE,729],hxE P "__static_attributes__" 1207 [ZE,730],hxE P "__dict__" 1209 [ZE,733],hxE P "__weakref__" 1211 [ZE,734],hxE P "__doc__" 1212 .none] 4),
  ⟨(.type "type"),none,(.cls { name := "Desk",bases:=[(.type "object")],mro:=[[ZE,732],(.type "object")],ns:=731,qualname := "Desk",hasDict:=true,slotNames:=[],subclasses:=[],abstract:=false,collection:=none,hasDel:=false }),#[none,none,[ZT,hxS "Desk" 1148],[ZT,hxS "Desk" 1156],[ck,"object.__new__"],(some (.bool true))]⟩,
  hxO "getset_descriptor" (.fields #[(hxS "__dict__" 1208),[ZE,732],(.builtin "function.__dict__"),(.builtin "function.__dict__#set")]),
  hxO "getset_descriptor" (.fields #[(hxS "__weakref__" 1210),[ZE,732],(.builtin "ExceptionGroup.__weakref__"),.none]),
  hxO "super" (.fields #[[ZE,732],[ZE,732],[ZE,732]]),
  [Z13,[ZE,732]]] [hxE P "Desk" 1214 [ZE,732]] [hxI 559,hxI 0,.ref 695] 47 67]++rwS 132 33
def wz (P:Params):World:={ draws:=λ_ _=>0,params:=P }
def s0 (P:Params):Shared:=((fencedOpening treeTable P0 (wz P) 11640).getD {})
def H0 (P:Params):Heap:=(s0 P).heap
def ent0 (P:Params):List DictEntry:=match (H0 P).objs[3]? with
 |some o=>(match o.data with |.dict es _=>es.toList|_=>[])
 |none=>[]
def Qz (es:List DictEntry) (v:Value):List DictEntry:=match es with
 |e::r=>{ e with val:=v }::r
 | []=>[]
@[irreducible] def hp (P:Params) (j:Nat):Heap:=
 let R:=(rws P).take j
 let es:=Qz (ent0 P) (ln 187 (hxS "__main__" 164) R)++le P 15 187 R
 ⟨(((H0 P).objs.toList.take 3)++[hxO "dict" (.dict es.toArray es.length)]++((H0 P).objs.toList.drop 4)++[[SQ,#[]],⟨.none,none,.fields (lt 15 R).toArray,#[]⟩,hxO "code" (.fields #[(hxS "<module>" 182),(hxS "<module>" 183),[gc,184],(hxI 1),(hxI 0),(hxI 0),(hxI 0),(hxI 0),[ZE,11],(.bool false),(hxI 181),[ZE,12],.none,.none,.none,.none,(hxI 185),(hxI 1),[gc,186]]),⟨(.type "frame"),none,.plain,#[[Wb,13],[Wb,3],[Wb,3],none,[ZT,hxS "__main__" 164],none,[Wb,0]]⟩]++lo 0 15 187 (hxS "__main__" 164) R).toArray,{}⟩
noncomputable def hxas:List Addr:=[2,3,15,22,23,24,25,28,35,36,37,40,52,53,54,55,56,59,66,67,68,71,78,79,80,83,90,91,92,100,101,107,108,112,113,117,118,124,125,131,132,136,137,141,142,148,149,153,154,158,159,165,166,172,173,179,180,186,187,191,192,198,199,205,206,212,213,219,220,224,225,231,232,236,237,241,242,246,247,251,252,258,259,265,266,270,271,277,278,284,285,291,292,298,299,303,304,308,309,315,316,320,321,327,328,332,333,339,340,344,345,351,352,356,357,361,362,368,369,373,374,378,379,385,386,390,391,395,396,400,401,407,408,412,413,417,418,422,423,429,430,434,435,439,440,446,447,453,454,460,461,465,466,470,471,477,478,484,485,491,492,498,499,505,506,510,511,515,516,522,523,527,528,534,535,539,540,544,545,549,550,554,555,559,560,564,565,571,572,578,579,583,584,590,591,597,598,604,605,609,610,616,617,623,624,630,631,637,638,644,645,649,650,656,657,663,664,670,671,675,676,680,681,685,686,687,688,689,702,703,709,710,716,717,721,722,728,729,730,731,732,733,734,742,743,749,750,756,757,761,762,768,769,775,776,780,781,787,788,792,793,797,798,802,803,809,810,816,817,823,824,830,831,837,838,844,845,849,850,856,857,863,864,868,869,875,876,880,881,885,886,892,893,897,898,902,903,907,908,914,915,921,922,928,929,935,936]
@[irreducible] def wO (P:Params):Frag:=hxas.filterMap λa=>((hp P 165).objs[a]?).map λo=>(a,o)
abbrev hk (w:World):Frag:=wO w.params
noncomputable def aM (w:World):Nat->Shared×Thread->Option (Shared×Thread)
 |0,c=>some c
 | n+1,c=>match through c.2 with
  |true=>none
  | false=>match stepOk 11 [Wb,6] c.2 with
   |false=>none
   | true=>match step (denote treeTable) P0 w c.1 c.2 with
    | .go s t=>aM w n (s,t)
    | .halt _ _=>none
abbrev env0:Env:={ scope:=P0.main.scope,locals:=mainNs,globals:=mainNs,cells:=[],code:=.ref 13,frame:=some 14 }
abbrev bdy:List Stmt:=behindTheImports P0
def th (j:Nat) (p:Pos):Thread:={ cur:=((execs (bdy.drop j) env0).onRaise (leaving env0))>>=λf=>pure (Fin.done f),code:=Code.body bdy env0,pos:=p,stack:=[Frame.ret (λx=>(match x with
 | .ok f=>Sem.pure f
 | .error e=>Sem.raise e)>>=λ_=>ret Value.none) none false [] (Code.builtin "claim.caller" {}) default []] }
def sh (P:Params)(h:Heap)(t:Nat)(os:OsState):Shared:={ heap:=h,gens:=#[],drawn:={},toks:=t,os:=os }
def F5:∀ {n m}{c I},aM w n c=some I->topRun treeTable P0 w 11 [Wb,6] (m+n) c.1 c.2=topRun treeTable P0 w 11 [Wb,6] m I.1 I.2
 |0,m,c,I,h=>by cases h;rfl
 | n+1,m,c,I,h=>by
  change topRun treeTable P0 w 11 [Wb,6] ((m+n)+1) c.1 c.2=_;rw[topRun.eq_2];unfold aM at h
  split at h
  · cases h
  · rename_i e1
    rw[e1]
    split at h
    · cases h
    · rename_i e2
      rw[e2]
      split at h
      · rename_i s t e3
        rw[e3];show F5 h
      · cases h
def view:Program:={ P0 with main:={ P0.main with body:=[1,2,3,4,5,6,8,9,10,11,12,13,14,16,17,18,19,20,21,22,24,25,26,27,28,30,31,32,33,34,35,37,39,40,41,42,43,44,45,47,48,49,50,51,52,53,54,55,56,57,59,60,61,62,63,64,65,66,68,69,70,71,72,73,74,75,76,77,78,80,81,82,83,84,85,87,88,89,90,91,92,93,94,95,96,98,99,100,101,102,103,105,106,107,108,109,111,112,113,114,115,116,117,118,119,120,121,122,123,124,126,127,128,129,130,131,132,133,134,135,136,137,138,139,140,141,142,143,144,145,146,147,148,149,151,152,153,154,155,156,157,158,159,160,161,162,163,164].map top } }
def hook:PySem.W.Hook:=PySem.W.kHook wO hxas (λ_=>Xak)
def sE (w:World)(os:OsState):Shared:=sh w.params (hp w.params 165) 1488 os
abbrev mds:[Ta]:=importedModules P0.main.body
def RM w os:aM w 1340 (sh w.params (H0 w.params) 181 os,topStub P0)=some [Z0S,11,304,⟨19,0,19,10⟩]:=Xak
def RL w os:aM w 1080 [Z0S,11,304,⟨19,0,19,10⟩]=some [Z0S,52,602,⟨177,0,180,88⟩]:=Xak
def RK w os:aM w 1078 [Z0S,52,602,⟨177,0,180,88⟩]=some [Z0S,92,898,⟨388,0,389,46⟩]:=Xak
def Oj w os:aM w 908 [Z0S,92,898,⟨388,0,389,46⟩]=some [Z0S,131,1148,⟨558,0,558,10⟩]:=Xak
def Oi w os:aM w 354 [Z0S,131,1148,⟨558,0,558,10⟩]=some [Z0S,132,1215,⟨559,0,624,96⟩]:=Xak
def Oh w os:aM w 523 [Z0S,132,1215,⟨559,0,624,96⟩]=some [Z0S,150,1354,⟨703,0,705,61⟩]:=Xak
def Og w os:aM w 437 [Z0S,150,1354,⟨703,0,705,61⟩]=some [Z0S,165,1488,⟨847,0,872,66⟩]:=Xak
def QL w:(fencedOpening treeTable P0 w 12000).map (λs=>(s.heap,s.gens,s.drawn,s.toks))=some (H0 w.params,#[],{},181):=Xak
def LS (w:World):((H0 w.params).isNs mainGlobals&&(#[]:Array GenState).size == 0,(H0 w.params).objs.size,(H0 w.params).nsMap mainGlobals (Str.ofString "__annotations__"))=(true,11,some (.ref 6)):=Xak
def QG w os:topRun treeTable P0 w 11 [Wb,6] 10 (sh w.params (hp w.params 165) 1488 os) (th 165 ⟨847,0,872,66⟩)=some (sh w.params (hp w.params 165) 1488 os):=Xak
def q0_y w os:(sE w os).heap.keysOk (looseW view []) (List.map (λx=>x.name) (PyProof.Rows.recsOf view)) (List.map (λx=>x.fst) (PyProof.Rows.litsOf view)) (List.map (λx=>x.name) (PyProof.Rows.clssOf view (looseW view [])))=true:=Xak
def q1_y w os:(sE w os).heap.accountedOkI mds=true:=Xak
def q2_y w os:(sE w os).heap.isNs mainGlobals=true:=Xak
def q3_y w os:(sE w os).heap.isNs builtinsNs=true:=Xak
def q4_y w os:PyProof.Rows.tablesOk view (sE w os).heap=true:=Xak
def q5_y w os:(xlAt view [] (sE w os)&&recOk [] (sE w os))=true:=Xak
def q6_y w os:[YL,true=true,(sE w os).gens.size == 0,!leftWithCleanup (sE w os).gens]=true:=Xak
def f0_y w os:PyProof.Rows.seen (List.map (λx=>x.name) (PyProof.Rows.recsOf view)) (PyProof.Rows.ownsOf view) [] { heap:=(sE w os).heap,drawn:=(sE w os).drawn,toks:=(sE w os).toks,os:=(sE w os).os }=PyProof.Rows.expectedOf view:=Xak
def f1_y w os:(sE w os).heap.bltView=bltViewBooted:=Xak
def f3_y w os:PyProof.Rows.tabsOk view (sE w os)=true:=Xak
def f4_y w os:pinSeenD view (PyProof.Rows.drecsOf view) (sE w os)=pinGoodD (PyProof.Rows.drecsOf view):=Xak
def f5_y w os:PyProof.Rows.plainSeenE view (looseW view []) (sE w os)=PyProof.Rows.plainGoodE view (looseW view []):=Xak
def f6_y w os:PyProof.Rows.plainSeenD view [] (sE w os)=PyProof.Rows.plainGoodD view []:=Xak
def f7_y w os:wideSeen view (sE w os)=wideGood view:=Xak
def f8_y w os:clsSeenW view [] (sE w os)=clsGoodW view []:=Xak
def g0_y w os:(staticsOk mds (H0 w.params) (hp w.params 165)&&namesBound P0 (hp w.params 165)&&gensDone (sE w os)&&laidKept (H0 w.params) (hp w.params 165))=true:=Xak
def ho_y w os:hook.obs (sE w os)=hook.val w:=Xak
def jE (h:a=true)(g:b=true):(a&&b)=true:=by rw[h,g];rfl
def f2_y w os:((sE w os).heap.keysOk (looseW view []) (List.map (λx=>x.name) (PyProof.Rows.recsOf view)) (List.map (λx=>x.fst) (PyProof.Rows.litsOf view)) (List.map (λx=>x.name) (PyProof.Rows.clssOf view (looseW view [])))&&(sE w os).heap.accountedOkI mds&&(sE w os).heap.isNs mainGlobals&&(sE w os).heap.isNs builtinsNs&&PyProof.Rows.tablesOk view (sE w os).heap&&(xlAt view [] (sE w os)&&recOk [] (sE w os))&& [YL,true=true,(sE w os).gens.size == 0,!leftWithCleanup (sE w os).gens])=true:=jE (jE (jE (jE (jE (jE (q0_y w os) (q1_y w os)) (q2_y w os)) (q3_y w os)) (q4_y w os)) (q5_y w os)) (q6_y w os)
def Ij {A B C D E F G H I:Type}{a a':A}{b b':B}{c c':C}{d d':D}{e e':E}{f T:F}{g g':G}{h h':H}{i O:I}(h0:a=a')(h1:b=b')(h2:c=c')(h3:d=d')(h4:e=e')(h5:f=T)(h6:g=g')(h7:h=h')(h8:i=O):(a,b,c,d,e,f,g,h,i)=(a',b',c',d',e',T,g',h',O):=by subst h0 h1 h2 h3 h4 h5 h6 h7 h8;rfl
def PR w os:openSeen view [] mds (λs=>xlAt view [] s&&recOk [] s) true (sE w os)=openGood view []:=Ij (f0_y w os) (f1_y w os) (f2_y w os) (f3_y w os) (f4_y w os) (f5_y w os) (f6_y w os) (f7_y w os) (f8_y w os)
def Ik {A B C:Type}{a I:A}{b O:B}{c T:C}(h0:a=I)(h1:b=O)(h2:c=T):(a,b,c)=(I,O,T):=by subst h0 h1 h2;rfl
def rn_y w os:topRun treeTable P0 w 11 [Wb,6] 5730 (sh w.params (H0 w.params) 181 os) (topStub P0)=some (sh w.params (hp w.params 165) 1488 os):=(F5 (m:=4390) (RM w os)).trans ((F5 (m:=3310) (RL w os)).trans ((F5 (m:=2232) (RK w os)).trans ((F5 (m:=1324) (Oj w os)).trans ((F5 (m:=970) (Oi w os)).trans ((F5 (m:=447) (Oh w os)).trans ((F5 (m:=10) (Og w os)).trans (QG w os)))))))
def hl0:LeftO P0 view [] (λs=>xlAt view [] s&&recOk [] s) hook.obs hook.val 12000:=LeftO.of_pieces (H₀:=H0) (H₁:=λP=>hp P 165) (k₁:=1488) (M:=5730) QL LS rn_y Xaa λw=>funext λos=>Ik (g0_y w os) (PR w os) (ho_y w os)
set_option maxHeartbeats 0 in
theorem ws0:PySem.Challenge.rw_tokenmoor_k92_the_desk_goes.wellSaid=true:=by
 unfold OpenLaw.wellSaid OpenRow.wellSaid OpenRow.partSaid looksOpen
 repeat' with_reducible refine jE ?_ ?_
 all_goals decide +kernel
end K92
namespace L2
open PySem PySem.Spec PyProof.Rows
abbrev Key:=Sum Int Str
def eE:Key->Value->Bool
 | .inl k,v=>Value.isInt k v
 | .inr x,v=>Value.isStrOf x v
def keyH (w:World):Key->Int
 | .inl k=>hashInt k
 | .inr x=>hashStr w x
def A8:∀{k}{v},eE k v=true->(∃i t,k=Sum.inl i/\v=Value.int i t)\/∃x t,k=Sum.inr x/\v=Value.str x t
 | .inl i,v,h=>by
  obtain ⟨t,e⟩:=Value.isInt_shape (v:=v) h;show .inl ⟨i,t,rfl,e⟩
 | .inr x,v,h=>by
  obtain ⟨t,e⟩:=Value.isStrOf_shape (v:=v) h;show .inr ⟨x,t,rfl,e⟩
def wA i t:eE (.inl i) (.int i t)=true:=by simp [eE,Value.isInt]
def wy x t:eE (.inr x) (.str x t)=true:=by simp [eE,Value.isStrOf]
def Lk a b:[ZL,(Sum.inl a:Key)=Sum.inl b]=(a == b):=by
 omega
def Lh a b:[ZL,(Sum.inr a:Key)=Sum.inr b]=decide (a=b):=by
 omega
def Lj (a:Int)(b:Str):[ZL,(Sum.inl a)=Sum.inr b]=false:=ZU
def Li (a:Str) (b:Int):[ZL,(Sum.inr a)=Sum.inl b]=false:=ZU
def z6 prog w:PySem.KeyKind prog w Key where
 is:=eE
 hash:=keyH w
 inj:=λv a b ha O=>by
  rcases A8 ha with ⟨i,t,rfl,rfl⟩|⟨x,t,rfl,rfl⟩
  .rcases A8 O with ⟨j,u,rfl,e⟩|⟨y,u,rfl,e⟩
   .injection e with e1 _;rw[e1]
   .show nomatch e
  .rcases A8 O with ⟨j,u,rfl,e⟩|⟨y,u,rfl,e⟩
   .show nomatch e
   .injection e with e1 _;rw[e1]
 byValue:=λk v h=>by
  rcases A8 h with ⟨i,t,rfl,rfl⟩|⟨x,t,rfl,rfl⟩ <;> rfl
 pyHash:=λI h=>by
  rcases A8 I with ⟨i,t,rfl,rfl⟩|⟨x,t,rfl,rfl⟩
  .show wpAny_pyHash_int h
  .show wpAny_pyHash_str h
 eqBool:=λT I h=>by
  rcases A8 T with ⟨i,t,rfl,rfl⟩|⟨x,t,rfl,rfl⟩
  .rcases A8 I with ⟨j,u,rfl,rfl⟩|⟨y,u,rfl,rfl⟩
   .rw[Lk]at h;show wpAny_eqBool_int h
   .rw[Lj]at h;show SeqAt.EqAt.int_str i t y u _ _ _ _ h
  .rcases A8 I with ⟨j,u,rfl,rfl⟩|⟨y,u,rfl,rfl⟩
   .rw[Li]at h;show SeqAt.EqAt.str_int x t j u _ _ _ _ h
   .rw[Lh]at h;show wpAny_eqBool_str h
 «strs»:=λk x t v h=>by
  rcases A8 h with ⟨i,u,rfl,e⟩|⟨y,u,rfl,e⟩
  .show nomatch e
  .injection e with e1 _
   subst e1;cases v <;> rfl
def pC prog w i t:(z6 prog w).is (.inl i) (.int i t)=true:=wA i t
def pB prog w x t:(z6 prog w).is (.inr x) (.str x t)=true:=wy x t
inductive V where
 |non|bl (b:Bool)|int (i:Int)|str (x:Str)|byt (b:Array UInt8)|flt (b:UInt64)|ref (a:Addr)|ty (n:String)
 deriving DecidableEq
def RelV:V->Value->Prop
 | .non,u=>u=Value.none
 | .bl b,u=>u=Value.bool b
 | .int i,u=>∃t,u=Value.int i t
 | .str x,u=>∃t,u=Value.str x t
 | .byt b,u=>∃t,u=Value.bytes b t
 | .flt b,u=>∃t,u=Value.float b t
 | .ref a,u=>u=Value.ref a
 | .ty n,u=>u=Value.type n
abbrev Vals:List V->List Value->Prop:=Paired RelV
def Vals.length (r:Vals xs us):xs.length=us.length:=Paired.length r
def Vals.get:∀{xs}{us:ZW}{i:Nat}{x},Vals xs us->[ZI,xs,x]->∃u,[ZI,us,u]/\RelV x u:=by
 intro xs us i x a
 induction a generalizing i with
 |nil=>intro e;cases e
 | cons r t I=>
  intro e;cases i with
  |zero=>cases e;show [WH,rfl,r]
  |succ i=>show I e
def Vals.set (r:RelV x u):∀{xs}{us:ZW}i,Vals xs us->Vals (xs.set i x) (us.set i u):=by
 intro xs us i h
 induction h generalizing i with
 |nil=>show .nil
 | cons q t I=>
  cases i with
  |zero=>show .cons r t
  |succ i=>show .cons q (I i)
def Vals.append:∀{xs ys}{us ws:ZW},Vals xs us->Vals ys ws->Vals (xs++ys) (us++ws):=by
 intro xs ys us ws a s
 induction a with
 |nil=>show s
 |cons r t I=>show .cons r I
def Vals.take:∀{xs}{us:ZW}n,Vals xs us->Vals (xs.take n) (us.take n):=by
 intro xs us n h
 induction h generalizing n with
 |nil=>cases n <;> show .nil
 | cons r t I=>
  cases n with
  |zero=>show .nil
  |succ n=>show .cons r (I n)
def Vals.drop:∀{xs}{us:ZW}n,Vals xs us->Vals (xs.drop n) (us.drop n)
 |_,_,0,r=>r
 |_,_,_+1,.nil=>.nil
 |_,_,n+1,.cons _ t=>Vals.drop n t
def RelO:Option V->Option Value->Prop
 |some v,some u=>RelV v u
 |none,none=>True
 |_,_=>False
def KV {a}:List (a×V)->List (a×Value)->Prop:=Paired λ(p:a×V)(q:a×Value)=>p.1=q.1/\RelV p.2 q.2
def kV:Key->V
 | .inl i=>.int i
 | .inr x=>.str x
inductive HO where
 |lst (xs:List V)
 |tup (xs:List V)
 |dK (kvs:List (Key×V))|dT (kvs:List (List Key×V))
 |set (S:Int->Bool) (n:Nat)
 |ins (C dx:Addr) (fs:List (Str×V))
 |own (x:Addr)
 |xd (fs:List (Str×V))
 |met (f x:Addr)
 |rng (lo hi:Int)
 |frz (o:Obj) (u:HO)
 |tbl (ps:ZY)
 |ext (φ:Heap->Prop)
abbrev Hp:=Addr->Option HO
def upd (H:Hp)(a:Addr)(o:HO):Hp:=λb=>if b=a then some o else H b
theorem d5:upd H a o a=some o:=[Tr,upd]
theorem c0 (h:b≠a):upd H a o b=H b:=[Tr,upd]
def Qx {H:Hp}(h:H a=some o) (h':H b=some u) (d:o≠u):a≠b:=by
 omega
def j6 {H:Hp}(h:H a=some o) (h':H b=none):a≠b:=by
 omega
section
variable (P:Program)(w:World)
def ObjOk (H:Hp) (h:Heap) (a:Addr):HO->Prop
 | .lst xs=>xs.length<=sizeLine/\∃(its:ZW) (n:Nat),Vals xs its/\h.get? a=some { cls:=.type "list",data:=.seq its.toArray n }
 | .tup xs=>xs.length<=sizeLine/\∃its:List Value,Vals xs its/\IsTup h a its.toArray
 | .dK kvs=>[Te,kvs.length]/\(a == sysModules)=false/\∃vs,KV kvs vs/\h.DictOf (z6 P w) a vs
 | .dT kvs=>[Te,kvs.length]/\(a == sysModules)=false/\∃xs:List (List Key×Addr×Value),
   Paired (λ(p:List Key×V) (q:List Key×Addr×Value)=>p.1=q.1/\H q.2.1=some (.tup (p.1.map kV))/\RelV p.2 q.2.2) kvs xs /\
   ∃o es ep,h.get? a=some o/\o.ExactDict/\o.data=.dict es ep/\es.toList=xs.map (entryOfKey (tupleKind (z6 P w)))/\(xs.map (·.1)).Nodup
 | .set S n=>h.SetOf (intKind P w) a S n
 | .ins C dx fs=>H dx=some (.own a)/\fs.length<=1000/\dx≠a/\h.get? a=some (PySem.W.instObj C dx) /\
   ∃mA,h.Ns1 dx mA/\(∀f,RelO (fs.lookup f) (mA f))/\PySem.Within mA (fs.map (·.1))
 | .own _=>∃o,h.get? a=some o
 | .xd fs=>∃mA,h.Ns1 a mA/\∀f,RelO (fs.lookup f) (mA f)
 | .rng lo hi=>∃t u v,h.get? a=some [Z0A,"range",#[.int lo t,.int hi u,.int 1 v]]
 | .frz o u=>h.get? a=some o/\ObjOk H h a u
 | .tbl ps=>h.get? a=some { cls:=.none,data:=.fields ps }
 | .met f x=>h.get? a=some (PySem.W.methodObj [ZE,f] [ZE,x])
 | .ext φ=>φ h/\(∃o,h.get? a=some o)/\∀O I:Heap,φ O->(∀o,O.get? a=some o->I.get? a=some o)->φ I
def HOk (H:Hp)(h:Heap):Prop:=∀a o,H a=some o->ObjOk P w H h a o
end
def ObjOk.lt (x:ObjOk P w H h a o):a<h.objs.size:=by
 cases o with
 |lst xs=>obtain ⟨_,_,_,_,e⟩:=x;show qB2 e
 |tup xs=>obtain ⟨_,_,_,p⟩:=x;show p.lt
 |dK kvs=>obtain ⟨_,_,_,_,o,_,_,e,_⟩:=x;show qB2 e
 |dT kvs=>obtain ⟨_,_,_,_,o,_,_,e,_⟩:=x;show qB2 e
 |set S n=>obtain ⟨o,_,_,_,e,_⟩:=x;show qB2 e
 |ins C dx fs=>obtain ⟨_,_,_,e,_⟩:=x;show qB2 e
 |own y=>obtain ⟨_,e⟩:=x;show qB2 e
 |xd fs=>obtain ⟨_,⟨_,_,_,e,_⟩,_⟩:=x;show qB2 e
 |rng lo hi=>obtain ⟨_,_,_,e⟩:=x;show qB2 e
 |frz ob u=>obtain ⟨e,_⟩:=x;show qB2 e
 |tbl ps=>show qB2 (x)
 |met f y=>show qB2 (x)
 |ext φ=>obtain ⟨_,⟨_,e⟩,_⟩:=x;show qB2 e
def Paired.mapP:∀{I:List c}{O:List d},Paired F I O->(∀a b,F a b->G a b)->Paired G I O:=by
 intro I O h f
 induction h with
 |nil=>show .nil
 |cons r t T=>show .cons (f _ _ r) T
def ObjOk.stay (x:ObjOk P w H h a o) (k:∀b u,b=a\/H b=some (.own a)->h.get? b=some u->h'.get? b=some u) (ho:∀b,H b=some (.own a)->H' b=some (.own a)) (O:∀b xs,H b=some (.tup xs)->H' b=some (.tup xs)):ObjOk P w H' h' a o:=by
 induction o with
 |lst xs=>obtain ⟨z,its,n,r,e⟩:=x;show ⟨z,its,n,r,k _ _ [Ws] e⟩
 |tup xs=>obtain ⟨z,its,r,ob,e,c⟩:=x;show ⟨z,its,r,ob,k _ _ [Ws] e,c⟩
 |dK kvs=>obtain ⟨z,y,vs,r,ob,es,ep,e,c⟩:=x;show ⟨z,y,vs,r,ob,es,ep,k _ _ [Ws] e,c⟩
 | dT kvs=>
  obtain ⟨z,y,xs,r,ob,es,ep,e,c⟩:=x;show ⟨z,y,xs,Paired.mapP r λp q z=>⟨z.1,O _ _ z.2.1,z.2.2⟩,ob,es,ep,k _ _ [Ws] e,c⟩
 |set S n=>obtain ⟨ob,es,ep,t,e,c⟩:=x;show ⟨ob,es,ep,t,k _ _ [Ws] e,c⟩
 | ins C dx fs=>
  obtain ⟨d,z,ne,e,mA,⟨od,es,ep,I,c⟩,r⟩:=x;show ⟨ho _ d,z,ne,k _ _ [Ws] e,mA,⟨od,es,ep,k _ _ (.inr d) I,c⟩,r⟩
 |own y=>obtain ⟨ob,e⟩:=x;show ⟨ob,k _ _ [Ws] e⟩
 |xd fs=>obtain ⟨mA,⟨od,es,ep,e,c⟩,r⟩:=x;show ⟨mA,⟨od,es,ep,k _ _ [Ws] e,c⟩,r⟩
 |rng lo hi=>obtain ⟨t,u,v,e⟩:=x;show ⟨t,u,v,k _ _ [Ws] e⟩
 |frz ob u T=>obtain ⟨e,q⟩:=x;show ⟨k _ _ [Ws] e,T q⟩
 | tbl ps=>
  have e:=x;show k a _ [Ws] e
 | met f y=>
  have e:=x;show k a _ [Ws] e
 |ext φ=>obtain ⟨p,⟨o,e⟩,st⟩:=x;show ⟨st _ _ p λo q=>k _ _ [Ws] q,⟨o,k _ _ [Ws] e⟩,st⟩
def HOk.lt (x:HOk P w H h)(e:H a=some o):a<h.objs.size:=(x a o e).lt
def HOk.fresh {a:Addr}(x:HOk P w H h) (e:h.objs.size<=a):H a=none:=by
 cases q:H a with
 |none=>rfl
 |some u=>show absurd (qB6 (x.lt q) e) (qE7 _)
def HOk.kept (x:HOk P w H h) (k:∀b u,h.get? b=some u->h'.get? b=some u):HOk P w H h':=λa o e=>
 (x a o e).stay (λb u _ q=>k b u q) (λ_ q=>q) λ_ _ q=>q
def HOk.laid {a:Addr}(x:HOk P w H h) (k:∀b u,h.get? b=some u->h'.get? b=some u) (hp:h.objs.size<=a) (O:ObjOk P w (upd H a o) h' a o):HOk P w (upd H a o) h':=λb u e=>by
 have hn:=x.fresh hp;by_cases I:b=a
 .grind[d5]
 .rw [c0 I]at e
  show (x b u e).stay (λc v _ q=>k c v q) (λc q=>[Tr,c0]) λc xs q=>[Tr,c0]
def Rd (H:Hp)(a:Addr)(u:HO):Prop:=H a=some u\/∃o,H a=some (.frz o u)
def Rd.ok (r:Rd H a u) (x:HOk P w H h):ObjOk P w H h a u:=by
 rcases r with r|⟨o,r⟩
 .show x a u r
 .obtain ⟨_,q⟩:=x a _ r;show q
def Mut:Option HO->Prop
 |some (.lst _)=>True
 |some (.dK _)=>True
 |some (.dT _)=>True
 |some (.set _ _)=>True
 |some (.ins _ _ _)=>True
 |some (.ext _)=>True
 |_=>False
def HOk.write (ok:HOk P w H h) (I:Mut (H x)) (he:e=x\/H e=some (.own x)) (k:∀b u,b≠e->h.get? b=some u->h'.get? b=some u) (Xl:∃u,h'.get? e=some u) (a3:ObjOk P w (upd H x o') h' x o'):HOk P w (upd H x o') h':=λb u q=>by
 have T:∀c y,H c=some (.own y)->c≠x:=λc y r z=>by subst z;rw[r]at I;show I
 have O:∀c xs,H c=some (.tup xs)->c≠x:=λc xs r z=>by subst z;rw[r]at I;show I
 by_cases hb:b=x
 .grind[d5]
 .rw [c0 hb]at q
  by_cases a4:b=e
  .have q':H b=some (.own x):=by
    omega
   rw[q]at q';cases q';obtain ⟨v,hv⟩:=Xl;show ⟨v,ZU⟩
  .refine (ok b u q).stay (λc v hc r=>k c v ?_ r) (λc r=>[Tr,c0]) λc xs r=>[Tr,c0]
   grind
structure Un (fs ex:List Addr) (H H':Hp) (h h':Heap):Prop where
 keep:∀b o,h.get? b=some o->H b=none->b∉fs->b∉ex->h'.get? b=some o
 slot:∀b o,h.get? b=some o->H b=none->b∈fs->b∉ex->∃sl,h'.get? b=some { o with slots:=sl }
 free:∀b o,h.get? b=some o->H b=none->b∉ex->H' b=none
 there:∀b o,h.get? b=some o->b∉ex->∃o',h'.get? b=some o'
 tups:∀b xs,H b=some (.tup xs)->H' b=some (.tup xs)
 frzs:∀b o u,H b=some (.frz o u)->H' b=some (.frz o u)
 tbls:∀b ps,H b=some (.tbl ps)->∃more,H' b=some (.tbl (ps++more))
def Un.any (u:Un fs ex H H1 h h1) (q:h.get? b=some ob) (n:H b=none) (I:b∉ex):∃sl,h1.get? b=some { ob with slots:=sl }:=by
 by_cases O:b∈fs
 .show u.slot b ob q n O I
 .show ⟨ob.slots,u.keep b ob q n O I⟩
def Un.kept (k:∀b u,h.get? b=some u->h'.get? b=some u):Un fs ex H H h h':=
 ⟨λb ob q _ _ _=>k b ob q,λb ob q _ _ _=>⟨ob.slots,k b ob q⟩,λ_ _ _ n _=>n,λb ob q _=>⟨ob,k b ob q⟩,λ_ _ q=>q,[SH,q],λ_ ps q=>⟨#[],by rw[q];simp⟩⟩
def Un.refl:Un fs ex H H h h:=Un.kept λ_ _ q=>q
def Un.laid (k:∀b u,h.get? b=some u->h'.get? b=some u) (hp:h.objs.size<=a) (hn:H a=none):Un fs ex H (upd H a o) h h' where
 keep:=λb u q _ _ _=>k b u q
 slot:=λb u q _ _ _=>⟨u.slots,k b u q⟩
 free:=λb u q n _=>[ZO,c0 (qD5 (qB6 (qB2 q) hp)),n]
 there:=λb u q _=>⟨u,k b u q⟩
 tups:=λb xs q=>[Tr,c0]
 frzs:=λb u xs q=>[Tr,c0]
 tbls:=λb ps q=>⟨#[],[Tr,c0]⟩
def Un.write (I:Mut (H x)) (he:e=x\/H e=some (.own x)) (k:∀b u,b≠e->h.get? b=some u->h'.get? b=some u) (Xl:∃u,h'.get? e=some u):Un fs ex H (upd H x o) h h':=by
 have T:∀b,H b=none->b≠x:=λb n z=>by subst z;rw[n]at I;show I
 have O:∀b,H b=none->b≠e:=λb n z=>by
  omega
 have hm:∀b u,H b=some u->¬ Mut (some u)->b≠x:=λb u q nm z=>ZU;refine ⟨λb u q n _ _=>k b u (O b n) q,λb u q n _ _=>⟨u.slots,k b u (O b n) q⟩,λb u q n _=>[ZO,c0 (T b n),n],λb u q _=>?_,
  λb xs q=>[ZO,c0 (hm b _ q λz=>z),q],λb u xs q=>[ZO,c0 (hm b _ q λz=>z),q],λb ps q=>⟨#[],by rw[c0 (hm b _ q λz=>z),q];simp⟩⟩
 grind
def trk (h:Heap)(H:Hp):List Addr:=(List.range h.objs.size).filter λa=>(H a).isSome
def jj (h:Heap)(H:Hp):Heap:=PySem.W.hideAll h (trk h H)
def wP h H:(jj h H).objs.size=h.objs.size:=PySem.W.hideAll_size ..
def AM (e:[TN,h.get?]) (n:H b=none):(jj h H).get? b=some o:=
 PySem.W.hideAll_get _ e λhm=>by
  have q:=(qG7.mp hm).2
  grind
def ES (e:(jj h H).get? b=some o):[TN,h.get?]/\H b=none:=by
 have I:=PySem.W.of_hideAll _ e;cases q:H b <;> grind[trk,PySem.Heap.lt_size,jj,PySem.W.hideAll_none]
def Hr (g h:Heap)(L:Addr):List (Addr×Obj):=(List.range h.objs.size).filterMap λa=>if a=L\/(g.get? a).isSome=true then none else (h.get? a).map λo=>(a,o)
def rest (g h:Heap)(L d:Addr):List (Addr×Obj):=(Hr g h L).filter λp=>[ZL,p.1≠d]
structure Mod (K:Frag) (mg:ZZ) (base:Heap):Prop where
 kin:K.In base
 glob:base.Ns mainGlobals mg
 blt:∃mb,base.Ns builtinsNs mb/\∀x:Str,x ≠ "__name__" -> mb x=bootBuiltins x
 nolimit:base.NoLimit
structure Cx where
 prog:Program
 w:World
 K:Frag
 mg:Str->Option Value
 base:Heap
 A:Around
 N:List Str
 s₀:Shared
 H₀:Hp
 env:Env
 outer:List Env
 stack:List Env
 ex:List Addr
 fn:Str->Bool
 calm:Bool
 pn:List (Addr×Obj)
 xe:Value->Shared->Prop
def frs (l:List Env):List Addr:=l.filterMap (·.frame)
abbrev Cx.fs (X:Cx):List Addr:=frs X.outer
def Vis (sc:Scope)(x:Str):Prop:=sc.names.lookup x=some .local\/sc.names.lookup x=some .cell\/sc.names.lookup x=some .free
def Loc (sc:Scope)(x:Str):Prop:=sc.names.lookup x=some .local\/sc.names.lookup x=some .cell
def Look (env:Env) (h:Heap) (m:ZZ) (x:Str) (u:Value):Prop:=
 (env.kindOf x=some .local/\m x=some u)\/((env.kindOf x=some .cell\/env.kindOf x=some .free)/\∃c,env.cells.lookup x=some c/\h.IsCell c (some u))
structure Cx.Ok (X:Cx):Prop where
 mod:Mod X.K X.mg X.base
 kind:X.env.scope.kind=.function
 glob:X.env.globals=mainGlobals
 blt:X.env.builtins=builtinsNs
 above:X.s₀.heap.objs.size<=X.env.locals
 inj:∀x y c,X.env.cells.lookup x=some c->X.env.cells.lookup y=some c->x=y
 has:∀x,(X.env.kindOf x=some .cell\/X.env.kindOf x=some .free)->∃c,X.env.cells.lookup x=some c
 cab:∀x c,X.fn x=true->X.env.cells.lookup x=some c->X.s₀.heap.objs.size<=c
 hd:X.calm=true->X.A.handled=none
 frames:X.A.frames=some X.stack
 stk:X.stack=X.outer\/(X.stack=X.env::X.outer/\X.env.frame=some X.env.locals)
 exf:∀b∈X.ex,b≠X.env.locals/\∀x c,X.env.cells.lookup x=some c->c≠b
 bs:∀b o,X.base.get? b=some o->X.s₀.heap.get? b=some o/\X.H₀ b=none
 bsz:X.base.objs.size<=X.s₀.heap.objs.size
 noex:∀b o,X.base.get? b=some o->b∉X.ex
 exfs:∀b∈X.ex,b∉X.fs
 funs:X.s₀.heap.FunFrames X.base X.outer
 frf:∀b∈X.fs,X.H₀ b=none
structure Inv (X:Cx) (pins:ZQ) (σ:List (Option V)) (H:Hp) (s:Shared):Prop where
 ok:X.Ok
 os:s.os=X.s₀.os
 bare:AllBare s.gens
 base:Un X.fs X.ex X.H₀ H X.s₀.heap s.heap
 loc:∃m,s.heap.Ns X.env.locals m/\∀(i:Nat) (x:Str) (v:V),X.N[i]?=some x->σ[i]?=some (some v)->Vis X.env.scope x->∃u,RelV v u/\Look X.env s.heap m x u
 cell:∀x c,X.env.cells.lookup x=some c->∃v,s.heap.IsCell c v
 free:H X.env.locals=none
 freeC:∀x c,X.env.cells.lookup x=some c->H c=none
 pin:∀p∈X.pn++pins,s.heap.get? p.1=some p.2/\H p.1=none/\p.1≠X.env.locals/\p.1∉X.fs/\∀v,p.2.data≠.cell v
 hok:HOk X.prog X.w H s.heap
 len:σ.length=X.N.length
def Cx.Ok.nofr {X:Cx}(ok:X.Ok) (e:[TN,X.base.get?]):b∉X.fs:=λI=>by
 have:=(ok.funs.mem I).1
 omega
def Inv.bs (I:[UE]):∀b o,[TN,X.base.get?]->[SR]/\H b=none:=λb o e=>
 ⟨I.base.keep b o (I.ok.bs b o e).1 (I.ok.bs b o e).2 (I.ok.nofr e) (I.ok.noex b o e),I.base.free b o (I.ok.bs b o e).1 (I.ok.bs b o e).2 (I.ok.noex b o e)⟩
def Inv.bk (I:[UE]):∀b o,[TN,X.base.get?]->[SR]:=λb o e=>(I.bs b o e).1
def Inv.mod (I:[UE]):Mod X.K X.mg X.base:=I.ok.mod
def Inv.kIn (I:[UE]):X.K.In s.heap:=I.ok.mod.kin.keeps I.bk
def Inv.fr (I:[UE]):∃m,Fr X.base X.env.locals s.heap m:=
 let ⟨m,hn,_⟩:=I.loc
 ⟨m,hn,I.bk,qC8 I.ok.bsz I.ok.above⟩
def Inv.lt (I:[UE]):X.env.locals<s.heap.objs.size:=let [WH,hn,_]:=I.loc;hn.lt
def Inv.sz (I:[UE]):X.s₀.heap.objs.size<=s.heap.objs.size:=qC8 I.ok.above (qJ6 I.lt)
def Inv.nofs (I:[YR,b,H,s]){a:Addr}(h:s.heap.objs.size<=a):a∉X.fs:=λT=>by
 obtain ⟨_,o,O,_⟩:=I.ok.funs.mem T;show absurd (qB6 (qB2 O) (qC8 I.sz h)) (qE7 _)
def Inv.cne (I:[UE]):∀x c,X.env.cells.lookup x=some c->c≠X.env.locals:=λx c e z=>by
 obtain ⟨v,o,ho,hd⟩:=I.cell x c e;obtain ⟨m,⟨o',es,ep,T,O,_⟩,_⟩:=I.loc;omega
def Inv.funs (I:[UE]):s.heap.FunFrames X.base X.outer:=by
 have all:∀(l:_),(∀b∈frs l,b∈X.fs)->X.s₀.heap.FunFrames X.base l->s.heap.FunFrames X.base l:=by
  intro l
  induction l with
  |nil=>intro _ _;trivial
  | cons env r ih=>
   intro hs hl;obtain ⟨hk,⟨L,o,hf,hn,ho,hd⟩,hr⟩:=hl;have O:=hs L (by grind[frs]);obtain ⟨sl,e⟩:=I.base.slot L o ho (I.ok.frf L O) O λz=>I.ok.exfs L z O;show ⟨hk,⟨L,_,hf,hn,e,hd⟩,ih (λb T=>hs b (by grind[frs])) hr⟩
 show all _ (λ_ T=>T) I.ok.funs
def Inv.stack (I:[UE]):s.heap.FunFrames X.base X.stack:=by
 rcases I.ok.stk with e|⟨e,hf⟩
 .rw[e];show I.funs
 .rw [e]
  obtain ⟨m,hn,_⟩:=I.loc;refine .cons (by rw[I.ok.kind];decide) hf hn ?_ I.funs;show Heap.get?_none_of_le (qC8 I.ok.bsz I.ok.above)
def Inv.stkSub (I:[UE]):∀b∈frs X.stack,b∈X.env.locals::X.fs:=λb O=>by
 rcases I.ok.stk with e|⟨e,hf⟩
 all_goals grind[frs]
def Inv.stkFree (I:[UE]):∀b∈frs X.stack,H b=none:=λb O=>by
 rcases qB5.mp (I.stkSub b O) with e|O
 .rw[e];show I.free
 .obtain ⟨_,o,T,_⟩:=I.ok.funs.mem O;show I.base.free b o T (I.ok.frf b O) λz=>I.ok.exfs b z O
def Inv.step {ch:List Addr}(I:[UE]) (Vq:∀b∈ch,(b∈X.ex\/X.s₀.heap.objs.size<=b)/\b≠X.env.locals/\(∀x c,X.env.cells.lookup x=some c->c≠b)/\∀p∈X.pn++pins,p.1≠b) (keep:∀b o,b≠X.env.locals->b∉X.fs->b∉ch->([SR])->H b=none->[TN,h'.get?]) (slot:∀b o,b≠X.env.locals->b∈X.fs->b∉ch->([SR])->H b=none->∃sl,h'.get? b=some { o with slots:=sl }) (free:∀b o,b∉ch->([SR])->H b=none->H' b=none) (there:∀b o,b∉ch->([SR])->∃o',h'.get? b=some o') (tups:∀b xs,H b=some (.tup xs)->H' b=some (.tup xs)) (frzs:∀b o u,H b=some (.frz o u)->H' b=some (.frz o u)) (tbls:∀b ps,H b=some (.tbl ps)->∃more,H' b=some (.tbl (ps++more))) (ns:∀m,s.heap.Ns X.env.locals m->h'.Ns X.env.locals m) (hok:HOk X.prog X.w H' h') (hg:AllBare g'):
  [YR,a,H',{ s with heap:=h',gens:=g',drawn:=d',toks:=t' }]:=by
 have a3:∀b o,_=some o->b≠X.env.locals:=λb o e=>qD5 (qB6 (qB2 e) I.ok.above);have XJ:∀b o,_=some o->b∉X.ex->b∉ch:=λb o e O hb=>by
  rcases (Vq b hb).1 with z|z
  .show O z
  .show absurd (qB6 (qB2 e) z) (qE7 _)
 have cellK:∀x c,_=_->∀v,s.heap.IsCell c v->h'.IsCell c v:=λx c e v a4=>by
  obtain ⟨o,ho,hd⟩:=a4;have WS:=λz=>(Vq c z).2.2.1 x c e rfl;by_cases hc:c∈X.fs
  .obtain ⟨sl,q⟩:=slot c o (I.cne x c e) hc WS ho (I.freeC x c e);show [WH,q,hd]
  .show ⟨o,keep c o (I.cne x c e) hc WS ho (I.freeC x c e),hd⟩
 refine ⟨I.ok,I.os,hg,⟨λb o e n hb O=>?_,λb o e n hb O=>?_,λb o e n O=>?_,λb o e O=>?_,λb xs e=>tups b xs (I.base.tups b xs e),λb o xs e=>frzs b o xs (I.base.frzs b o xs e),λb ps e=>?_⟩,?_,λx c e=>?_,?_,λx c e=>?_,λp hp=>?_,hok,I.len⟩
 .show keep b o (a3 b o e) hb (XJ b o e O) (I.base.keep b o e n hb O) (I.base.free b o e n O)
 .obtain ⟨sl,T⟩:=I.base.slot b o e n hb O;obtain ⟨Wy,e2⟩:=slot b _ (a3 b o e) hb (XJ b o e O) T (I.base.free b o e n O);show ⟨Wy,e2⟩
 .obtain ⟨o',T⟩:=I.base.there b o e O;show free b o' (XJ b o e O) T (I.base.free b o e n O)
 .obtain ⟨o',T⟩:=I.base.there b o e O;show there b o' (XJ b o e O) T
 .obtain ⟨m1,T⟩:=I.base.tbls b ps e
  grind
 .obtain ⟨m,hn,hl⟩:=I.loc;refine ⟨m,ns m hn,λi x v T e2 e3=>?_⟩;obtain ⟨u,r,l⟩:=hl i x v T e2 e3;refine ⟨u,r,?_⟩;rcases l with l|⟨k,c,e,z⟩
  .show .inl l
  .show .inr ⟨k,c,e,cellK x c e _ z⟩
 .obtain ⟨v,z⟩:=I.cell x c e;show ⟨v,cellK x c e v z⟩
 .obtain ⟨m,⟨o,_,_,ho,_⟩,_⟩:=I.loc;show free _ o (λz=>(Vq _ z).2.1 rfl) ho I.free
 .obtain ⟨v,o,ho,hd⟩:=I.cell x c e;show free c o (λz=>(Vq c z).2.2.1 x c e rfl) ho (I.freeC x c e)
 .obtain ⟨e,n,ne,nf,d⟩:=I.pin p hp;have WS:p.1∉ch:=λz=>(Vq p.1 z).2.2.2 p hp rfl;show ⟨keep p.1 p.2 ne nf WS e n,free p.1 p.2 WS e n,ne,nf,d⟩
def Inv.un (I:[UE]) (u:Un X.fs [] H H' s.heap h') (hok:HOk X.prog X.w H' h'):[YR,a,H',[SS,s,h',t']]:=by
 obtain ⟨m,⟨o,es,ep,ho,r⟩,_⟩:=id I.loc;obtain ⟨sl,hL⟩:=u.any ho I.free Xaf;show I.step (d':=s.drawn) (ch:=[]) (λ_ z=>nomatch z) (λb o _ O _ e n=>u.keep b o e n O Xaf) (λb o _ O _ e n=>u.slot b o e n O Xaf) (λb o _ e n=>u.free b o e n Xaf) (λb o _ e=>u.there b o e Xaf) u.tups u.frzs u.tbls (λm' hm=>by
  obtain ⟨o',YX,YY,T,r'⟩:=hm;rw[ho]at T;cases T;show ⟨_,YX,YY,hL,r'⟩) hok I.bare
def Inv.call (I:[UE]) (u:Un (frs X.stack) ch H H' s.heap h') (hok:HOk X.prog X.w H' h') (hg:AllBare g') (T:∀b∈ch,(b∈X.ex\/X.s₀.heap.objs.size<=b)/\b≠X.env.locals/\(∀x c,X.env.cells.lookup x=some c->c≠b)/\∀p∈X.pn++pins,p.1≠b):
  [YR,a,H',{ s with heap:=h',gens:=g',drawn:=d',toks:=t' }]:=by
 obtain ⟨m,⟨o,es,ep,ho,r⟩,_⟩:=id I.loc;obtain ⟨sl,O⟩:=u.any ho I.free λz=>(T _ z).2.1 rfl;show I.step T (λb o O hb hc e n=>u.keep b o e n (λz=>(qB5.mp (I.stkSub b z)).elim O hb) hc) (λb o _ _ hc e n=>u.any e n hc) (λb o hc e n=>u.free b o e n hc) (λb o hc e=>u.there b o e hc) u.tups u.frzs u.tbls (λm' hm=>by
  obtain ⟨o',YX,YY,Vd,r'⟩:=hm;rw[ho]at Vd;cases Vd;show ⟨_,YX,YY,O,r'⟩) hok hg
def Inv.turned (I:[UE]) (k:∀b o,b≠it->([SR])->[TN,h'.get?]) (hn:H it=none) (O:it≠X.env.locals) (h1:it∈X.ex\/X.s₀.heap.objs.size<=it) (h2:∀x c,X.env.cells.lookup x=some c->c≠it) (h3:∀p∈X.pn++pins,p.1≠it):[YR,a,H,[SS,s,h',t']]:=by
 refine I.step (d':=s.drawn) (ch:=[it]) (λb T=>?_) (λb o _ _ hc e _=>k b o (λz=>hc (by simp [z])) e) (λb o _ _ hc e _=>⟨o.slots,k b o (λz=>hc (by simp [z])) e⟩) (λ_ _ _ _ n=>n)
  (λb o hc e=>⟨o,k b o (λz=>hc (by simp [z])) e⟩) (λ_ _ e=>e) (λ_ _ _ e=>e) (λb ps e=>⟨#[],by rw[e];simp⟩) (λm hm=>?_) (λb u e=>?_) I.bare
 .have e:b=it:=by simpa using T
  subst e;show ⟨h1,O,h2,h3⟩
 .obtain ⟨o,es,ep,ho,r⟩:=hm;show ⟨o,es,ep,k _ o (Ne.symm O) ho,r⟩
 .refine (I.hok b u e).stay (λc v hc q=>k c v ?_ q) (λ_ q=>q) λ_ _ q=>q;omega
def Inv.tok (I:[UE])t:[YR,a,H,{ s with toks:=t }]:=I.un (t':=t) Un.refl I.hok
def Inv.kept (I:[UE])(k:∀b u,s.heap.get? b=some u->h'.get? b=some u):[YR,a,H,[SS,s,h',t']]:=I.un (Un.kept k) (I.hok.kept k)
def Inv.laid {a:Addr}(I:[YR,c,H,s]) (k:∀b u,s.heap.get? b=some u->h'.get? b=some u) (hp:s.heap.objs.size<=a) (O:ObjOk X.prog X.w (upd H a o) h' a o):
  [YR,c,upd H a o,[SS,s,h',t']]:=I.un (Un.laid k hp (I.hok.fresh hp)) (I.hok.laid k hp O)
def Inv.write (I:[UE])(mu:Mut (H x))(T:e=x\/H e=some (.own x))(k:∀b u,b≠e->s.heap.get? b=some u->h'.get? b=some u)(Xl:∃u,h'.get? e=some u)(O:ObjOk X.prog X.w (upd H x o) h' x o):[YR,a,upd H x o,[SS,s,h',t']]:=I.un (Un.write mu T k Xl) (I.hok.write mu T k Xl O)
def Inv.weak (I:[UE]) (hl:b.length=a.length) (w:∀(i:Nat) v,[ZI,b,[ZT,v]]->[ZI,a,[ZT,v]]):[YR,b,H,s]:=
 ⟨I.ok,I.os,I.bare,I.base,let ⟨m,hn,hl'⟩:=I.loc;⟨m,hn,λi x v e1 T O=>hl' i x v e1 (w i v T) O⟩,I.cell,I.free,I.freeC,I.pin,I.hok,hl.trans I.len⟩
def Inv.pins_of (I:[UE]) (h:∀p∈VR,s.heap.get? p.1=some p.2/\H p.1=none/\p.1≠X.env.locals/\p.1∉X.fs/\∀v,p.2.data≠.cell v):Inv X VR a H s:=
 [Z11,I.ok,λp hp=>(qE2.mp hp).elim (λz=>I.pin p (List.mem_append_left _ z)) (h p)]
def fJ {N:ZK}(I:N.Nodup){i:Nat}(a:[ZI,N,x]) (b:N[j]?=some x):i=j:=(List.getElem?_inj (List.getElem?_eq_some_iff.mp a).1 I).mp (a.trans b.symm)
def jP (I:[YR,f,H,s]) (hN:X.N.Nodup) (hi:[ZI,X.N,x]) (T:Loc X.env.scope x) (r:RelV v u) (h:∀s',[YR,f.set i [ZT,v],H,s']->(∃a,Heap.SameBut a s.heap s'.heap/\(a=X.env.locals\/X.env.cells.lookup x=some a))->Q () s') (hf:[Z0c]):wpAny M A (storeName X.env x u) Q E s:=by
 obtain ⟨m,hn,hl⟩:=id I.loc;have Uz:(X.env.scope.kind == .class||X.env.scope.kind == .module&&X.env.locals != X.env.globals)=false:=by rw[I.ok.kind];rfl
 have Xg:i<f.length:=by rw[I.len];grind
 have cne:=I.cne;have tracked:∀{a:Addr}{h':Heap},(∃o,s.heap.get? a=some o/\H a=none)->Heap.SameBut a _ h'->HOk _ X.w H h':=λ{a h'} ha hs b ob e=>by
  refine (I.hok b ob e).stay (λc w' hc q=>(hs.2 c ?_).trans q) (λ_ q=>q) λ_ _ q=>q;omega
 rcases T with hk|hk
 .refine wpAny_storeName_local hk hn (λh' WB hs=>?_) Uz;obtain ⟨oL,_,_,a6,_⟩:=id hn;refine h _ ⟨I.ok,I.os,I.bare,⟨λb o e n hb T=>?_,λb o e n hb T=>?_,I.base.free,λb o e T=>?_,I.base.tups,I.base.frzs,I.base.tbls⟩,[WH,WB,λj y v' O e2 e3=>?_],λy c e=>?_,I.free,I.freeC,λp hp=>?_,tracked ⟨oL,a6,I.free⟩ hs,by simpa using I.len⟩ [WH,hs,.inl rfl]
  .show (hs.2 b (qD5 (qB6 (qB2 e) I.ok.above))).trans (I.base.keep b o e n hb T)
  .obtain ⟨sl,O⟩:=I.base.slot b o e n hb T;show ⟨sl,(hs.2 b (qD5 (qB6 (qB2 e) I.ok.above))).trans O⟩
  .obtain ⟨o',O⟩:=I.base.there b o e T;show ⟨o',(hs.2 b (qD5 (qB6 (qB2 e) I.ok.above))).trans O⟩
  .by_cases hj:j=i
   .subst hj;rw[hi]at O;cases O;rw[qE4 Xg]at e2;cases e2;show ⟨u,r,.inl ⟨hk,Xaf⟩⟩
   .rw [qA4 (Ne.symm hj)]at e2
    obtain ⟨u',r',q⟩:=hl j y v' O e2 e3;refine ⟨u',r',?_⟩;rcases q with ⟨k,e⟩|⟨k,c,e,z⟩
    .refine .inl ⟨k,?_⟩
     have:y≠x:=λe=>hj (fJ hN O (e ▸ hi))
     simp [this,e]
    .show .inr ⟨k,c,e,z.sameBut hs (cne y c e)⟩
  .obtain ⟨w',z⟩:=I.cell y c e;show ⟨w',z.sameBut hs (cne y c e)⟩
  .obtain ⟨e,n,ne,nf,d⟩:=I.pin p hp;show ⟨(hs.2 p.1 ne).trans e,n,ne,nf,d⟩
 .have Xk:X.fn x=true:=by
   omega
  obtain ⟨c,hc⟩:=I.ok.has x (.inl hk);obtain ⟨w',z⟩:=I.cell x c hc;refine wpAny_storeName_cell I.ok.kind hk hc z (λh' WE hs=>?_);obtain ⟨oc,a5,a4⟩:=id z;refine h [To,s,h'] ⟨I.ok,I.os,I.bare,⟨λb o e n hb T=>?_,λb o e n hb T=>?_,I.base.free,λb o e T=>?_,I.base.tups,I.base.frzs,I.base.tbls⟩,⟨m,hn.sameBut hs (Ne.symm (cne x c hc)),λj y v' O e2 e3=>?_⟩,λy c' e=>?_,I.free,I.freeC,λp hp=>?_,tracked ⟨oc,a5,I.freeC x c hc⟩ hs,by simpa using I.len⟩ ⟨c,hs,.inr hc⟩
  .show (hs.2 b (qD5 (qB6 (qB2 e) (I.ok.cab x c Xk hc)))).trans (I.base.keep b o e n hb T)
  .obtain ⟨sl,O⟩:=I.base.slot b o e n hb T;show ⟨sl,(hs.2 b (qD5 (qB6 (qB2 e) (I.ok.cab x c Xk hc)))).trans O⟩
  .obtain ⟨o',O⟩:=I.base.there b o e T;show ⟨o',(hs.2 b (qD5 (qB6 (qB2 e) (I.ok.cab x c Xk hc)))).trans O⟩
  .by_cases hj:j=i
   .subst hj;rw[hi]at O;cases O;rw[qE4 Xg]at e2;cases e2;show ⟨u,r,.inr ⟨.inl hk,c,hc,WE⟩⟩
   .rw [qA4 (Ne.symm hj)]at e2
    obtain ⟨u',r',q⟩:=hl j y v' O e2 e3;refine ⟨u',r',?_⟩;rcases q with q|⟨k,c',e,z'⟩
    .show .inl q
    .refine .inr ⟨k,c',e,z'.sameBut hs ?_⟩;rintro rfl;show hj (fJ hN O (I.ok.inj _ _ _ e hc ▸ hi))
  .by_cases a3:c'=c
   .subst a3;show ⟨_,WE⟩
   .obtain ⟨w2,z2⟩:=I.cell y c' e;show ⟨w2,z2.sameBut hs a3⟩
  .obtain ⟨e,n,ne,nf,d⟩:=I.pin p hp;refine ⟨(hs.2 p.1 ?_).trans e,n,ne,nf,d⟩;intro q;rw[q,a5]at e;have q':oc=p.2:=Option.some.inj e;show d w' (by rw[<- q'];show a4)
def Z3 (I:[UE]) (hN:X.N.Nodup) (hi:[ZI,X.N,x]) (T:Loc X.env.scope x) (r:RelV v u) (h:∀s',[YR,a.set i [ZT,v],H,s']->Q () s') (hf:[Z0c]):wpAny M A (storeName X.env x u) Q E s:=
 jP I hN hi T r (λs' O _=>h s' O) hf
def Inv.call' (I:[UE]) (T:s'.os=s.os) (u:Un (frs X.stack) ch H H' s.heap s'.heap) (hok:HOk X.prog X.w H' s'.heap) (hg:AllBare s'.gens) (O:∀b∈ch,(b∈X.ex\/X.s₀.heap.objs.size<=b)/\b≠X.env.locals/\(∀x c,X.env.cells.lookup x=some c->c≠b)/\∀p∈X.pn++pins,p.1≠b):[YR,a,H',s']:=by
 obtain ⟨h',g',d',t',o'⟩:=s';have e:=T;subst e;show I.call (t':=t') u hok hg O
abbrev XK:=Value->Option Addr->Hp->Prop
abbrev St:=List (Option V)
abbrev VK:=[Ts,V]
abbrev TE:=St->Hp->VK->Prop
abbrev TT:=St->Hp->([Ts,Bool])->Prop
abbrev TA:=St->Hp->([Ts,List V])->Prop
structure Ends where
 nx:St->Hp->Prop
 rt:VK
 bk:St->Hp->Prop:=λ_ _=>False
 ct:St->Hp->Prop:=λ_ _=>False
abbrev TS:=Ends->St->Hp->Prop
def EP (X:Cx)(pins:ZQ)(a:St)(Q:VK)(u:Value)(s':Shared):Prop:=∃v H',[YR,a,H',s']/\RelV v u/\Q v H'
def TP (X:Cx)(pins:ZQ)(a:St)(Q:[Ts,Bool])(b:Bool)(s':Shared):Prop:=∃H',[YR,a,H',s']/\Q b H'
def AP (X:Cx)(pins:ZQ)(a:St)(Q:[Ts,List V])(us:ZW)(s':Shared):Prop:=∃vs H',[YR,a,H',s']/\Vals vs us/\Q vs H'
def SP (X:Cx) (pins:ZQ) (D:Ends) (f:Flow) (s':Shared):Prop:=
 match f with
 | .next=>∃I H',[YR,I,H',s']/\D.nx I H'
 | .brk=>∃I H',[YR,I,H',s']/\D.bk I H'
 | .cont=>∃I H',[YR,I,H',s']/\D.ct I H'
 | .ret u=>∃v I H',[YR,I,H',s']/\RelV v u/\D.rt v H'
def PE (X:Cx) (e:Expr) (t:TE):Prop:=
 ∀(pins:ZQ) (s:Shared) (a:St) (H:Hp) (Q:VK),([UE])->t a H Q->[yc,[Sy,e],EP X pins a Q]
def PT (X:Cx) (e:Expr) (t:TT):Prop:=
 ∀(pins:ZQ) (s:Shared) (a:St) (H:Hp) (Q:[Ts,Bool]),([UE])->t a H Q->[yc,isTrue e X.env [Sy,e],TP X pins a Q]
def PW (X:Cx) (e:Expr) (t:TT):Prop:=
 ∀(whole:Sem Value) (pins:ZQ) (s:Shared) (a:St) (H:Hp) (Q:[Ts,Bool]),([UE])->t a H Q->[yc,isTrue e X.env whole,TP X pins a Q]
def PW.pt (h:PW X e t):PT X e t:=h _
def PA (X:Cx) (es:ZX) (t:TA):Prop:=
 ∀(pos:Pos) (pins:ZQ) (s:Shared) (a:St) (H:Hp) (Q:[Ts,List V]),([UE])->t a H Q->[yc,spliced (backTo pos (starEach es X.env)),AP X pins a Q]
def PS (X:Cx) (st:Stmt) (t:TS):Prop:=
 ∀(pins:ZQ) (s:Shared) (a:St) (H:Hp) (D:Ends),([UE])->t D a H->[yc,exec st X.env,SP X pins D]
def PSs (X:Cx) (st:Wk) (t:TS):Prop:=
 ∀(pins:ZQ) (s:Shared) (a:St) (H:Hp) (D:Ends),([UE])->t D a H->[yc,execs st X.env,SP X pins D]
def thn {t:Sem b}(h:wpAny M A t Q E s)(I:∀a s,Q a s->Q' a s):wpAny M A t Q' E s:=qK9 h I λ_ _ x=>x
def z8 (i:Nat):TE:=λa H Q=>∃v,[ZI,a,[ZT,v]]/\Q v H
def tC (v:V):TE:=λ_ H Q=>Q v H
def x9 {X}{i}{x}{pos}(hN:[ZI,X.N,x]) (T:[cz]) (hd:[Z02]) (Ub:[Z0V]):PE X [YD,x,pos] (z8 i):=by
 show 7 a;obtain ⟨v,e,h⟩:=h;obtain ⟨m,hn,hl⟩:=I.loc;obtain ⟨u,r,l⟩:=hl i x v hN e T;have O:EP X pins a Q u s:=⟨v,H,I,r,h⟩;rcases l with ⟨hk,hm⟩|⟨hk,c,hc,hcell⟩
 .show wpAny_Name (wpAny_loadName_local I.ok.kind hk hn hm O) hd
 .rcases hk with hk|hk
  .show wpAny_Name (wpAny_loadName_cell I.ok.kind hk hc hcell O) hd
  .show wpAny_Name (wpAny_loadName_free I.ok.kind hk hc hcell O Ub) hd
def pe_int {i j pos}:PE X (.Constant (.int i) j pos) (tC (.int i)):=λ_ _ _ H _ I h=>wpAny_Constant_int ⟨.int i,H,I.tok _,[Tq],h⟩
def pe_bl {b j pos}:PE X (.Constant (.bool b) j pos) (tC (.bl b)):=λ_ _ _ H _ I h=>Constant_bool ⟨.bl b,H,I,rfl,h⟩
def pe_non {j pos}:PE X (.Constant .none j pos) (tC .non):=λ_ _ _ H _ I h=>Constant_none ⟨.non,H,I,rfl,h⟩
def pe_str {x j pos}:PE X (.Constant (.str x) j pos) (tC (.str x)):=λ_ _ _ H _ I h=>Calls.Constant_str ⟨.str x,H,I.tok _,[Tq],h⟩
def Gl (X:Cx)(x:Str):Prop:=X.env.kindOf x=some .globalImplicit
def U2 {X}{E:YJ}{pins}{s}{a:St}{H}{x}{u}{pos}{Q:YJ}(I:[UE]) (hg:Gl X x) (hm:X.mg x=some u) (h:Q u s) (hd:[Z02]):wpAny [Ty] X.A [Sy,[YD,x,pos]] Q E s:=
 Calls.Name_function_global I.ok.kind hg (Calls.loadGlobal_global (by rw[I.ok.glob];show I.mod.glob.keeps I.bk) hm h) hd
def W2 {X}{E:YJ}{pins}{s}{a:St}{H}{x}{u}{pos}{Q:YJ}(I:[UE]) (hg:Gl X x) (hm:X.mg x=none) (hv:bootBuiltins x=some u) (h:Q u s) (hn:x ≠ "__name__" := by decide) (hd:[Z02]):wpAny [Ty] X.A [Sy,[YD,x,pos]] Q E s:=by
 obtain ⟨mb,T,O⟩:=I.mod.blt;show Calls.Name_function_global I.ok.kind hg (Calls.loadGlobal_builtin (by rw[I.ok.glob];show I.mod.glob.keeps I.bk) hm (by rw[I.ok.blt];show T.keeps I.bk) ((O x hn).trans hv) h) hd
def bB (hg:Gl X x) (hm:X.mg x=some u) (r:RelV v u) (hd:[Z02]):PE X [YD,x,pos] (tC v):=
 λ_ _ _ H _ I h=>U2 I hg hm ⟨v,H,I,r,h⟩ hd
def EQ {X}{x}{v}{u}{pos}(hg:Gl X x) (hm:X.mg x=none) (O:bootBuiltins x=some u) (r:RelV v u) (hn:x ≠ "__name__" := by decide) (hd:[Z02]):PE X [YD,x,pos] (tC v):=
 λ_ _ _ H _ I h=>W2 I hg hm O ⟨v,H,I,r,h⟩ hn hd
def PC (X:Cx) (T:CmpOp) (a b:Expr) (t:TE):Prop:=
 ∀ (pins:ZQ) (s:Shared) (c:St) (H:Hp) (Q:VK),[YR,c,H,s]->t c H Q ->
  [yc,[Sy,a],λv O=>wpAny [Ty] X.A [Sy,b] (λu I=>wpAny [Ty] X.A (compareOp T v u) (EP X pins c Q) X.xe I) X.xe O]
def Ad b (h:op≠.In) (T:op≠.NotIn):behindInMarks op b=false:=by
 have O:(op == CmpOp.In)=false:=ZU;have I:(op == CmpOp.NotIn)=false:=ZU;cases b <;> simp [behindInMarks,O,I]
def tB (t:TE):TT:=λa H Q=>t a H λx H1=>∃c,x=.bl c/\Q c H1
def vA (h:PC X op a b t) (O:behindInMarks op b=false:=by first|show Ad _ Xaa Xaa|rfl):PT X (.Compare a [op] [b] pos) (tB t):=by
 intro pins s e H Q I hw;refine wpAny_isTrue_Compare1 (thn (h pins s e H _ I hw) λv s1 O=>thn O λu s2 h2=>thn h2 λc s3 T=>?_) O;obtain ⟨x,H1,I1,r1,q1⟩:=T;obtain ⟨d,rfl,q⟩:=q1;cases r1;show qL3 ⟨H1,I1,q⟩
def Ke (h:PE X e t) (he:[XXd,∀whole,isTrue e X.env whole=(do let v <- whole;standAt e.pos;holding [v] (truthy v))]):PT X e (tB t):=by
 intro pins s a H Q I hw;refine isTrue_plain (thn (h pins s a H _ I hw) λv s1 O=>?_) (he _);obtain ⟨x,H1,I1,T,q1⟩:=O;obtain ⟨d,rfl,q⟩:=q1;cases T;show qL3 ⟨H1,I1,q⟩
def yH (t u:TT):TT:=λa H Q=>t a H λc H1=>if c=true then u a H1 Q else Q false H1
def tOr (t u:TT):TT:=λa H Q=>t a H λc H1=>if c=true then Q true H1 else u a H1 Q
def Iy (t:TT):TT:=λa H Q=>t a H λc H1=>Q (!c) H1
def qm (ha:PT X a tA):PW X (.BoolOp .And [a] pos) tA:=by
 intro O pins s b H Q I h;refine isTrue_and (thn (ha pins s b H Q I h) λc s1 e=>?_)
 grind[isTrue_and_nil]
def Kd (ha:PT X a tA):PW X (.BoolOp .Or [a] pos) tA:=by
 intro O pins s b H Q I h;refine isTrue_or (thn (ha pins s b H Q I h) λc s1 e=>?_)
 grind[isTrue_or_nil]
def vz {rest:ZX}(ha:PT X a tA) (hb:PW X (.BoolOp .And (b::rest) pos) XB):PW X (.BoolOp .And (a::b::rest) pos) (yH tA XB):=by
 intro wh pins s d H Q I h;refine isTrue_and (thn [SI,ha,d] λc s1 O=>?_);obtain ⟨H1,I1,T⟩:=O;cases c with
 |true=>show hb wh pins s1 d H1 Q I1 T
 |false=>show ⟨H1,I1,T⟩
def Qj {rest:ZX}(ha:PT X a tA) (hb:PW X (.BoolOp .Or (b::rest) pos) XB):PW X (.BoolOp .Or (a::b::rest) pos) (tOr tA XB):=by
 intro wh pins s d H Q I h;refine isTrue_or (thn [SI,ha,d] λc s1 O=>?_);obtain ⟨H1,I1,T⟩:=O;cases c with
 |true=>show ⟨H1,I1,T⟩
 |false=>show hb wh pins s1 d H1 Q I1 T
def Kf (ha:PT X a tA):PT X (.UnaryOp .Not a pos) (Iy tA):=by
 show 7 b;show isTrue_not [SI,ha,b]
def BZ (ta tb:TE):TE:=λa H Q=>ta a H λx H1=>∃c,x=.bl c/\if c=true then tb a H1 Q else Q (.bl false) H1
def Ks {op}(h:PE X a t):PE X (.BoolOp op [a] pos) t:=λpins s b H Q I hw=>BoolOp_one (h pins s b H Q I hw)
def Ku {rest:ZX}(ha:PE X a ta) (hb:PE X (.BoolOp .And (b::rest) pos) tb):PE X (.BoolOp .And (a::b::rest) pos) (BZ ta tb):=by
 show 7 d;refine BoolOp_and (thn [SI,ha,d] λv s1 T=>?_);obtain ⟨x,H1,I1,r1,O⟩:=T;obtain ⟨c,rfl,O⟩:=O;cases r1;refine qL3 ?_;cases c with
 |true=>show hb pins s1 d H1 Q I1 O
 |false=>show ⟨.bl false,H1,I1,rfl,O⟩
def tIf (t:TT)(ta tb:TE):TE:=λa H Q=>t a H λc H1=>if c=true then ta a H1 Q else tb a H1 Q
def zR (hc:PT X c tA) (ha:PE X a ta) (hb:PE X b tb):PE X (.IfExp c a b pos) (tIf tA ta tb):=by
 show 7 e;refine wpAny_IfExp (thn [SI,hc,e] λd s1 O=>?_);obtain ⟨H1,I1,T⟩:=O;cases d with
 |true=>show ha pins s1 e H1 Q I1 T
 |false=>show hb pins s1 e H1 Q I1 T
def SqL (K:Frag) (H:Hp) (a:Addr) (xs:List V):Prop:=
 Rd H a (.lst xs) \/
  ∃(o:Obj) (its:ZY) (n:Nat),K.lookup a=some o/\o.cls=.type "list" /\ o.dict=none/\o.data=.seq its n/\its.size<=sizeLine/\Vals xs its.toList
def SqT (K:Frag) (H:Hp) (a:Addr) (xs:List V):Prop:=
 Rd H a (.tup xs) \/
  ∃(o:Obj) (its:ZY) (n:Nat),K.lookup a=some o/\o.cls=.type "tuple" /\ o.data=.seq its n/\[Te,its.size]/\Vals xs its.toList
noncomputable def absV:Value->Option V
 | .none=>some .non
 | .bool b=>some (.bl b)
 | .int i _=>some (.int i)
 | .str x _=>some (.str x)
 | .bytes b _=>some (.byt b)
 | .float b _=>some (.flt b)
 | .ref a=>some (.ref a)
 | .type n=>some (.ty n)
 |_=>none
def RelV.abs (r:RelV x u):absV u=some x:=by
 cases x with
 |non=>cases r;rfl
 |bl _=>cases r;rfl
 |int _=>show 1 t r;rfl
 |str _=>show 1 t r;rfl
 |byt _=>show 1 t r;rfl
 |flt _=>show 1 t r;rfl
 |ref _=>cases r;rfl
 |ty _=>cases r;rfl
def RelV.inj (r:RelV x u)(q:RelV y u):x=y:=Option.some.inj (r.abs.symm.trans q.abs)
def Vals.inj:∀{xs ys}{us:ZW},Vals xs us->Vals ys us->xs=ys:=by
 intro xs ys us a
 induction a generalizing ys with
 |nil=>intro b;cases b;rfl
 | cons r t I=>
  intro b;cases b with
  |cons O t'=>rw[r.inj O,I t']
def SqL.of {K}(h:H a=some [YM,xs]):SqL K H a xs:=.inl (.inl h)
def SqT.of {K}(h:H a=some (.tup xs)):SqT K H a xs:=.inl (.inl h)
def Inv.list {b:St}(I:[YR,b,H,s]) (h:SqL X.K H a xs):∃its:List Value,Vals xs its/\PlainL s.heap a its.toArray/\[Te,xs.length]:=by
 rcases h with h|⟨o,its,n,hk,hc,hd,hs,hz,r⟩
 .obtain ⟨z,its,n,r,e⟩:=h.ok I.hok;show ⟨its,r,⟨_,n,e,rfl,rfl,rfl⟩,z⟩
 .refine ⟨its.toList,r,⟨o,n,I.kIn a o hk,hc,hd,ZU⟩,?_⟩;have e:=r.length;simp [qG3]at e;omega
def Inv.tuple {b:St}(I:[YR,b,H,s]) (h:SqT X.K H a xs):∃its:List Value,Vals xs its/\IsTup s.heap a its.toArray/\[Te,xs.length]:=by
 rcases h with h|⟨o,its,n,hk,hc,hs,hz,r⟩
 .obtain ⟨z,its,r,p⟩:=h.ok I.hok;show ⟨its,r,p,z⟩
 .refine ⟨its.toList,r,⟨o,I.kIn a o hk,hc,n,ZU⟩,?_⟩;have e:=r.length;simp [qG3]at e;omega
def Inv.list_inj {b:St}(I:[YR,b,H,s]) (h:SqL X.K H a xs) (h':SqL X.K H a ys):xs=ys:=by
 obtain ⟨its,r,⟨o,n,e,_,_,d⟩,_⟩:=I.list h;obtain ⟨T,r',⟨o',n',O,_,_,d'⟩,_⟩:=I.list h';rw[e]at O;cases O;rw[d]at d'
 have:its=T:=ZU
 subst this;show r.inj r'
def Inv.tuple_inj {b:St}(I:[YR,b,H,s]) (h:SqT X.K H a xs) (h':SqT X.K H a ys):xs=ys:=by
 obtain ⟨its,r,⟨o,e,_,n,d⟩,_⟩:=I.tuple h;obtain ⟨T,r',⟨o',O,_,n',d'⟩,_⟩:=I.tuple h';rw[e]at O;cases O;rw[d]at d'
 have:its=T:=ZU
 subst this;show r.inj r'
noncomputable abbrev Cx.wish (X:Cx)(E:YJ):Cx:={ X with xe:=E }
abbrev Cx.nox (X:Cx):Cx:=X.wish λ_ _=>False
def Cx.Ok.wish {X:Cx}(ok:X.Ok) E:(X.wish E).Ok:=
 ⟨ok.mod,ok.kind,ok.glob,ok.blt,ok.above,ok.inj,ok.has,ok.cab,ok.hd,ok.frames,ok.stk,ok.exf,ok.bs,ok.bsz,ok.noex,ok.exfs,ok.funs,ok.frf⟩
def Cx.Ok.unwish {X:Cx}(ok:(X.wish E).Ok):X.Ok:=
 ⟨ok.mod,ok.kind,ok.glob,ok.blt,ok.above,ok.inj,ok.has,ok.cab,ok.hd,ok.frames,ok.stk,ok.exf,ok.bs,ok.bsz,ok.noex,ok.exfs,ok.funs,ok.frf⟩
def Inv.wish {a:St}(I:[UE])E:Inv (X.wish E) pins a H s:=[Z11,I.ok.wish E,I.pin]
def Inv.unwish {a:St}(I:Inv (X.wish E) pins a H s):[UE]:=[Z11,I.ok.unwish,I.pin]
def SP.unwish (h:SP (X.wish E) pins D f s'):SP X pins D f s':=by
 cases f with
 |next=>obtain ⟨O,H',I,q⟩:=h;show ⟨O,H',I.unwish,q⟩
 |brk=>obtain ⟨O,H',I,q⟩:=h;show ⟨O,H',I.unwish,q⟩
 |cont=>obtain ⟨O,H',I,q⟩:=h;show ⟨O,H',I.unwish,q⟩
 |ret u=>obtain ⟨v,O,H',I,r,q⟩:=h;show ⟨v,O,H',I.unwish,r,q⟩
def PSs.nox {st}(h:PSs X.nox st t):PSs X st t:=λpins s a H D I hw=>
 qK9 (h pins s a H D (I.wish _) hw) (λ_ _ q=>q.unwish) λ_ _ z=>False.elim z
def tNext:TS:=λD a H=>D.nx a H
def cU (t u:TS):TS:=λD a H=>t { D with nx:=u D } a H
def pss_nil:PSs X [] tNext:=λ_ _ a H _ I h=>qM6 ⟨a,H,I,h⟩
def R3 {st}{rest}(h1:PS X st t) (h2:PSs X rest u):PSs X (st::rest) (cU t u):=by
 intro pins s a H D I h;refine qR3 (thn (h1 pins s a H { D with nx:=u D } I h) λf s1 q=>?_);cases f with
 | next=>
  obtain ⟨O,H',T,q⟩:=q;show h2 pins s1 O H' D T q
 |ret v=>show q
 |brk=>show q
 |cont=>show q
def bw {st}(O:PS X st t):PSs X [st] t:=by
 intro pins s a H D I h;refine qR3 (thn (O pins s a H D I h) λf s1 q=>?_)
 grind[PySem.wpAny_execs_nil]
def Inv.quiet {a:St}(I:[UE]):interactive X.env=false:=by simp [interactive,I.ok.kind]
def gm (I:TE):TS:=λD a H=>I a H λ_ H1=>D.nx a H1
def dY (T:PE X e te) (hs:[XXa,swapsWith e none pos.line X.env=pure false]):PS X (.Expr e pos) (gm te):=by
 intro pins s a H D I h;show wpAny_Expr_any (thn [SI,T,a] λv s1 O=>by obtain ⟨x,H1,I1,r1,q1⟩:=O;show ⟨a,H1,I1,q1⟩) I.quiet hs
def iL (I:TE):TS:=λD a H=>I a H D.rt
def dg (T:PE X e te):PS X (.Return [ZT,e] pos) (iL te):=by
 intro pins s a H D I h;show wpAny_Return_some (thn [SI,T,a] λv s1 O=>by obtain ⟨x,H1,I1,r1,q1⟩:=O;show ⟨x,a,H1,I1,r1,q1⟩)
def rN (c:TT)(t u:TS):TS:=λD a H=>c a H λb H1=>if b=true then t D a H1 else u D a H1
def sm (hc:PT X c tc) (ha:PSs X a t) (hb:PSs X b u):PS X (.If c a b pos) (rN tc t u):=by
 intro pins s e H D I h;refine wpAny_If (thn [SI,hc,e] λd s1 O=>?_);obtain ⟨H1,I1,T⟩:=O;cases d with
 |true=>show ha pins s1 e H1 D I1 T
 |false=>show hb pins s1 e H1 D I1 T
def tNever:TS:=λ_ _ _=>False
def ps_never {st}:PS X st tNever:=λ_ _ _ _ _ _ h=>h.elim
abbrev TG:=V->St->Hp->([Ts,St])->Prop
abbrev TGs:=List V->St->Hp->([Ts,St])->Prop
def PG (X:Cx) (target:Expr) (t:TG):Prop:=
 ∀ (pins:ZQ) (s:Shared) (a:St) (H:Hp) (v:V) (u:Value) (Q:[Ts,St]),([UE])->RelV v u->t v a H Q ->
  [yc,assign target X.env u,λ_ s'=>∃I H',[YR,I,H',s']/\Q I H']
def PGs (X:Cx) (ts:ZX) (t:TGs):Prop:=
 ∀ (pins:ZQ) (s:Shared) (a:St) (H:Hp) (vs:List V) (us:ZW) (Q:[Ts,St]),([UE])->Vals vs us->t vs a H Q ->
  [yc,(assignInOrder ((assignEach ts X.env).map (·.2)) us),λ_ s'=>∃I H',[YR,I,H',s']/\Q I H']
abbrev TSet:=V->V->V->Hp->(Hp->Prop)->Prop
def PD (X:Cx) (t:TSet):Prop:=
 ∀ (pins:ZQ) (s:Shared) (a:St) (H:Hp) (o i v:V) (I O u:Value) (Q:Hp->Prop),([UE])->RelV o I->RelV i O->RelV v u->t o i v H Q ->
  [yc,setItem I O u,λ_ s'=>∃H',[YR,a,H',s']/\Q H']
def L6 (i:Nat):TG:=λv a H Q=>Q (a.set i [ZT,v]) H
def f9 {X}{pos}{i}{x}(hN:X.N.Nodup) (hi:[ZI,X.N,x]) (T:Loc X.env.scope x) (hf:[Z0c]):PG X [YD,x,pos] (L6 i):=by
 intro pins s a H v u Q I r h;show wpAny_assign_Name (Z3 I hN hi T r (λs' O=>⟨_,H,O,h⟩) hf)
def gNil:TGs:=λvs a H Q=>vs = []/\Q a H
def tz (t:TG)(u:TGs):TGs:=λvs a H Q=>∃v r,vs=v::r/\t v a H λI H'=>u r I H' Q
def K5 {X}:PGs X [] gNil:=by
 intro pins s a H vs us Q I r h;obtain ⟨e,h⟩:=h;subst e;show assignInOrder_nil ⟨a,H,I,h⟩
def m9 {X}{e}{es}{t}{u}(h1:PG X e t) (h2:PGs X es u) (hs:[XXa,(assignEach [TC] X.env).map (·.2)=assign e X.env::(assignEach es X.env).map (·.2)]):PGs X [TC] (tz t u):=by
 intro pins s a H vs us Q I r h;obtain ⟨v,vr,e1,h⟩:=h;subst e1;cases r with
 | cons r rr=>
  rw[hs];refine assignInOrder_cons (thn (h1 pins s a H _ _ _ I r h) λ_ s1 O=>?_);obtain ⟨T,H1,I1,q1⟩:=O;show h2 pins s1 T H1 _ _ Q I1 rr q1
def tu (K:Frag)(n:Nat)(t:TGs):TG:=λv b H Q=>∃a xs,v=.ref a/\SqT K H a xs/\xs.length=n/\t xs b H Q
def Kp {X:Cx}{pos}{es}{k}{t}{n}(hc:X.calm=true) (h:PGs X es t) (hn:[XXa,[ZM,assignEach es X.env]=n]) (Us:[XXa,(assignEach es X.env).findIdx? (·.1)=none]):PG X (.Tuple es k pos) (tu X.K n t):=by
 intro pins s c H v u Q I r hw;obtain ⟨a,xs,O,hq,hl,hw⟩:=hw;subst O;cases r;obtain ⟨its,rv,T,hz⟩:=I.tuple hq;refine assign_Tuple_tuple (I.ok.hd hc) T (by simp [hn,<- hl,rv.length]) Us λh' hx=>?_;have I1:=I.kept (t':=s.toks) λb o e=>hx b o (qD5 (qB2 e)) e;show h pins _ c H xs _ Q I1 ZU hw
def gSub (I ti:TE)(t:TSet):TG:=λv a H Q=>I a H λo H1=>ti a H1 λi H2=>t o i v H2 λO=>Q a O
def Kq {X}{pos}{o i}{to ti}{t}(ho:PE X o to) (hi:PE X i ti) (hs:PD X t) (ha:∀v,assign (.Subscript o i pos) X.env v=(do
   let O <- holding [v] (eval o X.env)
   let iv <- holding [v,O] (eval i X.env)
   standAt pos
   holding [v,O,iv] (setItem O iv v)
   release [v,O,iv] []):=by intro _;rfl):PG X (.Subscript o i pos) (gSub to ti t):=by
 intro pins s a H v u Q I r h;refine qA0 (qK6 (thn [SI,ho,a] λO s1 a4=>?_));obtain ⟨x,H1,I1,r1,q1⟩:=a4;refine qA0 (qK6 (thn (hi pins s1 a H1 _ I1 q1) λiv s2 T=>?_));obtain ⟨y,H2,I2,r2,q2⟩:=T;refine qA0 (qL8 (qA0 (qK6 (thn (hs pins s2 a H2 x y v O iv u _ I2 r1 r2 r q2) λ_ s3 a3=>?_))));obtain ⟨H3,I3,q3⟩:=a3;show wpAny_release ⟨a,H3,I3,q3⟩
def T4 (I:TE)(g:TG):TS:=λD a H=>I a H λx H1=>g x a H1 D.nx
def mK {X}{pos:Pos}{tg e}{T}{g}(he:PE X e T) (hg:PG X tg g) (hs:[XXa,swapsWithSole [tg] e pos.line X.env=pure false]) (hw:[XXa,swappedStores [tg] e X.env=pure none]) (h1:[XXa,(assignEach [tg] X.env).map (·.2) = [assign tg X.env]]):PS X (.Assign [tg] e pos) (T4 T g):=by
 intro pins s a H D I h;refine wpAny_Assign_stores (thn [SI,he,a] λv s1 O=>?_) hs hw;obtain ⟨x,H1,I1,r1,q1⟩:=O;rw[h1];show thn (hg pins s1 a H1 x v _ I1 r1 q1) λ_ s2 q=>q
def Z7 {X}{pos}{i}{x}{e}{T}{pos'}(hN:X.N.Nodup) (hi:[ZI,X.N,x]) (hx:Loc X.env.scope x) (he:PE X e T) (hs:[XXa,[Z0N,e,[YD,x,pos']]=pure false]) (hf:[Z0c]):
  PS X (.Assign [.Name x pos'] e pos) (T4 T (L6 i)):=by
 intro pins s a H D I h;refine wpAny_Assign_Name (thn [SI,he,a] λv s1 O=>?_) hs;obtain ⟨y,H1,I1,r1,q1⟩:=O;show Z3 I1 hN hi hx r1 (λs2 I2=>⟨_,H1,I2,q1⟩) hf
structure It where
 go:Nat->Hp->Prop
 yld:Nat->Hp->V->Hp->Prop
 stop:Nat->Hp->Prop
def G9 (X:Cx) (pins:ZQ) (H:Hp) (b:Addr):Prop:=
 H b=none/\b≠X.env.locals/\b∉X.fs/\(b∈X.ex\/X.s₀.heap.objs.size<=b)/\(∀x c,X.env.cells.lookup x=some c->c≠b)/\∀p∈X.pn++pins,p.1≠b
def Inv.fpOk {a:St}{b:Addr}(I:[UE]) (O:s.heap.objs.size<=b) (hn:H' b=none):G9 X pins H' b:=by
 refine ⟨hn,qI7 (qB6 I.lt O),I.nofs O,.inr (qC8 I.sz O),λx c e z=>?_,λp hp z=>?_⟩
 .obtain ⟨v,q⟩:=I.cell x c e;show absurd (qB6 q.lt ([ZO,z,O])) (qE7 _)
 .show absurd (qB6 (qB2 (I.pin p hp).1) ([ZO,z,O])) (qE7 _)
structure Turn (P:Program) (w:World) (K:Frag) (tg:Expr) (J:It) (fp:List Addr) (it:Addr) (tn:Nat->Heap->Prop):Prop where
 mem:it∈fp
 obj:∀i h,tn i h->∀b∈fp,∃o,h.get? b=some o/\∀v,o.data≠.cell v
 keep:∀i h h',tn i h->(∀b∈fp,∀o,h.get? b=some o->h'.get? b=some o)->tn i h'
 item:∀(X:Cx),X.prog=P->X.w=w->X.K=K->X.calm=true->∀(i:Nat) (pins:ZQ) (s:Shared) (σ:St) (H:Hp) (E:YJ),Inv X pins σ H s->(∀b∈fp,G9 X pins H b)->tn i s.heap->J.go i H ->
  wpAny (model P w) X.A (pyNext (.ref it)) (λr s1=>∃u,r=some u /\
   wpAny (model P w) X.A (letOwnedTupleGo tg (.ref it) u) (λ_ s2=>∃x H',Inv X pins σ H' s2/\RelV x u/\J.yld i H x H'/\tn (i+1) s2.heap/\∀b∈fp,H' b=none) E s1) E s
 done:∀(X:Cx),X.prog=P->X.w=w->X.K=K->X.calm=true->∀(i:Nat) (pins:ZQ) (s:Shared) (σ:St) (H:Hp) (E:YJ),Inv X pins σ H s->(∀b∈fp,G9 X pins H b)->tn i s.heap->J.stop i H ->
  wpAny (model P w) X.A (pyNext (.ref it)) (λr s1=>r=none/\Inv X pins σ H s1) E s
 self:∀(A:Around) (i:Nat) (s:Shared) (Q:YJ) (E:YJ),tn i s.heap->Q (.ref it) s->wpAny (model P w) A (pyIter (.ref it)) Q E s
abbrev TI:=St->Hp->([Ts,It])->Prop
def PIE (X:Cx) (pins:ZQ) (a:St) (tg:Expr) (R:[Ts,It]) (I:Value) (s2:Shared):Prop:=
 ∃(it:Addr) (fp:List Addr) (tn:Nat->Heap->Prop) (J:It) (H':Hp),I=.ref it/\[YR,a,H',s2]/\Turn X.prog X.w X.K tg J fp it tn/\tn 0 s2.heap/\(∀b∈fp,G9 X pins H' b)/\R J H'
def PI (X:Cx) (tg iter:Expr) (I:TI):Prop:=
 ∀ (pins:ZQ) (s:Shared) (a:St) (H:Hp) (R:[Ts,It]),([UE])->I a H R ->
  [yc,[Sy,iter],λv s1=>wpAny [Ty] X.A (pyIter v) (PIE X pins a tg R) X.xe s1]
def eM (O:s.heap.get? it=some o) (hc:o.cls=.type n) (hd:o.data=.fields vs) (hn:["enumerate","zip","dict_itemiterator","dict_reverseitemiterator","odict_iterator","itertools.zip_longest","itertools.pairwise"].contains n=false) (I:Q () s):wpAny M A (letOwnedTupleGo tg [ZE,it] u) Q E s:=by
  cases tg <;> first
    | (cases u <;> first
        |show qK4 I
        | (refine qA0 (wpAny_load O ?_)
           rw[hc,hd]
           change wpAny M A [YL,_=true,_,_] Q E s;rw[qA9 (by intro h;rw[hn,qP6]at h;cases h)];show qK4 I))
def Itl (K:Frag) (a:Addr):It:=
 ⟨λi H=>∃xs x,SqL K H a xs/\[ZI,xs,x],λi H x H'=>H'=H/\∀xs,SqL K H a xs->[ZI,xs,x],λi H=>∃xs,SqL K H a xs/\xs.length<=i⟩
def Itt (K:Frag) (a:Addr):It:=
 ⟨λi H=>∃xs x,SqT K H a xs/\[ZI,xs,x],λi H x H'=>H'=H/\∀xs,SqT K H a xs->[ZI,xs,x],λi H=>∃xs,SqT K H a xs/\xs.length<=i⟩
def Itr (lo:Int)(n:Nat):It:=⟨λi _=>i<n,λi H x H'=>H'=H/\x=.int (lo+i),λi _=>n<=i⟩
def uG {K}a it:Turn P w K tg (Itl K a) [it] it (λi h=>h.IsListIter it a i) where
 mem:=Xaf
 obj:=λi h st b O=>by
  have e:b=it:=by grind
  obtain ⟨o,e,c,d⟩:=st
  grind
 keep:=λi h h' st k=>st.at λo e=>k it Xaf o e
 item:=by
  intro X hP hw hK hc i pins s f H E I hf st hg;subst hP hw hK;obtain ⟨xs,x,T,hx⟩:=hg;obtain ⟨its,rv,p,hz⟩:=I.list T;obtain ⟨u,hu,ru⟩:=rv.get hx;obtain ⟨f0,f1,f2,f3,f4,f5⟩:=hf it Xaf;refine wpAny_pyNext_list_item st p.isList [SX,hu] λh' Uo sb=>?_;have I1:=I.turned (t':=s.toks) (λb o O e=>(sb.2 b O).trans e) f0 f1 f3 f4 f5;obtain ⟨o,e,c,d⟩:=id Uo;show ⟨u,rfl,eM e c d Xaa ⟨x,H,I1,ru,⟨rfl,λys hy=>[ZO,I.list_inj hy T,hx]⟩,Uo,λb O=>(hf b O).1⟩⟩
 done:=by
  intro X hP hw hK hc i pins s f H E I hf st hg;subst hP hw hK;obtain ⟨xs,T,hx⟩:=hg;obtain ⟨its,rv,p,hz⟩:=I.list T;obtain ⟨f0,f1,f2,f3,f4,f5⟩:=hf it Xaf;have hl:=rv.length;show wpAny_pyNext_list_end (I.ok.hd hc) st p.isList (by simp;omega) λh' eb=>⟨rfl,[Z0o,eb,O,f4]⟩
 self:=λ_ _ _ _ _ st h=>wpAny_pyIter_listiter st h
def rG {K}a it:Turn P w K tg (Itt K a) [it] it (λi h=>h.IsTupleIter it a i) where
 mem:=Xaf
 obj:=λi h st b O=>by
  have e:b=it:=by grind
  obtain ⟨o,e,c,d⟩:=st
  grind
 keep:=λi h h' st k=>st.at λo e=>k it Xaf o e
 item:=by
  intro X hP hw hK hc i pins s f H E I hf st hg;subst hP hw hK;obtain ⟨xs,x,T,hx⟩:=hg;obtain ⟨its,rv,p,hz⟩:=I.tuple T;obtain ⟨u,hu,ru⟩:=rv.get hx;obtain ⟨f0,f1,f2,f3,f4,f5⟩:=hf it Xaf;refine wpAny_pyNext_tuple_item st (p) [SX,hu] λh' Uo sb=>?_;have I1:=I.turned (t':=s.toks) (λb o O e=>(sb.2 b O).trans e) f0 f1 f3 f4 f5;obtain ⟨o,e,c,d⟩:=id Uo;show ⟨u,rfl,eM e c d Xaa ⟨x,H,I1,ru,⟨rfl,λys hy=>[ZO,I.tuple_inj hy T,hx]⟩,Uo,λb O=>(hf b O).1⟩⟩
 done:=by
  intro X hP hw hK hc i pins s f H E I hf st hg;subst hP hw hK;obtain ⟨xs,T,hx⟩:=hg;obtain ⟨its,rv,p,hz⟩:=I.tuple T;obtain ⟨f0,f1,f2,f3,f4,f5⟩:=hf it Xaf;have hl:=rv.length;show wpAny_pyNext_tuple_end (I.ok.hd hc) st (p) (by simp;omega) λh' eb=>⟨rfl,[Z0o,eb,O,f4]⟩
 self:=λ_ _ _ _ _ st h=>wpAny_pyIter_tupleiter st h
def rH {K}it lo n:Turn P w K tg (Itr lo n) [it] it (λi h=>IsRangeIter h it (lo+i*1) (n-i) 1) where
 mem:=Xaf
 obj:=λi h st b O=>by
  have e:b=it:=by simpa using O
  subst e;show ⟨_,st,λv z=>by
   have z':=z;cases z'⟩
 keep:=λi h h' st k=>k it Xaf _ st
 item:=by
  show 19;show 20;have W:=Walks.range (prog:=X.prog) (w:=X.w) (I.ok.hd hc) it lo 1 n;refine W.item i s _ _ hg st λv h' tk hv Uo kk=>?_;show 1 t hv;have I1:[YR,a,H,[SS,s,h',tk]]:=[Z0o,kk,[SX,O],T];refine [WH,rfl,eM (n := "range_iterator") Uo rfl rfl Xaa ⟨.int _,H,I1,⟨t,?_⟩,⟨rfl,rfl⟩,Uo,λb O=>(hf b O).1⟩];rw[Int.mul_one]
 done:=by
  intro X hP hw hK hc i pins s a H E I hf st hg;show 20;show wpAny_pyNext_range_end (I.ok.hd hc) st (by have:n<=i:=hg;omega) λh' eb=>⟨rfl,[Z0o,eb,O,T]⟩
 self:=λ_ _ _ _ _ st h=>wpAny_pyIter_rangeiter st h
def zu {a:St}{lo}(I:[UE]) (h1:-2^62<=lo) (h2:lo<2^62) (h3:-2^62<=hi) (h4:hi<2^62) (q:R (Itr lo (hi-lo).toNat) H):wpAny [Ty] X.A (pyIter (.ref s.heap.objs.size)) (PIE X pins a tg R) E [SS,s,s.heap.push [Z0A,"range",#[.int lo t,.int hi u,.int 1 v]],tk]:=by
 refine wpAny_pyIter_range (IsRange.new ..) (small_one h1 h2 h3 h4) ?_;have O:[YR,a,H,[SS,s,s.heap.push [Z0A,"range",#[.int lo t,.int hi u,.int 1 v]],tk]]:=I.kept λb o e=>qA2 _ e;refine ⟨_,_,_,_,H,rfl,
  O.kept λb o e=>qA2 _ e,rH _ lo _,?_,λb hb=>?_,q⟩
 .have e1:lo+((0:Nat))*1=lo:=Xaf;have T:(((hi-lo).toNat))-((0:Nat))=Builtin.Range.rangeSize lo hi 1:=by rw[rangeSize_one];split <;> omega
  rw[e1,T];show qB1 _ rfl
 .have e:b=(s.heap.push [Z0A,"range",#[.int lo t,.int hi u,.int 1 v]]).objs.size:=by simpa using hb
  subst e;show O.fpOk (qA6 _) (O.hok.fresh (qA6 _))
def CI (ta:TA):TI:=λa H R=>ta a H λvs H1=>∃j:Int,vs = [.int j] /\ -(2^62)<=j/\j<2^62/\R (Itr 0 j.toNat) H1
def vJ (hg:Gl X "range") (hm:X.mg "range" = none) (ha:PA X [a] ta) (hs:[XXa,[Tm,[a]] = [[SJ,a]]]):PI X tg [SY,[YD,"range",p],[a]] (CI ta):=by
 intro pins s b H R I h;refine Call_ (W2 I hg hm boot_range (qF2 (thn (ha pos pins s b H _ I h) λus s1 O=>?_) hs rfl));obtain ⟨vs,H1,I1,r1,T⟩:=O;obtain ⟨j,e,T,q2,q⟩:=T;subst e;cases r1 with
 | cons r rr=>
  cases rr;show 1 t r;show call_range_1 (zu I1 ZU ZU T q2 [SX,q])
def IA (wi:TI) (g:TG) (tb:TS):TS:=λD a H=>wi a H λJ H1=>∃W:Nat->Nat->St->Hp->Prop,(∃m,W 0 m a H1)/\∀i m a H,W i m a H ->
 (J.stop i H/\D.nx a H)\/(J.go i H/\∃N:St->Hp->Prop,(∀I H',N I H'->∃T,T<m/\W (i+1) T I H')/\∀x H',J.yld i H x H'->g x a H' λO H2=>tb { D with nx:=N,ct:=N,bk:=D.nx } O H2)
def bz (fp:List Addr)(h:Heap):List (Addr×Obj):=fp.filterMap λb=>(h.get? b).map λo=>(b,o)
def Y1 (I:b∈fp)(e:[TN,h.get?]):(b,o)∈bz fp h:=List.mem_filterMap.mpr ⟨b,I,by rw[e];rfl⟩
def vU (hp:p∈bz fp h):p.1∈fp/\h.get? p.1=some p.2:=by
 obtain ⟨b,I,e⟩:=List.mem_filterMap.mp hp;cases q:h.get? b <;> grind
def Inv.pinned {a:St}(I:[UE]) (hf:∀b∈fp,G9 X pins H b) (ho:∀b∈fp,∃o,[SR]/\∀v,o.data≠.cell v):Inv X (pins++bz fp s.heap) a H s:=
 I.pins_of λp hp=>(qE2.mp hp).elim (λz=>I.pin p (qE3 _ z)) λz=>by
  obtain ⟨O,e⟩:=vU z;obtain ⟨T,f1,f2,_⟩:=hf p.1 O
  grind
def Inv.unpinned {a:St}(I:Inv X (pins++pl) a H s):[UE]:=I.pins_of λp hp=>I.pin p (qE3 _ (List.mem_append_left _ hp))
def Kg (hp:PassesOwn [Ty] X.A X.env X.xe) (hc:X.calm=true) (hi:PI X tg iter wi) (hg:PG X tg g) (hb:PSs X body tb) (hs:[XXd,[Z0h]]):PS X (.For tg iter body [] pos) (IA wi g tb):=by
 intro pins s a H D I h;refine wpAny_For (thn [SI,hi,a] λv s1 h1=>thn h1 λVt s2 h2=>?_) hs;obtain ⟨it,fp,tn,J,H2,e,I2,T,st2,f2,W,⟨m0,w0⟩,turn⟩:=h2;subst e
 -- what stays true of the iterator's objects through the loop
 have Wf:∀{H':Hp},(∀b∈fp,_=none)->∀b∈fp,G9 X pins H' b:=λhn b hb=>⟨hn b hb,(f2 b hb).2⟩;refine codeAny_forLoop_any (λn s'=>∃i a3 H',[YR,a3,H',s']/\tn i s'.heap/\(∀b∈fp,H' b=none)/\W i n a3 H') ?_ m0 ⟨0,a,H2,I2,st2,λb hb=>(f2 b hb).1,w0⟩;rintro n s3 ⟨i,a4,H3,I3,XC,a7,w3⟩;rcases turn i n a4 H3 w3 with ⟨stop,qn⟩|⟨go,N,hN,step⟩
 .refine qM7 hp (thn (T.done X rfl rfl rfl hc i pins s3 a4 H3 X.xe I3 (Wf a7) XC stop) λr s4 ⟨hr,I4⟩=>?_);subst hr;show qM6 ⟨a4,H3,I4,qn⟩
 .refine qM7 hp (thn (T.item X rfl rfl rfl hc i pins s3 a4 H3 X.xe I3 (Wf a7) XC go) λr s4 ⟨u,hr,h4⟩=>?_);subst hr;refine qM7 hp (thn h4 λ_ s5 a5=>?_);obtain ⟨x,H5,I5,r5,y5,Wx,Ye⟩:=a5;have a8:=I5.pinned (Wf Ye) (T.obj _ _ Wx);refine qM7 hp (thn (hg _ s5 a4 H5 x u _ a8 r5 (step x H5 y5)) λ_ s6 a6=>?_);obtain ⟨a9,H6,I6,q6⟩:=a6;refine qM7 hp (thn (hb _ s6 a9 H6 _ I6 q6) λf s7 q7=>?_);have again:∀{O:St}{H7:Hp},Inv X (pins++bz fp s5.heap) O H7 s7->N O H7->∃m,m<n/\∃i a3 H',[YR,a3,H',s7]/\tn i s7.heap/\(∀b∈fp,H' b=none)/\W i m a3 H':=λ{O H7} I7 n7=>by
   obtain ⟨m',hm,w7⟩:=hN O H7 n7;refine ⟨m',hm,i+1,O,H7,I7.unpinned,T.keep _ _ _ Wx λb hb o e=>(I7.pin (b,o) (qE3 _ (qE3 _ (Y1 hb e)))).1,λb hb=>?_,w7⟩;obtain ⟨o,e,d⟩:=T.obj _ _ Wx b hb;show (I7.pin (b,o) (qE3 _ (qE3 _ (Y1 hb e)))).2.1
  cases f with
  |next=>obtain ⟨O,H7,I7,n7⟩:=q7;show again I7 n7
  |cont=>obtain ⟨O,H7,I7,n7⟩:=q7;show again I7 n7
  |brk=>obtain ⟨O,H7,I7,q7⟩:=q7;show ⟨O,H7,I7.unpinned,q7⟩
  |ret v=>obtain ⟨x7,O,H7,I7,r7,q7⟩:=q7;show ⟨x7,O,H7,I7.unpinned,r7,q7⟩
abbrev R2:=V->V->Hp->VK->Prop
def OpR (X:Cx) (f:Value->Value->Sem Value) (r:R2):Prop:=
 ∀ (pins:ZQ) (s:Shared) (a:St) (H:Hp) (x y:V) (v u:Value) (Q:VK),([UE])->RelV x v->RelV y u->r x y H Q ->
  [yc,f v u,EP X pins a Q]
def UnR (X:Cx) (f:Value->Sem Value) (r:V->Hp->VK->Prop):Prop:=
 ∀ (pins:ZQ) (s:Shared) (a:St) (H:Hp) (x:V) (v:Value) (Q:VK),([UE])->RelV x v->r x H Q ->
  [yc,f v,EP X pins a Q]
def C6 (X:Cx) (f:Value) (r:List V->Hp->VK->Prop):Prop:=
 ∀ (pins:ZQ) (s:Shared) (a:St) (H:Hp) (xs:List V) (us:ZW) (Q:VK),([UE])->Vals xs us->r xs H Q ->
  [yc,call f us,EP X pins a Q]
def tOp (r:R2)(ta tb:TE):TE:=λa H Q=>ta a H λx H1=>tb a H1 λy H2=>r x y H2 Q
def tUn (r:V->Hp->VK->Prop)(ta:TE):TE:=λa H Q=>ta a H λx H1=>r x H1 Q
def rI (C:Int->Int->Prop)(g:Int->Int->V):R2:=λx y H Q=>∃i j,x=.int i/\y=.int j/\C i j/\Q (g i j) H
def rI0 (g:Int->Int->V):R2:=λx y H Q=>∃i j,x=.int i/\y=.int j/\Q (g i j) H
def rU (g:Int->V):V->Hp->VK->Prop:=λx H Q=>∃i,x=.int i/\Q (g i) H
def BD (ha:PE X a ta) (hb:PE X b tb){c:St}{R:V->V->Hp->Prop}(I:[YR,c,H,s]) (h:ta c H λx H1=>tb c H1 λy H2=>R x y H2){f:Value->Value->Sem Value}(hf:∀v u s2 x y H2,[YR,c,H2,s2]->RelV x v->RelV y u->R x y H2->wpAny [Ty] X.A (f v u) Q X.xe s2):
  [yc,[Sy,a],λv a4=>wpAny [Ty] X.A [Sy,b] (λu T=>wpAny [Ty] X.A (f v u) Q X.xe T) X.xe a4]:=by
 refine thn [SI,ha,c] λv s1 O=>?_;obtain ⟨x,H1,I1,r1,q1⟩:=O;refine thn (hb pins s1 c H1 _ I1 q1) λu s2 a3=>?_;obtain ⟨y,H2,I2,r2,q2⟩:=a3;show hf v u s2 x y H2 I2 r1 r2 q2
def Qq (ho:OpR X (binaryOp op) r) (ha:PE X a ta) (O:PE X b tb):PE X (.BinOp a op b pos) (tOp r ta tb):=by
 show 7 c;show wpAny_BinOp (BD ha O I h λv u s2 x y H2 I2 T ry q=>ho pins s2 c H2 x y v u Q I2 T ry q)
def Qp (ho:UnR X (unaryOp op) r) (ha:PE X a ta):PE X (.UnaryOp op a pos) (tUn r ta):=by
 show 7 b;show UnaryOp_ (thn [SI,ha,b] λv s1 O=>by obtain ⟨x,H1,I1,r1,T⟩:=O;show ho pins s1 b H1 x v Q I1 r1 T)
def opI {g:Int->Int->Int}(rule:∀ i j t u s (Q:YJ) (E:YJ),C i j->Q (.int (g i j) s.toks) { s with toks:=s.toks+1 }->wpAny [Ty] X.A (f (.int i t) (.int j u)) Q E s):
  OpR X f (rI C λi j=>.int (g i j)):=by
 intro pins s a H x y v u Q I O T h;obtain ⟨i,j,rfl,rfl,hc,q⟩:=h;show 1 t O;show 1 t' T;show rule i j t t' s _ _ hc ⟨.int _,H,I.tok _,[Tq],q⟩
def Kw {g:Int->Int->Int}(rule:∀ i j t u s (Q:YJ) (E:YJ),Q (.int (g i j) s.toks) { s with toks:=s.toks+1 }->wpAny [Ty] X.A (f (.int i t) (.int j u)) Q E s):
  OpR X f (rI0 λi j=>.int (g i j)):=by
 intro pins s a H x y v u Q I O T h;obtain ⟨i,j,rfl,rfl,q⟩:=h;show 1 t O;show 1 t' T;show rule i j t t' s _ _ ⟨.int _,H,I.tok _,[Tq],q⟩
def zW {g:Int->Int->Bool}(rule:∀ i j t u s (Q:YJ) (E:YJ),Q (.bool (g i j)) s->wpAny [Ty] X.A (f (.int i t) (.int j u)) Q E s):
  OpR X f (rI0 λi j=>.bl (g i j)):=by
 intro pins s a H x y v u Q I O T h;obtain ⟨i,j,rfl,rfl,q⟩:=h;show 1 t O;show 1 t' T;show rule i j t t' s _ _ ⟨.bl _,H,I,rfl,q⟩
def D7 (i j:Int):Prop:=0<j/\j<1073741824
def fZ (i j:Int):Prop:=0<=j/\j<=1000000/\i.natAbs<2^64
def CMul (i j:Int):Prop:=(-(2^64)<i/\i<2^64)\/(-(2^64)<j/\j<2^64)
def CMul.ok (h:CMul i j):IntMulOk i j:=by
 rcases h with ⟨h1,h2⟩|⟨h1,h2⟩
 .show .of_left (intBits_le_64 h1 h2)
 .show .of_right (intBits_le_64 h1 h2)
def z9:OpR X (binaryOp .Add) (rI0 λi j=>.int (i+j)):=Kw λ_ _ _ _ _ _ _ q=>add_int q
def vQ:OpR X (binaryOp .Sub) (rI0 λi j=>.int (i-j)):=Kw λ_ _ _ _ _ _ _ q=>sub_int q
def x8:OpR X (binaryOp .FloorDiv) (rI D7 λi j=>.int (i/j)):=opI λi j _ _ _ _ _ hc q=>by
 have O:=hc.1;have I:=hc.2;show floordiv_int ZU ([ZO,Int.fdiv_eq_ediv_of_nonneg i ZU,q]) (.inl (PyProof.noPylong_small ZU))
def l9:OpR X (binaryOp .Mod) (rI (λ_ j=>0<j) λi j=>.int (i%j)):=opI λi j _ _ _ _ _ hc q=>by
 show mod_int' ZU ([ZO,Int.fmod_eq_emod_of_nonneg i ZU,q])
def mX:OpR X (binaryOp .Pow) (rI fZ λi j=>.int (i^j.toNat)):=opI λ_ _ _ _ _ _ _ hc q=>pow_int_small hc.1 hc.2.1 hc.2.2 q
def unI {g:Int->Int}(rule:∀ i t s (Q:YJ) (E:YJ),Q (.int (g i) s.toks) { s with toks:=s.toks+1 }->wpAny [Ty] X.A (f (.int i t)) Q E s):
  UnR X f (rU λi=>.int (g i)):=by
 intro pins s a H x v Q I O h;obtain ⟨i,rfl,q⟩:=h;show 1 t O;show rule i t s _ _ ⟨.int _,H,I.tok _,[Tq],q⟩
def lL:UnR X (unaryOp .USub) (rU λi=>.int (-i)):=unI λ_ _ _ _ _ q=>neg_int q
noncomputable def lZ:V->V->Bool
 | .non,.non=>true | .non,.int _=>true | .int _,.non=>true | .non,.bl _=>true | .bl _,.non=>true | .non,.str _=>true | .str _,.non=>true
 | .int _,.int _=>true | .bl _,.bl _=>true | .str _,.str _=>true | .byt _,.byt _=>true
 | .int _,.str _=>true | .str _,.int _=>true | .bl _,.str _=>true | .str _,.bl _=>true
 |_,_=>false
def rEq:R2:=λx y H Q=>lZ x y=true/\Q (.bl (decide (x=y))) H
def rNe:R2:=λx y H Q=>lZ x y=true/\Q (.bl (! [ZL,x=y])) H
def qQ:[ZL,V.int i=V.int j]=(i == j):=by
 rw[qI1];simp
def xt:[ZL,V.bl i=V.bl j]=(i == j):=by
 rw[qI1];simp
def qP:[ZL,V.str i=V.str j]=(i == j):=by
 rw[qI1];simp
def qR:[ZL,V.byt i=V.byt j]=(i.toList == j.toList):=by
 rw[qI1];cases i;cases j;simp
def m8 {a:St}(I:[UE]) (q:Q (.bl k) H) (e:k=k'):EP X pins a Q (.bool k') s:=by
 subst e;show ⟨.bl k,H,I,rfl,q⟩
def o6:[tr,.Eq,rEq]:=by
 intro pins s a H x y v u Q I T O h;obtain ⟨hs,q⟩:=h;cases x with
 | non=>
  cases T;cases y with
  |non=>cases O;show PySem.EqNone.eq_none_none (m8 I q Xaf)
  |bl j=>cases O;show PySem.EqNone.eq_none_bool (m8 I q Xaf)
  |int j=>show 1 t' O;show PySem.EqNone.eq_none_int (m8 I q Xaf)
  |str j=>show 1 t' O;show PySem.EqNone.eq_none_str (m8 I q Xaf)
  |_=>show 15
 | bl i=>
  cases T;cases y with
  |non=>cases O;show PySem.EqNone.eq_bool_none (m8 I q Xaf)
  |bl j=>cases O;show eq_bool (m8 I q xt)
  |str j=>show 1 t' O;show PySem.EqMixed.eq_bool_str (m8 I q Xaf)
  |_=>show 15
 | int i=>
  show 1 t T;cases y with
  |non=>cases O;show PySem.EqNone.eq_int_none (m8 I q Xaf)
  |int j=>show 1 t' O;show eq_int (m8 I q qQ)
  |str j=>show 1 t' O;show PySem.EqMixed.eq_int_str (m8 I q Xaf)
  |_=>show 15
 | str i=>
  show 1 t T;cases y with
  |non=>cases O;show PySem.EqNone.eq_str_none (m8 I q Xaf)
  |bl j=>cases O;show PySem.EqMixed.eq_str_bool (m8 I q Xaf)
  |int j=>show 1 t' O;show PySem.EqMixed.eq_str_int (m8 I q Xaf)
  |str j=>show 1 t' O;show eq_str (m8 I q qP)
  |_=>show 15
 | byt i=>
  show 1 t T;cases y with
  |byt j=>show 1 t' O;show PySem.W.eq_bytes (m8 I q qR)
  |_=>show 15
 |_=>cases y <;> show absurd [SF,false=true,hs] qC1
def Cp:[tr,.NotEq,rNe]:=by
 intro pins s a H x y v u Q I T O h;obtain ⟨hs,q⟩:=h;cases x with
 | non=>
  cases T;cases y with
  |non=>cases O;show PySem.EqNone.ne_none_none (m8 I q Xaf)
  |bl j=>cases O;show PySem.EqNone.ne_none_bool (m8 I q Xaf)
  |int j=>show 1 t' O;show PySem.EqNone.ne_none_int (m8 I q Xaf)
  |str j=>show 1 t' O;show PySem.EqNone.ne_none_str (m8 I q Xaf)
  |_=>show 15
 | bl i=>
  cases T;cases y with
  |non=>cases O;show PySem.EqNone.ne_bool_none (m8 I q Xaf)
  |bl j=>cases O;show ne_bool (m8 I q (congrArg not xt))
  |str j=>show 1 t' O;show PySem.EqMixed.ne_bool_str (m8 I q Xaf)
  |_=>show 15
 | int i=>
  show 1 t T;cases y with
  |non=>cases O;show PySem.EqNone.ne_int_none (m8 I q Xaf)
  |int j=>show 1 t' O;show ne_int (m8 I q (congrArg not qQ))
  |str j=>show 1 t' O;show PySem.EqMixed.ne_int_str (m8 I q Xaf)
  |_=>show 15
 | str i=>
  show 1 t T;cases y with
  |non=>cases O;show PySem.EqNone.ne_str_none (m8 I q Xaf)
  |bl j=>cases O;show PySem.EqMixed.ne_str_bool (m8 I q Xaf)
  |int j=>show 1 t' O;show PySem.EqMixed.ne_str_int (m8 I q Xaf)
  |str j=>show 1 t' O;show ne_str (m8 I q (congrArg not qP))
  |_=>show 15
 | byt i=>
  show 1 t T;cases y with
  |byt j=>show 1 t' O;show PySem.W.ne_bytes (m8 I q (congrArg not qR))
  |_=>show 15
 |_=>cases y <;> show absurd [SF,false=true,hs] qC1
def kZ:[tr,.Lt,rI0 λi j=>.bl (decide (i<j))]:=zW λ_ _ _ _ _ _ _ q=>lt_int q
def cf:[tr,.LtE,rI0 λi j=>.bl (decide (i<=j))]:=zW λ_ _ _ _ _ _ _ q=>le_int q
def V2:[tr,.Gt,rI0 λi j=>.bl (decide (j<i))]:=zW λ_ _ _ _ _ _ _ q=>gt_int q
def vS:[tr,.In,λx y H Q=>∃i j,x=.str i/\y=.str j/\Q (.bl (!(Builtin.Str.occurrences j i 0 j.length 1).isEmpty)) H]:=by
 intro pins s a H x y v u Q I O T h;obtain ⟨i,j,rfl,rfl,q⟩:=h;show 1 t O;show 1 t' T;show in_str (m8 I q rfl)
def di:[tr,.Is,λx y H Q=>y=.non/\Q (.bl (decide (x=.non))) H]:=by
 intro pins s a H x y v u Q I T O h;obtain ⟨rfl,q⟩:=h;cases O;refine is_none_gen (m8 I q ?_);cases x <;> first
  | (rfl)
  | (show 1 t T;rfl)
def eh:[tr,.IsNot,λx y H Q=>y=.non/\Q (.bl (! [ZL,x=.non])) H]:=by
 intro pins s a H x y v u Q I T O h;obtain ⟨rfl,q⟩:=h;cases O;refine isnot_none_gen (m8 I q ?_);cases x <;> first
  | (rfl)
  | (show 1 t T;rfl)
def c9 b (h:op≠.In:=by decide) (T:op≠.NotIn:=by decide):behindInMarks op b=false:=by
 have O:(op == CmpOp.In)=false:=ZU;have I:(op == CmpOp.NotIn)=false:=ZU;cases b <;> simp [behindInMarks,O,I]
def qq (ho:[tr,op,r]) (ha:PE X a ta) (O:PE X b tb) (hm:behindInMarks op b=false):PE X (.Compare a [op] [b] pos) (tOp r ta tb):=by
 show 7 c;show wpAny_Compare1 (BD ha O I h λv u s2 x y H2 I2 T ry q=>ho pins s2 c H2 x y v u Q I2 T ry q) hm
def kN (t:TE):TT:=λa H Q=>t a H λx H'=>∃k,x=.bl k/\Q k H'
def iY (O:[tr,op,r]) (ha:PE X a ta) (T:PE X b tb) (hm:behindInMarks op b=false):PT X (.Compare a [op] [b] pos) (kN (tOp r ta tb)):=by
 show 7 d;refine wpAny_isTrue_Compare1 (thn [SI,ha,d] λv s1 ⟨x,H1,I1,r1,q1⟩=>thn (T pins s1 d H1 _ I1 q1) λu s2 ⟨y,H2,I2,r2,q2⟩=>
  thn (O pins s2 d H2 x y v u _ I2 r1 r2 q2) λc s3 ⟨z,H3,I3,r3,k,e,q3⟩=>?_) hm
 subst e;cases r3;show qL3 ⟨H3,I3,q3⟩
def uK (r r':R2) (ta tb T:TE):TE:=λa H Q=>ta a H λx H1=>tb a H1 λy H2=>r x y H2 λz I=>∃k,z=.bl k /\
 [YL,k=true,T a I λw' O=>r' y w' O Q,Q (.bl false) I]
def zU (ho:[tr,op,r]) (T:[tr,US,r']) (ha:PE X a ta) (hb:PE X b tb) (hc:PE X c tc) (hm:[XXg,lastMarks [op,US] [b,c]=false]):PE X (.Compare a [op,US] [b,c] pos) (uK r r' ta tb tc):=by
 show 7 f;refine Compare_chain (thn [SI,ha,f] λv s1 ⟨x,H1,I1,r1,q1⟩=>chain_link (thn (hb pins s1 f H1 _ I1 q1) λu s2 ⟨y,H2,I2,r2,q2⟩=>
  thn (ho pins s2 f H2 x y v u _ I2 r1 r2 q2) λd s3 ⟨z,H3,I3,r3,k,e,q3⟩=>?_)) hm
 subst e;cases r3;refine qL3 ?_;cases k with
 |false=>show ite_ff ⟨.bl false,H3,I3,rfl,q3⟩
 |true=>show ite_tt (chain_last (thn (hc pins s3 f H3 _ I3 q3) λw' s4 O=>by obtain ⟨z',H4,I4,r4,q4⟩:=O;show T pins s4 f H4 y z' u w' Q I4 r2 r4 q4))
def zK (ho:[tr,op,r]) (T:[tr,US,r']) (ha:PE X a ta) (hb:PE X b tb) (hc:PE X c tc) (hm:[XXg,lastMarks [op,US] [b,c]=false]):PT X (.Compare a [op,US] [b,c] pos) (kN (uK r r' ta tb tc)):=by
 show 7 f;refine isTrue_chain (thn [SI,ha,f] λv s1 ⟨x,H1,I1,r1,q1⟩=>test_link (thn (hb pins s1 f H1 _ I1 q1) λu s2 ⟨y,H2,I2,r2,q2⟩=>
  thn (ho pins s2 f H2 x y v u _ I2 r1 r2 q2) λd s3 ⟨z,H3,I3,r3,k,e,q3⟩=>?_)) hm
 subst e;cases r3;refine qL3 ?_;cases k with
 | false=>
  obtain ⟨k',e',q'⟩:=q3;cases e';show ite_ff ⟨H3,I3,q'⟩
 | true=>
  refine ite_tt (test_last (thn (hc pins s3 f H3 _ I3 q3) λw' s4 ⟨z',H4,I4,r4,q4⟩=>thn (T pins s4 f H4 y z' u w' _ I4 r2 r4 q4) λd' s5 O=>?_));obtain ⟨z2,H5,I5,r5,k2,e2,q5⟩:=O;subst e2;cases r5;show qL3 ⟨H5,I5,q5⟩
def bF:sizeLine<2^63:=ZU
def i3:OpR X (binaryOp .Add) (λx y H Q=>∃i j,x=.str i/\y=.str j/\i.length+j.length<=sizeLine/\Q (.str (i++j)) H):=by
 intro pins s a H x y v u Q I O T h;obtain ⟨i,j,rfl,rfl,hz,q⟩:=h;show 1 t O;show 1 t' T;show add_str (λt' tk=>⟨.str _,H,I.tok _,[Tq],q⟩) hz
def vals1 (r:Vals [x] us):∃u,us = [u]/\RelV x u:=by
 cases r with
 |cons O I=>cases I;show [WH,rfl,O]
def vals2 (r:Vals [x,y] us):∃u I,us = [u,I]/\RelV x u/\RelV y I:=by
 cases r with
 | cons r1 T=>
  cases T with
  |cons O r4=>cases r4;show ⟨_,_,rfl,r1,O⟩
def xE (hc:X.calm=true):C6 X (.builtin "min") (λxs H Q=>∃i j,xs = [.int i,.int j]/\Q (.int [YL,j<i,j,i]) H):=by
 intro pins s a H xs us Q I r h;obtain ⟨i,j,rfl,q⟩:=h;obtain ⟨u,T,rfl,⟨t,rfl⟩,⟨t',rfl⟩⟩:=vals2 r;refine min_two_ints (I.ok.hd hc) λh' tk k=>⟨_,H,I.kept k,?_,q⟩;by_cases O:j<i
 .rw[qA3 O,qA3 O];show [Tq]
 .rw[qA9 O,qA9 O];show [Tq]
def xH:C6 X (.type "int") (λxs H Q=>(∃i,xs = [.int i]/\Q (.int i) H)\/∃k,xs = [.bl k]/\Q (.int [YL,k,1,0]) H):=by
 intro pins s a H xs us Q I r h;rcases h with ⟨i,rfl,q⟩|⟨k,rfl,q⟩
 .obtain ⟨u,rfl,t,rfl⟩:=vals1 r;show call_int_int ⟨.int i,H,I,[Tq],q⟩
 .obtain ⟨u,rfl,O⟩:=vals1 r;cases O;show call_int_bool ⟨.int _,H,I.tok _,[Tq],q⟩
def E9:C6 X (.type "str") (λxs H Q=>∃i,xs = [.int i]/\i.natAbs.log2<1920/\Q (.str (toString i)) H):=by
 intro pins s a H xs us Q I r h;obtain ⟨i,rfl,hz,q⟩:=h;obtain ⟨u,rfl,t,rfl⟩:=vals1 r;show PySem.P.str_of_int hz ⟨.str _,H,I.tok _,[Tq],q⟩
structure ObjM (h:Heap) (x dx C:Addr) (mA:ZZ):Prop where
 obj:h.get? x=some (PySem.W.instObj C dx)
 ns:h.Ns1 dx mA
 ne:dx≠x
def wv {h:Heap}(n:h.Ns1 dx mA):∃od,h.get? dx=some od/\∀name,PySem.W.lookIn name od=some (mA name):=by
 obtain ⟨o,es,ep,T,hd,hk,_,hm⟩:=n;refine ⟨o,T,λname=>?_⟩;have e:=hm name;unfold nsFind findBy at e;rw[<- Array.find?_toList]at e;unfold PySem.W.lookIn;rw[hd];dsimp
 split
 .grind
 .rename_i q
  have a:es.toList.any (·.refKey)=false:=by
   rw[List.any_eq_false];intro y O;obtain ⟨z,t,I⟩:=hk y (Array.mem_toList_iff.mp O);simp [DictEntry.refKey,I]
  grind
def ObjM.look (I:ObjM h x dx C mA):∃od,PySem.W.InstAt h x (PySem.W.instObj C dx) C [ZT,od]/\∀name,PySem.W.lookIn name od=some (mA name):=
 let ⟨od,ho,hl⟩:=wv I.ns
 ⟨od,⟨I.obj,rfl,rfl,ho⟩,hl⟩
def get_map {K}(X:K.In s.heap) (I:ObjM s.heap x dx C mA) (hg:PySem.W.plainGet K C name=true) (hh:PySem.W.hasDictIn K C=true) (ha:PySem.W.findIn K [ZE,C] name=some none) (T:mA name=some v) (O:PySem.W.handedIn v=true) (h:Q v { s with toks:=s.toks+1 }):
  [ST,getAttr [ZE,x] name expr]:=by
 obtain ⟨od,J,hl⟩:=I.look;show PySem.W.get_value X J (qO9 hg).1 (PySem.W.findObj_own hh ha rfl (by rw[hl,T])) O h
def AO {K}(X:K.In s.heap) (I:ObjM s.heap x dx C mA) (hg:PySem.W.plainGet K C name=true) (hf:PySem.W.findIn K [ZE,C] name=some [Wb,f]) (T:PySem.W.isFn K [ZE,f]=true) (O:mA name=none) (h:Q (.ref f,[.ref x]) s):
  [ST,getMethod [ZE,x] name pl]:=by
 obtain ⟨od,J,hl⟩:=I.look;show PySem.W.method_fn X J (qO9 hg).1 (qO9 hg).2 hf (qR1.mp T) (by change (PySem.W.lookIn name od).map _=_;rw[hl,O];rfl) h
def DL {K}(X:K.In s.heap) (I:ObjM s.heap x dx C mA) (hs:PySem.W.findIn K [ZE,C] "__setattr__" = some [ck,"object.__setattr__"]) (hp:PySem.W.plainOver K C=true) (ht:PySem.W.takerIn K C name=some none) (hh:PySem.W.hasDictIn K C=true) (hw:PySem.Within mA ns) (Vk:[Te,ns.length]) (h:∀h',ObjM h' x dx C (λy=>if y=name then some v else mA y)->Heap.SameBut dx s.heap h'->Q () [SS,s,h',s.toks+2]):
  [ST,setAttr [ZE,x] name v]:=by
 obtain ⟨od,J,hl⟩:=I.look;refine PySem.W.set_plain X J hs (PySem.W.osa_open (r:=none) X J hp ht λb=>?_);obtain ⟨cd,hc,XX⟩:=PySem.W.any_some hh;have hx:=I.obj;refine qA0 (qK4 (qA0 (qA0 (qM1 hx (qA0 (PySem.W.Looks.here (qP0 X hc) ?_))))));rw[XX];refine qK4 (qA0 (qK4 (qA0 ?_)));refine wpAny_nsSet1 I.ns λh' VU UC=>?_;obtain ⟨oD,a4,a5,O,T,a3⟩:=VU.count (PySem.Within.cons name v hw);refine qA0 (wpAny_lookBehind O (by rw[T];show pastItsLine_dict (qC8 a3 (by rw[qC2];omega))) ?_);show qK4 (h _ ⟨(UC.2 _ (Ne.symm I.ne)).trans I.obj,VU,I.ne⟩ UC)
def As {K}(X:K.In s.heap) (hm:PySem.W.makesIn K C=true) (hi:PySem.W.findIn K [ZE,C] "__init__" = some [Wb,f]) (hf:PySem.W.typeIn K [ZE,f]=some (.type "function")) (h:codeAny (model prog w) (A.under (.builtin "type.__call__" ⟨.ref C::vs,kw⟩)) (.call [ZE,f] ⟨.ref (s.heap.objs.size+1)::vs,kw⟩) (PySem.W.InitBack [Z0F] R)
   [To,s,(s.heap.push PySem.W.emptyDict).push (PySem.W.instObj C s.heap.objs.size)]):
  codeAny (model prog w) A (.call [ZE,C] ⟨vs,kw⟩) R s:=by
 show PySem.W.make_core (PySem.W.makes_of X hm) (qH2 X hi) (λself=>PySem.W.bind_fn X self hf) [Ws] h
def Q0 (f:Str) (v:V):List (Str×V)->List (Str×V)
 | []=>[(f,v)]
 | (g,x)::r=>if g=f then (g,v)::r else (g,x)::Q0 f v r
def eU f g v:∀fs,(Q0 f v fs).lookup g=if g=f then some v else fs.lookup g
 | []=>by
  change List.lookup g [_]=_
  grind
 | (k,x)::r=>by
  have I:=eU f g v r;rw[show Q0 f v _=if k=f then _::r else _::_ from rfl]
  grind
def dy f v:∀fs:List (Str×V),f∈(Q0 f v fs).map (·.1)/\∀g,g∈fs.map (·.1)->g∈(Q0 f v fs).map (·.1)
 | []=>⟨by simp [Q0],λg h=>by simp at h⟩
 | _::r=>by
  obtain ⟨I,O⟩:=dy f v r
  grind[Q0]
def eW f v:∀fs,[ZM,Q0 f v fs]<=fs.length+1
 | []=>by simp [Q0]
 | _::r=>by
  have I:=eW f v r
  grind[Q0]
def RelO.some_of (r:RelO (some v) o):∃u,o=some u/\RelV v u:=by
 cases o with
 |none=>show (r).elim
 |some u=>show ⟨u,rfl,r⟩
def RelO.none_of (r:RelO none o):o=none:=by
 cases o with
 |none=>rfl
 |some u=>show (r).elim
def wQ (r:RelV v u):PySem.W.handedIn u=true:=by
 cases v with
 |non=>cases show u=Value.none from r;rfl
 |bl b=>cases show u=_ from r;rfl
 |int i=>obtain ⟨t,e⟩:=(r);cases e;rfl
 |str x=>obtain ⟨t,e⟩:=(r);cases e;rfl
 |byt b=>obtain ⟨t,e⟩:=(r);cases e;rfl
 |flt b=>obtain ⟨t,e⟩:=(r);cases e;rfl
 |ref a=>cases show u=_ from r;rfl
 |ty n=>cases show u=_ from r;rfl
def eF (hok:HOk P w H h) (e:H a=some (.ins C dx fs)):∃mA,ObjM h a dx C mA/\(∀f,RelO (fs.lookup f) (mA f))/\PySem.Within mA (fs.map (·.1))/\fs.length<=1000/\H dx=some (.own a):=by
 obtain ⟨d,z,ne,ob,mA,n,r,q⟩:=(hok a _ e);show ⟨mA,⟨ob,n,ne⟩,r,q,z,d⟩
structure Cls (K:Frag) (C:Addr):Prop where
 pg:PySem.W.plainGet K C Str.empty=true
 hd:PySem.W.hasDictIn K C=true
 po:PySem.W.plainOver K C=true
 sa:PySem.W.findIn K (.ref C) "__setattr__" = some (some (.builtin "object.__setattr__"))
def Cls.get {K}(c:Cls K C)f:PySem.W.plainGet K C f=true:=c.pg
def NoAttr (K:Frag)(C:Addr)(f:Str):Prop:=PySem.W.findIn K [ZE,C] f=some none
def NoAttr.taker {K}(n:NoAttr K C f):PySem.W.takerIn K C f=some none:=by
 unfold PySem.W.takerIn;rw[n];rfl
structure bq (K:Frag) (C:Addr) (m:Str) (f:Addr):Prop where
 at_:PySem.W.findIn K (.ref C) m=some (some (.ref f))
 fn:PySem.W.isFn K (.ref f)=true
 kp:PySem.W.keepIn K (.ref f)=true
def tq {d:St}(I:[YR,d,H,s]) (e:H a=some (.ins C dx fs)) (c:Cls X.K C) (n:NoAttr X.K C f) (l:fs.lookup f=some v) (h:∀u s',[YR,d,H,s']->RelV v u->Q u s'):wpAny [Ty] A (getAttr [ZE,a] f b) Q E s:=by
 obtain ⟨mA,O,r,_,_,_⟩:=eF I.hok e;obtain ⟨u,hu,T⟩:=RelO.some_of (o:=_) (by rw[<- l];show r f);show get_map I.kIn O (c.get f) c.hd n hu (wQ T) (h u _ (I.tok _) T)
def ig {b:St}(I:[YR,b,H,s]) (e:H a=some (.ins C dx fs)) (c:Cls X.K C) (k:bq X.K C m g) (l:fs.lookup m=none) (h:Q (.ref g,[.ref a]) s):wpAny [Ty] A (getMethod [ZE,a] m pl) Q E s:=by
 obtain ⟨mA,O,r,_,_,_⟩:=eF I.hok e;have hn:=RelO.none_of (by rw[<- l];show r m);show AO I.kIn O (c.get m) k.at_ k.fn hn h
def rR {d:St}(I:[YR,d,H,s]) (e:H a=some (.ins C dx fs)) (c:Cls X.K C) (n:NoAttr X.K C f) (hl:fs.length<1000) (ry:RelV y u) (h:∀s',[YR,d,upd H a (.ins C dx (Q0 f y fs)),s']->Q () s'):wpAny [Ty] A (setAttr [ZE,a] f u) Q E s:=by
 obtain ⟨mA,O,r,wi,_,ho⟩:=eF I.hok e;have hz:[Te,[ZM,(fs.map (·.1))]]:=by rw[qA1,sizeLine_eq];omega
 refine DL I.kIn O c.sa c.po n.taker c.hd wi hz λh' T sb=>h _ ?_;have hd:∃o,_=_:=let ⟨o,_,_,e',_⟩:=T.ns;⟨o,e'⟩;refine I.write (e:=dx) ([ZO,e,True.intro]) (.inr ho) (λb q hb z=>(sb.2 b hb).trans z) hd ?_;refine ⟨[ZO,c0 O.ne,ho],?_,O.ne,T.obj,_,T.ns,λg=>?_,λg hg=>?_⟩
 .have:=eW f y fs;omega
 .rw [eU]
  by_cases q:g=f
  .rw[qA3 q,qA3 q];show ry
  .rw[qA9 q,qA9 q];show r g
 .by_cases q:g=f
  .rw[q];show (dy f y fs).1
  .refine (dy f y fs).2 g (wi g λz=>hg ?_)
   change [YL,g=f,_,_]=none;rw[qA9 q];show z
def Inv.made {a:St}(I:[UE]):Inv X pins a (upd (upd H s.heap.objs.size (.own [Z0F])) [Z0F] (.ins C s.heap.objs.size []))
  [To,s,(s.heap.push PySem.W.emptyDict).push (PySem.W.instObj C s.heap.objs.size)]:=by
 have O:_=some PySem.W.emptyDict:=qB1 s.heap rfl;have e2:((s.heap.push PySem.W.emptyDict).push (PySem.W.instObj C s.heap.objs.size)).get? [Z0F]=some (PySem.W.instObj C s.heap.objs.size):=by
  have:=qB1 (s.heap.push PySem.W.emptyDict) (o:=PySem.W.instObj C s.heap.objs.size) rfl
  simp_all
 have T:(s.heap.push _).Ns _ _:=⟨PySem.W.emptyDict,#[],_,O,rfl,(λe he=>absurd he Xaf),λ_=>rfl⟩;have I1:=I.laid (o:=.own (s.heap.objs.size+1)) (t':=s.toks) (λb u q=>qA2 _ q) (qA6 _) ⟨_,O⟩;refine I1.laid (o:=_) (λb u q=>qA2 _ q) (qR4 (qI8 ..)) ?_;have ne:s.heap.objs.size≠s.heap.objs.size+1:=qD5 (Nat.lt_succ_self _);refine ⟨by rw[c0 ne,d5],qE1 _,ne,e2,_,(Heap.Ns1.of_empty T).at λo q=>qA2 _ q,λ_=>True.intro,λy hy=>absurd rfl hy⟩
def rg (O:attributeBase e f env (eval e env)=eval e env) (h:wpAny (model prog w) A (eval e env) (λo I=>wpAny (model prog w) A (getAttr o f true) Q E I) E s):[ST,eval (.Attribute e f pos) env]:=
 Attribute_any_ h (by rw[arm_eval_Attribute,O])
def IB (K:Frag)(ta:TE)(f:Str):TE:=λb H Q=>ta b H λx H1=>∃a C dx fs v,x=.ref a/\H1 a=some (.ins C dx fs)/\Cls K C/\NoAttr K C f/\fs.lookup f=some v/\Q v H1
def fw (K:Frag) (ta I:TE) (f:Str):TS:=λD b H=>I b H λy H1=>ta b H1 λx H2=>∃a C dx fs,x=.ref a/\H2 a=some (.ins C dx fs)/\Cls K C/\NoAttr K C f/\fs.length<1000 /\
 D.nx b (upd H2 a (.ins C dx (Q0 f y fs)))
def Kt (he:PE X e ta) (T:attributeBase e f X.env [Sy,e]=eval e X.env):PE X (.Attribute e f pos) (IB X.K ta f):=by
 show 7 b;refine rg T (thn [SI,he,b] λu s1 O=>?_);obtain ⟨x,H1,I1,rx,a,C,dx,fs,v,ex,ea,c,n,l,q⟩:=O;subst ex;obtain rfl:=rx;show tq I1 ea c n l λu' s2 I2 ru=>⟨v,H1,I2,ru,q⟩
def bx (ha:PE X o ta) (hv:PE X value tv) (hs:[Z0N,value,.Attribute o f pos']=pure false):PS X (.Assign [.Attribute o f pos'] value pos) (fw X.K ta tv f):=by
 intro pins s b H D I h;refine qO2 (thn [SI,hv,b] λu s1 ⟨y,H1,I1,ry,q⟩=>thn (ha pins s1 b H1 _ I1 q) λov s2 O=>?_) hs;obtain ⟨x,H2,I2,T,a,C,dx,fs,ex,ea,c,n,l,q2⟩:=O;subst ex;obtain rfl:=T;show rR I2 ea c n l ry λs3 I3=>⟨b,_,I3,q2⟩
section
variable {X:Cx}{pins:ZQ}{σ:St}{H:Hp}{s:Shared}{A:Around}{E:YJ}{Q:YJ}{c:Value}{b:Bool}
inductive U7 (K:Frag) (H:Hp):V->Value->Prop where
 |non:U7 K H .non (.type "NoneType")
 |bl (x:Bool):U7 K H (.bl x) (.type "bool")
 |int (i:Int):U7 K H (.int i) (.type "int")
 |str (x:Str):U7 K H (.str x) (.type "str")
 |flt (x:UInt64):U7 K H (.flt x) (.type "float")
 |lst {a:Addr}{xs:List V}(e:H a=some (.lst xs)):U7 K H (.ref a) (.type "list")
 |frz {a:Addr}{o:Obj}{xs:List V}(e:H a=some (.frz o (.lst xs))):U7 K H (.ref a) (.type "list")
 |tup {a:Addr}{xs:List V}(e:H a=some (.tup xs)):U7 K H (.ref a) (.type "tuple")
 |dK {a:Addr}{kvs:List (Key×V)}(e:H a=some (.dK kvs)):U7 K H (.ref a) (.type "dict")
 |dT {a:Addr}{kvs:List (List Key×V)}(e:H a=some (.dT kvs)):U7 K H (.ref a) (.type "dict")
 | ins {a C dx:Addr}{fs:List (Str×V)}(e:H a=some (.ins C dx fs)) (cl:Cls K C) (ha:PySem.W.findIn K (.ref C) "__class__" = some (some (.builtin "object.__class__")))
   (hn:PySem.W.specialIn K (.builtin "object.__class__") "__get__" = some (some (.builtin "getset_descriptor.__get__"))) (htk:PySem.W.takesIn K (.builtin "object.__class__")=some true)
   (hm:PySem.W.mroIn K C (.type "object")=some true):U7 K H (.ref a) (.ref C)
def wL (I:[YR,σ,H,s]) (T:RelV x u) (ty:U7 X.K H x t) (e:PySem.W.kitOne X.K t c=some b) (h:∀tk,Q (.bool b) { s with toks:=tk }):
  wpAny [Ty] A (call (.builtin "isinstance") [u,c]) Q E s:=by
 cases ty with
 |non=>cases show u=Value.none from T;show qE9 PySem.W.kitx_none I.kIn True.intro e [SN] h
 |bl y=>cases show u=_ from T;show qE9 PySem.W.kitx_bool I.kIn True.intro e [SN] h
 |int i=>obtain ⟨t,q⟩:=(T);cases q;show qE9 PySem.W.kitx_int I.kIn True.intro e [SN] h
 |str y=>obtain ⟨t,q⟩:=(T);cases q;show qE9 PySem.W.kitx_str I.kIn True.intro e [SN] h
 |flt y=>obtain ⟨t,q⟩:=(T);cases q;show qE9 PySem.W.kitx_float I.kIn True.intro e [SN] h
 | @lst a xs ea=>
  cases show u=_ from T
  obtain ⟨_,_,n,_,h1⟩:=(I.hok a _ ea);show qE9 PySem.W.kitx_list I.kIn [WH,h1,rfl] e [SN] h
 | @frz a ob xs ea=>
  cases show u=_ from T
  obtain ⟨_,_,_,n,_,h1⟩:=(I.hok a _ ea);show qE9 PySem.W.kitx_list I.kIn [WH,h1,rfl] e [SN] h
 | @tup a xs ea=>
  cases show u=_ from T
  obtain ⟨_,_,_,p⟩:=(I.hok a _ ea);obtain ⟨o,h1,h2,_⟩:=p;show qE9 PySem.W.kitx_tuple I.kIn ⟨o,h1,h2⟩ e [SN] h
 | @dK a kvs ea=>
  cases show u=_ from T
  obtain ⟨_,_,vs,_,p⟩:=(I.hok a _ ea);obtain ⟨o,es,ep,h1,h2,_⟩:=p;show qE9 PySem.W.kitx_dict I.kIn ⟨o,h1,h2.1⟩ e [SN] h
 | @dT a kvs ea=>
  cases show u=_ from T
  obtain ⟨_,_,xs,_,o,es,ep,h1,h2,_⟩:=(I.hok a _ ea);show qE9 PySem.W.kitx_dict I.kIn ⟨o,h1,h2.1⟩ e [SN] h
 | @ins a C dx fs ea cl ha hn htk hm=>
  cases show u=_ from T
  obtain ⟨mA,O,_⟩:=eF I.hok ea;obtain ⟨od,J,_⟩:=O.look;show qE9 (PySem.W.kitx_own (cl.get _) cl.hd ha hn htk hm) I.kIn J e [SN] h
end
structure Room (k:Nat) (A:Around):Prop where
 hd:A.handled=none
 dp:A.depth+3*k+5<recursionLimit
 un:A.units+16*k+200<cLine
def Room.mono (r:Room k A)(h:j<=k):Room j A:=⟨r.hd,by have:=r.dp;omega,by have:=r.un;omega⟩
def Room.deeper (r:Room (k+1) A) env:Room k (A.deeper env):=
 ⟨r.hd,by have:=r.dp;change A.depth+1+3*k+5<_;omega,by have:=r.un;change A.units+3+16*k+200<_;omega⟩
def sQ {A:Around}:(A.under (.builtin "type.__call__" ⟨.ref C::us,kw⟩)).depth=A.depth+1:=by
 first|rfl|simp [Code.weight,Code.isGuard,Code.frames,guardIds]
def sP {A:Around}:(A.under (.builtin "type.__call__" ⟨.ref C::us,kw⟩)).units=A.units+1:=by
 first|rfl|simp [Code.cUnits,Code.isFrame]
def Room.make (r:Room (k+1) A) C (us:ZW) (kw:List (Str×Value)):Room k (A.under (.builtin "type.__call__" ⟨.ref C::us,kw⟩)):=
 ⟨r.hd,by have:=r.dp;rw[sQ];omega,by have:=r.un;rw[sP];omega⟩
def Room.depth (r:Room k A):A.depth<recursionLimit:=by have:=r.dp;omega
def Room.units (r:Room k A):A.units+64<cLine:=by have:=r.un;omega
def tNil:TA:=λ_ H Q=>Q [] H
def F1 (ta:TE)(I:TA):TA:=λa H Q=>ta a H λx H1=>I a H1 λxs H2=>Q (x::xs) H2
def pa_nil:PA X [] tNil:=λ_ _ _ _ H Q I h=>Calls.spliced_nil ⟨[],H,I,.nil,h⟩
def B8 (ha:PE X e te) (hr:PA X es t) (hs:[Z0O]):PA X [TC] (F1 te t):=by
 intro pos pins s a H Q I h;rw[hs];refine Calls.spliced_cons (thn [SI,ha,a] λu s1 O=>?_);obtain ⟨x,H1,I1,r1,q1⟩:=O;show thn (hr pos pins s1 a H1 _ I1 q1) λus s2 T=>by obtain ⟨xs,H2,I2,r2,q2⟩:=T;show ⟨x::xs,H2,I2,.cons r1 r2,q2⟩
def rK (t:TA):TE:=λa H Q=>t a H λxs H1=>xs.length<=sizeLine/\∀p,H1 p=none->Q [ZE,p] (upd H1 p (.tup xs))
def rM (t:TA):TE:=λa H Q=>t a H λxs H1=>xs.length<=sizeLine/\∀p,H1 p=none->Q [ZE,p] (upd H1 p [YM,xs])
def mP {x1}(h:PA X es t):PE X (.Tuple es x1 pos) (rK t):=by
 intro pins s a H Q I O;refine wpAny_Tuple_spliced (thn (h pos pins s a H _ I O) λus s1 ⟨xs,H1,I1,r,z,q⟩=>⟨by rw[<- r.length];show z,?_⟩);have hf:=I1.hok.fresh (qA6 _);refine ⟨.ref _,_,I1.laid (λb u e=>qA2 _ e) (qA6 _) ?_,rfl,q _ hf⟩;show ⟨z,us,r,⟨_,qB1 _ rfl,rfl,_,rfl⟩⟩
def mQ (h:PA X es t):PE X (.List es pos) (rM t):=by
 intro pins s a H Q I O;refine wpAny_List_spliced (thn (h pos pins s a H _ I O) λus s1 ⟨xs,H1,I1,r,z,q⟩=>⟨by rw[<- r.length];show z,?_⟩);have hf:=I1.hok.fresh (qA6 _);refine ⟨.ref _,_,I1.laid (λb u e=>qA2 _ e) (qA6 _) ?_,rfl,q _ hf⟩;show ⟨z,us,0,r,qB1 _ rfl⟩
abbrev Sp:=List V->Hp->VK->XK->Prop
abbrev CXT:=List Env->Hp->Shared->XK->Value->Shared->Prop
structure Env0 (P:Program) (w:World) (K:Frag) (mg:ZZ) (base:Heap) (A:Around) (outer:List Env) (s:Shared) (H:Hp):Prop where
 frames:A.frames=some outer
 mod:Mod K mg base
 bs:∀b o,base.get? b=some o->s.heap.get? b=some o/\H b=none
 bsz:base.objs.size<=s.heap.objs.size
 funs:s.heap.FunFrames base outer
 frf:∀b∈frs outer,H b=none
 hok:HOk P w H s.heap
 bare:AllBare s.gens
def CE (outer:List Env) (P:Program) (w:World) (H:Hp) (s:Shared) (Q:VK) (u:Value) (s':Shared):Prop:=
 ∃v H',s'.os=s.os/\AllBare s'.gens/\Un (frs outer) [] H H' s.heap s'.heap/\HOk P w H' s'.heap/\RelV v u/\Q v H'
def CR (CX:CXT) (outer:List Env) (P:Program) (w:World) (H:Hp) (s:Shared) (Q:VK) (E:XK) (r:Result) (s':Shared):Prop:=
 match r with
 | .ok (.ret u)=>CE outer P w H s Q u s'
 | .ok _=>False
 | .error e=>CX outer H s E e s'
structure FnOk (P:Program) (w:World) (K:Frag) (mg:ZZ) (base:Heap) (CX:CXT) (k:Nat) (f:Addr) (fd:FuncData) (ps:ZK) (sp:Sp):Prop where
 len:∀vs H Q E,sp vs H Q E->vs.length=ps.length
 run:∀(A:Around) (outer:List Env) (s:Shared) (H:Hp) (args:Args) (us:ZW) (vs:List V) (Q:VK) (E:XK),Room k A->Env0 P w K mg base A outer s H->BindsTo s fd args (ps.zip us)->Vals vs us->sp vs H Q E ->
  codeAny (model P w) A (.call (.ref f) args) (CR CX outer P w H s Q E) s
def FnOk.imp {K}(F:FnOk P w K mg base CX k f fd ps sp) (h:∀vs H Q E,sp' vs H Q E->sp vs H Q E):FnOk P w K mg base CX k f fd ps sp':=
 ⟨λvs H Q E q=>F.len vs H Q E (h _ _ _ _ q),λA outer s H args us vs Q E hr I T O hs=>F.run A outer s H args us vs Q E hr I T O (h _ _ _ _ hs)⟩
def Env0.make {K}(e:Env0 P w K mg base A outer s H) C (us:ZW) (kw:List (Str×Value)):
  Env0 P w K mg base (A.under (.builtin "type.__call__" ⟨.ref C::us,kw⟩)) outer s H:=⟨by first|show e.frames | (simpa [Code.envs,pushEnvs]using e.frames),e.mod,e.bs,e.bsz,e.funs,e.frf,e.hok,e.bare⟩
def Inv.env0 {a:St}(I:[UE]):Env0 X.prog X.w X.K X.mg X.base X.A X.stack s H:=
 ⟨I.ok.frames,I.ok.mod,I.bs,qC8 I.ok.bsz I.sz,I.stack,I.stkFree,I.hok,I.bare⟩
def Inv.after {a:St}(I:[UE]) (h:CE X.stack X.prog X.w H s Q u s'):EP X pins a Q u s':=by
 obtain ⟨v,H',os,bare,un,hok,r,q⟩:=h;obtain ⟨hh,g,d,t,O⟩:=s';obtain rfl:=os;show ⟨v,H',I.call (g':=g) (t':=t) un hok bare (λb z=>absurd z Xaf),r,q⟩
def X5 (sp:Sp)(UP:List V)(E:XK)(t:TA):TE:=λa H Q=>t a H λvs H1=>sp (vs++UP) H1 Q E
def kO (C:Addr) (m:Str) (sp:Sp) (UP:List V) (E:XK) (ta:TE) (t:TA):TE:=λb H Q=>ta b H λx H1=>∃a dx fs,x=.ref a/\H1 a=some (.ins C dx fs)/\fs.lookup m=none /\
 t b H1 λvs H2=>sp (x::(vs++UP)) H2 Q E
def BY (C:Addr) (sp:Sp) (UP:List V) (E:XK) (t:TA):TE:=λa H Q=>t a H λvs H1=>∀x dx,H1 x=none->H1 dx=none->dx≠x ->
 sp (.ref x::(vs++UP)) (upd (upd H1 dx (.own x)) x (.ins C dx [])) (λv H2=>v=.non/\Q [ZE,x] H2) E
def Binds (K:Frag) (fd:FuncData) (ps:ZK) (ds:ZW):Prop:=
 ∀(s:Shared) (us:ZW),K.In s.heap->[ZM,us++ds]=ps.length->BindsTo s fd ⟨us,[]⟩ (ps.zip (us++ds))
def Binds.all {K}(h:∀us,us.length=ps.length->bindArgs fd ⟨us,[]⟩=pure (ps.zip us)):Binds K fd ps []:=λs us _ hl=>by
 rw[qD3]at hl ⊢;show .of_eq (h us hl)
def W5 (CX:CXT)(X:Cx)(E:XK):Prop:=∀(pins:ZQ)(a:St)(H:Hp)(s:Shared)(e:Value)(s':Shared),([UE])->CX X.stack H s E e s'->X.xe e s'
section
variable {X:Cx}{CX:CXT}{k:Nat}{f C:Addr}{fd:FuncData}{ps:ZK}{sp:Sp}{UP:List V}{ds:ZW}{E:XK}{x m:Str}{p pos apos:Pos}{e o:Expr}{es:ZX}{ta:TE}{t:TA}
def vd {a:St}(F:[Z0T,CX,k,sp]) (hr:Room k X.A) (hb:Binds X.K fd ps ds) (hd:Vals UP ds) (hx:W5 CX X E) (I:[UE]) (r:Vals vs us) (h:sp (vs++UP) H Q E):[yc,call [ZE,f] us,EP X pins a Q]:=by
 have T:=r.append hd;have hl:[ZM,us++ds]=ps.length:=by rw[<- T.length];show F.len _ _ _ _ h
 refine qL9 (qL6 (F.run X.A _ s H _ _ _ Q E hr I.env0 (hb s us I.kIn hl) T h) λr s' O=>?_);cases r with
 |error e=>show hx pins a H s e s' I O
 | ok fl=>
  cases fl with
  |ret u=>show I.after O
  |next=>show False.elim O
  |brk=>show False.elim O
  |cont=>show False.elim O
def P1 (F:[Z0T,CX,k,sp]) (hr:Room k X.A) (hg:Gl X x) (hm:X.mg x=some [ZE,f]) (hk:PySem.W.keepIn X.K [ZE,f]=true) (T:Binds X.K fd ps ds) (hd:Vals UP ds) (hx:W5 CX X E)
  (ha:PA X [TC] t) (Ue:(x == ("__debug__" : Str))=false:=by decide) (he:[Tm,[TC]]=[SJ,e]::[Tm,es]:=by rfl) (O:[rd,pos,X.env]:=by rfl) :
  PE X [SY,[YD,x,p],[TC]] (X5 sp UP E t):=by
 show 7 a;refine qL1 (U2 I hg hm ?_ Ue);refine qI2 I.ok.mod.kin hk (thn (ha pos pins s a H _ I h) λus s1 ⟨vs,H1,I1,r,q⟩=>⟨I1.kIn,?_⟩) he O;show vd F hr T hd hx I1 r q
def EN {pl:Sem Bool}(he:PE X o ta) (c:Cls X.K C) (hm:bq X.K C m f) (F:[Z0T,CX,k,sp]) (hr:Room k X.A) (hb:Binds X.K fd ps ds) (hd:Vals UP ds) (hx:W5 CX X E) (ha:PA X [TC] t)
  (Us:[Tm,[TC]]=[SJ,e]::[Tm,es]:=by rfl) (TY:[rd,pos,X.env]:=by rfl)
  (ht:eval [SY,[wr,o,m],[TC]] X.env=(do
   let T <- eval o X.env
   standAt apos.atName
   let (f,first) <- holding [T] (getMethod T m pl)
   callWith pos f first (backTo pos (starEach [TC] X.env)) (backToKw pos (keywordEach [] X.env))):=by rfl) :
  PE X [SY,[wr,o,m],[TC]] (kO C m sp UP E ta t):=by
 show 7 b;refine PySem.W.methodCall_KW (thn [SI,he,b] λu s1 O=>?_) ht;obtain ⟨x,H1,I1,rx,a,dx,fs,ex,ea,l,q⟩:=O;subst ex;obtain rfl:=rx;refine ig I1 ea c hm l ?_;refine qI2 (h₀:=X.base) I.ok.mod.kin hm.kp (thn (ha pos pins s1 b H1 _ I1 q) λus s2 ⟨vs,H2,I2,r,q2⟩=>⟨I2.kIn,?_⟩) Us TY;show vd (vs:=.ref a::vs) F hr hb hd hx I2 (.cons rfl r) q2
structure Mk (K:Frag) (C f:Addr):Prop where
 makes:PySem.W.makesIn K C=true
 init:PySem.W.findIn K (.ref C) "__init__" = some (some (.ref f))
 fn:PySem.W.isFn K (.ref f)=true
 kp:PySem.W.keepIn K (.ref C)=true
def zj {a:St}(M:Mk X.K C f) (F:[Z0T,CX,k,sp]) (hr:Room (k+1) X.A) (hb:Binds X.K fd ps ds) (hd:Vals UP ds) (hx:W5 CX X E) (I:[UE]) (r:Vals vs us) (h:∀x dx,H x=none->H dx=none->dx≠x->sp (.ref x::(vs++UP)) (upd (upd H dx (.own x)) x (.ins C dx [])) (λv H2=>v=.non/\Q [ZE,x] H2) E):
  [yc,call [ZE,C] us,EP X pins a Q]:=by
 have hq:=h _ _ (I.hok.fresh (qP8 _)) (I.hok.fresh (qA6 _)) (qD5 (Nat.lt_succ_self _));have T:=Inv.made (C:=C) I;have r2:Vals (V.ref (s.heap.objs.size+1)::(vs++UP)) (Value.ref (s.heap.objs.size+1)::(us++ds)):=.cons rfl (r.append hd);have hl:[ZM,Value.ref (s.heap.objs.size+1)::us++ds]=ps.length:=by
  have e:=r2.length;rw[F.len _ _ _ _ hq]at e;show e.symm
 refine qL9 (As (f:=f) I.kIn M.makes M.init (qR1.mp M.fn) (qL6 (F.run _ X.stack _ _ ⟨Value.ref (s.heap.objs.size+1)::us,[]⟩ (Value.ref (s.heap.objs.size+1)::(us++ds)) _ _ E (hr.make C us [])
  (T.env0.make C us []) (hb _ (Value.ref (s.heap.objs.size+1)::us) T.kIn hl) r2 hq) λr s' O=>?_))
 cases r with
 |error e=>show hx pins a _ _ e s' T O
 | ok fl=>
  cases fl with
  | ret u=>
   obtain ⟨v,H',I3,rv,ev,q3⟩:=T.after O;subst ev;show ⟨rv,⟨V.ref (s.heap.objs.size+1),H',I3,rfl,q3⟩⟩
  |next=>show False.elim O
  |brk=>show False.elim O
  |cont=>show False.elim O
def zQ (M:Mk X.K C f) (F:[Z0T,CX,k,sp]) (hr:Room (k+1) X.A) (hg:Gl X x) (hm:X.mg x=some [ZE,C]) (T:Binds X.K fd ps ds) (hd:Vals UP ds) (O:W5 CX X E)
  (Ue:(x == ("__debug__"))=false:=by decide):PE X [SY,[YD,x,p],[]] (BY C sp UP E tNil):=by
 show 7 a;refine qL1 (U2 I hg hm ?_ Ue);show PySem.W.callWith_K0 I.kIn M.kp (zj M F hr T hd O I .nil h)
end
structure K9 (N P:ZK) (sc:Scope):Prop where
 kind:sc.kind=.function
 co:sc.isCoroutine=false
 gen:sc.isGenerator=false
 nd:N.Nodup
 pre:N.take P.length=P
 par:∀x∈P,sc.names.lookup x=some .local\/sc.names.lookup x=some .cell
 nofree:∀y∈sc.names,y.2≠.free
def xU {kindOf}:∀{binds:List (Str×Value)}{m:ZZ},(∀v,(x,v)∉binds)->bindL kindOf binds m x=m x:=by
 intro binds
 induction binds with
 |nil=>intro m _;rfl
 | cons p r I=>
  unfold bindL
  grind
def xW {kindOf}:∀{binds:List (Str×Value)}{m:ZZ},(∀v,(x,v)∉binds)->bindC kindOf binds m x=m x:=by
 intro binds
 induction binds with
 |nil=>intro m _;rfl
 | cons p r I=>
  unfold bindC
  grind
def xV {kindOf}:∀{P:ZK}{vs:ZW}{i:Nat}{m:ZZ},P.Nodup->[ZI,P,x]->[ZI,vs,v]->kindOf x=some .local ->
  bindL kindOf (P.zip vs) m x=some v:=by
 intro P
 induction P with
 |nil=>intro vs i m _ h _ _;cases h
 | cons p P ih=>
  intro vs i m nd O I hk;cases vs with
  |nil=>cases I
  | cons w vs=>
   change bindL _ (_::P.zip vs) m x=_;unfold bindL;cases i with
   | zero=>
    cases O;cases I;rw[xU λv T=>(qO3.mp nd).1 (qS7 T).1,qA3 hk];simp
   |succ i=>show ih (qO3.mp nd).2 O I hk
def xX {kindOf}:∀{P:ZK}{vs:ZW}{i:Nat}{m:ZZ},P.Nodup->[ZI,P,x]->[ZI,vs,v]->kindOf x≠some .local ->
  bindC kindOf (P.zip vs) m x=some v:=by
 intro P
 induction P with
 |nil=>intro vs i m _ h _ _;cases h
 | cons p P ih=>
  intro vs i m nd O I hk;cases vs with
  |nil=>cases I
  | cons w vs=>
   change bindC _ (_::P.zip vs) m x=_;unfold bindC;cases i with
   | zero=>
    cases O;cases I;rw[xW λv T=>(qO3.mp nd).1 (qS7 T).1,qA9 hk];simp
   |succ i=>show ih (qO3.mp nd).2 O I hk
def start (N:ZK)(vs:List V):St:=vs.map some++List.replicate (N.length-vs.length) none
noncomputable def i4 (CX:CXT) (P:Program) (w:World) (K:Frag) (mg:ZZ) (base:Heap) (N:ZK) (qual:Str) (scope:Scope) (f:Addr) (cd:Value) (A:Around) (outer:List Env) (s:Shared) (H:Hp) (E:XK):Cx where
 prog:=P
 w:=w
 K:=K
 mg:=mg
 base:=base
 A:=A.deeper ([Z0B])
 N:=N
 s₀:=s
 H₀:=H
 env:=[Z0B]
 outer:=outer
 stack:=[Z0B]::outer
 ex:=[]
 calm:=true
 fn:=λ_=>true
 pn:=[]
 xe:=λe s'=>wpAny (model P w) (A.deeper [Z0i]) (leaving [Z0i] e) (λ_ I=>CX outer H s E e I) (λO I=>CX outer H s E O I) s'
def oF {sc:Scope}(h:sc.names.lookup x=some .cell):∃c,(cellsFrom n sc.names []).lookup x=some c:=by
 have q:=PySem.W.cellsFrom_some _ n [] (.inl h);show Option.isSome_iff_exists.mp q
def wN {K}(S:K9 N ps scope) (hd:A.handled=none) (I:Env0 P w K mg base A outer s H) (hl:vs.length=ps.length) (r:Vals vs us) (x:InCallC s s.heap.objs.size (bindL [Z0i].kindOf (ps.zip us) λ_=>none) (cellsFrom [Z0F] scope.names []) (bindC [Z0i].kindOf (ps.zip us) λ_=>none) s1):
  Inv (i4 CX P w K mg base N qual scope f cd A outer s H E) [] (start N vs) H s1:=by
 have TY:ps.length<=N.length:=by have:=congrArg List.length S.pre;rw[qF3]at this;omega
 obtain ⟨h1,tk,rfl,hk⟩:=x.done;have WR:∀b,b∉_:=λb z=>absurd [SF,b∈([]:List Addr),z] Xaf;refine ⟨⟨I.mod,S.kind,rfl,rfl,qA6 _,λy z c h1 h2=>?_,λy T=>?_,λy c _ h=>?_,λ_=>hd,Around.frames_deeper I.frames,.inr ⟨rfl,rfl⟩,λb z=>absurd z (WR b),I.bs,I.bsz,λb _ _=>WR b,λb z=>absurd z (WR b),I.funs,I.frf⟩,
  rfl,I.bare,Un.kept hk,[WH,x.toInCall.ns,λi y v h1 h2 h3=>?_],λy c h=>⟨_,x.cell y c h⟩,I.hok.fresh (qA6 _),λy c h=>?_,λp hp=>absurd [SF,p∈([]),hp] Xaf,I.hok.kept hk,?_⟩
 .show name_of_addr x.apart (qF8 h1) (qF8 h2)
 .rcases T with T|T
  .show oF T
  .show absurd rfl (S.nofree _ (qF8 T))
 .show qJ6 (x.above y c (qF8 h))
 .have hi:i<vs.length:=by
   grind[start]
  have ha:[ZI,vs,v]:=by
   grind[start]
  obtain ⟨u,hu,rv⟩:=r.get ha;have hp:[ZI,ps,y]:=by
   rw[<- S.pre,qR5 ZU];show h1
  have O:ps.Nodup:=by rw[<- S.pre];show S.nd.sublist (List.take_sublist ..)
  refine ⟨u,rv,?_⟩;rcases S.par y (qD9 hp) with k|k
  .show .inl ⟨k,xV O hp hu k⟩
  .obtain ⟨c,e⟩:=oF k;refine .inr ⟨.inl k,c,e,?_⟩;have q:=x.cell y c e;rw[xX O hp hu (by change scope.names.lookup y≠_;omega)]at q;show q
 .show I.hok.fresh (qJ6 (x.above y c (qF8 h)))
 .unfold start
  change _=N.length;rw[qC4,qA1,qO1];omega
def CM {K:Frag}{kV}(lk:K.lookup f=some ⟨oc,od,.func (PySem.W.fnOf name qual params body scope dV kV doc pm an Uc ct),Vr⟩) (Ub:PySem.W.codeIn K Uc qual=true) (S:K9 N ps scope) (len:∀vs H Q E,sp vs H Q E->vs.length=ps.length) (UN:∀(A:Around) (outer:List Env) s H (vs:List V) Q E,Room k (A.deeper (envOfC qual scope s.heap.objs.size f Uc))->sp vs H Q E ->
   ∃t,PSs (i4 CX P w K mg base N qual scope f Uc A outer s H E) body t/\t { nx:=λ_ H'=>Q .non H',rt:=Q } (start N vs) H):
  FnOk P w K mg base CX (k+1) f (PySem.W.fnOf name qual params body scope dV kV doc pm an Uc ct) ps sp:=by
 refine ⟨len,λA outer s H args us vs Q E hr e0 hb r Vp=>?_⟩;have hl:=len _ _ _ _ Vp;have KX:=e0.mod.kin.keeps λb o e=>(e0.bs b o e).1;have lim:=e0.mod.nolimit.keeps λb o e=>(e0.bs b o e).1;have Ve:∀y∈ps.zip us,scope.names.lookup y.1=_\/scope.names.lookup y.1=_/\((cellsFrom [Z0F] _ []).lookup y.1).isSome=true:=λT hy=>by
  obtain ⟨n,v⟩:=T;rcases S.par n (qS7 hy).1 with q|q
  .show .inl q
  .show .inr ⟨q,PySem.W.cellsFrom_some _ _ _ (.inl q)⟩
 refine codeAny_call_function hr.depth (KX _ _ lk) rfl S.co S.gen rfl (PySem.W.codeRec_of KX Ub) (hb _ _ _ _ ?_);refine wpAny_newFunctionEnv_cells S.kind Ve λenv he s1 x=>?_;subst he;refine ⟨lim.keeps x.toInCall.keep,codeAny_func ?_⟩;obtain ⟨t,ht,hq⟩:=UN A outer s H vs Q E (hr.deeper _) Vp;have I:Inv (i4 CX P w K mg base N qual scope f Uc A outer s H E) [] _ H s1:=wN S hr.hd e0 hl r x;refine qK9 (ht [] s1 _ H _ I hq) (λfl s' hs=>?_) λe s' hs=>hs;have a3:∀{O:St}{H':Hp}{v:V}{u:Value},Inv (i4 CX P w K mg base N qual scope f Uc A outer s H E) [] O H' s'->_->_->CE outer P w H s Q u s':=
  λ{O H' v u} J rv q=>⟨v,H',J.os,J.bare,J.base,J.hok,rv,q⟩
 cases fl with
 | ret u=>
  obtain ⟨v,O,H',J,rv,q⟩:=hs;show a3 J rv q
 | next=>
  obtain ⟨O,H',J,q⟩:=hs;show a3 (v:=V.non) J rfl q
 | brk=>
  obtain ⟨_,_,_,q⟩:=hs;show False.elim q
 | cont=>
  obtain ⟨_,_,_,q⟩:=hs;show False.elim q
def tCB (r:List V->Hp->VK->Prop)(t:TA):TE:=λa H Q=>t a H λvs H1=>r vs H1 Q
def mR {X}{x}{p pos}{e}{es:ZX}{t}{T}{r:List V->Hp->VK->Prop}(hc:C6 X (.builtin T) r) (hg:Gl X x) (hm:X.mg x=none) (hv:bootBuiltins x=some (.builtin T)) (ha:PA X [TC] t) (hn:x ≠ "__name__" := by decide) (Ue:[Z08]) (he:[Z0O]) (TY:[XXa,[rd,pos,X.env]]):PE X [SY,[YD,x,p],[TC]] (tCB r t):=by
 show 7 a;refine qL1 (W2 I hg hm hv ?_ hn Ue);show PyProof.Rows.callWith_builtin1 (thn (ha pos pins s a H _ I h) λus s1 O=>by obtain ⟨vs,H1,I1,r1,q1⟩:=O;show hc pins s1 a H1 vs us Q I1 r1 q1) he TY
def jW {X}{x}{p pos}{e}{es:ZX}{t}{T}{r:List V->Hp->VK->Prop}(hc:C6 X (.type T) r) (hg:Gl X x) (hm:X.mg x=none) (hv:bootBuiltins x=some (.type T)) (ha:PA X [TC] t) (hn:x ≠ "__name__" := by decide) (Ue:[Z08]) (he:[Z0O]) (TY:[XXa,[rd,pos,X.env]]):PE X [SY,[YD,x,p],[TC]] (tCB r t):=by
 show 7 a;refine qL1 (W2 I hg hm hv ?_ hn Ue);show qF2 (thn (ha pos pins s a H _ I h) λus s1 O=>by obtain ⟨vs,H1,I1,r1,q1⟩:=O;show hc pins s1 a H1 vs us Q I1 r1 q1) he TY
end L2
namespace HT
open PySem PyProof.Rows
def lexLt:List Int->List Int->Bool
 | [],[]=>false
 | [],_::_=>true
 |_::_,[]=>false
 |x::xs,y::ys=>if x=y then lexLt xs ys else [ZL,x<y]
section
open PySem.SeqAt
open PySem.AutoSeq1 (wpAny_loadPart')
open PySem.MeetsSeq PySem.MeetsSeq2 PySem.MeetsSeq3
end
def sIx (n d:Nat):Option Int->Nat
 |none=>d
 |some v=>if v<0 then (v+(n:Int)).toNat else min v.toNat n
theorem sIx_none n d:sIx n d none=d:=rfl
theorem sIx_nat (n d k:Nat):sIx n d (some k)=min k n:=by
 change [YL,k<0,(k+(n:Int)).toNat,min _ n]=_;rw[qA9 ZU,qF7]
def sIx_le n d (hd:d<=n) (o:ZV):sIx n d o<=n:=by
 cases o with
 |none=>show hd
 | some v=>
  change [YL,v<0,_,_]<=n;by_cases I:v<0
  .omega
  .rw[qA9 I];show qG4 ..
def qU (v:Int) (n d:Nat):[YL,v<0,max (v+n) 0,min v n]=((sIx n d [ZT,v])):=by
 change _=((if v<0 then _ else _:Nat):Int);by_cases I:v<0
 .omega
 .omega
theorem uc (lo hi:ZV) (n:Nat):Builtin.Slice.sliceAdjust lo hi 1 n=(((sIx n 0 lo):Int),((sIx n n hi):Int)):=by
 have I:¬ 1<0:=ZU;unfold Builtin.Slice.sliceAdjust;refine Prod.ext ?_ ?_
 .cases lo with
  |none=>rfl
  |some v=>show qU v n 0
 .cases hi with
  |none=>rfl
  |some v=>show qU v n n
theorem sA (i j:Nat):Builtin.Slice.slicePlaces i j 1=j-i:=by
 unfold Builtin.Slice.slicePlaces;have I:1>0:=ZU
 split <;> omega
def gz (p:IsPart v o) (h:Q o s):[ST,Builtin.Slice.slicePartIndex v]:=by
 cases p with
 |none=>show slicePart_none h
 |int i t=>show slicePart_int h
def Z4 {lo:ZV}{n:Nat}(hs:s.heap.IsSliceOf sl vl vu .none) (pl:IsPart vl lo) (T:IsPart vu hi) (h:Q (((sIx n 0 lo)),1,sIx n n hi-sIx n 0 lo) s):[ST,Builtin.Slice.sliceApplied [ZE,sl] (pure n)]:=by
 obtain ⟨os,I,VX,O⟩:=id hs;refine qA0 (qA0 (qK8 I O rfl (qA0 (qK8 I O rfl (qA0 (qK8 I O rfl (qK4 ?_)))))));refine qA0 (slicePart_none ?_);rw[qA9 Xaa];refine qA0 (gz pl (qA0 (gz T (qA0 (qK4 ?_)))))
 grind[uc,sA,PySem.wpAny_pure]
def zO (xs:ZY) (i k:Nat):((List.range k).filterMap λ(m:Nat)=>xs[(i+(m:Int)*1).toNat]?).toArray=((xs.toList.drop i).take k).toArray:=by
 have e:(λ(m:Nat)=>xs[(i+(m:Int)*1).toNat]?)=λm=>xs[i+m]?:=by
  funext m
  have:(i+(m:Int)*1).toNat=i+m:=ZU
  rw[this]
 have:=pick_run xs i k
 rw[qQ0]at this;have I:(_∘_)=λm=>xs[i+m]?:=rfl;omega
def getItem_tuple_cut {lo:ZV}(I:IsTup s.heap t items) (hs:s.heap.IsSliceOf sl vl vu .none) (pl:IsPart vl lo) (pu:IsPart vu hi) (hw:¬ (sIx items.size 0 lo=0/\sIx items.size items.size hi=items.size)) (h:Q [ZE,s.heap.objs.size] [To,s,s.heap.push [Z09,((items.toList.drop (sIx items.size 0 lo)).take (sIx items.size items.size hi-sIx items.size 0 lo)).toArray]]) (Vk:[Te,items.size]):[ST,getItem [ZE,t] [ZE,sl]]:=by
 have O:sizeOk (.seq ((items.toList.drop (sIx items.size 0 lo)).take (sIx items.size items.size hi-sIx items.size 0 lo)).toArray):=by
  change [Te,_];rw[qD6,qF3,qF4,qG3];omega
 obtain ⟨os,VL,VX,Xm⟩:=id hs;have YT:s.TypeIs [ZE,sl] "slice" := ⟨os,VL,VX⟩;unfold getItem
 try with_reducible refine qK6 ?_
 refine qA0 (wpAny_sequenceKey I.typeIs Xaa ?_);refine qA0 (qL2 I.typeIs qG0
  (qL7 qG0 I.typeIs entry_tuple_getitem ?_ (args_tuple_getitem ..)))
 change wpAny _ _ (Builtin.Tuple.tupleItemsOf _>>=_) _ _ s;refine qA0 (tupleItemsOf_ I ?_);refine qA0 (qR6 YT ?_);refine qA0 (Z4 hs pl pu ?_);have T:¬ (((sIx items.size 0 lo):Int) == 0&&(1:Int) == 1&&sIx items.size items.size hi-sIx items.size 0 lo == items.size)=true:=by
  omega
 change wpAny _ _ [YL,_=true,_,_] _ _ s;rw[qA9 T,zO]
 first
  |show qA0 (qL0 (qA0 (qK4 (qK4 [WH,rfl,qK4 h]))) O)
  |show qA0 (qA0 (m:=Builtin.Tuple.tupleExact _) (qL0 (qK4 (qK4 [WH,rfl,qK4 h])) O))
  |show qA0 (qA0 (m:=Builtin.Tuple.tupleExact _) (qL0 (qK4 [WH,rfl,qK4 h]) O))
end HT
namespace L2
open PySem PySem.Spec PyProof.Rows
abbrev TO:=St->Hp->([Ts,Option Int])->Prop
def PO (X:Cx) (e:Option Expr) (t:TO):Prop:=
 ∀ (pins:ZQ) (s:Shared) (a:St) (H:Hp) (Q:[Ts,Option Int]),([UE])->t a H Q ->
  [yc,evalPart e X.env,λu s'=>∃o H',[YR,a,H',s']/\IsPart u o/\Q o H']
def tNoPart:TO:=λ_ H Q=>Q none H
def BX (t:TE):TO:=λa H Q=>t a H λx H1=>∃i,x=.int i/\Q (some i) H1
def po_none:PO X none tNoPart:=by
 show 7 a;show qK4 ⟨none,H,I,.none,h⟩
def EI (h:PE X e te):PO X [ZT,e] (BX te):=by
 intro pins s a H Q I hw;refine thn (h pins s a H _ I hw) λu s1 O=>?_;obtain ⟨x,H1,I1,T,q1⟩:=O;obtain ⟨i,rfl,q⟩:=q1;show 1 t T;show ⟨_,H1,I1,.int i t,q⟩
def SlR (X:Cx) (r:[Z0p]):Prop:=
 ∀ (pins:ZQ) (s:Shared) (a:St) (H:Hp) (x:V) (v O I:Value) (lo hi:ZV) (sl:Addr) (Q:VK),([UE])->RelV x v->s.heap.IsSliceOf sl O I .none->IsPart O lo->IsPart I hi->r x lo hi H Q ->
  ∃T id,typeLookup (.type T) "__getitem__" = pure [ck,id]/\s.TypeIs v T/\[yc,getItem v [ZE,sl],EP X pins a Q]
def SlR.or (h:SlR X r) (h':SlR X r'):SlR X (λx lo hi H Q=>r x lo hi H Q\/r' x lo hi H Q):=by
 intro pins s a H x v vl T lo hi sl Q I O hs pl pu q;rcases q with q|q
 .show h pins s a H x v vl T lo hi sl Q I O hs pl pu q
 .show h' pins s a H x v vl T lo hi sl Q I O hs pl pu q
def tSl (r:[Z0p])(O:TE)(T th:TO):TE:=λa H Q=>O a H λx H1=>T a H1 λl H2=>th a H2 λu I=>r x l u I Q
def fF {lo}(hr:SlR X r) (he:PE X e te) (hl:PO X lo tl) (hu:PO X hi th):PE X (.Subscript e (.Slice lo hi none p2) pos) (tSl r te tl th):=by
 show 7 a;refine Subscript_ (thn [SI,he,a] λv s1 O=>?_);obtain ⟨x,H1,I1,r1,q1⟩:=O;refine wpAny_Slice (thn (hl pins s1 a H1 _ I1 q1) λvl s2 ⟨l,H2,I2,pl,q2⟩=>thn (hu pins s2 a H2 _ I2 q2) λvu s3 a3=>?_);obtain ⟨u,H3,I3,pu,q3⟩:=a3;refine qK4 ?_;have I4:[YR,a,H3,[To,s3,s3.heap.push [Z0A,"slice",#[vl,vu,.none]]]]:=I3.kept λb ob q=>qA2 _ q;obtain ⟨T,id,hT,ht,hg⟩:=hr pins [To,s3,_] a H3 x v vl vu l u _ Q I4 r1 (Heap.IsSliceOf.new ..) pl pu q3;show tail_any ht hT hg (by with_unfolding_all rfl)
def fR (xs:List V)(lo hi:ZV):List V:=[Z14]
def fg xs lo hi:[ZM,fR xs lo hi]<=xs.length:=by
 unfold fR;rw[qF3,qF4];omega
def JH (K:Frag):[Z0p]:=λx lo hi H Q=>∃a xs,x=.ref a/\SqT K H a xs /\
 ¬ (HT.sIx xs.length 0 lo=0/\HT.sIx xs.length xs.length hi=xs.length)/\∀p,H p=none->Q [ZE,p] (upd H p (.tup (fR xs lo hi)))
def IG:SlR X (JH X.K):=by
 intro pins s c H x v vl vu lo hi sl Q I T hs pl pu h;obtain ⟨a,xs,rfl,hx,hw,q⟩:=h;cases T;obtain ⟨its,r,O,hz⟩:=I.tuple hx;have hlen:its.toArray.size=xs.length:=by show r.length.symm
 refine ⟨"tuple",_,PyProof.Rows.slot_tuple_getitem.lookup,O.typeIs,?_⟩;refine HT.getItem_tuple_cut O hs pl pu ([ZO,hlen,hw]) ?_ ([ZO,hlen,hz]);rw[hlen];refine ⟨.ref _,_,I.laid (o:=_) (λb ob q=>qA2 _ q) (qA6 _) ?_,rfl,q _ (I.hok.fresh (qA6 _))⟩;show ⟨qC8 (fg xs lo hi) hz,_,(r.drop _).take _,IsTup.new ..⟩
noncomputable def ixN (n:Nat) (i:Int):Option Nat:=if 0<=i then [YL,i<n,some i.toNat,none] else if -(n:Int)<=i then some (i+n).toNat else none
def atI {a:Type}(xs:List a) (i:Int):Option a:=(ixN xs.length i).bind λj=>xs[j]?
def qG (h:ixN n i=some j):seqIndex? i n=some j/\j<n /\ -n<=i/\i<n:=by
 unfold ixN at h;by_cases h0:0<=i
 .rw [qA3 h0]at h
  by_cases I:i<n
  .rw [qA3 I]at h
   have e:=Option.some.inj h;show ⟨by rw[seqIndex_of h0 I,e],ZU,ZU,I⟩
  .rw[qA9 I]at h;cases h
 .rw [qA9 h0]at h
  by_cases I:-n<=i
  .rw [qA3 I]at h
   have e:=Option.some.inj h;show ⟨by rw[seqIndex_neg ZU I,e],ZU,I,ZU⟩
  .rw[qA9 I]at h;cases h
def jz {xs:List a}(h:atI xs i=some v):∃j,seqIndex? i xs.length=some j/\xs[j]?=some v/\j<xs.length /\ -xs.length<=i/\i<xs.length:=by
 unfold atI at h;cases e:ixN _ i with
 |none=>rw[e]at h;cases h
 | some j=>
  rw[e]at h;obtain ⟨h1,T,O,I⟩:=qG e;show ⟨j,h1,h,T,O,I⟩
def eR (b:Expr):Prop:=∀o i,subscripted b false o i=operate [o,i] (getItem o i)
def IxR (X:Cx) (r:R2):Prop:=
 ∀ (value slice:Expr) (pins:ZQ) (s:Shared) (a:St) (H:Hp) (x y:V) (v u:Value) (Q:VK),([UE])->RelV x v->RelV y u->r x y H Q ->
  subscripted slice false v u=operate [v,u] (getItem v u)->[yc,subscriptTail value slice v u,EP X pins a Q]
def MtR (X:Cx) (I:String) (r:V->List V->Hp->VK->Prop):Prop:=
 ∀ (pins:ZQ) (s:Shared) (a:St) (H:Hp) (x:V) (xs:List V) (v:Value) (us:ZW) (Q:VK),([UE])->RelV x v->Vals xs us->r x xs H Q ->
  [yc,call (.builtin I) (v::us),EP X pins a Q]
def IxR.or (h:IxR X r) (h':IxR X r'):IxR X (λx y H Q=>r x y H Q\/r' x y H Q):=by
 intro value slice pins s a H x y v u Q I T O q hs;rcases q with q|q
 .show h value slice pins s a H x y v u Q I T O q hs
 .show h' value slice pins s a H x y v u Q I T O q hs
def sD (hr:IxR X r) (ha:PE X a ta) (O:PE X b tb) (hs:eR b):PE X (.Subscript a b pos) (tOp r ta tb):=by
 show 7 c;show Subscript_ (BD ha O I h λv u s2 x y H2 I2 T ry q=>hr a b pins s2 c H2 x y v u Q I2 T ry q (hs ..))
def JO (K:Frag):R2:=λx y H Q=>∃p xs i v,x=.ref p/\y=.int i/\SqL K H p xs/\atI xs i=some v/\Q v H
def JN (K:Frag):R2:=λx y H Q=>∃p xs i v,x=.ref p/\y=.int i/\SqT K H p xs/\atI xs i=some v/\Q v H
def rIxS:R2:=λx y H Q=>∃z i c,x=.str z/\y=.int i/\[Te,z.length]/\atI z.cps.toList i=some c/\Q (.str ⟨#[c]⟩) H
def ix_list:IxR X (JO X.K):=by
 intro value slice pins s a H x y v u Q I rx ry h hs;obtain ⟨p,xs,i,z,rfl,rfl,hq,he,q⟩:=h;cases rx;show 1 t ry;obtain ⟨its,r,pl,hz⟩:=I.list hq;obtain ⟨j,T,h2,h3,h4,h5⟩:=jz he;obtain ⟨w,ew,Yo⟩:=r.get h2;have hl:=r.length;have hn:=bF;have O:EP X pins a Q w s:=⟨z,H,I,Yo,q⟩;by_cases h0:0<=i
 .have hj:i.toNat=j:=by
   rw[seqIndex_of h0 h5]at T;show Option.some.inj T
  show item_listR pl.isList h0 ZU (by rw[hj];simpa using ew) O hs
 .have hj:(i+its.toArray.size).toNat=j:=by
   rw[seqIndex_neg ZU h4]at T;rw[qD6,<- hl];show Option.some.inj T
  show subscriptTail_builtinR pl.isList.typeIs slot_list_getitem.lookup
   (wpAny_getItem_list_neg pl.isList ZU (by rw[qD6] <;> omega) ZU (by rw[hj];simpa using ew) ⟨rfl,O⟩) hs
def ix_tup:IxR X (JN X.K):=by
 intro value slice pins s a H x y v u Q I T ry h hs;obtain ⟨p,xs,i,z,rfl,rfl,hq,he,q⟩:=h;cases T;show 1 t ry;obtain ⟨its,r,pl,hz⟩:=I.tuple hq;obtain ⟨j,h1,h2,h3,h4,h5⟩:=jz he;obtain ⟨w,ew,Yo⟩:=r.get h2;have hl:=r.length;have hn:=bF;have O:EP X pins a Q w s:=⟨z,H,I,Yo,q⟩;show subscriptTail_builtinR pl.typeIs slot_tuple_getitem.lookup
  (getItem_tuple (j:=j) pl ZU ZU (by grind) [SX,ew] ⟨rfl,O⟩) hs
def wF:IxR X rIxS:=by
 intro value slice pins s a H x y v u Q I O T h hs;obtain ⟨z,i,c,rfl,rfl,hz,he,q⟩:=h;show 1 t O;show 1 t' T;obtain ⟨j,h1,h2,h3,h4,h5⟩:=jz he;have hl:z.cps.toList.length=z.length:=by simp [Str.length]
 have hn:=bF;show tail_any (qN4 s z t) slot_str_getitem.lookup (getItem_str (by
  omega) (by grind) ⟨.str _,H,I.tok _,[Tq],q⟩) hs
def rIx (K:Frag):R2:=λx y H Q=>JO K x y H Q\/JN K x y H Q\/rIxS x y H Q
def wG:IxR X (rIx X.K):=ix_list.or (ix_tup.or wF)
def sM (its:ZW) n j u:Obj.mapSeq (·.setIfInBounds j u) { cls:=.type "list",data:=.seq its.toArray n }={ cls:=.type "list",data:=.seq (its.set j u).toArray n }:=by
 simp [Obj.mapSeq]
def Inv.lst {a:St}(I:[UE]) (h:H p=some [YM,xs]):
  ∃(its:ZW) (n:Nat),Vals xs its/\s.heap.get? p=some { cls:=.type "list",data:=.seq its.toArray n }/\[Te,xs.length]:=by
 obtain ⟨z,its,n,r,e⟩:=I.hok p _ h;show ⟨its,n,r,e,z⟩
def Inv.lstUpd {a:St}{its:ZW}(I:[UE]) (h:H p=some [YM,xs]) (O:s.heap.get? p=some { cls:=.type "list",data:=.seq its.toArray n }) (hf:f { cls:=.type "list",data:=.seq its.toArray n }={ cls:=.type "list",data:=.seq Uy.toArray n' }) (r:Vals ys Uy) (hz:[Te,ys.length]) t:
  [YR,a,upd H p [YM,ys],[SS,s,s.heap.update p f,t]]:=by
 have e:(s.heap.update p f).get? p=some { cls:=.type "list",data:=.seq Uy.toArray n' }:=by
  rw[qF1 f O (by rw[hf] <;> rfl),hf]
 refine I.write (e:=p) (by rw[h];trivial) [Ws] (λb u T q=>(Heap.get?_update_other _ _ (Ne.symm T)).trans q) ⟨_,e⟩ ?_;show ⟨hz,Uy,n',r,e⟩
def rSetL:V->V->V->Hp->(Hp->Prop)->Prop:=λo i v H Q=>∃p xs k j,o=.ref p/\i=.int k/\H p=some [YM,xs]/\ixN xs.length k=some j/\Q (upd H p [YM,xs.set j v])
def set_list:PD X rSetL:=by
 intro pins s a H o i v ov iv u Q I ro ri rv h;obtain ⟨p,xs,k,j,rfl,rfl,hp,hj,q⟩:=h;cases ro;show 1 t ri;obtain ⟨its,n,r,T,hz⟩:=I.lst hp;obtain ⟨O,h2,h3,h4⟩:=qG hj;have hl:=r.length;have hn:=bF;have I':=
  I.lstUpd hp T (sM its n j u) (r.set rv j) ([ZO,qD0,hz]) s.toks
 by_cases h0:0<=k
 .have hk:k.toNat=j:=by
   rw[seqIndex_of h0 h4]at O;show Option.some.inj O
  show PySem.W.ki_setAt T h0 ZU (by rw[qD6,<- hl];show h4) ([ZO,hk,[WH,I',q]])
 .have hk:(k+its.toArray.size).toNat=j:=by
   rw[seqIndex_neg ZU h3]at O;rw[qD6,<- hl];show Option.some.inj O
  show PySem.W.ki_setBack T ZU (by rw[qD6,<- hl];show h3) ZU ([ZO,hk,[WH,I',q]])
def lW (lo hi:ZV) n:(sliceBounds lo hi none n).1=((HT.sIx n 0 lo))/\(sliceBounds lo hi none n).2.1=((HT.sIx n n hi))/\(sliceBounds lo hi none n).2.2=1:=by
 refine ⟨?_,?_,rfl⟩
 .cases lo with
  |none=>simp [sliceBounds,HT.sIx]
  | some i=>
   simp [sliceBounds,HT.sIx,[SK,1>0]];by_cases h:i<0
   .simp [h] <;> omega
   .simp [h] <;> omega
 .cases hi with
  |none=>simp [sliceBounds,HT.sIx]
  | some i=>
   simp [sliceBounds,HT.sIx,[SK,1>0]];by_cases h:i<0
   .simp [h] <;> omega
   .simp [h] <;> omega
def kC (its:ZW) (lo hi:ZV):slicePick its.toArray lo hi none=((its.drop (HT.sIx its.length 0 lo)).take (HT.sIx its.length its.length hi-HT.sIx its.length 0 lo)).toArray:=by
 obtain ⟨T,O,I⟩:=lW lo hi _;unfold slicePick;rw[T,O,I];simp only [sliceRange_one,pick_run] <;> rfl
def JI (K:Frag):[Z0p]:=λx lo hi H Q=>∃a xs,x=.ref a/\SqL K H a xs/\∀p,H p=none->Q [ZE,p] (upd H p [YM,fR xs lo hi])
def DJ:SlR X (JI X.K):=by
 intro pins s c H x v vl vu lo hi sl Q I T hs pl pu h;obtain ⟨a,xs,rfl,hx,q⟩:=h;cases T;obtain ⟨its,r,O,hz⟩:=I.list hx;have hlen:=r.length;refine ⟨"list",_,slot_list_getitem.lookup,O.isList.typeIs,?_⟩;refine wpAny_getItem_list_slice O.isList hs pl pu .none Xaf ?_ (by rw[qD6] <;> omega)
 rw[kC,<- hlen];refine ⟨.ref _,_,I.laid (o:=_) (λb ob q=>qA2 _ q) (qA6 _) ?_,rfl,q _ (I.hok.fresh (qA6 _))⟩;show ⟨qC8 (fg xs lo hi) hz,_,0,(r.drop _).take _,qB1 _ rfl⟩
def Y3:V->Bool
 | .non=>true
 | .bl _=>true
 | .int _=>true
 | .str _=>true
 |_=>false
noncomputable def eqV:V->V->Bool
 | .non,.non=>true
 | .bl a,.bl b=>a == b
 | .bl a,.int b=>[YL,a,1,0] == b
 | .int a,.bl b=>a == [YL,b,1,0]
 | .int a,.int b=>a == b
 | .str a,.str b=>a == b
 |_,_=>false
def MP (T:RelV y u) (I:RelV x v) (fy:Y3 y=true) (O:Y3 x=true):SeqAt.EqAt A s u v (eqV y x):=by
 cases y with
 | non=>
  cases T;cases x with
  |non=>cases I;show SeqAt.EqAt.same _
  |bl b=>cases I;show SeqAt.EqAt.none_bool b
  |int b=>show 1 t I;show SeqAt.EqAt.none_int b t
  |str b=>show 1 t I;show SeqAt.EqAt.none_str b t
  |_=>show absurd [SF,false=true,O] qC1
 | bl a=>
  cases T;cases x with
  |non=>cases I;show SeqAt.EqAt.bool_none a
  |bl b=>cases I;show SeqAt.EqAt.bool_bool a b
  |int b=>show 1 t I;show SeqAt.EqAt.bool_int a b t
  |str b=>show 1 t I;show SeqAt.EqAt.bool_str a b t
  |_=>show absurd [SF,false=true,O] qC1
 | int a=>
  show 1 t' T;cases x with
  |non=>cases I;show SeqAt.EqAt.int_none a t'
  |bl b=>cases I;show SeqAt.EqAt.int_bool a t' b
  |int b=>show 1 t I;show SeqAt.EqAt.int_int a t' b t
  |str b=>show 1 t I;show SeqAt.EqAt.int_str a t' b t
  |_=>show absurd [SF,false=true,O] qC1
 | str a=>
  show 1 t' T;cases x with
  |non=>cases I;show SeqAt.EqAt.str_none a t'
  |bl b=>cases I;show SeqAt.EqAt.str_bool a t' b
  |int b=>show 1 t I;show SeqAt.EqAt.str_int a t' b t
  |str b=>show 1 t I;show SeqAt.EqAt.str_str a t' b t
  |_=>show absurd [SF,false=true,O] qC1
 |_=>show absurd [SF,false=true,fy] qC1
def eqU (x:V) (u:Value):Bool:=match u with
 | .none=>eqV .non x
 | .bool b=>eqV (.bl b) x
 | .int i _=>eqV (.int i) x
 | .str z _=>eqV (.str z) x
 |_=>false
def xh (r:RelV y u) (f:Y3 y=true):eqU x u=eqV y x:=by
 cases y with
 |non=>cases r;rfl
 |bl b=>cases r;rfl
 |int i=>show 1 t r;rfl
 |str z=>show 1 t r;rfl
 |_=>show absurd (f) qC1
def jC:∀{xs}{us:ZW},Vals xs us->xs.all Y3=true->us.any (eqU x)=xs.any λy=>eqV y x
 |_,_,.nil,_=>rfl
 | y::xs,u::us,.cons r t,f=>by
  rw[List.all_cons,qE6]at f;rw[qI0,qI0,xh r f.1,jC t f.2]
def fK (T:RelV x v) (O:Y3 x=true):∀{xs}{us:ZW},Vals xs us->xs.all Y3=true->∀u∈us,SeqAt.EqAt A s u v (eqU x u)
 |_,_,.nil,_=>λu I=>by cases I
 | y::xs,u::us,.cons r t,f=>λu' I=>by
  rw[List.all_cons,qE6]at f;rcases qB5.mp I with rfl|I
  .rw[xh r f.1];show MP r T f.1 O
  .show fK T O t f.2 u' I
def inV (x:V)(xs:List V):Bool:=xs.any λy=>eqV y x
def rIn (K:Frag)(neg:Bool):R2:=λx y H Q=>∃p xs,y=.ref p/\(SqL K H p xs\/SqT K H p xs)/\Y3 x=true/\xs.all Y3=true/\Q (.bl [YL,neg,!inV x xs,inV x xs]) H
def vT:[tr,.In,rIn X.K false]:=by
 intro pins s a H x y v u Q I rx ry h;obtain ⟨p,xs,rfl,O,T,fs,q⟩:=h;cases ry;rcases O with O|O
 .obtain ⟨its,r,pl,hz⟩:=I.list O;refine SeqAt.in_listAt _ pl.isList (λw hw=>fK rx T r fs w [SX,hw]) ⟨.bl _,H,I,rfl,?_⟩;rw[show its.toArray.any _=its.any (eqU x) by simp,jC r fs];show q
 .obtain ⟨its,r,pl,hz⟩:=I.tuple O;refine SeqAt.in_tupleAt _ pl (λw hw=>fK rx T r fs w [SX,hw]) ⟨.bl _,H,I,rfl,?_⟩;rw[show its.toArray.any _=its.any (eqU x) by simp,jC r fs];show q
def oJ:C6 X (.builtin "len") (λxs H Q=>∃p ys,xs = [.ref p]/\(SqL X.K H p ys\/SqT X.K H p ys)/\Q (.int ys.length) H):=by
 intro pins s a H xs us Q I r h;obtain ⟨p,ys,rfl,O,q⟩:=h;obtain ⟨u,rfl,rx⟩:=vals1 r;cases rx;have hn:=bF;rcases O with O|O
 .obtain ⟨its,T,pl,hz⟩:=I.list O;have hlen:=T.length;show Calls.call_len_list pl.isList (by simp [qD6] <;> omega) ⟨.int _,H,I.tok _,⟨s.toks+1,by grind⟩,q⟩
 .obtain ⟨its,T,pl,hz⟩:=I.tuple O;have hlen:=T.length;show len_tuple pl (by simp [qD6] <;> omega) ⟨.int _,H,I.tok _,⟨s.toks+1,by grind⟩,q⟩
def S8:C6 X (.builtin "len") (λxs H Q=>∃z,xs = [.str z]/\[Te,z.length]/\Q (.int z.length) H):=by
 intro pins s a H xs us Q I r h;obtain ⟨z,rfl,hz,q⟩:=h;obtain ⟨u,rfl,t,rfl⟩:=vals1 r;have hn:=bF;show len_str ZU ⟨.int _,H,I.tok _,[Tq],q⟩
def kH:C6 X (.type "tuple") (λxs H Q=>∃p ys,xs = [.ref p]/\((SqL X.K H p ys/\[Z0d,.tup ys])\/SqT X.K H p ys/\Q [ZE,p] H)):=by
 intro pins s a H xs us Q I r h;obtain ⟨p,ys,rfl,h⟩:=h;obtain ⟨u,rfl,rx⟩:=vals1 r;cases rx;rcases h with ⟨hq,q⟩|⟨hq,q⟩
 .obtain ⟨its,O,pl,hz⟩:=I.list hq;have hlen:=O.length;refine call_tuple_list pl.isList (λh' kp=>?_) (by simp [qD6] <;> omega)
  have T:=I.kept (t':=s.toks) kp;have I2:=
   T.laid (t':=s.toks) (λb o e=>qA2 _ e) (qA6 _) [SF,ObjOk _ X.w _ _ _ (.tup ys),⟨hz,its,O,IsTup.new ..⟩]
  show ⟨.ref _,_,I2,rfl,q _ (T.hok.fresh (qA6 _))⟩
 .obtain ⟨its,O,pl,hz⟩:=I.tuple hq;show call_tuple_same pl ⟨.ref p,H,I,rfl,q⟩
def tyV (K:Frag) (T:String) (x:V) (H:Hp):Prop:=match x with
 | .str _=>T = "str"
 | .int _=>T = "int"
 | .ref p=>(T = "list" /\ ∃xs,SqL K H p xs)\/(T = "tuple" /\ ∃o,K.lookup p=some o/\o.cls=.type "tuple" /\ o.dict=none) \/
   (T = "dict" /\ ((∃kvs,H p=some (.dK kvs))\/∃kvs,H p=some (.dT kvs)))\/(T = "set" /\ ∃S n,H p=some (.set S n))
 |_=>False
def lM {b:St}(I:[YR,b,H,s]) (r:RelV x v) (ty:tyV X.K T x H):
  s.TypeIs v T/\∀a,v=.ref a->∃ob,s.heap.get? a=some ob/\ob.dict=none:=by
 cases x with
 | str z=>
  show 1 t r;cases show T = "str" from ty
  show ⟨qN4 s z t,λ_ e=>nomatch e⟩
 | int i=>
  show 1 t r;cases show T = "int" from ty
  show ⟨typeIs_int s i t,λ_ e=>nomatch e⟩
 | ref p=>
  cases r;rcases ty with ⟨rfl,xs,hq⟩|⟨rfl,o,hk,hc,hd⟩|⟨rfl,hk⟩|⟨rfl,S,n,hk⟩
  .obtain ⟨its,_,pl,_⟩:=I.list hq;refine ⟨pl.isList.typeIs,λa e=>?_⟩;cases e;obtain ⟨o,n,e,c,hd,_⟩:=pl;show ⟨o,e,hd⟩
  .refine ⟨⟨o,I.kIn p o hk,hc⟩,λa e=>?_⟩;cases e;show ⟨o,I.kIn _ o hk,hd⟩
  .have z:∃o,s.heap.get? p=some o/\o.ExactDict:=by
    rcases hk with ⟨kvs,hk⟩|⟨kvs,hk⟩
    .obtain ⟨_,_,_,_,o,_,_,e,ex,_⟩:=I.hok p _ hk;show ⟨o,e,ex⟩
    .obtain ⟨_,_,_,_,o,_,_,e,ex,_⟩:=I.hok p _ hk;show ⟨o,e,ex⟩
   obtain ⟨o,e,ex⟩:=z;refine ⟨⟨o,e,ex.1⟩,λa O=>?_⟩;cases O;show ⟨o,e,ex.2.1⟩
  .obtain ⟨o,_,_,_,e,ex,_⟩:=I.hok p _ hk;refine ⟨⟨o,e,ex.1⟩,λa O=>?_⟩;cases O;show ⟨o,e,ex.2.1⟩
 |_=>show False.elim ty
def tBM (K:Frag)(T:String)(r:V->List V->Hp->VK->Prop)(I:TE)(t:TA):TE:=λa H Q=>I a H λx H1=>tyV K T x H1/\t a H1 λxs H2=>r x xs H2 Q
def dZ {X}{o e}{es:ZX}{to}{t}{name}{apos TU:Pos}{T id}{r:V->List V->Hp->VK->Prop}(pa:PlainAttrs T) (slot:Slot T name id) (Yy:typeOf (.builtin id)=pure (.type "method_descriptor")) (hm:MtR X id r) (ho:PE X o to) (ha:PA X [TC] t) (TX:[XXa,attributeBase o name X.env [Sy,o]=eval o X.env]) (Ul:((backTo TU (starEach [TC] X.env)).all (λx=>!x.1)&&(backToKw TU (keywordEach [] X.env)).all (λx=>x.1.isSome)
   && [ZL,[ZM,[TC]]+[ZM,([]:List Keyword)]+[Z0j]<30])=true:=by rfl) (TV:[Z0X]:=by rfl) (hs:[Tm,[TC]]=[SJ,e]::[Tm,es]:=by rfl) (Ua:[rd,TU,X.env]:=by rfl):
  PE X (.Call [wr,o,name] [TC] [] TU) (tBM X.K T r to t):=by
 show 7 a;refine wpAny_Call_method_late TX Ul TV rfl (thn [SI,ho,a] λv s1 O=>?_);obtain ⟨x,H1,I1,r1,ty,q1⟩:=O;obtain ⟨h1,h2⟩:=lM I1 r1 ty;refine ⟨T,id,pa,slot,Yy,h1,h2,?_⟩;have hA:=ha TU pins s1 a H1 _ I1 q1;rw[hs]at hA ⊢;refine qN8 (by change (false||(backTo TU _).any _)=false;rw[Ua] <;> rfl) (Calls.evalArgs_plain ?_)
 show thn hA λus s2 a3=>by obtain ⟨vs,H2,I2,r2,q2⟩:=a3;show hm pins s2 a H2 x vs v us Q I2 r1 r2 q2
def MtM (X:Cx) (I:String) (r:V->List V->Hp->VK->Prop):Prop:=
 ∀ (pins:ZQ) (s:Shared) (a:St) (H:Hp) (x:V) (xs:List V) (v:Value) (us:ZW) (Q:VK),([UE])->RelV x v->Vals xs us->r x xs H Q ->
  [yc,call (.builtin I) (v::us),EP X pins a Q]
def Vals.one:∀{x}{us:ZW},Vals [x] us->∃u,us = [u]/\RelV x u:=by
 intro x us r;cases r with
 |cons r t=>cases t;show [WH,rfl,r]
def Vals.rep (h:Vals xs us):∀k,Vals (List.replicate k xs).flatten (List.replicate k us).flatten
 |0=>.nil
 | k+1=>by
  show Vals.append h (Vals.rep h k)
theorem foldl_rep (its:ZW):∀ k (I:ZW),
  List.foldl (λO T=>O++T) I.toArray (List.replicate k its.toArray)=(I++(List.replicate k its).flatten).toArray:=by
 intro k
 induction k <;> grind
def Inv.lset {a:St}{its:ZW}(I:[UE]) (T:H l=some [YM,xs]) (e:s.heap.get? l=some { cls:=.type "list",data:=.seq its.toArray n }) (hf:f its.toArray=Uy.toArray) (O:Vals ys Uy) (hz:[Te,ys.length]):
  [YR,a,upd H l [YM,ys],[SS,s,s.heap.update l (Obj.mapSeq f),t']]:=by
 have q:=PySem.IsL.update e f;rw[hf]at q;refine I.write (e:=l) ([ZO,T,trivial]) [Ws] (λb' u hb hu=>(Heap.get?_update_other _ _ (Ne.symm hb)).trans hu) ⟨_,q⟩ ?_;show ⟨hz,Uy,_,O,q⟩
def Inv.lnew {a:St}(I:[UE]) (O:Vals ys its) (hz:[Te,ys.length]):
  [YR,a,upd H s.heap.objs.size [YM,ys],[SS,s,s.heap.push { cls:=.type "list",data:=.seq its.toArray },t']]:=
 I.laid (λ_ _ q=>qA2 _ q) (qA6 _) ⟨hz,its,0,O,qB1 _ rfl⟩
def Inv.fresh {a:St}(I:[UE]):H s.heap.objs.size=none:=I.hok.fresh (qA6 _)
def Inv.lstM {a:St}(I:[UE]) (O:H l=some [YM,xs]):xs.length<=sizeLine/\∃(its:ZW) (n:Nat),Vals xs its/\xs.length=its.length/\s.heap.get? l=some { cls:=.type "list",data:=.seq its.toArray n }:=by
 obtain ⟨z,its,n,r,e⟩:=I.hok l _ O;show ⟨z,its,n,r,r.length,e⟩
theorem Ab (h:[Te,n]):Builtin.List.listTooLong n=false:=by
 show qK2 ZU
def rAppend:V->List V->Hp->VK->Prop:=λx vs H Q=>∃l xs y,x=.ref l/\vs = [y]/\H l=some [YM,xs]/\xs.length<sizeLine/\Q .non (upd H l [YM,xs ++ [y]])
def jZ:MtM X "list.append" rAppend:=by
 intro pins s a H x vs v us Q I T rv h;obtain ⟨l,xs,y,rfl,rfl,O,hz,q⟩:=h;cases T;obtain ⟨u,rfl,ru⟩:=rv.one;obtain ⟨z,its,n,r,hl,e⟩:=I.lstM O;refine qM2 F.slot_list_append [WH,e,rfl] F.entry_list_append (F.args_list_append_2 ..) (PySem.list_append l _ n u (by rw[qD6];omega)) ⟨e,?_⟩;refine ⟨.non,_,I.lset O e Xaf (r.append (.cons ru .nil)) ?_,rfl,q⟩;rw[qC4,List.length_singleton];omega
def rCat:R2:=λx y H Q=>∃l b xs zs,x=.ref l/\y=.ref b/\H l=some [YM,xs]/\H b=some [YM,zs]/\xs.length+zs.length<=sizeLine/\∀p,H p=none->Q [ZE,p] (upd H p [YM,xs++zs])
def A9:OpR X (binaryOp .Add) rCat:=by
 intro pins s a H x y v u Q I rx ry h;obtain ⟨l,b,xs,zs,rfl,rfl,hH,hB,hz,q⟩:=h;cases rx;cases ry;obtain ⟨z,its,n,r,hl,e⟩:=I.lstM hH;obtain ⟨z2,O,n2,r2,a3,T⟩:=I.lstM hB;refine PySem.P.add_list e T ?_ (by rw[qD6,qD6];omega);have ea:its.toArray++O.toArray=(its++O).toArray:=Xaf;rw[ea];show ⟨.ref _,_,I.lnew (r.append r2) (by rw[qC4];omega),rfl,q _ I.fresh⟩
def rRep:R2:=λx y H Q=>∃l k xs,x=.ref l/\y=.int k/\H l=some [YM,xs] /\ -(2^63)<=k/\k<2^63/\[Te,xs.length*k.toNat] /\
 ∀p,H p=none->Q [ZE,p] (upd H p [YM,(List.replicate k.toNat xs).flatten])
def len_rep {a:Type}(xs:List a) k:(List.replicate k xs).flatten.length=k*xs.length:=by
 simp_all
def gK:OpR X (binaryOp .Mult) rRep:=by
 intro pins s b H x y v u Q I rx ry h;obtain ⟨l,k,xs,rfl,rfl,hH,h1,h2,hz,q⟩:=h;cases rx;show 1 t ry;obtain ⟨z,its,n,r,hl,e⟩:=I.lstM hH;have hlen:[Te,its.toArray.size*k.toNat]:=by rw[qD6,<- hl];show hz
 have a3:¬ its.toArray.size*k.toNat>(2^63-1)/8:=by
  have:sizeLine<=(2^63-1)/8:=Xaa
  omega
 have T:¬ (!Builtin.List.listFitsIndex k)=true:=by
  rw[fitsIndex_both h1 h2];show qC1
 have O:¬ Builtin.List.listTooLong (its.toArray.size*k.toNat)=true:=by
  grind[Ab]
 have a4:List.foldl (λx1 x2=>x1++x2) #[] (List.replicate [YL,its.toArray.isEmpty=true,0,k.toNat] its.toArray)=(List.replicate k.toNat its).flatten.toArray:=by
  have f0:∀m,List.foldl (λx1 x2=>x1++x2) #[] (List.replicate m its.toArray)=(List.replicate m its).flatten.toArray:=λm=>by
   grind[foldl_rep]
  rw[f0];cases its with
  |nil=>simp
  |cons a r'=>rw[qA9 Xaf]
 refine wpAny_binaryOp_repeat_ref (U := "int") Xaa [WH,e,rfl] (λs'=>typeIs_int s' k t) noFill_list_mul F.fills_int_mul F.slot_int_rmul repeat_list F.slot_int_index.lookup
  (qM2 F.slot_int_rmul (typeIs_int s k t) F.entry_int_rmul (F.args_int_rmul_2 _ _) (int___rmul___int_list k t l its.toArray n)
   ⟨e,rfl,[WH,e,rfl],qM2 F.slot_list_mul [WH,e,rfl] F.entry_list_mul (F.args_list_mul_2 _ _) (AutoListH.list___mul___list_int_3 l its.toArray n k t T a3 O) ⟨e,?_⟩⟩)
 rw[a4];show ⟨.ref _,_,I.lnew (t':=s.toks) (r.rep k.toNat) (by rw[len_rep,Nat.mul_comm];show hz),rfl,q _ I.fresh⟩
end L2
namespace Att
open PySem PySem.W PySem.Calls PyProof.Rows
def ia:∀(ns:Xaj) (vs:ZW),WellAll P h vs (ns.map WData.int)->IntsAre vs ns:=by
 intro ns
 induction ns with
 | nil=>
  intro vs w;cases w;show .nil
 | cons n ns I=>
  intro vs w;cases w with
  | cons a b=>
   cases a;show .cons _ _ (I _ b)
def uW {l:OpenLaw}(hn:l.most=some n) (T:l.row.toRowW.claim.pre args=true) (Yv:WellAll P h vals args):
  ∃a vs ns,vals = [Value.ref a]/\args = [WData.list (ns.map WData.int)]/\h.get? a=some { cls:=.type "list",data:=.seq vs.toArray }/\IntsAre vs ns/\ns.length<=n:=by
 have O:=(pre_splitW T).1;have hc:_=true:=(pre_splitW T).2;obtain ⟨d,r,rfl,h1,h2⟩:=hasAllW_cons O;obtain rfl:=hasAllW_nil h2;obtain ⟨xs,rfl,h3⟩:=hasW_list h1;show 1 ns (items_int h3);have hlen:ns.length<=n:=by
  have I:(WTm.not (.lt (.lit (.int (n:Int))) (.len (.arg 0)))).holds [] { args:=[.list (ns.map .int)] }=true:=by
   have I:=(holds_andW hc).1;rw[hn]at I;show I
  have h5:=condW_of I (w_not (w_lt w_lit (w_len_list (w_arg rfl))))
  grind
 cases Yv with
 | cons w1 w2=>
  cases w2;cases w1 with
  |list ho Ur=>show ⟨_,_,ns,rfl,rfl,ho,ia ns _ Ur,hlen⟩
def vF (l:OpenLaw) args:l.row.toRowW.claim.post args (.bool true) args=true:=
 postW_of (X:=_)
  ([TQ,WShape.has [] _ .bool=true])
  (w_eq_bool (w_res rfl) w_lit) rfl
end Att
namespace L2
open PySem PySem.Spec PyProof.Rows
def uA:∀{vs:ZW}{ns:Xaj},IntsAre vs ns->Vals (ns.map V.int) vs:=by
 intro vs ns h
 induction h with
 |nil=>show .nil
 |cons n t h I=>show .cons ⟨t,rfl⟩ I
def uh (H:Hp):Prop:=∀b,H b=none\/∃o xs,H b=some (.frz o [YM,xs])
def AC {K:Frag}(KX:K.In s₁.heap) (UJ:s₁.heap.Ns mainGlobals mg) (I:s₁.heap.Ns builtinsNs mb) (a5:∀x:Str,x ≠ "__name__" -> mb x=bootBuiltins x) (a4:s₁.heap.NoLimit) (hg:s₁.gens=#[]) (ha:s₁.heap.get? a=some { cls:=.type "list",data:=.seq vs.toArray }) (hi:IntsAre vs ns) (hl:[Te,ns.length]) (hr:Room k callerA) (F:∀base:Heap,K.In base->base.Ns mainGlobals mg->FnOk P w K mg base CX k fa fd [x] sp) (O:∀ s u,BindsTo s fd ⟨[u],[]⟩ [(x,u)]) (Vp:∀H:Hp,uh H->SqL K H a (ns.map V.int)->sp [.ref a] H (λv _=>v=.bl true) λ_ _ _=>False) (Xr:∀H e s',CX [] H s₁ (λ_ _ _=>False) e s'->False):
  codeAny (model P w) callerA (.call [ZE,fa] ⟨[.ref a],[]⟩) (λr s'=>r=.ok (.ret (.bool true))/\OldK s₁.heap s'.heap/\s'.os=s₁.os/\AllBare s'.gens) s₁:=by
 have rv:=uA hi;have a6:=hi.length
 -- from an abstract heap in which nothing but the script may be tracked
 have core:∀H,uh H->SqL K H a (ns.map V.int)->HOk P w H s₁.heap->(∀b,H b≠none->b=a)->(H a≠none->K.lookup a=none) ->
   codeAny (model P w) callerA (.call [ZE,fa] ⟨[.ref a],[]⟩) (λr s'=>r=.ok (.ret (.bool true))/\OldK s₁.heap s'.heap/\s'.os=s₁.os/\AllBare s'.gens) s₁:=by
  intro H hO hS hok hA hK;have Vi:∀{b:Addr}{o:Obj},_=_->H b=none->(jj s₁.heap H).get? b=some o:=λe n=>AM e n;have WR:∀{b:Addr}{o:Obj}{es:_}{ep:Nat},[TN,s₁.heap.get?]->o.data=.dict es ep->H b=none:=λ{b o es ep} e d=>by
   grind
  have XI:∀{b:Addr}{m:Str->_},s₁.heap.Ns b m->(jj _ H).Ns b m:=λ{b m} zz56=>by obtain ⟨o,es,ep,e,d,r⟩:=zz56;show ⟨o,es,ep,Vi e (WR e d),d,r⟩
  have a3:=λb o e=>Vi (KX b o e) (by
   grind)
  have hM:Mod K mg _:=⟨a3,XI UJ,⟨mb,XI I,a5⟩,let ⟨mc,h1,h2⟩:=a4;⟨mc,XI h1,h2⟩⟩;have e0:Env0 P w K mg _ callerA [] s₁ H:=⟨rfl,hM,λb o e=>ES e,qR4 (wP ..),trivial,λb I=>absurd [SF,b∈([]:List Addr),I] Xaf,hok,.of_eq hg⟩;refine qL6 ((F _ a3 (XI UJ)).run callerA [] s₁ H ⟨[.ref a],[]⟩ [.ref a] [.ref a] _ _ hr e0 (O s₁ [ZE,a]) (.cons rfl .nil) (Vp H hO hS)) λr s' h=>?_;cases r with
  |error e=>show (Xr H e s' h).elim
  | ok fl=>
   cases fl with
   |next=>show False.elim h
   |brk=>show False.elim h
   |cont=>show False.elim h
   | ret u=>
    obtain ⟨v,H',os,bare,un,T,r',q⟩:=h;have q':v=.bl true:=q;subst q';obtain rfl:u=Value.bool true:=r';refine ⟨rfl,OldK.of_keep λb o e=>?_,os,bare⟩;cases q:H b with
    |none=>show un.keep b o e q (by intro z;show absurd [SF,b∈([]:List Addr),z] Xaf) Xaf
    | some u=>
     rcases hO b with z|⟨ob,xs,z⟩
     .omega
     .have z2:=un.frzs b ob _ z;obtain ⟨e1,_⟩:=hok b _ z;obtain ⟨e2,_⟩:=T b _ z2;omega
 cases hk:K.lookup a with
 | some o=>
  -- the script is one of the module's own objects
  have e:=KX a o hk;rw[ha]at e;cases e;refine core (λ_=>none) (λ_=>.inl rfl) (.inr ⟨_,vs.toArray,_,hk,rfl,rfl,rfl,by grind,ZU⟩) (λb u z=>ZU) (λb z=>absurd rfl z) λz=>absurd rfl z
 | none=>
  refine core (λb=>if b=a then some (.frz { cls:=.type "list",data:=.seq vs.toArray } (.lst (ns.map V.int))) else none) (λb=>?_) (.inl (.inr ⟨{ cls:=.type "list",data:=.seq vs.toArray },qA3 rfl⟩)) (λb u z=>?_) (λb z=>?_) λ_=>hk
  .grind
  .by_cases I:b=a
   .have z':=(qA3 I).symm.trans z;cases z';subst I;show ⟨ha,[ZO,qA1,hl],vs,_,rv,ha⟩
   .have z':=(qA9 I).symm.trans z;cases z'
  .by_cases I:b=a
   .show I
   .show absurd (qA9 I) z
abbrev CX0:CXT:=λ_ _ _ _ _ _=>False
abbrev E0:XK:=λ_ _ _=>False
def ee:W5 CX0 X E0:=λ_ _ _ _ _ _ _ h=>h.elim
structure Fun (K:Frag) (x qual:Str) (st:Stmt) (f:Addr) (fd:FuncData):Prop where
 ex:∃(oc:Value) (od:Option Addr) (kV doc pm:Value) (an:Option Addr) (Uc ct:Value) (Vr:Array Uj),
  fd=PySem.W.fnOf x qual (K8 st) (z7 st) (d8 st) .none kV doc pm an Uc ct/\K.lookup f=some ⟨oc,od,.func fd,Vr⟩/\PySem.W.codeIn K Uc qual=true
 kp:PySem.W.keepIn K (.ref f)=true
def Fun.ok {K}{st}(F:Fun K x qual st f fd) (S:K9 N ps (d8 st)) (len:∀vs H Q E,sp vs H Q E->vs.length=ps.length) (I:∀ Uc (A:Around) (outer:List Env) s H (vs:List V) Q E,Room k (A.deeper (envOfC qual (d8 st) s.heap.objs.size f Uc))->sp vs H Q E ->
   ∃t,PSs (i4 CX0 P w K mg base N qual (d8 st) f Uc A outer s H E).nox (z7 st) t/\t { nx:=λ_ H'=>Q .non H',rt:=Q } (start N vs) H):FnOk P w K mg base CX0 (k+1) f fd ps sp:=by
 obtain ⟨oc,od,kV,doc,pm,an,Uc,ct,Vr,rfl,lk,O⟩:=F.ex;refine CM lk O S len λA outer s H vs Q E hr T=>?_;obtain ⟨t,h,q⟩:=I Uc A outer s H vs Q E hr T;show ⟨t,h.nox,q⟩
def Fun.binds {K}{st}(F:Fun K x qual st f fd) (h:∀ kV doc pm an Uc ct (us:ZW),us.length=ps.length->bindArgs (PySem.W.fnOf x qual (K8 st) (z7 st) (d8 st) .none kV doc pm an Uc ct) ⟨us,[]⟩=pure (ps.zip us)):Binds K fd ps []:=by
 obtain ⟨oc,od,kV,doc,pm,an,Uc,ct,Vr,rfl,lk,I⟩:=F.ex;show .all (h kV doc pm an Uc ct)
def af {K:Frag}{st}{kV}(l:K.lookup f=some ⟨oc,od,.func (PySem.W.fnOf x qual (K8 st) (z7 st) (d8 st) .none kV doc pm an Uc ct),Vr⟩)(c:PySem.W.codeIn K Uc qual=true)(k:PySem.W.keepIn K [ZE,f]=true):Fun K x qual st f (PySem.W.fnOf x qual (K8 st) (z7 st) (d8 st) .none kV doc pm an Uc ct):=⟨⟨oc,od,kV,doc,pm,an,Uc,ct,Vr,rfl,l,c⟩,k⟩
def jQ (h:n<=1000):n<sizeLine:=qG6 h Xaa
def pv {X}i{x}{pos}(T:[ZI,X.N,x]:=by rfl)(I:[cz]:=by first|show Or.inl rfl|show Or.inr (Or.inl rfl)|show Or.inr (Or.inr rfl))(hd:(x == ("__debug__"))=false:=by decide)(O:(x == ("__classdict__"))=false:=by decide):PE X [YD,x,pos] (z8 i):=x9 T I hd O
def Same (H H':Hp):Prop:=∀b o,[TN,H]->[TN,H']
def Same.refl H:Same H H:=λ_ _ h=>h
def Same.trans (a:Same H H1)(b:Same H1 H2):Same H H2:=λc o h=>b c o (a c o h)
def Same.free (e:Same H H') (h:H' l=Option.none):H l=Option.none:=by
 cases q:H l with
 |none=>rfl
 | some o=>
  rw[e l o q]at h;cases h
theorem Same.seq {K}(e:Same H H') (h:SqL K H a xs):SqL K H' a xs:=by
 rcases h with (h|⟨o,h⟩)|h
 .show .inl (.inl (e _ _ h))
 .show .inl (.inr ⟨o,e _ _ h⟩)
 .show .inr h
def Dk (h h':Heap):Prop:=∀b o,[TN,h.get?]->∃o',h'.get? b=some o'/\o'.cls=o.cls/\o'.dict=o.dict
def Dk.refl h:Dk h h:=λb o e=>⟨o,e,rfl,rfl⟩
def Dk.trans (a:Dk h h1) (b:Dk h1 h2):Dk h h2:=λc o e=>by
 obtain ⟨o1,O,c1,d1⟩:=a c o e;obtain ⟨o2,I,T,d2⟩:=b c o1 O;show ⟨o2,I,T.trans c1,d2.trans d1⟩
structure KD {α:Type}(t:Sem α):Prop where
 out:∀(M:Model) (Γ:PySem.Ctx) (P:α->Pos->Shared->Prop) (Ee:Value->Pos->Shared->Prop) (p:Pos) (s:Shared),
  Sem.wp M Γ t P Ee p s->Sem.wp M Γ t (λa p' s'=>P a p' s'/\Dk s.heap s'.heap) Ee p s
def KD.pure (a:b):KD (pure a):=⟨λM Γ P Ee p s h=>⟨h,Dk.refl _⟩⟩
def KD.uns w:KD (unsupported w:Sem a):=⟨λM Γ P Ee p s h=>h⟩
def KD.bind {f:c->Sem e}(hm:KD m) (hf:∀a,KD (f a)):KD (m>>=f):=⟨λM Γ P Ee p s h=>by
 have h':Sem.wp M Γ (m.bind f) P Ee p s:=h;rw[qG5]at h'
 change Sem.wp M Γ (m.bind f) _ Ee p s;rw[qG5];refine qI5 M Γ m ?_ ?_ p s (hm.out M Γ _ Ee p s h')
 .intro a p' s' ⟨q,d⟩;show qI5 M Γ _ (λb p2 s2 I=>by obtain ⟨O,d2⟩:=I;show ⟨O,d.trans d2⟩) (λ_ _ _ x=>x) p' s' ((hf a).out M Γ _ Ee p' s' q)
 omega⟩
def KD.load a:KD (load a):=⟨λM Γ P Ee p s h=>by
 obtain ⟨o,e,q⟩:=h;show ⟨o,e,q,Dk.refl _⟩⟩
def KD.stack:KD stack:=⟨λM Γ P Ee p s h=>⟨h,Dk.refl _⟩⟩
def Dk.push:Dk h (h.push o):=λb u e=>⟨u,qA2 _ e,rfl,rfl⟩
def KD.alloc o:KD (alloc o):=⟨λM Γ P Ee p s h=>⟨h,Dk.push⟩⟩
def KD.ite [Decidable c]{a:Sem d}(ha:KD a) (I:KD b):KD (if c then a else b):=by
 omega
theorem pG {h:Heap}(e:h.get? a=some o):o.isFreed=false:=by
 obtain ⟨c,d,I,sl⟩:=o;unfold Heap.get? at e
 split at e
 .cases e
 .cases I with
  |freed=>omega
  |_=>rfl
def Dk.update (hc:∀o,(f o).cls=o.cls) (hd:∀o,(f o).dict=o.dict) (hf:∀o,o.isFreed=false->(f o).isFreed=false):Dk h (h.update a f):=by
 intro b o e
 grind[PySem.Heap.get?_update_self,pG,PySem.Heap.get?_update_ne]
def KD.update a (hc:∀o,(f o).cls=o.cls) (hd:∀o,(f o).dict=o.dict) (hf:∀o,o.isFreed=false->(f o).isFreed=false):KD (update a f):=
 ⟨λM Γ P Ee p s h=>⟨h.1,h.2,Dk.update hc hd hf⟩⟩
def KD.fieldsOf v:KD (fieldsOf v):=by
 unfold PySem.fieldsOf
 split
 .show KD.bind (KD.load _) λo=>by split <;> first|show KD.pure _|show KD.uns _
 .show KD.uns _
def KD.field v i:KD (field v i):=by
 unfold PySem.field;show KD.bind (KD.fieldsOf v) λo=>by split <;> first|show KD.pure _|show KD.uns _
def Ar f o:(Obj.mapFields f o).cls=o.cls:=by
 obtain ⟨c,d,I,sl⟩:=o;cases I <;> rfl
def wg f o:(Obj.mapFields f o).dict=o.dict:=by
 obtain ⟨c,d,I,sl⟩:=o;cases I <;> rfl
def sO f o (h:o.isFreed=false):(Obj.mapFields f o).isFreed=false:=by
 obtain ⟨c,d,I,sl⟩:=o;cases I <;> first|rfl|show h
def KD.setField v i x:KD (setField v i x):=by
 unfold PySem.setField
 split
 .unfold PySem.updateField;refine KD.bind (KD.load _) λo=>?_
  split
  .show KD.ite (KD.update _ (Ar _) (wg _) (sO _)) (KD.uns _)
  .show KD.uns _
 .show KD.uns _
def KD.setFlight v f:KD (setFlight v f):=by
 unfold PySem.setFlight;show KD.bind (KD.field _ _) λo=>KD.ite (KD.setField _ _ _) (KD.pure _)
def KD.newEntry a b c d e (l:ZW):KD (EntryCells.newEntry a b c d e l):=by
 refine KD.ite (KD.bind (KD.uns _) λ_=>?_) ?_
 all_goals show KD.bind (KD.alloc _) λ_=>KD.pure _
def KD.behind env l:KD (behindIsImport env l):=by
 show KD.ite (KD.pure _) (KD.ite (KD.pure _) (KD.bind (KD.field ..) λ_=>KD.pure _))
def KD.under:KD underTheClaimsCaller:=KD.bind KD.stack λ_=>KD.pure _
def KD.keptBack env b l:KD (keptBack env b l):=by
 unfold PySem.keptBack
 split
 .show KD.ite (KD.pure _) (KD.bind KD.under λ_=>KD.pure _)
 .show KD.pure _
def KD.ready:∀l,KD (readyFrames l)
 | []=>KD.pure _
 | env::l=>by
  rw[readyFrames.eq_2]
  split
  .refine KD.bind (KD.load _) λo=>KD.ite (KD.pure _) (KD.bind (KD.behind ..) λ_=>KD.bind (KD.keptBack ..) λ_=>KD.bind (KD.update _ (λ_=>rfl) (λ_=>rfl) λo h=>?_) λ_=>KD.ready l);obtain ⟨c,d,I,sl⟩:=o;cases I <;> first|rfl|show h
  .show KD.uns _
def KD.frameOf env:KD (PySem.frameOf env):=by
 refine KD.bind (KD.bind KD.stack λ_=>KD.pure _) λl=>KD.bind ?_ λo=>?_
 .unfold frameObject
  split
  .show KD.pure _
  .show KD.bind (KD.ready _) λ_=>KD.pure _
 .split <;> first|show KD.pure _|show KD.uns _
def KD.entryPlace f b:KD (entryPlaceOf f b):=by
 refine KD.bind KD.stack λo=>?_
 split <;> show KD.pure _
def KD.noteFrame e env:KD (noteFrame e env):=by
 unfold PySem.noteFrame
 split
 .refine KD.bind (KD.field _ _) λhd=>?_;refine KD.ite (KD.bind (KD.field _ _) λx=>KD.ite (KD.pure _) (KD.bind (KD.setField _ _ _) λ_=>?_)) ?_
  all_goals show KD.bind (KD.frameOf _) λ_=>KD.bind (KD.entryPlace _ _) λ_=>KD.bind (KD.newEntry _ _ _ _ _ _) λ_=>KD.setField _ _ _
 .show KD.uns _
def KD.leaving env e:KD (leaving env e):=KD.bind (KD.noteFrame e env) λ_=>KD.setFlight _ _
def KD.any {t:Sem b}(k:KD t) (h:wpAny M A t Q E s):wpAny M A t (λa s'=>Q a s'/\Dk s.heap s'.heap) E s:=
 λΓ p hΓ=>k.out M Γ _ _ p s (h Γ p hΓ)
def cut (h:Heap)(fs:List Addr):Heap:={ h with objs:=h.objs.mapIdx λi o=>if i∈fs then { o with data:=.freed } else o }
theorem dG (I:b∈fs):(cut h fs).get? b=none:=by
 unfold cut Heap.get?;simp [Array.getElem?_mapIdx];cases e:h.objs[b]? with
 |none=>rfl
 |some o=>simp [I]
theorem U5 (I:b∉fs):(cut h fs).get? b=h.get? b:=by
 unfold cut Heap.get?;simp [Array.getElem?_mapIdx];cases e:h.objs[b]? with
 |none=>rfl
 |some o=>simp [I]
def aE:(cut h fs).StaysIn h:=λb o e=>by
 grind[dG,U5]
def FunFrames.rebase {h:Heap}:∀{l},(∀L∈frs l,B.get? L=none)->h.FunFrames base l->h.FunFrames B l
 | [],_,_=>trivial
 | env::l,k,⟨hk,⟨L,o,hf,_,ho,hd⟩,r⟩=>by
  refine ⟨hk,⟨L,o,hf,k L ?_,ho,hd⟩,FunFrames.rebase (λI O=>k I ?_) r⟩
  all_goals grind[frs]
def HOk.fly {B:Heap}(x:HOk P w H h) (st:B.StaysIn h) (I:B.StaysIn h') (inB:∀b o,[TN,H]->∃ob,B.get? b=some ob):HOk P w H h':=λa o e=>
 (x a o e).stay (λb u O q=>by
  have y:∃ob,H b=_:=O.elim (λz=>z ▸ ⟨o,e⟩) λz=>⟨_,z⟩;obtain ⟨ob,z⟩:=y;obtain ⟨T,y⟩:=inB b ob z;have t:=st b T y;rw[q]at t;cases t;show I b _ y) (λ_ q=>q) λ_ _ q=>q
def Un.fly {B:Heap}(u:Un fs [] H H' h0 h) (st:B.StaysIn h) (Uo:B.StaysIn h') (up:h.UpToSlots h') (all:∀b o,[TN,h0.get?]->b∉fs->∃o',B.get? b=some o') (fr:∀b∈fs,∃o,[TN,h.get?]/\∀vs,o.data≠.fields vs):Un fs [] H H' h0 h' where
 keep b o q n I hx:=by
  have t:=u.keep b o q n I hx;obtain ⟨o',y⟩:=all b o q I;have z:=st b o' y;rw[t]at z;cases z;show Uo b _ y
 slot b o q n I hx:=by
  obtain ⟨sl,e⟩:=u.slot b o q n I hx;obtain ⟨o2,O,nd⟩:=fr b I;rw[e]at O;cases O;obtain ⟨Wy,T⟩:=up b _ e nd;show ⟨Wy,T⟩
 free:=u.free
 there b o q hx:=by
  by_cases I:b∈fs
  .obtain ⟨o2,O,nd⟩:=fr b I;obtain ⟨Wy,T⟩:=up b _ O nd;show ⟨_,T⟩
  .obtain ⟨o',y⟩:=all b o q I;show ⟨_,Uo b _ y⟩
 tups:=u.tups
 frzs:=u.frzs
 tbls:=u.tbls
def ObjOk.got (x:ObjOk P w H h a o):∃ob,h.get? a=some ob:=by
 cases o with
 |lst xs=>obtain ⟨_,_,_,_,e⟩:=x;show ⟨_,e⟩
 |tup xs=>obtain ⟨_,_,_,ob,e,_⟩:=x;show ⟨_,e⟩
 |dK kvs=>obtain ⟨_,_,_,_,o,_,_,e,_⟩:=x;show ⟨_,e⟩
 |dT kvs=>obtain ⟨_,_,_,_,o,_,_,e,_⟩:=x;show ⟨_,e⟩
 |set S n=>obtain ⟨o,_,_,_,e,_⟩:=x;show ⟨_,e⟩
 |ins C dx fs=>obtain ⟨_,_,_,e,_⟩:=x;show ⟨_,e⟩
 |own y=>obtain ⟨_,e⟩:=x;show ⟨_,e⟩
 |xd fs=>obtain ⟨_,⟨_,_,_,e,_⟩,_⟩:=x;show ⟨_,e⟩
 |rng lo hi=>obtain ⟨_,_,_,e⟩:=x;show ⟨_,e⟩
 |frz ob u=>obtain ⟨e,_⟩:=x;show ⟨_,e⟩
 |tbl ps=>show ⟨_,x⟩
 |met f y=>show ⟨_,x⟩
 |ext φ=>show x.2.1
structure uj (P:Program) (w:World) (outer:List Env) (H:Hp) (s:Shared) (a:Addr) (B:Heap) (H':Hp) (cls:Value) (od:Option Addr) (s':Shared):Prop where
 fl:∃a0,B.FlyingW outer a cls a0 s'.heap
 dict:∃o,s'.heap.get? a=some o/\o.dict=od
 os:s'.os=s.os
 bare:AllBare s'.gens
 un:Un (frs outer) [] H H' s.heap s'.heap
 hok:HOk P w H' s'.heap
 inB:∀b o,H' b=some o->∃ob,B.get? b=some ob
 all:∀b o,s.heap.get? b=some o->b∉frs outer->∃o',B.get? b=some o'
def CXW (P:Program)(w:World):CXT:=λouter H s E e s'=>∃a B H' cls od,e=.ref a/\uj P w outer H s a B H' cls od s'/\E cls od H'
def tE {h:Heap}(F:h.FunFrames B l):∀b∈frs l,∃o,[TN,h.get?]/\∀vs,o.data≠.fields vs:=λb I=>(F.mem I).2
theorem du {s:Shared}(e:[SR]) (I:b∉frs outer):b∉frs ([Z0B]::outer):=by
 have:frs (envOfC qual scope _ f cd::outer)=s.heap.objs.size::_:=rfl
 intro z;rcases qB5.mp z with z|z
 .show absurd (qB2 e) (by rw[z];show qE7 _)
 .show I z
def qH {K}{c:St}{B:Heap}(I:Inv [Z0Y] pins c H' s2) (st:B.StaysIn s2.heap) (dict:∃o,s2.heap.get? a=some o/\o.dict=od) (inB:∀b o,[TN,H']->∃ob,B.get? b=some ob) (all:∀b o,([SR])->b∉frs outer->∃o',B.get? b=some o') (fl:B.FlyingW outer a cls a0 h') (up:s2.heap.UpToSlots h') (d:Dk s2.heap h') (T:E cls od H'):CXW P w outer H s E [ZE,a] [To,s2,h']:=by
 refine ⟨a,B,H',cls,od,rfl,⟨⟨a0,fl⟩,?_,I.os,I.bare,?_,HOk.fly I.hok st fl.1 inB,inB,all⟩,T⟩
 .obtain ⟨o,e,q⟩:=dict;obtain ⟨o',e',_,O⟩:=d a o e;show ⟨o',e',O.trans q⟩
 .show Un.fly I.base st fl.1 up all (tE I.funs)
def kY {K}:W5 (CXW P w) [Z0Y] E:=by
 rintro pins c H1 s1 e s2 I ⟨a,B,H',cls,od,rfl,F,hE⟩;have I2:=I.call' F.os F.un F.hok F.bare (λb z=>absurd z Xaf);obtain ⟨a0,fl⟩:=F.fl;refine qK9 (KD.any (KD.leaving ..) (wpAny_leaves_onW (Q:=λ_ T=>∃h',T=[To,s2,h']/\B.FlyingW outer a cls a0 h'/\s2.heap.UpToSlots h') I.ok.frames rfl fl λh' f u=>⟨h',rfl,f,u⟩)) (λ_ T O=>?_) λ_ _ x=>x;obtain ⟨⟨h',e,f,u⟩,d⟩:=O;subst e;refine qH I2 fl.1 F.dict F.inB (λb o q hb=>?_) f u d hE;obtain ⟨o1,q1⟩:=I.base.there b o q (by simp [i4]);show F.all b o1 q1 (du q hb)
def eX {K}{c:St}(I:Inv [Z0Y] pins c H' s2) (he:s2.heap.get? a=some oe) (ha:s.heap.get? a=none) (hH:H' a=none) (a3:a∉frs ([Z0B]::outer)) (hd:oe.data=.fields vs) (T:vs[1]?=some .none) (h0:vs[0]?=some a0) (hE:E oe.cls oe.dict H'):
  [Z0Y].xe [ZE,a] s2:=by
 have hB:∀{b:Addr},b∉_->b≠a->(cut s2.heap (a::frs ([Z0B]::outer))).get? b=s2.heap.get? b:=λT h2=>
  U5 λz=>(qB5.mp z).elim h2 T
 have ff:s2.heap.FunFrames (cut s2.heap (a::frs ([Z0B]::outer))) ([Z0B]::outer):=
  FunFrames.rebase (λL hL=>dG (qA5 _ hL)) I.stack
 refine qK9 (KD.any (KD.leaving _ _) (wpAny_leaving_firstW (Q:=λ_ UF=>∃h',UF=[To,s2,h']/\(cut s2.heap (a::frs ([Z0B]::outer))).LeftW ([Z0B]::outer) a oe.cls a0 s2.heap h') I.ok.frames ff rfl he aE (dG qB3) hd T h0 λh' l=>⟨h',rfl,l⟩)) (λ_ UF O=>?_) λ_ _ x=>x;obtain ⟨⟨h',e,l⟩,d⟩:=O;subst e;obtain ⟨l1,l2,l3,l4⟩:=l;refine qH I aE ⟨oe,he,rfl⟩ (λb o q=>?_) (λb o q hb=>?_) (a0:=a0) ⟨l1,dG qB3,l2.2.2,l3⟩ l4 d hE
 .have hb:b∉frs ([Z0B]::outer):=λz=>by
   have:=I.stkFree b z;omega
  have Ud:b≠a:=λz=>ZU;obtain ⟨ob,eb⟩:=(I.hok b o q).got
  grind
 .have Ud:b≠a:=λz=>ZU;obtain ⟨o1,q1⟩:=I.base.there b o q (by simp [i4])
  grind[du]
def cB {K}(O:K.In h) (I:PySem.W.InstAt h x ox C od) (hs:PySem.W.mroIn K C T=some b):PySem.W.Looks M h (isInstance [ZE,x] T) b:=by
 intro A Q E s hh q;show qA0 (I.type A _ E s hh (PySem.W.looks_mroIn O hs A _ E s hh q))
def qF:builtinKind "BaseException.__getattribute__" = some Manifest.AttrKind.slot:=ZU
def lV:splitId "BaseException.__getattribute__" = some ("BaseException","__getattribute__"):=ZU
def xg {K}{fill}(O:K.In s.heap) (I:PySem.W.InstAt s.heap x ox C od) (T:[Z0z]) (hh:[Z10]) (hs:[Z0k]) (S:Slot "ValueError" (Str.ofString "__getattribute__") "BaseException.__getattribute__") (hf:PySem.W.findObj K C od name=some (.value v)) (hv:handedOut v=Pure.pure v) (q:Q v s):[ST,getAttrBy [ZE,x] (.str name tk) fill expr]:=by
 refine qK6 (qA0 (I.type A _ E s (λ_ _ e=>e) (qA0 (qH2 O T A _ E s (λ_ _ e=>e) ?_))));unfold getAttrByItsOwn;refine qA0 (PySem.W.looks_hook O ((qA3 (rfl)).trans hh) A _ E s (λ_ _ e=>e) (qA0 (qM4 (qK6 ?_))));unfold callGetattribute;have e1:(expr&&onTheHeap (Value.builtin "BaseException.__getattribute__"))=false:=[Z03,expr]
 rw[e1];unfold boundAndCalled;refine qA0 (qK4 ?_);refine qL9 (qO4 S.plain F.entry_bexc_ga ?_);refine qQ1 (i := "BaseException.__getattribute__") (rest:=_) (owner := "BaseException") qF lV (cB O I hs) (F.args_bexc_ga ..) ?_;refine qA0 (qK4 ?_);refine qA0 (qK4 ?_);refine qA0 (I.type _ _ _ s (λ_ _ e=>e) (qA0 (PySem.W.looks_find O I hf _ _ _ s (λ_ _ e=>e) ?_)));simp_all[wpAny]
def Gq {K}(O:K.In s.heap) (I:PySem.W.InstAt s.heap x ox C od) (T:[Z0z]) (hh:[Z10]) (hs:[Z0k]) (hf:PySem.W.findObj K C od name=some (.value v)) (hv:handedOut v=Pure.pure v) (q:Q v { s with toks:=s.toks+1 }):[ST,getAttr [ZE,x] name expr]:=by
 show qA0 (wpAny_mkText (xg O I T hh hs F.attr_ValueError.ga hf hv q))
def pJ {K}{fill}(O:K.In s.heap) (I:PySem.W.InstAt s.heap x ox C od) (T:[Z0z]) (hh:[Z10]) (hs:[Z0k]) (ho:PySem.W.mroIn K C (.type "object")=some true) (S:Slot "ValueError" (Str.ofString "__getattribute__") "BaseException.__getattribute__") (hf:PySem.W.findObj K C od (Str.ofString "__class__")=some (.bind (.builtin "getset_descriptor.__get__") (.builtin "object.__class__"))) (q:Q [ZE,C] s):
  [ST,getAttrBy [ZE,x] (.str (Str.ofString "__class__") tk) fill expr]:=by
 refine qK6 (qA0 (I.type A _ E s (λ_ _ e=>e) (qA0 (qH2 O T A _ E s (λ_ _ e=>e) ?_))));unfold getAttrByItsOwn;refine qA0 (PySem.W.looks_hook O ((qA3 (rfl)).trans hh) A _ E s (λ_ _ e=>e) (qA0 (qM4 (qK6 ?_))));unfold callGetattribute;have e1:(expr&&onTheHeap (Value.builtin "BaseException.__getattribute__"))=false:=[Z03,expr]
 rw[e1];unfold boundAndCalled;refine qA0 (qK4 ?_);refine qL9 (qO4 S.plain F.entry_bexc_ga ?_);refine qQ1 (i := "BaseException.__getattribute__") (rest:=_) (owner := "BaseException") qF lV (cB O I hs) (F.args_bexc_ga ..) ?_;refine qA0 (qK4 ?_);refine qA0 (qK4 ?_);refine qA0 (I.type _ _ _ s (λ_ _ e=>e) (qA0 (PySem.W.looks_find O I hf _ _ _ s (λ_ _ e=>e) ?_)))
 change wpAny _ _ (Builtin.ObjectAttr.bindTo _ _ _ _) _ _ _;unfold Builtin.ObjectAttr.bindTo;refine qA0 (qK6 (qL9 (PySem.W.class_get O I ho ?_)));simp_all[wpAny,handedOut]
def Bi {K}(T:[Z0z]) (hh:[Z10]) (hs:[Z0k]) (O:PySem.W.mroIn K C (.type "object")=some true) (hf:PySem.W.findObj K C od (Str.ofString "__class__")=some (.bind (.builtin "getset_descriptor.__get__") (.builtin "object.__class__"))) (hc:PySem.W.kitCls K [ZE,C] [ZE,C]=some true):
  PySem.W.KitX K [ZE,x] [ZE,C] λh=>PySem.W.InstAt h x ox C od where
 ty M h KX I:=I.type
 it M h KX I:=(PySem.W.kit_cls KX hc).2.1
 ne h tp dd its n sl KX e:=by
  by_cases q:C=tp
  .subst q;unfold PySem.W.mroIn PySem.W.clsIn at O
   split at O
   .rename_i e2
    have z:=KX _ _ e2;rw[e]at z;cases z
   .cases O
  .simp [q]
 ca {prog w A E Q s} KX I q:=by
  refine qA0 (wpAny_mkText ?_);show qA0 (qM4 (pJ KX I T hh hs O F.attr_ValueError.ga hf (qK4 q)))
def gD:∀{l:List Addr}{bm:ZW},refuseLoop self (Str.ofString "__setattr__") bm=Pure.pure ()->refuseLoop self (Str.ofString "__setattr__") (l.map Value.ref++bm)=Pure.pure ()
 | [],_,h=>h
 | a::l,bm,h=>by
  change refuseLoop self _ (_::_)=_;rw[refuseLoop_ref];show gD h
def Gp {K}{l:List Addr}(O:K.In s.heap) (T:s.heap.get? x=some ox) (hc:ox.cls=.ref C) (hd:ox.dict=none) (XU:ox.data=.fields vs) (a5:PySem.W.findIn K [ZE,C] (Str.ofString "__setattr__")=some [ck,"object.__setattr__"]) (Ub:PySem.W.clsIn K C=some cd) (hm:cd.mro=l.map Value.ref ++ [Value.type "ValueError",Value.type "Exception",Value.type "BaseException",Value.type "object"]) (a4:cd.hasDict=true) (ho:PySem.W.mroIn K C (.type "object")=some true) (hf:PySem.W.findIn K [ZE,C] name=some none) (q:∀(h':Heap) a3,h'.get? x=some { ox with dict:=some s.heap.objs.size }->(h'.Ns1 s.heap.objs.size λy=>if y=name then some v else none)->(∀b o,b≠x->([SR])->[TN,h'.get?]) ->
   Q () [SS,s,h',a3]):[ST,setAttr [ZE,x] name v]:=by
 have I:PySem.W.InstAt _ x ox C none:=⟨T,hc,by obtain ⟨c,d,dt,sl⟩:=ox;cases XU;rfl,ZU⟩;refine PySem.W.set_plain O I a5 (qO4 F.store_ValueError.slot.plain F.store_ValueError.entry ?_);refine qQ1 (i := "object.__setattr__") (rest:=_) F.store_ValueError.kind F.store_ValueError.split (cB O I ho) (F.store_ValueError.args ..) ?_;rw[PySem.W.osa_eq,refuse_eq];refine qA0 (qA0 (I.type _ _ _ _ (λ_ _ e=>e) (qA0 ?_)));refine qA0 (qP0 O Ub _ _ _ _ (λ_ _ e=>e) (qK4 ?_));rw[hm,gD (F.store_ValueError.passes _)];refine qK4 (qA0 (I.type _ _ _ _ (λ_ _ e=>e) (qA0 (qH2 O hf _ _ _ _ (λ_ _ e=>e) (qA0 (qK4 ?_))))))
 change wpAny _ _ (Builtin.ObjectAttr.storeInOwnDict _ _ _ _ _ _) _ _ _;unfold Builtin.ObjectAttr.storeInOwnDict;refine qA0 (qK4 ?_)
 change wpAny _ _ (Builtin.ObjectAttr.ownDictForStores (.ref x)>>=_) _ _ _;refine qA0 ?_
 change wpAny _ _ (instanceDict x true) _ _ _;unfold instanceDict;refine qA0 (qM1 T ?_);rw[hc];refine qA0 (qP0 O Ub _ _ _ _ (λ_ _ e=>e) ?_);rw[a4]
 change wpAny _ _ (match ox.dict with|some d=>_|none=>_) _ _ _;rw[hd]
 change wpAny _ _ (match ox.data with|Data.cls c=>_|x=>_) _ _ _;rw[XU];have hn:s.heap.objs.size≠x:=λz=>absurd (qB2 T) ZU;have WA:(s.heap.push { cls:=Value.type "dict",data:=Data.dict #[] }).get? x=some ox:=qA2 _ T;refine qA0 (wpAny_alloc (qA0 (wpAny_update WA ?_)));refine qK4 ?_
 change wpAny _ _ (Builtin.ObjectAttr.storeInDict _ _ _ _) _ _ _;unfold Builtin.ObjectAttr.storeInDict;refine qA0 (qK4 (qA0 (wpAny_nsSet1 (m:=λ_=>none) ?_ λh' n1 sb=>?_)))
 .refine ⟨{ cls:=Value.type "dict",data:=Data.dict #[] },#[],0,?_,rfl,?_,?_,?_⟩
  .change (Heap.update _ _ _).get? _=_;rw[qJ5 _ _ _ _ hn];show qB1 _ rfl
  .intro e he;simp at he
  .show List.Pairwise.nil
  .intro n;rfl
 .obtain ⟨o,es,ep,e1,e2,e3⟩:=n1.count (ns:=[name]) (λy hy=>by
   grind)
  refine qA0 (wpAny_lookBehind e1 (by grind[pastItsLine_dict]) ?_);refine qK4 ?_;refine q h' _ ?_ n1 λb o hb e=>?_
  .rw [sb.2 x (Ne.symm hn)]
   show qF1 _ WA (by obtain ⟨c,d,dt,sl⟩:=ox;cases XU;rfl)
  .have Wv:b≠s.heap.objs.size:=λz=>absurd (qB2 e) ZU;rw[sb.2 b Wv]
   grind[PySem.Heap.get?_update_ne,PySem.Heap.get?_push_of_some]
def QH:PySem.fastLookup "type" (Str.ofString "__call__")=some [ck,"type.__call__"]:=ZU
def Bh {K}{rest:ZW}(KX:K.In s.heap) (T:s.heap.get? C=some (excClassObj nm q C N bs bm Up sn sub ab col dd k0 k1 k2 k3 k5 newId)) (hB:ExcBaseFacts Bn newId inN bmN) (hc:Zb.contains (.type Bn)=true) (a5:ExcBaseFacts B Yr initId Zb) (ot:OwnTail s.heap Zb bm) (Yy:[Z0t]) (a4:PySem.W.findIn K [ZE,C] (Str.ofString "__init__")=some [Wb,f]) (Xk:PySem.W.typeIn K [ZE,f]=some (.type "function")) (O:PySem.W.mroIn K C [ZE,C]=some true) (hl:[Te,rest.length]) (h:codeAny (model prog w) (A.under (Code.builtin "type.__call__" { pos:=.ref C::rest })) (Code.call [ZE,f] { pos:=.ref (s.heap.objs.size+1)::rest }) (PySem.W.InitBack [Z0F] R)
   [To,s,(s.heap.push [Z09,rest.toArray]).push { cls:=.ref C,data:=.fields #[.ref s.heap.objs.size,.none,.none,.none,.bool false,.none] }]):
  codeAny (model prog w) A (Code.call [ZE,C] { pos:=rest }) R s:=by
 refine codeAny_of_tree ?_
 change wpAny _ _ (callAny [ZE,C] { pos:=rest }) ..;refine qA0 (wpAny_load T ?_);unfold callAny.viaDunder;refine qA0 ?_;refine qA0 (PySem.W.looks_typeIn KX Yy _ _ _ _ (λ_ _ e=>e) (qH2 KX [SF,PySem.W.findIn K (.type "type") _=_,QH] _ _ _ _ (λ_ _ e=>e) ?_))
 change wpAny _ _ (bindSpecial _ _>>=_) _ _ _;rw[tc_bind];refine qA0 (qK4 ?_);refine qA0 (qK4 ?_);refine qK4 ⟨rfl,?_⟩;change codeAny (model prog w) A (Code.call (.builtin "type.__call__") { pos:=.ref C::rest }) R s;refine codeAny_call_builtin_at (Code.quiet_builtin _ Xac) entry_type_call (wpAny_check_type_call_sub T ?_);unfold Builtin.«type.__call__»;refine qA0 (wpAny_mroOf_exc T ?_);refine qA0 (wpAny_madeBy_exc T ?_);refine qA0 (qK4 ?_);refine qA0 (qK6 (qL9 (codeAny_call_builtin_code ?_ (wpAny_check_new_subU hB hc ot T (codeAny_exc_new_subU hB hc a5 ot T ?_ hl)))))
 .show Code.quiet_builtin _ hB.quiet
 .have hk:∀b o,([SR])->((s.heap.push [Z09,rest.toArray]).push { cls:=.ref C,data:=.fields #[.ref s.heap.objs.size,.none,.none,.none,.bool false,.none] }).get? b=some o:=λb o e=>
   qA2 _ (qA2 _ e)
  have a3:=KX.keeps hk;have Vk:(s.heap.push [Z09,rest.toArray]).objs.size=s.heap.objs.size+1:=by
   simp_all
  have hx:((s.heap.push [Z09,rest.toArray]).push { cls:=.ref C,data:=.fields #[.ref s.heap.objs.size,.none,.none,.none,.bool false,.none] }).get? [Z0F]=some { cls:=.ref C,data:=.fields #[.ref s.heap.objs.size,.none,.none,.none,.bool false,.none] }:=by
   rw[<- Vk];show qB1 _ rfl
  have I:PySem.W.InstAt _ [Z0F] _ C none:=⟨hx,rfl,rfl,trivial⟩;refine qA0 (cB a3 I O _ _ _ _ (λ_ _ e=>e) ?_);refine qA0 (qK6 (PySem.W.special_fn a3 I a4 Xk (qL9 (qL6 h λr s' hr=>?_))));cases r with
  |error e=>show hr
  | ok fl=>
   cases fl with
   | ret v=>
    obtain ⟨rfl,hr⟩:=hr;show qK4 hr
   |_=>show hr
def Ready (K:Frag) (E:YJ) (v:Value) (s:Shared):Prop:=
 ∃ (e:Addr) (I:Obj) (vs:ZY) (C:Addr),v=.ref e/\K.In s.heap/\s.heap.get? e=some I/\I.cls=.ref C/\I.data=.fields vs/\vs[1]?=some .none /\
  [Z0k]/\[Z0t]/\E [ZE,e] s
def kl {K}(hh:A.handled=none) (hx:wpAny (model prog w) A (eval x env) (Ready K E) E s):[ST,exec (.Raise [ZT,x] none pos) env]:=by
 refine qA0 (qL8 ?_);unfold raiseStmt;refine qA0 (qA0 (thn hx λv s1 hv=>qA0 (qL8 (qK4 ?_))));obtain ⟨e,oe,vs,C,rfl,O,I,hc,hd,h1,hm,ht,hE⟩:=hv;have T:∀(Q:Bool->Shared->Prop),_->wpAny (model prog w) A (isType (.ref e)) Q E s1:=λQ q=>by
  refine qA0 (qM1 I (qK4 ?_));rw[hd];show q
 have ty:∀(Q:YJ),_->wpAny (model prog w) A (typeOf (.ref e)) Q E s1:=λQ q=>by
  show qA0 (qM1 I (qK4 ([ZO,hc,q])))
 refine qA0 (qK4 ?_);refine qA0 (qK6 ?_);refine qA0 ?_;refine qA0 (T _ (qK4 ?_));refine qA0 ?_;refine qA0 (ty _ (PySem.W.looks_mroIn O hm _ _ _ _ (λ_ _ e=>e) (qK4 ?_)));refine qA0 (T _ ?_);refine qA0 ?_;refine qA0 (ty _ (qA0 (PySem.W.looks_typeIn O ht _ _ _ _ (λ_ _ e=>e) (qK4 ?_))));refine qA0 ?_;refine qA0 ?_;refine qA0 (qA0 (wpAny_load I ?_));rw[hd];refine qK4 ?_;rw[h1];refine qK4 (qK4 ?_);show wpAny_raiseNew_none hh hE
def aF {c:St}(I:[YR,c,H,s]) (e:[TN,X.s₀.heap.get?]):b≠X.env.locals:=by
 have l:=qB2 e;have a:=I.ok.above;omega
def Inv.reloc {f O:St}(I:[YR,f,H,s]) (hs:Heap.SameBut X.env.locals s.heap h') (hn:h'.Ns X.env.locals m') (hl:O.length=f.length) (lk:∀(i:Nat) x v,[ZI,X.N,x]->[ZI,O,[ZT,v]]->([cz])->∃u,RelV v u/\Look X.env h' m' x u):[YR,O,H,[SS,s,h',tk]] where
 ok:=I.ok
 os:=I.os
 bare:=I.bare
 base:={
  keep:=λb o e n p q=>(hs.2 b (aF I e)).trans (I.base.keep b o e n p q)
  slot:=λb o e n p q=>by
   obtain ⟨sl,y⟩:=I.base.slot b o e n p q;show ⟨sl,(hs.2 b (aF I e)).trans y⟩
  free:=I.base.free
  there:=λb o e q=>by
   obtain ⟨o',y⟩:=I.base.there b o e q;show ⟨o',(hs.2 b (aF I e)).trans y⟩
  tups:=I.base.tups
  frzs:=I.base.frzs
  tbls:=I.base.tbls }
 loc:=⟨m',hn,lk⟩
 cell:=λx c e=>by
  obtain ⟨v,z⟩:=I.cell x c e;show ⟨v,z.sameBut hs (I.cne x c e)⟩
 free:=I.free
 freeC:=I.freeC
 pin:=λp hp=>by
  obtain ⟨a,b,c,d⟩:=I.pin p hp;show ⟨(hs.2 p.1 c).trans a,b,c,d⟩
 hok:=λb ob e=>by
  have a3:∀c,(∃q,H c=some q)->c≠X.env.locals:=λc T z=>by obtain ⟨q,hq⟩:=T;rw[z,I.free]at hq;cases hq
  show (I.hok b ob e).stay (λc u hc q=>(hs.2 c (a3 c (hc.elim (λz=>⟨ob,z ▸ e⟩) λz=>⟨_,z⟩))).trans q) (λ_ q=>q) λ_ _ q=>q
 len:=hl.trans I.len
def eG {a:St}(I:[UE]) (hN:X.N.Nodup) (hi:[ZI,X.N,x]) (hk:X.env.kindOf x=some .local) (hq:∀s',[YR,a.set i none,H,s']->Q () s'):wpAny M A (do bindName X.env x Value.none;unbindBehindTheSuite X.env x pos) Q E s:=by
 have Uz:(X.env.scope.kind == .class||X.env.scope.kind == .module&&X.env.locals != X.env.globals)=false:=by rw[I.ok.kind];rfl
 have Xg:i<a.length:=by rw[I.len];grind
 refine qA0 (qA0 (qK6 (wpAny_point (qA0 (Z3 (v:=.non) I hN hi (.inl hk) rfl (λs1 O=>?_) (.inr hk))))));refine wpAny_point ?_;obtain ⟨m,hn,lk⟩:=O.loc;obtain ⟨u,ru,l⟩:=lk i x _ hi (qE4 Xg) (.inl hk);have hm:m x=some u:=by
  rcases l with ⟨_,e⟩|⟨k,_⟩
  all_goals omega
 refine wpAny_onRaise (wpAny_unbindName_local hk hn hm Uz λh' z WB hs=>hq _ (Inv.reloc O hs WB Xaf λj y v e1 T e3=>?_));by_cases hj:j=i
 .subst hj;rw[qE4 Xg]at T;cases T
 .obtain ⟨u',r',q⟩:=lk j y v e1 (by grind) e3;refine ⟨u',r',?_⟩;rcases q with ⟨k,e⟩|⟨k,c,e,z⟩
  .refine .inl ⟨k,?_⟩
   have:y≠x:=λe=>hj (fJ hN e1 (e ▸ hi))
   simp [this,e]
  .show .inr ⟨k,c,e,z.sameBut hs (O.cne y c e)⟩
def Ns.slots {h:Heap}(n:h.Ns a m) (up:h.UpToSlots h'):h'.Ns a m:=by
 obtain ⟨o,es,ep,e,d,r⟩:=n;obtain ⟨sl,I⟩:=up a o e (λvs z=>ZU);show ⟨_,es,ep,I,d,r⟩
def IsCell.slots {h:Heap}(n:h.IsCell a v) (up:h.UpToSlots h'):h'.IsCell a v:=by
 obtain ⟨o,e,d⟩:=n;obtain ⟨sl,I⟩:=up a o e (λvs z=>ZU);show [WH,I,d]
def Inv.land {g:St}{B:Heap}(O:X.ex = []) (Us:X.stack=X.env::X.outer) (UR:X.env.frame=some X.env.locals) (I1:[YR,g,H,s1]) (I:[YR,g,H',s]) (st:B.StaysIn s.heap) (T:B.StaysIn h') (up:s.heap.UpToSlots h') (inB:∀b o,[TN,H']->∃ob,B.get? b=some ob) (all:∀b o,[TN,s1.heap.get?]->b∉frs X.stack->∃o',B.get? b=some o'):[YR,g,H',[SS,s,h',tk]]:=by
 have VE:∀b,b∉X.fs->b≠X.env.locals->b∉frs X.stack:=λb h1 h2 z=>by
  grind[frs]
 have u:=I.base;rw[O]at u;refine ⟨I.ok,I.os,I.bare,?_,?_,λx c e=>?_,I.free,I.freeC,λp hp=>?_,HOk.fly I.hok st T inB,I.len⟩
 .rw [O]
  refine Un.fly u st T up (λb o q hb=>?_) (tE I.funs);obtain ⟨o1,q1⟩:=I1.base.there b o q (by rw[O];simp);show all b o1 q1 (VE b hb (aF I q))
 .obtain ⟨m,n,l⟩:=I.loc;refine ⟨m,Ns.slots n up,λi x v e1 e2 e3=>?_⟩;obtain ⟨w,r,q⟩:=l i x v e1 e2 e3;refine ⟨w,r,?_⟩;rcases q with q|⟨k,c,e,z⟩
  .show .inl q
  .show .inr ⟨k,c,e,IsCell.slots z up⟩
 .obtain ⟨v,z⟩:=I.cell x c e;show ⟨v,IsCell.slots z up⟩
 .obtain ⟨a,b,c,d,f⟩:=I.pin p hp;obtain ⟨a1,_⟩:=I1.pin p hp;obtain ⟨o',y⟩:=all p.1 p.2 a1 (VE p.1 d c);have z:=st _ _ y;rw[a]at z;cases z;show ⟨T _ _ y,b,c,d,f⟩
abbrev Cx.marked (X:Cx)(e:Value)(E:YJ):Cx:={ X with A:=X.A.mark (some e),calm:=false,xe:=E }
def Inv.marked {a:St}(I:[UE]):Inv (X.marked e E) pins a H s:=
 ⟨⟨I.ok.mod,I.ok.kind,I.ok.glob,I.ok.blt,I.ok.above,I.ok.inj,I.ok.has,I.ok.cab,[SN],I.ok.frames,I.ok.stk,I.ok.exf,I.ok.bs,I.ok.bsz,I.ok.noex,I.ok.exfs,I.ok.funs,I.ok.frf⟩,
  I.os,I.bare,I.base,I.loc,I.cell,I.free,I.freeC,I.pin,I.hok,I.len⟩
def Inv.unmarked {a:St}(ok:X.Ok) (I:Inv (X.marked e E) pins a H s):[UE]:=
 [Z11,ok,I.pin]
def Inv.track {f:St}(I:[YR,f,H,s]) (ha:s.heap.get? a=some o) (hd:o.data=.fields vs) (hH:H a=none) (n0:X.s₀.heap.get? a=none) (np:∀p∈X.pn++pins,p.1≠a):
  [YR,f,upd H a (.ext λh=>h.get? a=some o),s]:=by
 have hk:∀b u,H b=some u->upd H a (.ext λh=>h.get? a=some o) b=some u:=λb u e=>[Tr,c0]
 have hl:X.env.locals≠a:=λz=>by
  obtain ⟨m,⟨o',es,ep,e,d,_⟩,_⟩:=I.loc;omega
 refine ⟨I.ok,I.os,I.bare,⟨I.base.keep,I.base.slot,λb ob e n T=>?_,I.base.there,λb xs e=>hk _ _ (I.base.tups b xs e),λb ob u e=>hk _ _ (I.base.frzs b ob u e),λb ps e=>?_⟩,I.loc,I.cell,?_,λx c e=>?_,λp hp=>?_,λb ob e=>?_,I.len⟩
 .have:b≠a:=λz=>ZU
  rw[c0 this];show I.base.free b ob e n T
 .obtain ⟨more,q⟩:=I.base.tbls b ps e
  grind
 .rw[c0 hl];show I.free
 .have:c≠a:=λz=>by
   obtain ⟨v,o',e1,d⟩:=I.cell x c e;omega
  rw[c0 this];show I.freeC x c e
 .obtain ⟨p1,p2,p3⟩:=I.pin p hp
  grind[c0]
 .by_cases O:b=a
  .subst O;rw[d5]at e;cases e;show ⟨ha,⟨o,ha⟩,λh1 h2 q k=>k o q⟩
  .rw [c0 O]at e
   refine (I.hok b ob e).stay (λc u hc q=>q) (λc q=>hk _ _ q) λc xs q=>hk _ _ q
section
variable {X:Cx}{pins:ZQ}{σ:St}{H H':Hp}{s s1:Shared}{a:Addr}{B:Heap}{cls:Value}{od:Option Addr}
structure Here (X:Cx) (pins:ZQ) (σ:St) (H':Hp) (a:Addr) (B:Heap) (cls:Value) (od:Option Addr) (s:Shared):Prop where
 inv:Inv X pins σ H' s
 dict:∃o,s.heap.get? a=some o/\o.dict=od
def Here.step (I:X.ex = []) (Us:X.stack=X.env::X.outer) (UR:X.env.frame=some X.env.locals) (T:[YR,σ,H,s1]) (inB:∀b o,[TN,H']->∃ob,B.get? b=some ob) (all:∀b o,[TN,s1.heap.get?]->b∉frs X.stack->∃o',B.get? b=some o') (h:Here X pins σ H' a B cls od s) (st:B.StaysIn s.heap) (Uo:B.StaysIn h') (up:s.heap.UpToSlots h') (d:Dk s.heap h'):Here X pins σ H' a B cls od [SS,s,h',tk]:=by
 refine ⟨Inv.land I Us UR T h.inv st Uo up inB all,?_⟩;obtain ⟨o,e,q⟩:=h.dict;obtain ⟨o',e',_,O⟩:=d a o e;show ⟨o',e',O.trans q⟩
def KD.post {t:Sem b}{P:Heap->Prop}{Q:b->Shared->Prop}{r:b}(k:KD t) (h:wpAny M A t (λv s'=>v=r/\∃h',s'=[To,s,h']/\P h') E s) (q:∀h',P h'->Dk s.heap h'->Q r [To,s,h']):wpAny M A t Q E s:=
 qK9 (k.any h) (λv s' I=>by grind) λ_ _ x=>x
end
def tCatch (X:Cx) (C:Addr) (O:Nat) (tb:TS) (D:Ends) (b:St):XK:=λcls od H'=>∃T,cls=.ref T/\PySem.W.exmOne X.K [ZE,T] [ZE,C]=some true /\
 ∀ (a:Addr) (o:Obj),H' a=none->o.cls=cls->o.dict=od->(∃vs:Array Value,o.data=.fields vs) ->
  tb { nx:=λI H'=>D.nx (I.set O none) H',rt:=D.rt,bk:=λI H'=>D.bk (I.set O none) H',ct:=λI H'=>D.ct (I.set O none) H' } (b.set O [Wb,a]) (upd H' a (.ext λh=>h.get? a=some o))
def Inv.excset {g:St}{d:Addr}(I:[YR,g,H,s]) (ha:H a=some (.ext λh=>h.get? a=some ox)) (XU:ox.data=.fields vs) (hd:s.heap.objs.size=d) (r:RelV v u) (e1:h'.get? a=some { ox with dict:=some d }) (e2:h'.Ns1 d λy=>if y=name then some u else none) (k:∀b o,b≠a->([SR])->[TN,h'.get?]):
  [YR,g,upd (upd H d (.xd [(name,v)])) a (.ext λh=>h.get? a=some { ox with dict:=some d }),[SS,s,h',tk]]:=by
 have a4:=I.hok.fresh (qR4 hd);have a5:=(I.hok a _ ha).1;have O:∀{b:Addr},H b=none->b≠a:=λ{b} e z=>ZU;have a3:∀{b:Addr}{o:Obj},([SR])->b≠d:=λ{b o} e z=>absurd (qB2 e) (by rw[z,<- hd];show qE7 _);have Vc:∀{b:Addr}{o:Obj},H b=none->_=some o->upd (upd H d (.xd [(name,v)])) a (.ext λh=>h.get? a=some { ox with dict:=some d }) b=none:=λ{b o} e q=>by
  rw[c0 (O e),c0 (a3 q)];show e
 have UL:∀{b:Addr}{w:HO},b≠a->H b=some w->upd (upd H d (.xd [(name,v)])) a (.ext λh=>h.get? a=some { ox with dict:=some d }) b=some w:=λ{b w} n e=>by
  rw[c0 n,c0 λz=>by rw[z,a4]at e;cases e];show e
 have Ud:∀{b:Addr}{w:HO},H b=some w->(∀φ,w≠.ext φ)->b≠a:=λ{b w} e n z=>by grind
 refine ⟨I.ok,I.os,I.bare,⟨λb o e n p q=>?_,λb o e n p q=>?_,λb o e n q=>?_,λb o e q=>?_,λb xs e=>?_,λb ob w e=>?_,λb ps e=>?_⟩,?_,λx c e=>?_,?_,λx c e=>?_,λp hp=>?_,λb ob e=>?_,I.len⟩
 .show k b o (O (I.base.free b o e n q)) (I.base.keep b o e n p q)
 .obtain ⟨sl,y⟩:=I.base.slot b o e n p q;show ⟨sl,k b _ (O (I.base.free b o e n q)) y⟩
 .obtain ⟨o',y⟩:=I.base.there b o e q;show Vc (I.base.free b o e n q) y
 .obtain ⟨o',y⟩:=I.base.there b o e q
  grind
 .have y:=I.base.tups b xs e;show UL (Ud y λ_ z=>by cases z) y
 .have y:=I.base.frzs b ob w e;show UL (Ud y λ_ z=>by cases z) y
 .obtain ⟨more,y⟩:=I.base.tbls b ps e;show ⟨more,UL (Ud y λ_ z=>by cases z) y⟩
 .obtain ⟨m,⟨o,es,ep,T,d1,d2⟩,lk⟩:=I.loc;refine ⟨m,⟨o,es,ep,k _ _ (O I.free) T,d1,d2⟩,λi x v' q1 q2 q3=>?_⟩;obtain ⟨u',ru,q⟩:=lk i x v' q1 q2 q3;refine ⟨u',ru,?_⟩;rcases q with q|⟨kk,c,ec,oc,eoc,dc⟩
  .show .inl q
  .show .inr ⟨kk,c,ec,oc,k _ _ (O (I.freeC x c ec)) eoc,dc⟩
 .obtain ⟨v',o,T,dd⟩:=I.cell x c e;show ⟨v',o,k _ _ (O (I.freeC x c e)) T,dd⟩
 .obtain ⟨m,⟨o,es,ep,T,d1,d2⟩,lk⟩:=I.loc;show Vc I.free T
 .obtain ⟨v',o,T,dd⟩:=I.cell x c e;show Vc (I.freeC x c e) T
 .obtain ⟨p1,p2,p3⟩:=I.pin p hp;show ⟨k _ _ (O p2) p1,Vc p2 p1,p3⟩
 .by_cases z:b=a
  .subst z;rw[d5]at e;cases e;show ⟨e1,⟨_,e1⟩,λh1 h2 q w=>w _ q⟩
  .rw [c0 z]at e
   by_cases z2:b=d
   .subst z2;rw[d5]at e;cases e;refine [WH,e2,λf=>?_];by_cases zf:f=name
    .subst zf;simp [List.lookup];show r
    .have zb:(f == name)=false:=by simpa using zf
     simp [List.lookup,zb,zf];trivial
   .rw [c0 z2]at e
    refine (I.hok b ob e).stay (λc w hc q=>k c w ?_ q) (λc q=>UL (Ud q λ_ z=>by cases z) q) λc xs q=>UL (Ud q λ_ z=>by cases z) q;omega
structure BJ (K:Frag) (C:Addr) (name:Str):Prop where
 sa:PySem.W.findIn K (.ref C) (Str.ofString "__setattr__")=some (some (.builtin "object.__setattr__"))
 cd:∃(cd:ClassData) (l:List Addr),PySem.W.clsIn K C=some cd/\cd.mro=l.map Value.ref ++ [Value.type "ValueError",Value.type "Exception",Value.type "BaseException",Value.type "object"]/\cd.hasDict=true
 ob:PySem.W.mroIn K C (.type "object")=some true
 no:PySem.W.findIn K (.ref C) name=some none
def PK (C:Addr) (name:Str) (O ta:TE):TS:=λD b H=>O b H λy H1=>ta b H1 λx H2=>∃a I vs,x=.ref a/\H2 a=some (.ext λh=>h.get? a=some I)/\I.cls=.ref C/\I.dict=none/\I.data=.fields vs /\
 ∀d,H2 d=none->D.nx b (upd (upd H2 d (.xd [(name,y)])) a (.ext λh=>h.get? a=some { I with dict:=some d }))
def ED (c:BJ X.K C name) (hv:PE X v tv) (ha:PE X o ta) (hs:[XXa,swapsWithSole [.Attribute o name tp] v pos.line X.env=Pure.pure false]):
  PS X (.Assign [.Attribute o name tp] v pos) (PK C name tv ta):=by
 intro pins s b H D I h;refine qO2 (thn [SI,hv,b] λu s1 ⟨y,H1,I1,ry,q⟩=>thn (ha pins s1 b H1 _ I1 q) λov s2 O=>?_) hs;obtain ⟨x,H2,T,rx,a,ox,vs,ex,ea,e1,e2,e3,q2⟩:=O;subst ex;obtain rfl:=rx;obtain ⟨cd,l,h1,h2,h3⟩:=c.cd;refine Gp T.kIn (T.hok a _ ea).1 e1 e2 e3 c.sa h1 h2 h3 c.ob c.no λh' a3 g1 g2 g3=>?_;show ⟨b,_,Inv.excset T ea e3 rfl ry g1 g2 g3,q2 _ (T.hok.fresh (qA6 _))⟩
def del (H:Hp)(a:Addr):Hp:=λb=>if b=a then none else H b
def oq:del H a a=none:=[Tr,del]
theorem dE (h:b≠a):del H a b=H b:=[Tr,del]
def Inv.untrack {d:St}(I:[YR,d,H,s]) (ha:H a=some (.ext φ)):[YR,d,del H a,s]:=by
 have dn:∀b,H b=none->del H a b=none:=λb e=>by
  grind[dE]
 have ds:∀{b:Addr}{w:HO},H b=some w->(∀φ,w≠.ext φ)->del H a b=some w:=λ{b w} e n=>by
  grind[dE]
 refine ⟨I.ok,I.os,I.bare,⟨I.base.keep,I.base.slot,λb o e n q=>dn b (I.base.free b o e n q),I.base.there,λb xs e=>ds (I.base.tups b xs e) λ_ z=>(by cases z),λb o w e=>ds (I.base.frzs b o w e) λ_ z=>(by cases z),λb ps e=>?_⟩,
  I.loc,I.cell,dn _ I.free,λx c e=>dn _ (I.freeC x c e),λp hp=>?_,λb ob e=>?_,I.len⟩
 .obtain ⟨more,y⟩:=I.base.tbls b ps e;show ⟨more,ds y λ_ z=>by cases z⟩
 .obtain ⟨p1,p2,O⟩:=I.pin p hp;show ⟨p1,dn _ p2,O⟩
 .have z:b≠a:=λz=>by rw[z,oq]at e;cases e
  rw[dE z]at e;show (I.hok b ob e).stay ([SH,q]) (λc q=>ds q λ_ z=>by cases z) λc xs q=>ds q λ_ z=>by cases z
def Inv.exnew {a:St}{tk:Nat}(I:[UE]) (h1:o1.isFreed=false) (h2:o2.isFreed=false):
  [YR,a,upd H [Z0F] (.ext λh=>h.get? (s.heap.objs.size+1)=some o2),[To,s,(s.heap.push o1).push o2]]:=by
 have T:(s.heap.push o1).objs.size=s.heap.objs.size+1:=by
  simp_all
 have O:((s.heap.push o1).push o2).get? [Z0F]=some o2:=by
  rw[<- T];show qB1 _ h2
 have J:=I.laid (t':=s.toks) (o:=.ext _) (λb u e=>qA2 _ (qA2 _ e)) (qP8 _) ⟨O,⟨_,O⟩,λ_ _ q k=>k _ q⟩;show J
abbrev P9:List Value:=[Value.type "ValueError",Value.type "Exception",Value.type "BaseException",Value.type "object"]
structure XMk (K:Frag) (C f:Addr):Prop where
 obj:∃(nm q:Str) (N:Addr) (bs bm:ZW) (Up:Bool) (sn:ZK) (sub:ZW) (ab:Bool) (col:Option Bool) (dd:Option Addr) (k0 k1 k2 k3 k5:Uj),
  K.lookup C=some (excClassObj nm q C N bs bm Up sn sub ab col dd k0 k1 k2 k3 k5 "ValueError.__new__")/\∀h:Heap,K.In h->OwnTail h P9 bm
 ty:PySem.W.typeIn K (.ref C)=some (.type "type")
 init:PySem.W.findIn K (.ref C) (Str.ofString "__init__")=some (some (.ref f))
 fn:PySem.W.typeIn K (.ref f)=some (.type "function")
 self:PySem.W.mroIn K C (.ref C)=some true
 be:PySem.W.mroIn K C (.type "BaseException")=some true
 kp:PySem.W.keepIn K (.ref C)=true
def pR (C:Addr) (sp:Sp) (E:XK) (t:TA):TS:=λ_ a H=>t a H λvs H1=>∀x I,H1 x=none->I.cls=.ref C->I.dict=none->(∃ws:Array Value,I.data=.fields ws) ->
 sp (.ref x::vs) (upd H1 x (.ext λh=>h.get? x=some I)) (λv H2=>v=.non/\∃od,H2 x=some (.ext λh=>h.get? x=some { I with dict:=od })/\E [ZE,C] od (del H2 x)) E0
def vB {K}(M:XMk K C f) (F:FnOk P w K mg base CX0 k f fd ps sp) (hr:Room (k+1) [Z0u].A) (hg:Gl [Z0u] cn) (hm:mg cn=some [ZE,C]) (hb:Binds K fd ps []) (a4:ps.length<=1000) (ha:PA [Z0u] [TC] t) (Ue:(cn == ("__debug__" : Str))=false) (he:starEach [TC] [Z0q]=(false,eval e [Z0q])::starEach es [Z0q]) (TY:[rd,cp,[Z0q]]):
  PS [Z0u] (.Raise [ZT,.Call [YD,cn,np] [TC] [] cp] none pos) (pR C sp E t):=by
 intro pins s a H D I h;refine kl (K:=K) (I.ok.hd rfl) (qL1 (U2 I hg hm ?_ Ue));refine qI2 I.ok.mod.kin M.kp (thn (ha cp pins s a H _ I h) λus s1 ⟨vs,H1,I1,r,q⟩=>⟨I1.kIn,?_⟩) he TY;obtain ⟨nm,q0,N0,bs,bm,Up,sn,sub,ab,col,dd,k0,k1,k2,k3,k5,lk,ot⟩:=M.obj;have hq:=q _ { cls:=_,data:=.fields #[.ref s1.heap.objs.size,.none,.none,.none,.bool false,.none] } (I1.hok.fresh (qP8 _)) rfl rfl [Tq];have J:=Inv.exnew (o1:=[Z09,us.toArray]) (o2:={ cls:=.ref C,data:=.fields #[.ref s1.heap.objs.size,.none,.none,.none,.bool false,.none] }) (tk:=0) I1 rfl rfl;have T:Vals (V.ref (s1.heap.objs.size+1)::vs) (Value.ref (s1.heap.objs.size+1)::us):=.cons rfl r;have hlen:=F.len _ _ _ _ hq;have hl:[ZM,Value.ref (s1.heap.objs.size+1)::us ++ []]=ps.length:=by
  rw[qD3,<- T.length];omega
 have a3:[Te,us.length]:=qJ6 (jQ (by
  have:=T.length
  simp only [qC2]at this hlen;omega))
 have Xo:=hb _ (Value.ref (s1.heap.objs.size+1)::us) J.kIn hl;rw[qD3]at Xo;refine qL9 (Bh I1.kIn (I1.kIn _ _ lk) qH0 rfl qH0 (ot _ I1.kIn) M.ty M.init M.fn M.self a3 (qL6 (F.run _ _ _ _ _ _ _ _ _ (hr.make C us []) (J.env0.make C us []) Xo T hq) λr s' O=>?_));cases r with
 |error ev=>show False.elim O
 | ok fl=>
  cases fl with
  | ret u=>
   obtain ⟨v,H',J3,rv,ev,od,hx,hE⟩:=J.after O;subst ev;refine ⟨rv,?_⟩;have ho:=(J3.hok _ _ hx).1;have J4:=J3.untrack hx;have sz:s0.heap.objs.size<=s1.heap.objs.size:=I1.sz;have n0:s0.heap.get? (s1.heap.objs.size+1)=none:=by
    cases z:s0.heap.get? (s1.heap.objs.size+1) with
    |none=>rfl
    |some o=>show absurd (qB2 z) (Nat.not_lt.mpr (qC8 sz (qP8 _)))
   refine ⟨s1.heap.objs.size+1,_,_,C,rfl,J4.kIn,ho,rfl,rfl,rfl,M.be,M.ty,?_⟩;refine eX J4 ho n0 oq (λz=>?_) rfl rfl rfl hE;have ff:=I1.stack;obtain ⟨_,o,eo,_⟩:=ff.mem z;show absurd (qB2 eo) (Nat.not_lt.mpr (qP8 _))
  |next=>show False.elim O
  |brk=>show False.elim O
  |cont=>show False.elim O
def Fun.okX {K}{st}(F:Fun K x qual st f fd) (S:K9 N ps (d8 st)) (len:∀vs H Q E,sp vs H Q E->vs.length=ps.length) (I:∀ Uc (A:Around) (outer:List Env) s H (vs:List V) Q E,Room k (A.deeper (envOfC qual (d8 st) s.heap.objs.size f Uc))->sp vs H Q E ->
   ∃t,PSs (i4 (CXW P w) P w K mg base N qual (d8 st) f Uc A outer s H E) (z7 st) t/\t { nx:=λ_ H'=>Q .non H',rt:=Q } (start N vs) H):[Z0l,k+1,sp]:=by
 obtain ⟨oc,od,kV,doc,pm,an,Uc,ct,Vr,rfl,lk,O⟩:=F.ex;show CM lk O S len λA outer s H vs Q E hr T=>I Uc A outer s H vs Q E hr T
def FY (h:nsFind es name=some u):∃e,es.toList.find? (λx=>x.key.isStr name)=some e/\e.val=u:=by
 simp_all[nsFind,findBy]
structure XGet (K:Frag) (C:Addr) (name:Str):Prop where
 ga:PySem.W.findIn K (.ref C) (Str.ofString "__getattribute__")=some (some (.builtin "BaseException.__getattribute__"))
 gh:PySem.W.findIn K (.ref C) (Str.ofString "__getattr__")=some none
 be:PySem.W.mroIn K C (.type "BaseException")=some true
 no:PySem.W.findIn K (.ref C) name=some none
 cd:∃cd,PySem.W.clsIn K C=some cd/\cd.hasDict=true
def XGet.find {K}(g:XGet K C name) (hd:o.data=.dict es ep) (h:nsFind es name=some u):PySem.W.findObj K C [ZT,o] name=some (.value u):=by
 obtain ⟨cd,h1,T⟩:=g.cd;obtain ⟨e,O,I⟩:=FY h;unfold PySem.W.findObj;rw[h1,g.no];simp [PySem.W.ownOf,T,PySem.W.lookIn,hd,O,I]
def Ir (K:Frag) (ta:TE) (name:Str):TE:=λb H Q=>ta b H λx H1=>∃(a:Addr) (I:Obj) (vs:ZY) (C d:Addr) (fs:List (Str×V)) (v:V),x=.ref a/\H1 a=some (.ext λh=>h.get? a=some I)/\I.cls=.ref C/\I.data=.fields vs /\
 I.dict=some d/\H1 d=some (.xd fs)/\fs.lookup name=some v/\XGet K C name/\(∀u,RelV v u->handedOut u=Pure.pure u)/\Q v H1
def Kr (he:PE X o ta) (hb:attributeBase o name X.env [Sy,o]=eval o X.env):PE X (.Attribute o name pos) (Ir X.K ta name):=by
 show 7 b;refine rg hb (thn [SI,he,b] λu s1 O=>?_);obtain ⟨x,H1,T,rx,a,ox,vs,C,d,fs,v,ex,ea,c1,c2,c3,ed,lk,g,hv,q⟩:=O;subst ex;obtain rfl:=rx;obtain ⟨mA,⟨od,es,ep,e1,e2,_,_,e3⟩,a3⟩:=T.hok d _ ed;have r:=a3 name;rw[lk]at r;cases m:mA name with
 |none=>rw[m]at r;show False.elim r
 | some u=>
  rw[m]at r;have J:PySem.W.InstAt _ a ox C [ZT,od]:=⟨(T.hok a _ ea).1,c1,by obtain ⟨p1,p2,p3,p4⟩:=ox;cases c2;rfl,[ZO,c3,e1]⟩;show Gq T.kIn J g.ga g.gh g.be (g.find e2 ((e3 name).trans m)) (hv u r) ⟨v,H1,T.tok _,r,q⟩
structure XIs (K:Frag) (C:Addr):Prop where
 ga:PySem.W.findIn K (.ref C) (Str.ofString "__getattribute__")=some (some (.builtin "BaseException.__getattribute__"))
 gh:PySem.W.findIn K (.ref C) (Str.ofString "__getattr__")=some none
 be:PySem.W.mroIn K C (.type "BaseException")=some true
 ob:PySem.W.mroIn K C (.type "object")=some true
 cl:PySem.W.findIn K (.ref C) (Str.ofString "__class__")=some (some (.builtin "object.__class__"))
 gt:PySem.W.specialIn K (.builtin "object.__class__") (Str.ofString "__get__")=some (some (.builtin "getset_descriptor.__get__"))
 tk:PySem.W.takesIn K (.builtin "object.__class__")=some true
 kc:PySem.W.kitCls K (.ref C) (.ref C)=some true
def XIs.find {K}(g:XIs K C) od:PySem.W.findObj K C od (Str.ofString "__class__")=some (.bind (.builtin "getset_descriptor.__get__") (.builtin "object.__class__")):=by
 have hc:∃cd,PySem.W.clsIn K C=some cd:=by
  have h:=g.ob;unfold PySem.W.mroIn at h;cases q:PySem.W.clsIn K C with
  |none=>rw[q]at h;cases h
  |some cd=>show ⟨cd,rfl⟩
 obtain ⟨cd,hc⟩:=hc;unfold PySem.W.findObj;rw[hc,g.cl];simp [g.gt,g.tk]
def HW {f:St}(I:[YR,f,H,s]) (T:H a=some (.ext λh=>h.get? a=some ox)) (hc:ox.cls=.ref C) (hd:ox.data=.fields vs) (hx:∀d,ox.dict=some d->∃fs,H d=some (.xd fs)) (g:XIs X.K C) (e:PySem.W.kitOne X.K [ZE,C] c=some b) (h:∀tk,Q (.bool b) { s with toks:=tk }):wpAny [Ty] A (call (.builtin "isinstance") [.ref a,c]) Q E s:=by
 have O:PySem.W.notCls ox=true:=by obtain ⟨p1,p2,p3,p4⟩:=ox;cases hd;rfl
 have J:∃od,PySem.W.InstAt s.heap a ox C od:=by
  cases q:ox.dict with
  |none=>show ⟨none,(I.hok a _ T).1,hc,O,by rw[q];trivial⟩
  | some d=>
   obtain ⟨fs,hf⟩:=hx d q;obtain ⟨o,eo⟩:=(I.hok d _ hf).got;show ⟨some o,(I.hok a _ T).1,hc,O,[ZO,q,eo]⟩
 obtain ⟨od,J⟩:=J;show qE9 (Bi g.ga g.gh g.be g.ob (g.find od) g.kc) I.kIn J e [SN] h
structure aW (K:Frag) (C:Addr):Prop where
 obj:∃(nm q:Str) (N:Addr) (bs bm:ZW) (Up:Bool) (sn:ZK) (sub:ZW) (ab:Bool) (col:Option Bool) (dd:Option Addr) (k0 k1 k2 k3 k5:Uj),
  K.lookup C=some (excClassObj nm q C N bs bm Up sn sub ab col dd k0 k1 k2 k3 k5 "ValueError.__new__")/\(∀h:Heap,K.In h->OwnTail h P9 bm)/\∀h:Heap,K.In h->∃mN,h.Ns N mN/\mN (Str.ofString "__init__")=none
 ty:PySem.W.typeIn K (.ref C)=some (.type "type")
 be:PySem.W.mroIn K C (.type "BaseException")=some true
 kp:PySem.W.keepIn K (.ref C)=true
def ft (C:Addr)(E:XK)(t:TA):TS:=λ_ a H=>t a H λvs H1=>vs.length<=1000/\E [ZE,C] none H1
def gI {K}(M:aW K C) (hg:Gl [Z0u] cn) (hm:mg cn=some [ZE,C]) (ha:PA [Z0u] [TC] t) (Ue:(cn == ("__debug__" : Str))=false) (he:starEach [TC] [Z0q]=(false,eval e [Z0q])::starEach es [Z0q]) (TY:[rd,cp,[Z0q]]):
  PS [Z0u] (.Raise [ZT,.Call [YD,cn,np] [TC] [] cp] none pos) (ft C E t):=by
 intro pins s b H D I h;refine kl (K:=K) (I.ok.hd rfl) (qL1 (U2 I hg hm ?_ Ue));refine qI2 I.ok.mod.kin M.kp (thn (ha cp pins s b H _ I h) λus s1 ⟨vs,H1,I1,r,hl,q⟩=>⟨I1.kIn,?_⟩) he TY;obtain ⟨nm,q0,N0,bs,bm,Up,sn,sub,ab,col,dd,k0,k1,k2,k3,k5,lk,ot,ns⟩:=M.obj;obtain ⟨mN,n1,n2⟩:=ns _ I1.kIn;refine wpAny_call_exc_subU qH0 rfl qH0 (ot _ I1.kIn) (I1.kIn _ _ lk) n1 n2 (λh' a T=>?_) (qJ6 (jQ (r.length ▸ hl)));obtain ⟨tt,et,_,_⟩:=T.there;have J:=I1.kept (t':=s1.toks) T.keeps;have Ha:H1 a=none:=by
  cases z:H1 a with
  |none=>rfl
  | some o=>
   obtain ⟨ob,O⟩:=(I1.hok a o z).got;rw[T.new]at O;cases O
 have n0:s0.heap.get? a=none:=by
  cases z:s0.heap.get? a with
  |none=>rfl
  | some o=>
   obtain ⟨ob,O⟩:=I1.base.there a o z (by simp [i4]);rw[T.new]at O;cases O
 refine ⟨a,_,_,C,rfl,J.kIn,et,rfl,rfl,rfl,M.be,M.ty,?_⟩;refine eX J et n0 Ha (λz=>?_) rfl rfl rfl q;obtain ⟨_,o,O,_⟩:=I1.stack.mem z;rw[T.new]at O;cases O
end L2
namespace L2
open PySem
structure Nx {α:Type}(t:Sem α):Prop where
 out:∀(M:Model) (Γ:PySem.Ctx) (P:α->Pos->Shared->Prop) (Ee Ef:Value->Pos->Shared->Prop) (p:Pos) (s:Shared),Sem.wp M Γ t P Ee p s->Sem.wp M Γ t P Ef p s
def Nx.pure (a:b):Nx (pure a):=⟨λM Γ P Ee Ef p s h=>h⟩
def Nx.uns w:Nx (unsupported w:Sem a):=⟨λM Γ P Ee Ef p s h=>h⟩
def Nx.bind {f:b->Sem c}(hm:Nx m) (hf:∀a,Nx (f a)):Nx (m>>=f):=⟨λM Γ P Ee Ef p s h=>by
 have h':Sem.wp M Γ (m.bind f) P Ee p s:=h;rw[qG5]at h'
 change Sem.wp M Γ (m.bind f) _ Ef p s;rw[qG5];show hm.out M Γ _ Ee Ef p s (qI5 M Γ m (λa p' s' q=>(hf a).out M Γ P Ee Ef p' s' q) (λ_ _ _ x=>x) p s h')⟩
def Nx.load a:Nx (load a):=⟨λM Γ P Ee Ef p s h=>by
 obtain ⟨o,e,q⟩:=h;show ⟨o,e,q⟩⟩
def Nx.stack:Nx stack:=⟨λM Γ P Ee Ef p s h=>h⟩
def Nx.update a f:Nx (update a f):=⟨λM Γ P Ee Ef p s h=>⟨h.1,h.2⟩⟩
def Nx.ite [Decidable c]{a:Sem d}(ha:Nx a) (I:Nx b):Nx (if c then a else b):=by
 omega
def Nx.field v i:Nx (field v i):=by
 unfold PySem.field PySem.fieldsOf;refine Nx.bind ?_ λo=>by split <;> first|show Nx.pure _|show Nx.uns _
 split
 .show Nx.bind (Nx.load _) λo=>by split <;> first|show Nx.pure _|show Nx.uns _
 .show Nx.uns _
def Nx.setField v i x:Nx (setField v i x):=by
 unfold PySem.setField
 split
 .unfold PySem.updateField;refine Nx.bind (Nx.load _) λo=>?_
  split
  .show Nx.ite (Nx.update _ _) (Nx.uns _)
  .show Nx.uns _
 .show Nx.uns _
def Nx.behind env l:Nx (behindIsImport env l):=by
 show Nx.ite (Nx.pure _) (Nx.ite (Nx.pure _) (Nx.bind (Nx.field ..) λ_=>Nx.pure _))
def Nx.under:Nx underTheClaimsCaller:=Nx.bind Nx.stack λ_=>Nx.pure _
def Nx.keptBack env b l:Nx (keptBack env b l):=by
 unfold PySem.keptBack
 split
 .show Nx.ite (Nx.pure _) (Nx.bind Nx.under λ_=>Nx.pure _)
 .show Nx.pure _
def Nx.ready:∀l,Nx (readyFrames l)
 | []=>Nx.pure _
 | env::l=>by
  rw[readyFrames.eq_2]
  split
  .show Nx.bind (Nx.load _) λo=>Nx.ite (Nx.pure _) (Nx.bind (Nx.behind ..) λ_=>Nx.bind (Nx.keptBack ..) λ_=>Nx.bind (Nx.update ..) λ_=>Nx.ready l)
  .show Nx.uns _
def Nx.frameOf env:Nx (PySem.frameOf env):=by
 refine Nx.bind (Nx.bind Nx.stack λ_=>Nx.pure _) λl=>Nx.bind ?_ λo=>?_
 .unfold frameObject
  split
  .show Nx.pure _
  .show Nx.bind (Nx.ready _) λ_=>Nx.pure _
 .split <;> first|show Nx.pure _|show Nx.uns _
def Nx.entryPlace f b:Nx (entryPlaceOf f b):=by
 refine Nx.bind Nx.stack λo=>?_
 split <;> show Nx.pure _
structure Po {α:Type}(t:Sem α) (pre:Shared->Prop) (post:α->Shared->Prop):Prop where
 out:∀(M:Model) (Γ:PySem.Ctx) (P:α->Pos->Shared->Prop) (Ee Ef:Value->Pos->Shared->Prop) (p:Pos) (s:Shared),
  pre s->Sem.wp M Γ t P Ee p s->Sem.wp M Γ t (λa p' s'=>P a p' s'/\post a s') Ef p s
def Po.pure {a:b}(h:∀s,pre s->post a s):Po (pure a) pre post:=⟨λM Γ P Ee Ef p s c q=>⟨q,h s c⟩⟩
def Po.uns {post:a->Shared->Prop}:Po (unsupported w) pre post:=⟨λM Γ P Ee Ef p s c q=>q⟩
def Po.bind {f:b->Sem e}(hm:Po m pre mid) (hf:∀a,Po (f a) (mid a) post):Po (m>>=f) pre post:=⟨λM Γ P Ee Ef p s c h=>by
 have h':Sem.wp M Γ (m.bind f) P Ee p s:=h;rw[qG5]at h'
 change Sem.wp M Γ (m.bind f) _ Ef p s;rw[qG5];show qI5 M Γ m (λa p' s' I=>by obtain ⟨q,d⟩:=I;show (hf a).out M Γ P Ee Ef p' s' d q) (λ_ _ _ x=>x) p s (hm.out M Γ _ Ee Ef p s c h')⟩
def Po.any {t:Sem a}(n:Nx t):Po t pre λ_ _=>True:=⟨λM Γ P Ee Ef p s _ h=>qI5 M Γ t ([SH,⟨q,trivial⟩]) (λ_ _ _ x=>x) p s (n.out M Γ P Ee Ef p s h)⟩
def Po.ite [Decidable c]{a:Sem d}(ha:c->Po a pre post) (I:¬ c->Po b pre post):Po [YL,c,a,b] pre post:=by
 omega
def Po.load:Po (load a) pre λo s=>pre s/\s.heap.get? a=some o:=⟨λM Γ P Ee Ef p s c h=>by
 obtain ⟨o,e,q⟩:=h;show ⟨o,e,q,c,e⟩⟩
def FldAt (v:Value)(i:Nat)(x:Value)(h:Heap):Prop:=∃(a:Addr)(o:Obj)(vs:ZY),v=.ref a/\h.get? a=some o/\o.data=.fields vs/\[ZI,vs,x]
def Po.field:Po (field v i) pre λx s=>pre s/\FldAt v i x s.heap:=by
 unfold PySem.field PySem.fieldsOf;refine Po.bind (mid:=λvs s=>pre s/\∃(a:Addr) (o:Obj),v=.ref a/\s.heap.get? a=some o/\o.data=.fields vs) ?_ λvs=>?_
 .split
  .refine Po.bind Po.load λo=>?_
   split
   .rename_i a _ vs e;show Po.pure λs I=>by obtain ⟨c,q⟩:=I;show ⟨c,a,o,rfl,q,e⟩
   .show Po.uns
  .show Po.uns
 .split
  .rename_i x e;show Po.pure λs O=>by obtain ⟨c,a,o,q1,T,q3⟩:=O;show ⟨c,a,o,vs,q1,T,q3,e⟩
  .show Po.uns
def Po.setField:Po (setField v i x) pre λ_ s'=>∃(s:Shared) (a:Addr) (o:Obj) (vs:ZY),pre s/\v=.ref a/\s.heap.get? a=some o/\o.data=.fields vs/\i<vs.size/\s'=[To,s,s.heap.update a (Obj.mapFields (·.setIfInBounds i x))]:=by
 unfold PySem.setField
 split
 .unfold PySem.updateField;refine Po.bind Po.load λo=>?_
  split
  .rename_i _ a _ vs e
   refine Po.ite (λh=>⟨λM Γ P Ee Ef p s c q=>⟨q.1,q.2,s,a,o,vs,c.1,rfl,c.2,e,h,rfl⟩⟩) λ_=>Po.uns
  .show Po.uns
 .show Po.uns
def yj (e:Value)(f:Addr)(h:Heap):Prop:=∃t,FldAt e 1 t h/\FldAt t 3 (rawInt f) h/\t≠.none
theorem FldAt.upd (g:FldAt v i x h) (hn:j≠i):FldAt v i x (h.update a (Obj.mapFields (·.setIfInBounds j y))):=by
 obtain ⟨b,o,vs,O,T,I,e4⟩:=g;by_cases hb:b=a
 .subst hb;obtain ⟨c,d,dt,sl⟩:=o;cases I;show ⟨b,_,_,O,qF1 _ T rfl,rfl,by grind⟩
 .show ⟨b,o,vs,O,[Tr,PySem.Heap.get?_update_ne],I,e4⟩
def FldAt.put {h:Heap}(e:h.get? a=some o) (d:o.data=.fields vs) (hi:i<vs.size):FldAt [ZE,a] i x (h.update a (Obj.mapFields (·.setIfInBounds i x))):=by
 obtain ⟨c,dd,I,sl⟩:=o;cases d;show ⟨a,_,_,rfl,qF1 _ e rfl,rfl,by simp [hi]⟩
def Po.newEntry:Po (EntryCells.newEntry a b c d e l) pre λv s=>FldAt v 3 d s.heap/\v≠.none:=by
 refine Po.ite (λ_=>Po.bind (Po.any (Nx.uns _)) λ_=>?_) λ_=>?_
 all_goals show Po.bind ⟨λM Γ P Ee Ef p s c q=>⟨q,_,_,_,rfl,qB1 _ rfl,rfl,Xaf⟩⟩ λt=>Po.pure λs q=>⟨q,ZU⟩
def Po.noteFrame:Po (noteFrame e env) pre λ_ s=>∃f,env.frame=some f/\yj e f s.heap:=by
 unfold PySem.noteFrame
 split
 .rename_i f hf
  refine Po.bind Po.field λhd=>?_;have I:∀{pre:Shared->Prop}{b:Bool},Po (do let fr <- frameOf env;let pl <- entryPlaceOf f b;let t <- EntryCells.newEntry hd fr .none (rawInt f) .none pl;PySem.setField e 1 t) pre λ_ s=>∃f,env.frame=some f/\yj e f s.heap:=λ{pre b}=>by
   refine Po.bind (mid:=λ_ _=>True) (Po.any (Nx.frameOf _)) λfr=>Po.bind (mid:=λ_ _=>True) (Po.any (Nx.entryPlace _ _)) λpl=>Po.bind Po.newEntry λt=>?_;have q:=Po.setField (v:=e) (i:=1) (x:=t) (pre:=λs=>FldAt t 3 (rawInt f) s.heap/\t≠.none);refine ⟨λM Γ P Ee Ef p s c w=>qI5 M Γ _ (λa p' s' ⟨z,s0,ad,o,vs,⟨c1,c2⟩,e1,e2,e3,e4,e5⟩=>⟨z,f,hf,t,?_,?_,c2⟩) (λ_ _ _ x=>x) p s (q.out M Γ P Ee Ef p s c w)⟩
   .subst e1;subst e5;show FldAt.put e2 e3 e4
   .subst e5;show c1.upd Xaa
  refine Po.ite (λhh=>Po.bind Po.field λx=>Po.ite (λO=>Po.pure λs ⟨⟨_,q1⟩,q2⟩=>⟨f,hf,hd,q1,?_,?_⟩) λ_=>Po.bind (mid:=λ_ _=>True) (Po.any (Nx.setField _ _ _)) λ_=>I) λ_=>I
  .have:x=rawInt f:=by simpa using O
   rw[this]at q2;show q2
  .simpa using hh
 .show Po.uns
def uD {h:Heap}(e:h.get? a=some o) (hg:g o=o):h.update a g=h:=by
 obtain ⟨objs,l⟩:=h;have I:objs[a]?=some o:=by
  unfold Heap.get? at e
  split at e
  .cases e
  .show e
 change Heap.mk _ l=_;congr 1;apply Array.ext_getElem?;intro i;rw[Array.getElem?_modify]
 split
 .subst_vars;rw[I];simp [hg]
 .rfl
def kd (d:o.data=.fields vs) (I:[ZI,vs,x]):Obj.mapFields (·.setIfInBounds i x) o=o:=by
 obtain ⟨c,dd,O,sl⟩:=o;cases d
 change Obj.mk c dd (.fields (vs.setIfInBounds i x)) sl=_
 obtain ⟨h,e⟩:=Array.getElem?_eq_some_iff.mp I
 rw[<- e,Array.setIfInBounds_def,dif_pos h,Array.set_getElem_self]
def wu {vs:ZY}(I:[ZI,vs,x]):i<vs.size:=by
 grind
def kj {f:Addr}(h1:FldAt e 1 [ZE,t] s.heap) (h2:s.heap.get? t=some ot) (h3:ot.data=.fields ws) (T:ws[3]?=some (rawInt f)) (q:Q () [To,s,s.heap.update t (Obj.mapFields (·.setIfInBounds 3 (fr.elim .none λf=>rawInt f)))]):wpAny M A (setFlight e fr) Q E s:=by
 obtain ⟨a,o,vs,rfl,O,I,e4⟩:=h1;refine qA0 (qK8 O I e4 ?_);show wpAny_setField h2 h3 (wu T) q
structure Free {α:Type}(t:Sem α):Prop where
 out:∀(M:Model) (Γ Γ':PySem.Ctx) (P P':α->Pos->Shared->Prop) (E E':Value->Pos->Shared->Prop) (p p':Pos) (s:Shared),(∀a p p' s,P a p s->P' a p' s)->(∀a p p' s,E a p s->E' a p' s)->Sem.wp M Γ t P E p s->Sem.wp M Γ' t P' E' p' s
def Free.pure (a:b):Free (pure a):=⟨λM Γ Γ' P P' E E' p p' s h _ q=>h _ p p' _ q⟩
def Free.uns w:Free (unsupported w:Sem a):=⟨λM Γ Γ' P P' E E' p p' s h _ q=>q⟩
def Free.bind {f:b->Sem c}(hm:Free m) (hf:∀a,Free (f a)):Free (m>>=f):=⟨λM Γ Γ' P P' E E' p p' s h hE q=>by
 have I:Sem.wp M Γ (m.bind f) P E p s:=q;rw[qG5]at I
 change Sem.wp M Γ' (m.bind f) P' E' p' s;rw[qG5];show hm.out M Γ Γ' _ _ E E' p p' s (λa p1 p2 s1 w=>(hf a).out M Γ Γ' P P' E E' p1 p2 s1 h hE w) hE I⟩
def Free.load a:Free (load a):=⟨λM Γ Γ' P P' E E' p p' s h _ q=>by
 obtain ⟨o,e,q⟩:=q;show ⟨o,e,h _ p p' _ q⟩⟩
def Free.update a f:Free (update a f):=⟨λM Γ Γ' P P' E E' p p' s h _ q=>⟨q.1,h _ p p' _ q.2⟩⟩
def Free.ite [Decidable c]{a:Sem d}(ha:Free a) (I:Free b):Free (if c then a else b):=by
 omega
def Free.field v i:Free (field v i):=by
 unfold PySem.field PySem.fieldsOf;refine Free.bind ?_ λo=>by split <;> first|show Free.pure _|show Free.uns _
 split
 .show Free.bind (Free.load _) λo=>by split <;> first|show Free.pure _|show Free.uns _
 .show Free.uns _
def Free.setField v i x:Free (setField v i x):=by
 unfold PySem.setField
 split
 .unfold PySem.updateField;refine Free.bind (Free.load _) λo=>?_
  split
  .show Free.ite (Free.update _ _) (Free.uns _)
  .show Free.uns _
 .show Free.uns _
def Free.setFlight v f:Free (setFlight v f):=by
 unfold PySem.setFlight;show Free.bind (Free.field _ _) λo=>Free.ite (Free.setField _ _ _) (Free.pure _)
def zV {Q:YJ}:PassesOwn M A env (λe s'=>wpAny M A (leaving env e) (λ_ UF=>Q e UF) (λe' UF=>Q e' UF) s'):=by
 intro e s' h Γ p hΓ;have h1:Sem.wp M Γ ((noteFrame e env).bind _) _ _ p s':=h Γ p hΓ;rw[qG5]at h1;refine qI5 M Γ _ (λa p1 s1 I=>?_) (λ_ _ _ x=>False.elim x) p s' (Po.noteFrame (env:=env) (pre:=λ_=>True).out M Γ _ _ _ p s' trivial h1);obtain ⟨q,f,hf,t,m1,m2,m3⟩:=I;obtain ⟨t0,ot,ws,rfl,O,g3,g4⟩:=m2;obtain ⟨ae,oe,vs,rfl,k2,k3,T⟩:=m1;have e0:s1.heap.update t0 (Obj.mapFields (·.setIfInBounds 3 ([ZT,f].elim .none λf=>rawInt f)))=s1.heap:=uD O (kd g3 g4);refine qA0 (qK8 k2 k3 T ?_);rw[hf];refine kj ⟨ae,oe,vs,rfl,k2,k3,T⟩ O g3 g4 ?_;rw[e0];intro Γ2 p2 hΓ2
 change Sem.wp M Γ2 ((noteFrame _ env).bind _) _ _ p2 s1;rw[qG5];have n:wpAny M A (noteFrame [ZE,ae] env) (λ_ s2=>s2=s1) (λ_ _=>False) s1:=by
  unfold PySem.noteFrame;rw[hf];refine qA0 (qK8 k2 k3 T ?_);refine qA0 (qK8 O g3 g4 ?_);rw[qA3 Xaf];show qK4 rfl
 refine qI5 M Γ2 _ (λ_ p3 s3 z=>?_) (λ_ _ _ x=>False.elim x) p2 s1 (n Γ2 p2 hΓ2);subst z;show (Free.setFlight _ none).out M Γ Γ2 _ _ _ _ p1 p3 s3 (λ_ _ _ _ w=>w) (λ_ _ _ _ w=>w) q
end L2
namespace L2
open PySem PySem.Spec PyProof.Rows
def fG {K}:
  PassesOwn (model [Z0Y].prog [Z0Y].w) [Z0Y].A [Z0Y].env [Z0Y].xe:=
 zV
def HV {K:Frag}(lk:K.lookup C=some (excClassObj nm q C N bs bm Up sn sub ab col dd k0 k1 k2 k3 k5 "ValueError.__new__")) (I:PySem.W.tailIn K P9 bm=true) (ty:[Z0t]) (init:PySem.W.findIn K [ZE,C] (Str.ofString "__init__")=some [Wb,f]) (fn:PySem.W.typeIn K [ZE,f]=some (.type "function")) (self:PySem.W.mroIn K C [ZE,C]=some true) (be:[Z0k]) (kp:PySem.W.keepIn K [ZE,C]=true):XMk K C f:=
 ⟨⟨nm,q,N,bs,bm,Up,sn,sub,ab,col,dd,k0,k1,k2,k3,k5,lk,λh X=>PySem.W.tail_of_in X I⟩,ty,init,fn,self,be,kp⟩
def Dj {K:Frag}(lk:K.lookup C=some (excClassObj nm q C N bs bm Up sn sub ab col dd k0 k1 k2 k3 k5 "ValueError.__new__")) (I:PySem.W.tailIn K P9 bm=true) (hok:PySem.W.nsOkIn K N=true) (hn:PySem.W.nsIn K N "__init__" = some none) (ty:[Z0t]) (be:[Z0k]) (kp:PySem.W.keepIn K [ZE,C]=true):aW K C:=
 ⟨⟨nm,q,N,bs,bm,Up,sn,sub,ab,col,dd,k0,k1,k2,k3,k5,lk,λh X=>PySem.W.tail_of_in X I,λh X=>[WH,.of_isNs (PySem.W.isNs_of_in X hok),PySem.W.nsMap_none_of_in X hok hn]⟩,ty,be,kp⟩
def yF {K}(q:PySem.W.excIn K M P9 Yr=true):PySem.W.tailIn K P9 (.ref M::P9)=true:=by
 unfold PySem.W.excIn at q
 split at q
 .rename_i dd cd sl ho
  split at q
  .simp only [qE6]at q;unfold PySem.W.tailIn;dsimp;rw[ho];have e:PySem.W.tailIn K P9 P9=true:=by
    unfold P9 PySem.W.tailIn;rw[Bool.or_eq_true_iff];show .inl (qM3 _)
   simp [q.1.2,q.2,e,Bool.or_true]
  .cases q
 .cases q
def xA {K:Frag}(lk:K.lookup C=some ⟨c,d,.cls cd,sl⟩):PySem.W.clsIn K C=some cd:=by
 unfold PySem.W.clsIn;rw[lk]
def hU {K}(I:PySem.W.clsIn K C=some cd) (O:[Z0t]) (T:PySem.W.subIn K t [ZE,C]=some b):PySem.W.kitCls K t [ZE,C]=some b:=by
 grind[PySem.W.kitCls]
structure XOk (K:Frag) (C f:Addr):Prop where
 mak:XMk K C f
 cls:BJ K C "at"
 get:XGet K C "at"
 is:XIs K C
def HU {K:Frag}(lk:K.lookup C=some (excClassObj nm q C N bs (.ref M::P9) true sn sub ab col dd k0 k1 k2 k3 k5 "ValueError.__new__")) (I:PySem.W.excIn K M P9 "ValueError.__new__" = true) (ty:[Z0t]) (init:PySem.W.findIn K [ZE,C] (Str.ofString "__init__")=some [Wb,f]) (fn:PySem.W.typeIn K [ZE,f]=some (.type "function")) (self:PySem.W.mroIn K C [ZE,C]=some true) (be:[Z0k]) (kp:PySem.W.keepIn K [ZE,C]=true) (sa:PySem.W.findIn K [ZE,C] (Str.ofString "__setattr__")=some [ck,"object.__setattr__"]) (ob:PySem.W.mroIn K C (.type "object")=some true) (no:PySem.W.findIn K [ZE,C] "at" = some none) (ga:[Z0z]) (gh:[Z10]) (cl:PySem.W.findIn K [ZE,C] (Str.ofString "__class__")=some [ck,"object.__class__"]) (gt:PySem.W.specialIn K (.builtin "object.__class__") (Str.ofString "__get__")=some [ck,"getset_descriptor.__get__"]) (tk:PySem.W.takesIn K (.builtin "object.__class__")=some true) (O:PySem.W.subIn K [ZE,C] [ZE,C]=some true):XOk K C f:=by
 have hc:=xA lk;show ⟨HV lk (yF I) ty init fn self be kp,⟨sa,⟨_,[C,M],hc,rfl,rfl⟩,ob,no⟩,⟨ga,gh,be,no,[WH,hc,rfl]⟩,⟨ga,gh,be,ob,cl,gt,tk,hU hc ty O⟩⟩
section
variable {κ:Type} [DecidableEq κ]
def P8 (kvs:List (κ×V))(k:κ):Option V:=(kvs.find? λI=>[ZL,I.1=k]).map (·.2)
def putK (kvs:List (κ×V)) (k:κ) (v:V):List (κ×V):=
 if (kvs.any λI=>[ZL,I.1=k])=true then kvs.map (λI=>if I.1=k then (I.1,v) else I) else kvs ++ [(k,v)]
def dropK (kvs:List (κ×V))(k:κ):List (κ×V):=kvs.filter λI=>[ZL,I.1≠k]
theorem bP {p:κ×V}(e:p.1=k):P8 (p::r) k=some p.2:=by simp [P8,e]
theorem bQ {p:κ×V}(e:¬ p.1=k):P8 (p::r) k=P8 r k:=by simp [P8,e]
theorem bR (k:κ):∀kvs,(kvs.any λI=>[ZL,I.1=k])=(P8 kvs k).isSome
 | []=>rfl
 | p::r=>by
  rw[qI0];by_cases e:p.1=k
  .grind[bP]
  .rw[bQ e,qK2 e,Bool.false_or];show bR k r
def eV (kvs:List (κ×V)) (k:κ) v:[ZM,putK kvs k v]<=kvs.length+1:=by
 unfold putK
 split
 .rw[qA1];omega
 .rw[qC4,qC2,qI3];omega
def zJ {k:κ}v (h:P8 kvs k=none):putK kvs k v=kvs ++ [(k,v)]:=by
 grind[putK,bR]
def RelO.isSome_eq (r:RelO o u):o.isSome=u.isSome:=by
 cases o with
 | none=>cases u with
  |none=>rfl
  |some _=>show (r).elim
 | some _=>cases u with
  |none=>show (r).elim
  |some _=>rfl
def RelO.getD (r:RelO o u) (I:RelV d d'):RelV (o.getD d) (u.getD d'):=by
 cases o with
 | none=>cases u with
  |none=>show I
  |some _=>show (r).elim
 | some _=>cases u with
  |none=>show (r).elim
  |some _=>show r
def KV.val (r:KV kvs vs) (k:κ):RelO (P8 kvs k) (valueAt vs k):=by
 induction r with
 |nil=>show True.intro
 | @cons p q ps qs h t ih=>
  obtain ⟨T,O⟩:=h;by_cases e:p.1=k
  .have I:=T.symm.trans e;have b:valueAt (q::qs) k=some q.2:=by simp [valueAt,I]
   rw[bP e,b];show O
  grind[valueAt,bQ]
def KV.any (r:KV kvs vs) (k:κ):(kvs.any λI=>[ZL,I.1=k])=vs.any λI=>[ZL,I.1=k]:=by
 induction r with
 |nil=>rfl
 |cons h t O=>rw[qI0,qI0,O,h.1]
def KV.repl (r:KV kvs vs) (k:κ) (T:RelV y u):
  KV (kvs.map λI=>if I.1=k then (I.1,y) else I) (vs.map λI=>if I.1=k then (I.1,u) else I):=by
 induction r with
 |nil=>show .nil
 | @cons p q ps qs h t O=>
  refine .cons ?_ O;omega
def KV.put (r:KV kvs vs) (k:κ) (I:RelV y u):KV (putK kvs k y) (stored vs k u):=by
 unfold putK stored;rw[r.any];by_cases e:(vs.any λO=>[ZL,O.1=k])=true
 .rw[qA3 e,qA3 e];show r.repl k I
 .rw[qA9 e,qA9 e];show Paired.snoc r ⟨rfl,I⟩
def KV.keys {vs:List (κ×Value)}(r:KV kvs vs):kvs.map (·.1)=vs.map (·.1):=by
 induction r <;> grind
def KV.length {vs:List (κ×Value)}(r:KV kvs vs):kvs.length=vs.length:=Paired.length r
end
def hZ (r:RelV (kV k) u):(z6 P w).is k u=true:=by
 cases k with
 |inl i=>obtain ⟨t,e⟩:=(r);subst e;show pC P w i t
 |inr x=>obtain ⟨t,e⟩:=(r);subst e;show pB P w x t
def kh:∀{ks}{us:ZW},Vals (ks.map kV) us->ItemsAre (z6 P w) ks us
 | [],_,r=>by cases r;show .nil
 | k::ks,_,r=>by
  cases r with
  |cons h t=>show .cons (hZ h) (kh t)
abbrev KT (H:Hp):List (List Key×V)->List (List Key×Addr×Value)->Prop:=Paired λp q=>p.1=q.1/\H q.2.1=some (.tup (p.1.map kV))/\RelV p.2 q.2.2
def KT.val (r:KT H kvs xs) (k:List Key):RelO (P8 kvs k) ((atKey xs k).map (·.2)):=by
 induction r with
 |nil=>show True.intro
 | @cons p q ps qs h t ih=>
  obtain ⟨T,_,O⟩:=h;by_cases e:p.1=k
  .have I:=T.symm.trans e;have b:atKey (q::qs) k=some q.2:=by simp [atKey,I]
   rw[bP e,b];show O
  grind[atKey,bQ]
def KT.repl (r:KT H kvs xs) k (T:RelV y u):
  KT H (kvs.map λI=>if I.1=k then (I.1,y) else I) (xs.map (putAt k u)):=by
 induction r with
 |nil=>show .nil
 | @cons p q ps qs h t O=>
  refine .cons ?_ O
  grind[putAt]
def KT.put (r:KT H kvs xs) k (O:H b=some (.tup (k.map kV))) (I:RelV y u):
  KT H (putK kvs k y) (storedH xs k b u):=by
 have e:(kvs.any λT=>[ZL,T.1=k])=(atKey xs k).isSome:=by
  rw[bR,(r.val k).isSome_eq,qQ6]
 unfold putK storedH;rw[e];by_cases q:(atKey xs k).isSome=true
 .rw[qA3 q,qA3 q];show r.repl k I
 .rw[qA9 q,qA9 q];show Paired.snoc r ⟨rfl,O,I⟩
def KT.keeps (r:KT H kvs xs) (I:∀b ys,H b=some (.tup ys)->H' b=some (.tup ys)):KT H' kvs xs:=
 Paired.mapP r λ_ _ z=>⟨z.1,I _ _ z.2.1,z.2.2⟩
def Ch (ok:HOk P w H h)(e:Rd H a u):ObjOk P w H h a u:=e.ok ok
def eO (ok:HOk P w H h) (e:Rd H a (.dK kvs)):[Te,kvs.length]/\(a == sysModules)=false/\∃vs,KV kvs vs/\h.DictOf (z6 P w) a vs:=
 Ch ok e
def CQ (ok:HOk P w H h)(e:H a=some (.dK kvs)):[Te,kvs.length]/\(a == sysModules)=false/\∃vs,KV kvs vs/\h.DictOf (z6 P w) a vs:=eO ok (.inl e)
theorem hV (ok:HOk P w H h) (e:H a=some (.tup (ks.map kV))):(tupleKind (z6 P w)).is h ks a:=by
 obtain ⟨_,its,r,o,T,O,n,I⟩:=(ok a _ e);show ⟨o,its.toArray,n,T,O,I,by simpa using kh r⟩
def tK (ok:HOk P w H h) (e:Rd H a (.dT kvs)):[Te,kvs.length]/\(a == sysModules)=false /\
  ∃xs,KT H kvs xs/\h.DictOfH (tupleKind (z6 P w)) a xs:=by
 obtain ⟨z,y,xs,r,o,es,ep,O,I,h3,T,h5⟩:=(Ch ok e);refine ⟨z,y,xs,r,o,es,ep,O,I,h3,T,λx hx=>?_,h5⟩;have all:∀{l:_}{m:_},KT H l m->∀x∈m,(tupleKind (z6 P w)).is h x.1 x.2.1:=by
  intro l m q
  induction q <;> grind[hV]
 show all r x hx
def Rb (ok:HOk P w H h) (e:H a=some (.dT kvs)):[Te,kvs.length]/\(a == sysModules)=false /\
  ∃xs,KT H kvs xs/\h.DictOfH (tupleKind (z6 P w)) a xs:=tK ok (.inl e)
def uk (H:Hp) (a:Addr) (y:V) (r:Option V):Prop:=
 (∃kvs k,Rd H a (.dK kvs)/\y=kV k/\r=P8 kvs k)\/∃kvs k b,Rd H a (.dT kvs)/\y=.ref b/\H b=some (.tup (k.map kV))/\r=P8 kvs k
def DPut (H:Hp) (a:Addr) (y v:V) (H':Hp):Prop:=
 (∃kvs k,H a=some (.dK kvs)/\y=kV k/\kvs.length<sizeLine/\H'=upd H a (.dK (putK kvs k v))) \/
 ∃kvs k b,H a=some (.dT kvs)/\y=.ref b/\H b=some (.tup (k.map kV))/\kvs.length<sizeLine/\H'=upd H a (.dT (putK kvs k v))
def DPut.k {H:Hp}{k}(e:H a=some (.dK kvs))(hl:kvs.length<sizeLine):DPut H a (kV k) v (upd H a (.dK (putK kvs k v))):=.inl ⟨kvs,k,e,rfl,hl,rfl⟩
def Inv.big {a:St}(I:[UE]):sysModules<s.heap.objs.size:=by
 have h:=(I.mod.glob.keeps I.bk).lt;show Nat.lt_trans Xaa h
def d_in {c:St}(hu:A.units+1<cLine) (I:[YR,c,H,s]) (g:uk H a y o) (T:RelV y u) (h:∀s',[YR,c,H,s']->Q (.bool o.isSome) s'):
  wpAny [Ty] A (compareOp .In u [ZE,a]) Q E s:=by
 rcases g with ⟨kvs,k,e,ey,l⟩|⟨kvs,k,b,e,ey,eb,l⟩
 .subst ey;obtain ⟨z,hd,vs,O,dd⟩:=eO I.hok e;refine wpAny_in_of (hZ T) hd dd.mapOf ?_;rw[<- (O.val k).isSome_eq,<- l];show h _ (I.tok _)
 .subst ey;cases show u=_ from T
  obtain ⟨z,hd,xs,O,dd⟩:=tK I.hok e;refine wpAny_in_heap (qQ2 hu) (hV I.hok eb) hd dd ?_;have q:=(O.val k).isSome_eq;rw[qQ6]at q;rw[<- q,<- l];show h _ (I.tok _)
def Gz {c:St}(hu:A.units+1<cLine) (I:[YR,c,H,s]) (g:uk H a y o) (T:RelV y u) (h:∀s',[YR,c,H,s']->Q (.bool (!o.isSome)) s'):
  wpAny [Ty] A (compareOp .NotIn u [ZE,a]) Q E s:=by
 rcases g with ⟨kvs,k,e,ey,l⟩|⟨kvs,k,b,e,ey,eb,l⟩
 .subst ey;obtain ⟨z,hd,vs,O,dd⟩:=eO I.hok e;refine wpAny_notIn_of (hZ T) hd dd.mapOf ?_;rw[<- (O.val k).isSome_eq,<- l];show h _ (I.tok _)
 .subst ey;cases show u=_ from T
  obtain ⟨z,hd,xs,O,dd⟩:=tK I.hok e;refine wpAny_notIn_heap (qQ2 hu) (hV I.hok eb) hd dd ?_;have q:=(O.val k).isSome_eq;rw[qQ6]at q;rw[<- q,<- l];show h _ (I.tok _)
def qS {c:St}(I:[YR,c,H,s]) (mu:Mut (H a)) (hs:Heap.SameBut a s.heap h') (T:∃q,h'.get? a=some q) (O:ObjOk X.prog X.w (upd H a ob) h' a ob):
  [YR,c,upd H a ob,[SS,s,h',t']]:=
 I.write (e:=a) mu [Ws] (λb q hb z=>(hs.2 b hb).trans z) T O
def MT (z:[Te,kvs.length]) (hd:(a == sysModules)=false) (I:KV kvs vs) (dd:h'.DictOf (z6 P w) a vs):
  ObjOk P w H' h' a (.dK kvs):=⟨z,hd,vs,I,dd⟩
def xu {d:St}(hu:A.units+1<cLine) (I:[YR,d,H,s]) (g:DPut H a y v H') (ry:RelV y u) (rv:RelV v r) (h:∀s',[YR,d,H',s']->Q () s'):
  wpAny [Ty] A (setItem [ZE,a] u r) Q E s:=by
 rcases g with ⟨kvs,k,e,ey,l,eH⟩|⟨kvs,k,b,e,ey,eb,l,eH⟩
 .subst ey eH;obtain ⟨z,hd,vs,O,dd⟩:=CQ I.hok e;have hz:[Te,vs.length]:=by rw[<- O.length];show z
  have hl:[Te,[ZM,putK kvs k v]]:=by have:=eV kvs k v;omega
  refine wpAny_setItem_pairs (hZ ry) dd λh' T hs=>h _ ?_;have he:∃q,_=_:=let ⟨q,_,_,hq,_⟩:=T;⟨q,hq⟩;show qS I ([ZO,e,True.intro]) hs he (MT hl hd (O.put k rv) T)
 .subst ey eH;cases show u=_ from ry
  obtain ⟨z,hd,xs,O,dd⟩:=Rb I.hok e;have hz:[Te,xs.length]:=by rw[<- Paired.length O];show z
  have hl:[Te,[ZM,putK kvs k v]]:=by have:=eV kvs k v;omega
  refine wpAny_setItem_heap (qQ2 hu) (hV I.hok eb) dd λh' T hs=>h _ ?_;obtain ⟨q,es,ep,hq,h2,h3,h4,_,h5⟩:=T;refine qS I ([ZO,e,True.intro]) hs ⟨q,hq⟩ ⟨hl,hd,_,(O.put k eb rv).keeps λc ys ec=>?_,q,es,ep,hq,h2,h3,h4,h5⟩
  grind[c0]
def Re {b:St}(I:[YR,b,H,s]) (e:Rd H a (.dK kvs)) (h:∀t s',[YR,b,H,s']->Q (.int kvs.length t) s'):wpAny [Ty] A (call (.builtin "len") [.ref a]) Q E s:=by
 obtain ⟨z,hd,vs,O,dd⟩:=eO I.hok e;refine call_len_dict hd dd (by rw[<- O.length];rw[sizeLine_eq]at z;omega) ?_;rw[<- O.length];show h _ _ (I.tok _)
def IC (ty I:TE):TE:=λb H Q=>ty b H λy H1=>I b H1 λx H2=>∃a o,x=.ref a/\uk H2 a y o/\Q (.bl o.isSome) H2
def pU (ty I:TE):TE:=λb H Q=>ty b H λy H1=>I b H1 λx H2=>∃a o,x=.ref a/\uk H2 a y o/\Q (.bl (!o.isSome)) H2
def rY (O ty tv:TE):TS:=λD b H=>tv b H λv H1=>O b H1 λx H2=>ty b H2 λy T=>∃a I,x=.ref a/\DPut T a y v I/\D.nx b I
def Kv (hu:X.A.units+1<cLine) (hi:PE X i ty) (ho:PE X o td):PC X .In i o (IC ty td):=by
 show 7 b;refine thn [SI,hi,b] λiv s1 ⟨y,H1,I1,ry,q1⟩=>thn (ho pins s1 b H1 _ I1 q1) λu s2 O=>?_;obtain ⟨x,H2,I2,T,a,ov,ex,g,q2⟩:=O;subst ex;obtain rfl:=T;show d_in hu I2 g ry λs3 I3=>⟨.bl _,H2,I3,rfl,q2⟩
def vO (hu:X.A.units+1<cLine) (hi:PE X i ty) (ho:PE X o td):PC X .NotIn i o (pU ty td):=by
 show 7 b;refine thn [SI,hi,b] λiv s1 ⟨y,H1,I1,ry,q1⟩=>thn (ho pins s1 b H1 _ I1 q1) λu s2 O=>?_;obtain ⟨x,H2,I2,T,a,ov,ex,g,q2⟩:=O;subst ex;obtain rfl:=T;show Gz hu I2 g ry λs3 I3=>⟨.bl _,H2,I3,rfl,q2⟩
def qo (hu:X.A.units+1<cLine) (ho:PE X o td) (hi:PE X i ty) (hv:PE X value tv) (hs:[Z0N,value,.Subscript o i pos']=pure false):
  PS X (.Assign [.Subscript o i pos'] value pos) (rY td ty tv):=by
 intro pins s b H D I h;refine wpAny_Assign_Subscript (thn [SI,hv,b] λr s1 ⟨v,H1,I1,rv,q1⟩=>thn (ho pins s1 b H1 _ I1 q1) λu s2 ⟨x,H2,I2,rx,q2⟩=>thn (hi pins s2 b H2 _ I2 q2) λiv s3 O=>?_) hs;obtain ⟨y,H3,I3,ry,a,H4,ex,g,q3⟩:=O;subst ex;obtain rfl:=rx;show xu hu I3 g ry rv λs4 T=>⟨b,H4,T,q3⟩
def Bq (h:Heap) (I:sysModules<h.objs.size):ObjOk P w H (h.push { cls:=.type "dict",data:=.dict #[] }) h.objs.size (.dK []):=
 ⟨qE1 _,qM5.mpr (Ne.symm (qD5 I)),[],.nil,Heap.DictOf.new h⟩
def tDNewK:TE:=λ_ H Q=>∀p,H p=none->Q [ZE,p] (upd H p (.dK []))
def zS:PE X (.Dict [] [] pos) tDNewK:=λpins s a H Q I h=>
 wpAny_Dict_empty ⟨.ref _,_,I.laid (o:=_) (λ_ _ q=>qA2 _ q) (qA6 _) (Bq _ I.big),rfl,h _ (I.hok.fresh (qA6 _))⟩
end L2
namespace L2
open PySem
structure Sub where
 t:Bool
 i:Addr
 l:Addr
def Sub.At (u:Sub)(h:Heap)(n:Nat):Prop:=if u.t=true then h.IsTupleIter u.i u.l n else h.IsListIter u.i u.l n
def Sub.Src (u:Sub)(h:Heap)(xs:ZY):Prop:=if u.t=true then h.IsTuple u.l xs else h.IsList u.l xs
def Sub.At.obj {u:Sub}(x:u.At h n):∃o,h.get? u.i=some o/\o.data=.fields #[.ref u.l,.int n 0]:=by
 unfold Sub.At at x
 split at x <;> (obtain ⟨o,e,_,d⟩:=x;show ⟨o,e,d⟩)
def Sub.At.keep {u:Sub}(x:u.At h n) (k:∀o,h.get? u.i=some o->h'.get? u.i=some o):u.At h' n:=by
 unfold Sub.At at x ⊢
 split at x <;> (rename_i ht;obtain ⟨o,e,r⟩:=x;simp [ht,qM8];show ⟨o,k o e,r⟩)
def Sub.Src.keep {u:Sub}(x:u.Src h xs) (k:∀o,h.get? u.l=some o->h'.get? u.l=some o):u.Src h' xs:=by
 unfold Sub.Src at x ⊢
 split at x <;> (rename_i ht;obtain ⟨o,e,r⟩:=x;simp [ht,qM8];show ⟨o,k o e,r⟩)
def gQ (I:s.heap.IsTupleIter it t i) (ht:s.heap.IsTuple t items) (hx:[ZI,items,x]) (hQ:∀h',h'.IsTupleIter it t (i+1)->Heap.SameBut it s.heap h'->Q x [To,s,h']):[ST,Builtin.SmallTypes.nextOf (.ref it)]:=by
 obtain ⟨o,O,hc,hd⟩:=id I;obtain ⟨ol,YE,_,nl,T⟩:=ht;refine qA0 (qL2 I.typeIs qH1 (qL7 qH1 I.typeIs F.entry_tuple_iterator_next ?_ (F.args_tuple_iterator_next_1 _)))
 change wpAny _ _ (field _ 0>>=_) _ _ s;refine qA0 (qK8 O hd rfl ?_)
 change wpAny _ _ [YL,(Value.ref t == Value.none)=true,_,_] _ _ s;change _;refine qA0 (qK8 O hd rfl ?_);refine qA0 (qL5 YE T ?_);simp [hx];refine qA0 (wpAny_setField O hd Xaf (qK4 ⟨x,rfl,qK4 (hQ _ ?_ (Heap.SameBut.update ..))⟩));show ⟨_,qF1 _ O (Obj.isFreed_of_fields (Obj.data_mapFields hd _)),(Obj.cls_mapFields ..).trans hc,by rw[Obj.data_mapFields hd];simp [rawInt]⟩
theorem je (hh:A.handled=none) (I:s.heap.IsTupleIter it t i) (ht:s.heap.IsTuple t items) (hx:items[i]?=none) (hE:∀h' e,Heap.ExtBut it s.heap h'->(∃o,h'.get? e=some o/\o.cls=.type "StopIteration")->E [ZE,e] [To,s,h']):[ST,Builtin.SmallTypes.nextOf (.ref it)]:=by
 obtain ⟨o,O,hc,hd⟩:=id I;obtain ⟨ol,YE,_,nl,T⟩:=ht;refine qA0 (qL2 I.typeIs qH1 (qL7 qH1 I.typeIs F.entry_tuple_iterator_next ?_ (F.args_tuple_iterator_next_1 _)))
 change wpAny _ _ (field _ 0>>=_) _ _ s;refine qA0 (qK8 O hd rfl ?_)
 change wpAny _ _ [YL,(Value.ref t == Value.none)=true,_,_] _ _ s;change _;refine qA0 (qK8 O hd rfl ?_);refine qA0 (qL5 YE T ?_);simp [hx];refine qA0 (wpAny_rule (qA0 (wpAny_setField O hd Xaf ?_)));refine qA0 ?_;refine qA0 (qL0 ?_ (by size_fits));refine qA0 (m:=firstArgMember _ _) (qP9 (a:=Value.none) (by first|rfl | (simp only [firstArgMember];rfl)) ?_);refine qL0 ?_ (by size_fits);simp only [raiseNew];refine qA0 (wpAny_handled ?_);first|rw[show A.in1.handled=none from hh] |rw[hh]
 refine qA0 (qK4 (wpAny_throw ?_));show hE _ _ (((Heap.SameBut.update ..).extBut.push _).push _) [WH,qB1 _ rfl,rfl]
def Sub.item {u:Sub}(ha:u.At s.heap n) (hs:u.Src s.heap xs) (O:xs[n]?=some x) (I:∀h',u.At h' (n+1)->Heap.SameBut u.i s.heap h'->Q x [To,s,h']):[ST,Builtin.SmallTypes.nextOf (.ref u.i)]:=by
 unfold Sub.At at ha I;unfold Sub.Src at hs;cases T:u.t with
 |true=>simp [T]at ha hs I;show gQ ha hs O I
 |false=>simp [T,qJ7]at ha hs I;show wpAny_nextOf_list_item ha hs O I
def Sub.ends {u:Sub}(hh:A.handled=none) (ha:u.At s.heap n) (hs:u.Src s.heap xs) (O:xs[n]?=none) (I:∀h' e,Heap.ExtBut u.i s.heap h'->(∃o,h'.get? e=some o/\o.cls=.type "StopIteration")->E [ZE,e] [To,s,h']):[ST,Builtin.SmallTypes.nextOf (.ref u.i)]:=by
 grind[Sub.At,Sub.Src,je,wpAny_nextOf_list_end]
abbrev M2 (h:Heap)(T:Addr)(arr:ZY):Prop:=h.get? T=some [Z09,arr]
def drawn (n:Nat):List (Sub×Array Value)->Nat->Array Value->Array Value
 | [],_,arr=>arr
 |u::r,c,arr=>drawn n r (c+1) (arr.setIfInBounds c (u.2.getD n .none))
def De (prog:Program) (w:World) (A:Around) (z TO:Addr) (E:YJ) (B:Value×Nat->Option Fin×Unit->Sem (ForInStep (Option Fin×Unit))):Prop:=
 ∀ (v:Value) (k:Nat) (s:Shared) (Q:ForInStep (Option Fin×Unit)->Shared->Prop),
  wpAny (model prog w) A (Builtin.SmallTypes.nextOf v) (λx s1=>∃arr,M2 s1.heap TO arr/\[Te,arr.size]/\∀h',M2 h' TO (arr.setIfInBounds k x)->Heap.SameBut TO s1.heap h'->Q (.yield (none,())) [To,s1,h'])
   (λe s1=>wpAny (model prog w) A (setField [ZE,z] 0 .none) (λ_ s2=>E e s2) E s1) s->[ST,B (v,k) (none,())]
structure Apart (z TO:Addr) (ss:List (Sub×Array Value)):Prop where
 zTO:z≠TO
 zi:∀u∈ss,u.1.i≠z
 ti:∀u∈ss,u.1.i≠TO
 nd:ss.Pairwise λu v=>u.1.i≠v.1.i
 lz:∀u∈ss,u.1.l≠z
 lt:∀u∈ss,u.1.l≠TO
 li:∀u∈ss,∀v∈ss,u.1.l≠v.1.i
def Apart.tail {TO}(D:Apart z TO (u::ss)):Apart z TO ss:=
 ⟨D.zTO,λv I=>D.zi v (qA5 _ I),λv I=>D.ti v (qA5 _ I),(qM9.mp D.nd).2,λv I=>D.lz v (qA5 _ I),λv I=>D.lt v (qA5 _ I),
  λv I x O=>D.li v (qA5 _ I) x (qA5 _ O)⟩
def draws {TI TO}(hB:De prog w A z TO E B):
  ∀ (ss:List (Sub×Array Value)) c arr s Q,Apart z TO ss->IsZip s.heap z TI TO .ellipsis->M2 s.heap TO arr->[Te,arr.size] ->
   (∀u∈ss,u.1.At s.heap n/\u.1.Src s.heap u.2/\∃x,u.2[n]?=some x) ->
   (∀ h',IsZip h' z TI TO .ellipsis->M2 h' TO (drawn n ss c arr)->(∀u∈ss,u.1.At h' (n+1))->h'.objs.size=s.heap.objs.size ->
    (∀b o,b≠TO->(∀u∈ss,b≠u.1.i)->([SR])->[TN,h'.get?])->Q (none,()) [To,s,h']) ->
   [ST,forIn ((ss.map λu=>Value.ref u.1.i).zipIdx c) (none,()) B]:=by
 intro ss
 induction ss with
 | nil=>
  intro c arr s Q D hz hT hl hu hQ;show qK4 (hQ _ hz hT (λ_ h=>absurd h qD4) rfl λ_ _ _ _ e=>e)
 | cons u r ih=>
  intro c arr s Q D hz hT hl hu hQ;simp [qD2,List.zipIdx_cons,List.forIn_cons];obtain ⟨ha,Uv,x,hx⟩:=hu u qB3;refine qA0 (hB _ _ _ _ (Sub.item ha Uv hx λT XY sb1=>⟨arr,sb1.extBut _ _ (D.ti u qB3).symm hT,hl,λO Xq sb2=>?_⟩));have uz:=D.zi u qB3;have ut:=D.ti u qB3;have kp:∀b o,b≠TO->b≠u.1.i->([SR])->[TN,O.get?]:=λb o T O e=>sb2.extBut _ _ T (sb1.extBut _ _ O e);have XO:∀v∈r,v.1.i≠u.1.i:=λv I=>((qM9.mp D.nd).1 v I).symm;refine ih (c+1) (arr.setIfInBounds c x) [To,s,O] Q D.tail (kp _ _ D.zTO uz.symm hz) Xq [SX,hl] (λv I=>?_) λh3 z3 T3 a3 s3 k3=>?_
  .obtain ⟨a,b,y⟩:=hu v (qA5 _ I);show ⟨a.keep λo e=>kp _ o (D.ti v (qA5 _ I)) (XO v I) e,b.keep λo e=>kp _ o (D.lt v (qA5 _ I)) (D.li v (qA5 _ I) u qB3) e,y⟩
  .refine hQ h3 z3 ?_ (λv I=>?_) (by rw[s3];change O.objs.size=_;rw[sb2.1,sb1.1]) λb o T O e=>k3 b o T (λv I=>O v (qA5 _ I)) (kp b o T (O u qB3) e)
   .have e:u.2.getD n .none=x:=by simp_all
    change M2 h3 TO (drawn n r (c+1) (arr.setIfInBounds c (u.2.getD n .none)));rw[e];show T3
   .rcases qB5.mp I with rfl|I
    .show XY.keep λo e=>k3 _ o ut (λv' Yx=>(XO v' Yx).symm) (sb2.extBut _ _ ut e)
    .show a3 v I
def xn {TI TO}(hh:A.handled=none) (hB:De prog w A z TO E B):
  ∀ (ss:List (Sub×Array Value)) c arr s Q,Apart z TO ss->IsZip s.heap z TI TO .ellipsis->M2 s.heap TO arr->[Te,arr.size] ->
   (∀u∈ss,u.1.At s.heap n/\u.1.Src s.heap u.2)->(∃u∈ss,u.2[n]?=none) ->
   (∀h' e,(∀b o,b≠z->b≠TO->(∀u∈ss,b≠u.1.i)->([SR])->[TN,h'.get?])->(∃o,h'.get? e=some o/\o.cls=.type "StopIteration")->E [ZE,e] [To,s,h']) ->
   [ST,forIn ((ss.map λu=>Value.ref u.1.i).zipIdx c) (none,()) B]:=by
 intro ss
 induction ss with
 | nil=>
  intro c arr s Q D hz hT hl hu hx T;obtain ⟨_,h,_⟩:=hx;show absurd h qD4
 | cons u r ih=>
  intro c arr s Q D hz hT hl hu hx T;simp [List.zipIdx_cons];obtain ⟨ha,Uv⟩:=hu u qB3;have uz:=D.zi u qB3;have ut:=D.ti u qB3;cases WW:u.2[n]? with
  | none=>
   refine qA0 (hB _ _ _ _ (Sub.ends hh ha Uv WW λh1 e eb he=>?_));obtain ⟨oe,a4,a5⟩:=he;have Wz:=eb _ _ uz.symm hz;have a3:e≠z:=λx=>ZU;show qM0 Wz Xaf λh3 _ sb3=>T h3 e (λb o b1 b2 O q=>sb3.extBut _ _ b1 (eb _ _ (O u qB3) q)) ⟨oe,sb3.extBut _ _ a3 a4,a5⟩
  | some x=>
   refine qA0 (hB _ _ _ _ (Sub.item ha Uv WW λh1 XY sb1=>⟨arr,sb1.extBut _ _ ut.symm hT,hl,λh2 Xq sb2=>?_⟩));have kp:∀b o,b≠TO->b≠_->_=_->_=some o:=λb o h1 h2 e=>sb2.extBut _ _ h1 (sb1.extBut _ _ h2 e);have XO:=λv I=>((qM9.mp D.nd).1 v I).symm;refine ih _ _ [To,s,h2] Q D.tail (kp _ _ D.zTO uz.symm hz) Xq [SX,hl] (λv I=>?_) ?_ λh3 e k3 he=>?_
   .obtain ⟨a,b⟩:=hu v (qA5 _ I);show ⟨a.keep λo e=>kp _ o (D.ti v (qA5 _ I)) (XO v I) e,b.keep λo e=>kp _ o (D.lt v (qA5 _ I)) (D.li v (qA5 _ I) u qB3) e⟩
   .obtain ⟨v,I,e⟩:=hx;rcases qB5.mp I with rfl|I
    .rw[WW]at e;cases e
    .show ⟨v,I,e⟩
   .show T h3 e (λb o b1 b2 O q=>k3 b o b1 b2 (λv I=>O v (qA5 _ I)) (kp b o b2 (O u qB3) q)) he
def tL n:∀(ss:List (Sub×Array Value)) c (arr:ZY),(drawn n ss c arr).size=arr.size:=by
 intro ss
 induction ss <;> grind[drawn]
def xp n:∀(ss:List (Sub×Array Value)) c (arr:ZY),c+ss.length=arr.size->(drawn n ss c arr).toList=arr.toList.take c++ss.map λu=>u.2.getD n .none:=by
 intro ss
 induction ss with
 | nil=>
  grind[drawn,List.take_of_length_le]
 | cons u r I=>
  intro c arr h;unfold drawn;have hc:c<arr.size:=by simp at h;omega
  grind[List.take_add_one,List.take_set,List.set_eq_of_length_le]
def yl {TI TO}(D:Apart z TO ss) (Ud:ss ≠ []) (Vk:arr.size=ss.length) (TV:[Te,ss.length]) (hz:IsZip s.heap z TI TO .none) (UO:M2 s.heap TI (ss.map λu=>Value.ref u.1.i).toArray) (Vn:M2 s.heap TO arr) (hu:∀u∈ss,u.1.At s.heap n/\u.1.Src s.heap u.2/\∃x,u.2[n]?=some x) (hQ:∀h',IsZip h' z TI TO (rawInt s.heap.objs.size)->(∃UZ,M2 h' TO UZ/\UZ.size=ss.length)->(∀u∈ss,u.1.At h' (n+1))->M2 h' s.heap.objs.size (ss.map λu=>u.2.getD n .none).toArray ->
   (∀b o,b≠z->b≠TO->(∀u∈ss,b≠u.1.i)->([SR])->[TN,h'.get?])->Q [Wb,s.heap.objs.size] [To,s,h']):
  [ST,pyNext (.ref z)]:=by
 have hT:s.TypeIs [ZE,z] "zip" := [WH,hz,rfl];refine qA0 (qM4 (qL2 hT qO5 (qL7 qO5 hT F.entry_zip_next ?_ (F.args_zip_next_1 _))))
 change wpAny _ _ (field _ 2>>=_) ..;refine qA0 (qK8 hz rfl rfl ?_);refine qA0 (qK8 hz rfl rfl ?_);refine qA0 (qL5 UO rfl ?_);have e1:(ss.map λu=>Value.ref u.1.i).toArray.isEmpty=false:=by simp_all
 simp [e1];refine qA0 ?_;refine qA0 (qK8 hz rfl rfl (qK4 ?_));simp only [qK7];refine qA0 (wpAny_rule ?_);refine qA0 (qK8 hz rfl (x:=.ref TO) rfl ?_);refine qA0 (qM0 hz Xaf λh1 z1 sb1=>?_);replace z1:IsZip h1 z TI TO .ellipsis:=z1
 refine qA0 (draws (TI:=TI) (n:=n) (z:=z) (TO:=TO) ?_ ss 0 arr _ _ D z1 (sb1.extBut _ _ D.zTO.symm Vn) ZU (λu hm=>?_) λI z2 T2 a2 s2 k2=>?_)
 .intro v k s Q h;refine qA0 (wpAny_onRaise ?_)
  change wpAny _ _ (Builtin.SmallTypes.nextOf v>>=_) _ _ _;refine qA0 (qK9 h (λx s1 ⟨arr,hT1,hl,hq⟩=>qK4 ?_) λe s1 he=>he);refine qA0 (qL5 hT1 rfl ?_);refine qA0 (wpAny_updateSeq hT1 rfl ?_ hl (by rw[qR8];omega));refine qA0 (wpAny_letGo (qK4 (hq _ ?_ (Heap.SameBut.update ..))))
  change Heap.get? _ _=_;rw[qF1 _ hT1 rfl];simp [Obj.mapSeq]
 .obtain ⟨a,b,x⟩:=hu u hm;show ⟨a.keep λo e=>sb1.extBut _ _ (D.zi u hm) e,b.keep λo e=>sb1.extBut _ _ (D.lz u hm) e,x⟩
 .have ed:(drawn n ss 0 arr).toList=ss.map λu=>u.2.getD n .none:=by rw[xp n ss 0 arr ZU];simp
  refine qA0 (qL5 T2 rfl ?_);have UC:I.objs.size=s.heap.objs.size:=[ZO,s2,sb1.1]
  have O:z<I.objs.size:=qB2 z2;refine qA0 (wpAny_newTuple (qA0 ?_) (by rw[ed,qA1];show TV));unfold Builtin.SmallTypes.ownedTupleHandOut;have z3:IsZip (I.push [Z09,(drawn n ss 0 arr).toList.toArray]) z TI TO .ellipsis:=qA2 _ z2;refine qA0 (qM0 z3 Xaf λh4 z4 sb4=>?_);replace z4:IsZip h4 z TI TO (rawInt I.objs.size):=z4
  refine qM0 z4 Xaf λh5 T sb5=>?_;replace T:IsZip h5 z TI TO (rawInt I.objs.size):=T
  have up:∀b o,b≠z->[TN,I.get?]->[TN,h5.get?]:=λb o hb e=>sb5.extBut _ _ hb (sb4.extBut _ _ hb (qA2 _ e));have T5:M2 h5 I.objs.size (drawn n ss 0 arr).toList.toArray:=sb5.extBut _ _ (qI7 O) (sb4.extBut _ _ (qI7 O) (qB1 _ rfl));rw[ed]at T5;rw[UC]at T T5;refine qK4 [WH,rfl,qK4 ?_]
  change Q [Wb,I.objs.size] _;rw[UC];show hQ h5 T [WH,up _ _ D.zTO.symm T2,by rw[tL,Vk]] (λu hm=>(a2 u hm).keep λo e=>up _ o (D.zi u hm) e) T5 λb o b1 b2 b3 e=>up b o b1 (k2 b o b2 b3 (sb1.extBut _ _ b1 e))
def yk {TI TO}(hh:A.handled=none) (D:Apart z TO ss) (Vk:arr.size=ss.length) (TV:[Te,ss.length]) (hz:IsZip s.heap z TI TO .none) (UO:M2 s.heap TI (ss.map λu=>Value.ref u.1.i).toArray) (Vn:M2 s.heap TO arr) (hu:∀u∈ss,u.1.At s.heap n/\u.1.Src s.heap u.2) (hx:∃u∈ss,u.2[n]?=none) (hQ:∀h',(∀b o,b≠z->b≠TO->(∀u∈ss,b≠u.1.i)->([SR])->[TN,h'.get?])->Q none [To,s,h']):
  [ST,pyNext (.ref z)]:=by
 have O:s.TypeIs [ZE,z] "zip" := [WH,hz,rfl];refine qA0 (qM4 (qL2 O qO5 (qL7 qO5 O F.entry_zip_next ?_ (F.args_zip_next_1 _))))
 change wpAny _ _ (field _ 2>>=_) ..;refine qA0 (qK8 hz rfl rfl ?_);refine qA0 (qK8 hz rfl rfl ?_);refine qA0 (qL5 UO rfl ?_);have e1:(ss.map λu=>Value.ref u.1.i).toArray.isEmpty=false:=by
  obtain ⟨u,hm,_⟩:=hx;cases ss with
  |nil=>show nomatch hm
  |cons a b=>simp
 simp [e1];refine qA0 ?_;refine qA0 (qK8 hz rfl rfl (qK4 ?_));refine qA0 (wpAny_rule ?_);refine qA0 (qK8 hz rfl rfl ?_);refine qA0 (qM0 hz Xaf λh1 z1 sb1=>?_);refine qA0 (xn (A:=A.in1) (TI:=TI) (n:=n) (z:=z) (TO:=TO) [SF,A.in1.handled=none,hh] ?_ ss 0 arr _ _ D z1 (sb1.extBut _ _ D.zTO.symm Vn) ZU (λu hm=>?_) hx λh2 e k2 I=>?_)
 .intro v k s Q h;refine qA0 (wpAny_onRaise ?_)
  change wpAny _ _ (Builtin.SmallTypes.nextOf v>>=_) _ _ _;refine qA0 (qK9 h (λx s1 ⟨arr,hT1,hl,hq⟩=>qK4 ?_) λe s1 I=>I);refine qA0 (qL5 hT1 rfl ?_);refine qA0 (wpAny_updateSeq hT1 rfl ?_ hl (by rw[qR8];omega));refine qA0 (wpAny_letGo (qK4 (hq _ ?_ (Heap.SameBut.update ..))))
  change Heap.get? _ _=_;rw[qF1 _ hT1 rfl];simp [Obj.mapSeq]
 .obtain ⟨a,b⟩:=hu u hm;show ⟨a.keep λo e=>sb1.extBut _ _ (D.zi u hm) e,b.keep λo e=>sb1.extBut _ _ (D.lz u hm) e⟩
 .obtain ⟨o,ho,hc⟩:=I;refine qA0 (wpAny_isInstance (T := "StopIteration") (b:=true) ⟨o,ho,hc⟩ isSubtype_stop ?_);show qK4 (hQ _ λb o b1 b2 b3 e=>k2 b o b1 b2 b3 (sb1.extBut _ _ b1 e))
def SrcAt (h:Heap)(u:Bool×Addr×Array Value):Prop:=if u.1=true then h.IsTuple u.2.1 u.2.2 else h.IsList u.2.1 u.2.2
def r6 (n:Nat):List (Bool×Addr×Array Value)->List (Sub×Array Value)
 | []=>[]
 |u::r=>(⟨u.1,n,u.2.1⟩,u.2.2)::r6 (n+1) r
def AG (hs:SrcAt s.heap u) (O:∀h',(Sub.mk u.1 s.heap.objs.size u.2.1).At h' 0->h'.objs.size=s.heap.objs.size+1->(∀b o,([SR])->[TN,h'.get?])->Q [ZE,s.heap.objs.size] [To,s,h']):
  [ST,pyIter (.ref u.2.1)]:=by
 unfold SrcAt at hs;cases I:u.1 with
 | true=>
  simp [I]at hs;refine qN0 hs (O _ ?_ (qI8 ..) λb o e=>qA2 _ e);simp [I];show ⟨_,qB1 _ rfl,rfl,rfl⟩
 | false=>
  simp [I,qM8]at hs;refine qN6 hs (O _ ?_ (qI8 ..) λb o e=>qA2 _ e);simp [I,qM8];show ⟨_,qB1 _ rfl,rfl,rfl⟩
def SrcAt.keep (x:SrcAt h u) (k:∀b o,[TN,h.get?]->[TN,h'.get?]):SrcAt h' u:=by
 unfold SrcAt at x ⊢
 split at x <;> (rename_i ht;obtain ⟨o,e,r⟩:=x;simp [ht,qM8];show ⟨o,k _ o e,r⟩)
def pF:∀(us:List (Bool×Addr×Array Value)) (I:ZY) s (Q:Array Value->Shared->Prop),(∀u∈us,SrcAt s.heap u) ->
  (∀ h',(∀v∈r6 s.heap.objs.size us,v.1.At h' 0)->h'.objs.size=s.heap.objs.size+us.length->(∀b o,([SR])->[TN,h'.get?]) ->
   Q (I++((r6 s.heap.objs.size us).map λv=>Value.ref v.1.i).toArray) [To,s,h']) ->
  [ST,forIn (us.map λu=>Value.ref u.2.1) I λx r=>do let y <- holding r.toList (pyIter x);pure (ForInStep.yield (r.push y))]:=by
 intro us
 induction us with
 | nil=>
  intro I s Q _ T
  have:=T _ (λ_ h=>absurd h qD4) rfl λ_ _ e=>e
  show qK4 (by simpa [r6]using this)
 | cons u r ih=>
  intro I s Q hs T;simp only [qD2,List.forIn_cons];refine qA0 (qA0 (qK6 (AG (hs u qB3) λh1 a1 s1 k1=>qK4 ?_)));refine ih _ [To,s,h1] Q (λv O=>(hs v (qA5 _ O)).keep k1) λh2 a2 s2 k2=>?_;have q:=T h2 (λv O=>?_) (by rw[s2];rw[s1,qC2];omega) λb o e=>k2 b o (k1 b o e)
  .simp_all[r6]
  .rcases qB5.mp O with rfl|O
   .show a1.keep λo e=>k2 _ o e
   grind
def AH (hs:∀u∈us,SrcAt s.heap u) (I:∀h',(∀v∈r6 s.heap.objs.size us,v.1.At h' 0)->h'.objs.size=s.heap.objs.size+us.length->(∀b o,([SR])->[TN,h'.get?]) ->
   Q ((r6 s.heap.objs.size us).map λv=>Value.ref v.1.i) [To,s,h']):[ST,Builtin.SmallTypes.iterAll (us.map λu=>Value.ref u.2.1)]:=by
 refine qA0 (pF us #[] s _ hs λh' O s1 k1=>qK4 ?_)
 have:=I h' O s1 k1
 simpa using this
def aL:∀(us:List (Bool×Addr×Array Value)) n,[ZM,r6 n us]=us.length:=by
 intro us
 induction us with
 |nil=>intro n;rfl
 |cons u r I=>intro n;unfold r6;rw[qC2,I,qC2]
def kb (us:List (Bool×Addr×Array Value)) (hl:[Te,us.length]) :
  Meets (Builtin.«zip.__new__» ⟨.type "zip" :: us.map λu=>Value.ref u.2.1,[]⟩) (λ_ R s=>(∀u∈us,SrcAt s.heap u) /\
   ∀ h',(∀v∈r6 s.heap.objs.size us,v.1.At h' 0)->M2 h' (s.heap.objs.size+us.length) ((r6 s.heap.objs.size us).map λv=>Value.ref v.1.i).toArray ->
    (∃arr,M2 h' (s.heap.objs.size+us.length+1) arr/\arr.size=us.length)->IsZip h' (s.heap.objs.size+us.length+2) (s.heap.objs.size+us.length) (s.heap.objs.size+us.length+1) .none ->
    (∀b o,([SR])->[TN,h'.get?])->R (.ok (.ret [ZE,s.heap.objs.size+us.length+2])) [To,s,h']):=
 .of_wp λprog w A R s h=>by
  obtain ⟨hs,h⟩:=h;refine qA0 ?_;refine qA0 (qP9 rfl ?_);refine qA0 (qP9 sub_zip ?_);refine qK4 ?_;refine qA0 (AH hs λO a1 s1 k1=>?_);refine qA0 (wpAny_newTuple ?_ (by simp [aL,hl]));refine qA0 (wpAny_newTuple ?_ (by simp [aL,hl]));generalize hI:((r6 s.heap.objs.size us).map λv=>Value.ref v.1.i)=I at h ⊢
  have T:I.length=us.length:=by rw[<- hI,qA1,aL]
  refine qA0 ?_
  change wpAny _ _ (newObj (.type "zip") (.fields #[.none,.bool false,.bool false,.ref O.objs.size,.ref (O.push [Z09,I.toArray]).objs.size]) none) _ _ _;refine qL0 (qK4 ?_) (by size_fits);have z0:O.objs.size=s.heap.objs.size+us.length:=s1;have z1:(O.push [Z09,I.toArray]).objs.size=s.heap.objs.size+us.length+1:=by simp_all
  have z2:((O.push [Z09,I.toArray]).push [Z09,(I.map λ_=>Value.none).toArray]).objs.size=s.heap.objs.size+us.length+2:=by rw[qI8,z1]
  show 6;have g:=h (((O.push [Z09,I.toArray]).push [Z09,(I.map λ_=>Value.none).toArray]).push [Z0A,"zip",#[.none,.bool false,.bool false,.ref O.objs.size,.ref (O.push [Z09,I.toArray]).objs.size]])
   (λv hv=>(a1 v hv).keep λo e=>qA2 _ (qA2 _ (qA2 _ e))) ?_ ⟨(I.map λ_=>Value.none).toArray,?_,by simp [T]⟩ ?_ λb o e=>qA2 _ (qA2 _ (qA2 _ (k1 b o e)))
  .rw [<- z2]at g
   show g
  .rw[<- z0];show qA2 _ (qA2 _ (qB1 _ rfl))
  .rw[<- z1];show qA2 _ (qB1 _ rfl)
  .rw[<- z2,<- z1,<- z0];show qB1 _ rfl
def rJ a b c:checkTypeCall "zip" ⟨[a,b,c],[]⟩=pure ():=Xak
def sL a b c:checkBuiltinCall "zip.__new__" ⟨[.type "zip",a,b,c],[]⟩=pure ():=Xak
def tV a b c d:argsOk "object.__init__" ⟨[a,b,c,d],[]⟩:=by
 unfold argsOk;kernel_rfl
def Bu (us:List (Bool×Addr×Array Value)) (hl:us.length=2\/us.length=3) (hs:∀u∈us,SrcAt s.heap u) (h:∀h',(∀v∈r6 s.heap.objs.size us,v.1.At h' 0)->M2 h' (s.heap.objs.size+us.length) ((r6 s.heap.objs.size us).map λv=>Value.ref v.1.i).toArray ->
    (∃arr,M2 h' (s.heap.objs.size+us.length+1) arr/\arr.size=us.length)->IsZip h' (s.heap.objs.size+us.length+2) (s.heap.objs.size+us.length) (s.heap.objs.size+us.length+1) .none ->
    (∀b o,([SR])->[TN,h'.get?])->Q [ZE,s.heap.objs.size+us.length+2] [To,s,h']):
  [ST,call (.type "zip") (us.map λu=>Value.ref u.2.1)]:=by
 have I:[Te,us.length]:=qC8 ([TQ,us.length<=3]) Xaa;have k:∀h',_->_->_->_->_->([To,s,h']:Shared).TypeIs [ZE,s.heap.objs.size+us.length+2] "zip" /\ Q [ZE,s.heap.objs.size+us.length+2] [To,s,h']:=λh' c1 c2 T O c5=>⟨[WH,O,rfl],h h' c1 c2 T O c5⟩;cases us with
 |nil=>rcases hl with hl|hl <;> cases hl
 | cons a us=>
  cases us with
  |nil=>rcases hl with hl|hl <;> cases hl
  | cons b us=>
   cases us with
   |nil=>show callType_new F.called_zip Xaa (F.typeCall_zip_2 _ _) (F.newCall_zip_2 _ _) (λobj=>F.args_object_init_3 obj _ _) F.entry_zip_new (kb [a,b] I) ⟨hs,k⟩
   | cons c us=>
    cases us with
    |nil=>show callType_new F.called_zip Xaa (rJ _ _ _) (sL _ _ _) (λobj=>tV obj _ _ _) F.entry_zip_new (kb [a,b,c] I) ⟨hs,k⟩
    |cons d us=>rcases hl with hl|hl <;> (simp only [qC2]at hl;omega)
end L2
namespace L2
open PySem PySem.Spec PyProof.Rows
def fh {c O:Type}{R:c->O->Prop}:∀{l:List c},(∀a∈l,∃b,R a b)->∃I:List (c×O),I.map (·.1)=l/\∀p∈I,R p.1 p.2:=by
 intro l
 induction l with
 |nil=>show λ_=>⟨[],rfl,λ_ h=>absurd h qD4⟩
 | cons a l ih=>
  intro h;obtain ⟨b,hb⟩:=h a qB3;obtain ⟨I,e,q⟩:=ih λx T=>h x (qA5 _ T);refine ⟨(a,b)::I,by rw[qD2,e],λp hp=>?_⟩
  grind
def Sq (K:Frag)(H:Hp)(t:Bool)(a:Addr)(xs:List V):Prop:=if t=true then SqT K H a xs else SqL K H a xs
def kne {c:St}(I:[YR,c,H,s]) (h:X.K.lookup a=some o) (f:G9 X pins H b):a≠b:=by
 intro e;subst e;have O:=I.mod.kin a o h;obtain ⟨f0,f1,f2,T,f4,f5⟩:=f;rcases T with z|z
 .show I.ok.noex a o O z
 .show absurd (qB6 (qB2 (I.ok.bs a o O).1) z) (qE7 _)
def Sq.ne {c:St}(I:[YR,c,H,s]) (h:Sq X.K H t a xs) (f:G9 X pins H b):a≠b:=by
 have O:∀{u:HO},Rd H a u->a≠b:=λ{u} r e=>by
  have T:=f.1;rcases r with r|⟨o,r⟩ <;> (omega)
 unfold Sq at h
 split at h
 .rcases h with h|⟨o,its,n,hk,_⟩
  .show O h
  .show kne I hk f
 .rcases h with h|⟨o,its,n,hk,_⟩
  .show O h
  .show kne I hk f
def Sq.src {b:St}(I:[YR,b,H,s]) (h:Sq X.K H t a xs):∃its:List Value,Vals xs its/\(Sub.mk t 0 a).Src s.heap its.toArray:=by
 unfold Sq at h
 split at h
 .rename_i ht
  obtain ⟨its,r,p,_⟩:=I.tuple h;show ⟨its,r,by simp [ht];show p⟩
 .rename_i ht
  obtain ⟨its,r,p,_⟩:=I.list h;show ⟨its,r,by simp [ht];show p.isList⟩
def Sq.inj {b:St}(I:[YR,b,H,s]) (h:Sq X.K H t a xs) (h':Sq X.K H t a ys):xs=ys:=by
 unfold Sq at h h'
 split at h
 .rename_i ht;simp [ht]at h';show I.tuple_inj h h'
 .rename_i ht;simp [ht]at h';show I.list_inj h h'
def ItZ (K:Frag) (us:List (Bool×Addr)):It:=
  ⟨fun i H=>∀u∈us,∃xs x,Sq K H u.1 u.2 xs/\[ZI,xs,x],
   λi H x H'=>∃p ys,x=.ref p/\H p=none/\H'=upd H p (.tup ys)/\Paired (λ(u:Bool×Addr) (y:V)=>∀xs,Sq K H u.1 u.2 xs->[ZI,xs,y]) us ys,
   λi H=>(∀u∈us,∃xs,Sq K H u.1 u.2 xs)/\∃u∈us,∃xs,Sq K H u.1 u.2 xs/\xs.length<=i⟩
structure ZSt (z TI TO:Addr) (subs:List Sub):Prop where
 zTO:z≠TO
 TIz:TI≠z
 TITO:TI≠TO
 zi:∀u∈subs,u.i≠z
 ti:∀u∈subs,u.i≠TO
 Ii:∀u∈subs,u.i≠TI
 nd:subs.Pairwise λu v=>u.i≠v.i
abbrev zTn (z TI TO:Addr) (subs:List Sub) (i:Nat) (h:Heap):Prop:=
 IsZip h z TI TO .none/\M2 h TI (subs.map λu=>Value.ref u.i).toArray/\(∃arr,M2 h TO arr/\arr.size=subs.length)/\∀u∈subs,u.At h i
def ce {I:Type}{F:c->a->Prop}{f:I->c}{g:I->a}:∀{l:List I},(∀b∈l,F (f b) (g b))->Paired F (l.map f) (l.map g)
 | [],_=>.nil
 |_::_,h=>.cons (h _ qB3) (ce λb O=>h b (qA5 _ O))
def Inv.turns {ch:List Addr}(I:[UE]) (hf:∀b∈ch,G9 X pins H b) (k:∀b o,b∉ch->([SR])->[TN,h'.get?]) (w:∀b o,[TN,H]->[TN,H']) (n:∀b o,([SR])->H b=none->H' b=none) (q:∀b o,[TN,H']->[TN,H]∨ObjOk X.prog X.w H' h' b o):[YR,a,H',[SS,s,h',t']]:=by
 have j:∀b o,[TN,H]->b∉ch:=λb o e z=>by rw[(hf b z).1]at e;cases e
 refine I.step (d':=s.drawn) (ch:=ch) (λb O=>?_) (λb o _ _ hc e _=>k b o hc e) (λb o _ _ hc e _=>⟨o.slots,k b o hc e⟩) (λb o _ e z=>n b o e z) (λb o hc e=>⟨o,k b o hc e⟩) (λb _ e=>w b _ e) (λb _ _ e=>w b _ e) (λb ps e=>⟨#[],by rw[w b _ e];simp⟩) (λm hm=>?_) (λb u e=>?_) I.bare
 .have f:=hf b O;show ⟨f.2.2.2.1,f.2.1,f.2.2.2.2.1,f.2.2.2.2.2⟩
 .obtain ⟨o,es,ep,T,r⟩:=hm;show ⟨o,es,ep,k _ o (λz=>(hf _ z).2.1 rfl) T,r⟩
 .rcases q b u e with e|e
  .refine (I.hok b u e).stay (λc v hc z=>k c v ?_ z) (λc z=>w c _ z) λc _ z=>w c _ z;rcases hc with rfl|hc
   .show j _ _ e
   .show j _ _ hc
  .show e
def Inv.turnsT {ch:List Addr}{a:Addr}(I:[YR,c,H,s]) (hf:∀b∈ch,G9 X pins H b) (k:∀b o,b∉ch->([SR])->[TN,h'.get?]) (ha:s.heap.objs.size<=a) (l:[Te,xs.length]) (r:Vals xs us) (e:h'.get? a=some [Z09,us.toArray]):[YR,c,upd H a (.tup xs),[SS,s,h',t']]:=by
 have z:=I.hok.fresh ha;refine I.turns hf k (λb o q=>[ZO,c0 (j6 q z),q]) (λb o q n=>[ZO,c0 (qD5 (qB6 (qB2 q) ha)),n]) λb o q=>?_;by_cases O:b=a
 .subst O;rw[d5]at q;cases q;show .inr ⟨l,_,r,⟨_,e,rfl,_,rfl⟩⟩
 .rw[c0 O]at q;show .inl q
def HS {a:St}{TI TO}{arr:ZY}{P:List V->Prop}(D:ZSt z TI TO subs) (I:[UE]) (hf:∀b∈z::TI::TO::subs.map (·.i),G9 X pins H b) (ha:arr.size=subs.length) (Ur:∀u∈subs,∃xs,Sq X.K H u.t u.l xs/\P xs):∃ss:List (Sub×List Value×List V),ss.map (·.1)=subs/\(∀v∈ss,v.1∈subs/\Sq X.K H v.1.t v.1.l v.2.2/\Vals v.2.2 v.2.1/\v.1.Src s.heap v.2.1.toArray/\P v.2.2)/\
  Apart z TO (ss.map λv=>(v.1,v.2.1.toArray))/\arr.size=[ZM,ss.map λv=>(v.1,v.2.1.toArray)]/\((ss.map λv=>(v.1,v.2.1.toArray)).map λu=>Value.ref u.1.i)=subs.map λu=>Value.ref u.i:=by
 obtain ⟨ss,Wa,UU⟩:=fh (R:=λ(u:Sub) (q:List Value×List V)=>Sq X.K H u.t u.l q.2/\Vals q.2 q.1/\u.Src s.heap q.1.toArray/\P q.2) (l:=subs) (λu O=>by
  obtain ⟨xs,h1,h2⟩:=Ur u O;obtain ⟨its,r,Uv⟩:=Sq.src I h1;show ⟨(its,xs),h1,r,Uv,h2⟩)
 have a3:∀v∈ss,v.1∈subs:=λv T=>by grind
 have q:∀b∈z::TI::TO::subs.map (·.i),∀u∈ss.map λv=>(v.1,v.2.1.toArray),u.1.l≠b:=λb hb u O=>by
  show 3 v T (qB0.mp O);show Sq.ne I (UU v T).1 (hf b hb)
 have mm:∀u∈ss.map λv=>(v.1,v.2.1.toArray),u.1∈subs:=λu O=>by
  show 3 v T (qB0.mp O);show a3 v T
 refine ⟨ss,Wa,λv T=>⟨a3 v T,UU v T⟩,⟨D.zTO,λu O=>D.zi _ (mm u O),λu O=>D.ti _ (mm u O),?_,q z Xaf,q TO Xaf,λu O v T=>q _ (by have:=mm v T;grind) u O⟩,by grind,by rw[<- Wa,qC5,qC5];rfl⟩
 have:=D.nd
 rw[qN7];grind
def yA {K}{TI TO}(D:ZSt z TI TO subs) (Ud:subs ≠ []) (YK:[Te,subs.length]):
  Turn P w K (.Tuple elts k tp) (ItZ K (subs.map λu=>(u.t,u.l))) (z::TI::TO::subs.map (·.i)) z (zTn z TI TO subs) where
 mem:=Xaf
 obj:=λi h st b hb=>by
  obtain ⟨hz,UO,⟨arr,Vn,_⟩,hs⟩:=st;simp [qB0]at hb;rcases hb with rfl|rfl|rfl|⟨u,T,rfl⟩
  .show [WH,hz,λv q=>by cases q]
  .show [WH,UO,λv q=>by cases q]
  .show [WH,Vn,λv q=>by cases q]
  .obtain ⟨o,e,d⟩:=(hs u T).obj;show ⟨o,e,λv q=>by rw[d]at q;cases q⟩
 keep:=λi h h' st kp=>by
  obtain ⟨hz,UO,⟨arr,Vn,ha⟩,hs⟩:=st;show ⟨kp z Xaf _ hz,kp TI Xaf _ UO,⟨arr,kp TO Xaf _ Vn,ha⟩,λu T=>(hs u T).keep λo e=>kp u.i (by grind) o e⟩
 item:=by
  intro X hP hw hK hc i pins s c H E I hf st hg;subst hP hw hK;obtain ⟨hz,UO,⟨arr,Vn,ha⟩,hs⟩:=st;obtain ⟨ss,Wa,UU,DA,el,eI⟩:=HS (P:=λxs=>∃x,[ZI,xs,x]) D I hf ha λu T=>(hg (u.t,u.l) (qB0.mpr ⟨u,T,rfl⟩)).imp λxs ⟨x,h1,h2⟩=>⟨h1,x,h2⟩;have ys:∀v∈ss,∃u x,[ZI,v.2.1.toArray,u]/\[ZI,v.2.2,x]/\RelV x u:=λv O=>by
   obtain ⟨_,_,r,_,x,e⟩:=UU v O;obtain ⟨u,f,r⟩:=r.get e;show ⟨u,x,by simpa using f,e,r⟩
  refine yl (n:=i) DA (by grind) el (by rw[<- el,ha];show YK) hz ([ZO,eI,UO]) Vn (λu T=>?_) λh1 z1 T1 a1 p1 k1=>?_
  .show 3 v O (qB0.mp T);obtain ⟨u,_,e,_⟩:=ys v O;show ⟨hs _ (UU v O).1,(UU v O).2.2.2.1,u,e⟩
  refine [WH,rfl,wpAny_letOwnedTupleGo_zip z1 λh2 z2 sb2=>?_];have hl:∀b∈z::TI::TO::subs.map (·.i),b<s.heap.objs.size:=λb hb=>by
   simp only [qB5,qB0]at hb;rcases hb with rfl|rfl|rfl|⟨u,T,rfl⟩
   .show qB2 hz
   .show qB2 UO
   .show qB2 Vn
   .obtain ⟨o,e,_⟩:=(hs u T).obj;show qB2 e
  have a5:Vals (ss.map λv=>v.2.2.getD i .non) (ss.map λv=>v.2.1.toArray.getD i .none):=ce λv O=>by
   obtain ⟨u,x,e,f,r⟩:=ys v O;rw[show v.2.1.toArray.getD i Value.none=u by simp only [Array.getD_eq_getD_getElem?,e,Option.getD_some],qC7,f];show r
  have J:[YR,c,_,[To,s,h2]]:=I.turnsT (t':=s.toks) (a:=s.heap.objs.size) (ch:=z::TO::subs.map (·.i)) (λb hb=>hf b (by grind)) (λb o hb e=>sb2.extBut _ _ (λq=>hb (by simp [q])) (k1 b o (λq=>hb (by simp [q])) (λq=>hb (by simp [q])) (λu T q=>by
   show 3 v O (qB0.mp T);show hb (by have:=(UU v O).1;grind)) e)) (qA6 _) (by rw[qA1,show ss.length=subs.length by rw[<- Wa,qA1]];show YK) a5 (by
   have:=sb2.extBut _ _ (qI7 (hl z Xaf)) p1
   rw[qC5]at this;show this)
  refine ⟨.ref s.heap.objs.size,_,J,rfl,⟨_,_,rfl,I.hok.fresh (qA6 _),rfl,?_⟩,⟨z2,?_,?_,λu T=>?_⟩,λb hb=>?_⟩
  .rw [<- Wa,qC5]
   show ce λv O xs hx=>by
    obtain ⟨u,x,e,f,r⟩:=ys v O;rw[Sq.inj I hx (UU v O).2.1,qC7,f];rfl
  .show sb2.extBut _ _ D.TIz (k1 TI _ D.TIz D.TITO (λu T=>by
    show 3 v O (qB0.mp T);show Ne.symm (D.Ii _ (UU v O).1)) UO)
  .obtain ⟨UZ,a3,a4⟩:=T1;show ⟨UZ,sb2.extBut _ _ D.zTO.symm a3,by rw[a4,<- el,ha]⟩
  .have O:∃v∈ss,v.1=u:=by rw[<- Wa]at T;show qB0.mp T
   show 3 v O O;show (a1 (v.1,v.2.1.toArray) (qB0.mpr ⟨v,O,rfl⟩)).keep λo e=>sb2.extBut _ _ (D.zi _ (UU v O).1) e
  .rw [c0 (qD5 (hl b hb))]
   show (hf b hb).1
 done:=by
  intro X hP hw hK hc i pins s c H E I hf st hg;subst hP hw hK;obtain ⟨hz,UO,⟨arr,Vn,ha⟩,hs⟩:=st;obtain ⟨Ur,u0,WW,a7,a6,hl0⟩:=hg;obtain ⟨ss,Wa,UU,DA,el,eI⟩:=HS (P:=λ_=>True) D I hf ha λu T=>(Ur (u.t,u.l) (qB0.mpr ⟨u,T,rfl⟩)).imp λxs h1=>⟨h1,trivial⟩;refine yk (n:=i) (I.ok.hd hc) DA el (by rw[<- el,ha];show YK) hz ([ZO,eI,UO]) Vn (λu T=>?_) ?_ λh1 k1=>⟨rfl,I.turns (t':=s.toks) (ch:=z::TO::subs.map (·.i)) (λb hb=>hf b (by grind)) (λb o hb e=>k1 b o (λq=>hb (by simp [q])) (λq=>hb (by simp [q])) (λu T q=>by
   show 3 v O (qB0.mp T);show hb (by have:=(UU v O).1;grind)) e) (λ_ _ e=>e) (λ_ _ _ e=>e) λ_ _ e=>.inl e⟩
  .show 3 v O (qB0.mp T);show ⟨hs _ (UU v O).1,(UU v O).2.2.2.1⟩
  .obtain ⟨u,T,e0⟩:=qB0.mp WW;have O:∃v∈ss,v.1=u:=by rw[<- Wa]at T;show qB0.mp T
   show 3 v O O;subst e0;refine ⟨(v.1,v.2.1.toArray),qB0.mpr ⟨v,O,rfl⟩,?_⟩;obtain ⟨_,h1,h2,_⟩:=UU v O;have e2:=h2.length;rw[Sq.inj I h1 a6]at e2;simp only [List.getElem?_toArray];show qI9 ZU
 self:=λ_ _ _ _ _ st h=>wpAny_pyIter_zip st.1 h
def LW (K:Frag)(ta:TA):TI:=λa H R=>ta a H λvs H1=>∃us:List (Bool×Addr),vs=us.map (λu=>V.ref u.2)/\(us.length=2\/us.length=3)/\(∀u∈us,∃xs,Sq K H1 u.1 u.2 xs)/\R (ItZ K us) H1
def neN {b:Nat}(h:a≠b):a≠b:=h
def uw:∀{us:List (Bool×Addr)}{vs:ZW},Vals (us.map λu=>V.ref u.2) vs->vs=us.map λu=>Value.ref u.2:=by
 intro us
 induction us with
 |nil=>intro vs h;cases h;rfl
 | cons u us O=>
  intro vs h;cases h with
  | cons r t=>
   have I:=r;rw[I,O t];rfl
def cV:∀(us:List (Bool×Addr×Array Value)) n,∀v∈r6 n us,n<=v.1.i/\n+us.length>v.1.i:=by
 intro us
 induction us with
 |nil=>show λ_ _ h=>absurd h qD4
 | cons u r I=>
  intro n v h;rcases qB5.mp h with rfl|h
  .show ⟨qA6 _,by change n+r.length+1>n;omega⟩
  .have:=I _ v h
   rw[qC2];omega
theorem pW:∀(us:List (Bool×Addr×Array Value)) n,(r6 n us).Pairwise λu v=>u.1.i≠v.1.i
 | [],_=>.nil
 | u::r,n=>by
  refine qM9.mpr ⟨λv I=>?_,pW r _⟩
  have:=cV r _ v I
  omega
def lR:∀(us:List (Bool×Addr×Array Value)) n,(r6 n us).map (λu=>(u.1.t,u.1.l))=us.map λu=>(u.1,u.2.1)
 | [],_=>rfl
 |u::r,n=>by unfold r6;rw[qD2,lR,qD2]
def Km {X}{a}{es elts:ZX}{ta}{p pos tp}{k}(hg:Gl X "zip") (hm:X.mg "zip" = none) (ha:PA X (a::es) ta) (hs:[XXa,[Tm,a::es]=[SJ,a]::[Tm,es]]) (TY:[XXa,[rd,pos,X.env]]):PI X (.Tuple elts k tp) [SY,[YD,"zip",p],a::es] (LW X.K ta):=by
 intro pins s c H R I h;refine Call_ (W2 I hg hm boot_zip (qF2 (thn (ha pos pins s c H _ I h) λvs s1 a3=>?_) hs TY));obtain ⟨xs,H1,I1,r1,us,e1,hl,a4,q⟩:=a3;subst e1;have e2:=uw r1;subst e2;obtain ⟨ws,ew,UI⟩:=fh (R:=λu its=>SrcAt s1.heap (u.1,u.2,its)) (l:=us) (λu O=>by
  obtain ⟨ys,hy⟩:=a4 u O;obtain ⟨its,_,Uv⟩:=Sq.src I1 hy;show ⟨its.toArray,by grind[SrcAt,Sub.Src]⟩)
 have ev:us.map (λu=>Value.ref u.2)=(ws.map λw=>(w.1.1,w.1.2,w.2)).map λu=>Value.ref u.2.1:=by rw[<- ew,qC5,qC5];rfl
 have el:[ZM,ws.map λw=>(w.1.1,w.1.2,w.2)]=us.length:=by grind
 rw[ev];generalize hW:(ws.map λw=>(w.1.1,w.1.2,w.2))=W at el ev
 have UM:∀u∈W,SrcAt s1.heap u:=λu O=>by
  grind
 refine Bu W ([ZO,el,hl]) UM λh' hA UO Vn hz hk=>wpAny_pyIter_zip hz ?_;have I2:[YR,c,H1,[To,s1,h']]:=I1.kept (t':=s1.toks) hk;have eS:((r6 s1.heap.objs.size W).map (·.1)).map (λu=>(u.t,u.l))=us:=by
  rw[qC5]
  change (r6 s1.heap.objs.size W).map (λu=>(u.1.t,u.1.l))=us;rw[lR,<- hW,qC5,<- ew];rfl
 have D:ZSt (s1.heap.objs.size+W.length+2) (s1.heap.objs.size+W.length) (s1.heap.objs.size+W.length+1) ((r6 s1.heap.objs.size W).map (·.1)):=by
  refine ⟨neN ZU,neN ZU,neN ZU,?_,?_,?_,?_⟩
  .rintro _ O;show 3 v T (qB0.mp O);have:=cV W _ v T;show neN ZU
  .rintro _ O;show 3 v T (qB0.mp O);have:=cV W _ v T;show neN ZU
  .rintro _ O;show 3 v T (qB0.mp O);have:=cV W _ v T;show neN ZU
  grind[pW]
 have ls:[ZM,((r6 s1.heap.objs.size W).map (·.1))]=W.length:=by grind
 have TZ:=yA (P:=X.prog) (w:=X.w) (K:=X.K) (elts:=elts) (k:=k) (tp:=tp) D (by grind) (by rw[ls,el];show qC8 ([TQ,us.length<=3]) Xaa);rw[eS]at TZ;refine ⟨_,_,_,_,H1,rfl,I2,TZ,⟨hz,?_,?_,λu O=>?_⟩,λb hb=>?_,q⟩
 .rw[qC5];show UO
 .grind
 .grind
 .have VY:s1.heap.objs.size<=b:=by
   simp only [qB5,qB0]at hb;rcases hb with rfl|rfl|rfl|⟨_,⟨v,T,rfl⟩,rfl⟩
   .omega
   .omega
   .omega
   .show (cV W _ v T).1
  have f:=I1.fpOk (H':=H1) VY (I1.hok.fresh VY);show f
def O7 cs env x:(relabel cs env).names.lookup x=(cs.names.lookup x).map λk=>if (k == .free&&env.scope.kind == .function&&env.kindOf x == some .cell)=true then .cell else k:=by
 change List.lookup x (cs.names.map _)=_
 induction cs.names <;> grind
def cF: ∀ (names : List (Str × NameKind)) (cs0 : List (Str × Addr)), (∀x ∈ names, x.2 = .free -> ∃c, env.cells.lookup x.1 = some c) -> (∀x c, cs0.lookup x = some c -> env.cells.lookup x = some c) ->
    ∃ cl, (forIn (m := Sem) names cs0 λx __s => if (x.snd == NameKind.free) = true then do
              let __do_lift <- cellOf env x.fst
              pure (ForInStep.yield ((x.fst, __do_lift) :: __s))
            else pure (ForInStep.yield __s)) = pure cl /\ (∀x c, cl.lookup x = some c -> env.cells.lookup x = some c) /\ (∀x, (x, NameKind.free) ∈ names -> ∃c, cl.lookup x = some c) /\ ∀x c, cs0.lookup x = some c -> ∃O, cl.lookup x = some O := by
  intro names
  induction names with
  | nil =>
    intro cs0 _ h0;show ⟨cs0, by simp [List.forIn_nil], h0, λ_ h => absurd h qD4, λ_ c h => ⟨c, h⟩⟩
  | cons p r ih =>
    intro cs0 hf h0;obtain ⟨n, k⟩ := p;by_cases hk : k = .free
    · subst hk
      obtain ⟨c, hc⟩ := hf _ qB3 rfl;obtain ⟨cl, e, h1, h2, h3⟩ := ih ((n, c) :: cs0) (λx I => hf x (qA5 _ I)) (λx O I => by
        grind)
      have hn  := h3 n c Xaf;refine ⟨cl, ?_, h1, λx I => ?_, λx O I => ?_⟩
      · grind[cellOf]
      · grind
      · by_cases T : x = n
        · subst T;show hn
        · show h3 x O (by
            grind)
    · have hb : (k == NameKind.free) = false := ZU
      obtain ⟨cl, e, h1, h2, h3⟩ := ih cs0 (λx I => hf x (qA5 _ I)) h0
      grind
structure i8 (sc cs:Scope) (N N':ZK):Prop where
 kind:cs.kind=.function
 ncell:∀x∈cs.names,x.2≠.cell
 loc:∀x∈cs.names,x.2=.local->cs.names.lookup x.1=some .local
 free:∀x∈cs.names,x.2=.free->sc.names.lookup x.1=some .cell\/sc.names.lookup x.1=some .free
 nd:N'.Nodup
 len:N.length<=N'.length
 same:∀i∈List.range N.length,N'[i]?=N[i]?\/∀x∈N'[i]?,cs.names.lookup x=none
 out:∀x∈N'.take N.length,cs.names.lookup x≠some .local
noncomputable abbrev j5 (X:Cx) (cs:Scope) (cl:List (Str×Addr)) (N':ZK) (ex:List Addr) (s:Shared) (H:Hp):Cx:=
 { X with N:=N',s₀:=s,H₀:=H,env:=compEnvC cs cl s.heap.objs.size X.env,outer:=X.stack,stack:=X.stack,ex:=ex,fn:=λ_=>false,pn:=[],xe:=λ_ _=>False }
def inner (N':ZK)(a:St):St:=a++List.replicate (N'.length-a.length) none
def ki {i:Nat}(h:[ZI,inner N' a,[ZT,v]]):[ZI,a,[ZT,v]]:=by
 grind[inner]
def Bt {a:St}{fp:List Addr}(S:i8 X.env.scope cs X.N N') (I:[YR,a,H,s3]) (Uq:∀x c,cl.lookup x=some c->X.env.cells.lookup x=some c) (Vm:∀x,(x,NameKind.free)∈cs.names->∃c,cl.lookup x=some c) (hf:∀b∈fp,G9 X pins H b) (Ug:∀b∈fp,b<s3.heap.objs.size) (kp:∀b o,[TN,s3.heap.get?]->[TN,s4.heap.get?]) (hn:s4.heap.Ns s3.heap.objs.size m) (VL:s4.os=s3.os) (hg:s4.gens=s3.gens):Inv (j5 X cs cl N' fp s3 H) [] (inner N' a) H s4:=by
 have VS:∀{c:Addr}{v:_},s3.heap.IsCell c v->s4.heap.IsCell c v:=λ{c v} z=>by obtain ⟨o,e,d⟩:=z;show ⟨o,kp c o e,d⟩
 refine ⟨⟨I.ok.mod,S.kind,I.ok.glob,I.ok.blt,qA6 _,λx y c h1 h2=>I.ok.inj x y c (Uq x c h1) (Uq y c h2),λx hx=>?_,λx c h _=>absurd [SF,false=true,h] Xaa,I.ok.hd,I.ok.frames,.inl rfl,λb O=>⟨?_,λx c e=>(hf b O).2.2.2.2.1 x c (Uq x c e)⟩,I.bs,qC8 I.ok.bsz I.sz,λb o e O=>?_,λb O VE=>?_,I.stack,I.stkFree⟩,
  VL,[ZO,hg,I.bare],Un.kept kp,⟨m,hn,λi x v e1 e2 e3=>?_⟩,λx c e=>?_,I.hok.fresh (qA6 _),λx c e=>I.freeC x c (Uq x c e),λp hp=>absurd (hp) Xaf,I.hok.kept kp,?_⟩
 .have VT:(relabel cs X.env).names.lookup x=_\/(relabel cs X.env).names.lookup x=some .free:=hx;rw[O7]at VT;cases hl:cs.names.lookup x with
  |none=>rw[hl]at VT;rcases VT with h|h <;> cases h
  | some k=>
   have hm:=qF8 hl;by_cases hk:k=.free
   .subst hk;show Vm x hm
   .exfalso;have O:(k == NameKind.free)=false:=by simpa using hk
    rw[hl]at VT;simp only [Option.map_some,O,qP6,qJ7,qM8]at VT;rcases VT with h|h
    .cases h;show S.ncell _ hm rfl
    omega
 .intro q;have VY:b=s3.heap.objs.size:=q;show absurd (Ug b O) (by rw[VY];show qE7 _)
 .obtain ⟨f0,f1,f2,f3,f4,f5⟩:=hf b O;rcases f3 with z|z
  .show I.ok.noex b o e z
  .show absurd (qB6 (qB2 (I.ok.bs b o e).1) z) (qE7 _)
 .have a4:b∈frs X.stack:=VE;rcases qB5.mp (I.stkSub b a4) with z|z
  .show (hf b O).2.1 z
  .show (hf b O).2.2.1 z
 .have Xv:=ki e2;have hi:i<X.N.length:=by rw[<- I.len];show (qB4.mp Xv).1
  have YZ:[ZI,N',x]:=e1;have T:Vis (relabel cs X.env) x:=e3;have hv:∃k,cs.names.lookup x=some k:=by
   unfold Vis at T;rw[O7]at T;cases hl:cs.names.lookup x with
   |none=>rw[hl]at T;rcases T with h|h|h <;> cases h
   |some k=>show ⟨k,rfl⟩
  obtain ⟨k,hk⟩:=hv;have hN:[ZI,X.N,x]:=by
   rcases S.same i (qC9.mpr hi) with q|q
   .rw[<- q];show YZ
   .have:=q x (by rw[YZ];rfl)
    rw[hk]at this;cases this
  have a7:k≠.local:=λq=>by
   subst q;show S.out x (qD9 (i:=i) ([ZO,qR5 hi,YZ])) hk
  have hm:=qF8 hk;have a3:k=.free:=by
   unfold Vis at T;rw[O7,hk]at T;by_cases a6:k=.free
   .omega
   .exfalso;have O:(k == NameKind.free)=false:=by simpa using a6
    simp only [Option.map_some,O,qP6,qJ7,qM8]at T;rcases T with h|h|h
    .omega
    .show S.ncell _ hm (Option.some.inj h)
    omega
  subst a3;obtain ⟨m0,YF,hl0⟩:=I.loc;have a5:[cz]:=by
   rcases S.free _ hm rfl with h|h
   .show .inr (.inl h)
   .show .inr (.inr h)
  obtain ⟨u,r,l⟩:=hl0 i x v hN Xv a5;refine ⟨u,r,.inr ⟨?_,?_⟩⟩
  .change (relabel cs X.env).names.lookup x=some .cell\/(relabel cs X.env).names.lookup x=some .free;rw[O7,hk]
   change some (if _ then _ else _)=_\/some (if _ then _ else _)=_
   split
   .show .inl rfl
   .show .inr rfl
  .obtain ⟨c,hc⟩:=Vm x hm;have WE:=Uq x c hc;rcases l with ⟨q,_⟩|⟨_,c',e,z⟩
   .exfalso;have q':X.env.scope.names.lookup x=some .local:=q;rcases S.free _ hm rfl with h|h <;> (rw[q']at h;cases h)
   .rw [WE]at e;cases e
    show ⟨c,hc,VS z⟩
 .obtain ⟨v,z⟩:=I.cell x c (Uq x c e);show ⟨v,VS z⟩
 .unfold inner;rw[qC4,qO1,I.len]
  have:=S.len
  change _=N'.length;omega
def P7 (n:Nat)(g:TG):Prop:=∀(v:V)(a:St)(H:Hp)(Q:[Ts,St]),g v a H Q->g v a H λI H2=>Q I H2/\I.length=a.length/\∀j,j<n->I[j]?=a[j]?
def iF (n:Nat)(g:TGs):Prop:=∀(vs:List V)(a:St)(H:Hp)(Q:[Ts,St]),g vs a H Q->g vs a H λI H2=>Q I H2/\I.length=a.length/\∀j,j<n->I[j]?=a[j]?
def B9 (h:n<=i):P7 n (L6 i):=λv a H Q q=>⟨q,Xaf,λj I=>qA4 ZU⟩
def ie:iF n gNil:=λvs a H Q I=>by obtain ⟨e,q⟩:=I;show ⟨e,q,rfl,λ_ _=>rfl⟩
def R7 (h:n<=i) (O:iF n u):iF n (tz (L6 i) u):=λvs a H Q I=>by
 obtain ⟨v,r,e,q⟩:=I;refine ⟨v,r,e,?_⟩;have T:=O r _ H Q q
 change u r _ H _
 grind
def ic {K}(O:iF n u):P7 n (tu K k u):=λv b H Q I=>by obtain ⟨a,xs,e,h1,T,q⟩:=I;show ⟨a,xs,e,h1,T,O xs b H Q q⟩
def PIf (X:Cx) (I:ZX) (t:TT):Prop:=
 ∀ (pins:ZQ) (s:Shared) (a:St) (H:Hp) (Q:[Ts,Bool]),([UE])->t a H Q ->
  [yc,forIn I true λc r=>if r=true then do let ok <- isTrue c X.env [Sy,c];pure (ForInStep.yield ok) else pure (ForInStep.yield r),TP X pins a Q]
def tYes:TT:=λ_ H Q=>Q true H
def EK:PIf X [] tYes:=λ_ _ _ H _ I h=>wpAny_tests_nil ⟨H,I,h⟩
def EJ (h:PT X c t):PIf X [c] t:=λpins s a H Q I q=>wpAny_tests_one (h pins s a H Q I q)
def um (J:It) (D:Addr) (g:TG) (tc:TT) (te:TE) (T:St) (H1:Hp) (Q:Hp->Prop):Prop:=
 ∃ W:Nat->Nat->Hp->Prop,(∃m,W 0 m (upd H1 D [YM,[]]))/\∀i m H2,W i m H2 ->
  (J.stop i H2/\Q H2)\/(J.go i H2/\∀x H3,J.yld i H2 x H3->g x T H3 λI H4=>tc I H4 λb H5=>
   if b=true then te I H5 λy H6=>∃ys,H6 D=some [YM,ys]/\ys.length<sizeLine/\∃O,O<m/\W (i+1) O (upd H6 D [YM,ys ++ [y]])
   else ∃O,O<m/\W (i+1) O H5)
def gr (N':ZK)(I:TI)(g:TG)(O:TT)(T:TE):TE:=λa H Q=>I a H λJ H1=>∀D,H1 D=none->um J D g O T (inner N' a) H1 (Q (.ref D))
def QP (T:∀x c,cl.lookup x=some c->X.env.cells.lookup x=some c) (stk:∀b∈frs X.stack,b∈X.env.locals::X.fs) (VA:∀b∈fp,G9 X pins H3 b) (Ug:∀b∈fp,b<s3.heap.objs.size) (hn:∀b∈fp,H' b=none):∀b∈fp,G9 (j5 X cs cl N' fp s3 H3) [] H' b:=λb I=>by
 obtain ⟨f0,f1,f2,f3,O,f5⟩:=VA b I;refine ⟨hn b I,qD5 (Ug b I),λVE=>?_,.inl I,λx c e=>O x c (T x c e),λp hp=>absurd (hp) Xaf⟩
 grind
def Cx.Ok.xe {X:Cx}(ok:X.Ok):({ X with xe:=f }).Ok:=by
 cases ok;constructor <;> assumption
def Inv.xe {a:St}(I:[UE]):Inv { X with xe:=f } pins a H s:=
 [Z11,I.ok.xe,I.pin]
abbrev C3 (X:Cx) (E:XK) (cs:Scope) (cl:List (Str×Addr)) (N':ZK) (ex:List Addr) (s:Shared) (H:Hp):Cx:=
 { j5 X cs cl N' ex s H with xe:=λe s'=>∃pins σ H1 s1,Inv [rj] pins σ H1 s1/\CXW X.prog X.w X.stack H1 s1 E e s' }
def tP {a:St}{Q:Hp->Prop}{W:Nat->Nat->Hp->Prop}(hc:X.calm=true) (hg:PG (j5 X cs cl N' fp s3 I) tg g) (hk:P7 X.N.length g) (ht:PIf (j5 X cs cl N' fp s3 I) ifs tc) (he:PE (C3 X E cs cl N' fp s3 I) elt te) (hX:∀e s',(C3 X E cs cl N' fp s3 I).xe e s'->notedBy [Ty] X.A (j5 X cs cl N' fp s3 I).env (λe s'=>R (.error e) s') e s') (Uq:∀x c,cl.lookup x=some c->X.env.cells.lookup x=some c) (I3:[YR,a,I,s3]) (I4:Inv (j5 X cs cl N' fp s3 I) [] (inner N' a) I s4) (T:Turn X.prog X.w X.K tg J fp it tn) (st:tn 0 s4.heap) (VA:∀b∈fp,G9 X pins I b) (Ug:∀b∈fp,b<s3.heap.objs.size) (w0:W 0 m0 I) (turn:∀i m H2,W i m H2->J.stop i H2/\Q H2\/J.go i H2/\∀x I,J.yld i H2 x I->g x (inner N' a) I λa9 H4=>tc a9 H4 λb H5=>
   if b=true then te a9 H5 λy H6=>∃ys,H6 D=some [YM,ys]/\ys.length<sizeLine/\∃O,O<m/\W (i+1) O (upd H6 D [YM,ys ++ [y]])
   else ∃O,O<m/\W (i+1) O H5) (hR:∀ H' s',[YR,a,H',s']->Q H'->(∃m,s'.heap.Ns s3.heap.objs.size m)->G9 X pins H' s3.heap.objs.size->R (.ok .next) s'):
  codeAny [Ty] X.A (.compLoop [Z0e,elt,ifs] 0 [ZE,it] [ZE,D] (j5 X cs cl N' fp s3 I).env) R s4:=by
 have YW:∀{H':Hp},_->∀b∈fp,G9 (j5 X cs cl N' fp s3 I) [] H' b:=λhn=>QP Uq I3.stkSub VA Ug hn;refine codeAny_loop rfl (λn s'=>∃i H',Inv _ [] _ H' s'/\tn i s'.heap/\(∀b∈fp,H' b=none)/\W i n H') (λn s5 hI=>?_) m0 ⟨0,I,I4,st,λb hb=>(VA b hb).1,w0⟩;obtain ⟨i,H5,I5,Wx,Ye,w5⟩:=hI;refine wpAny_noted ?_;refine qA0 (qL8 (qA0 ?_));have Za:∀{f:Type}{t:_}{P:f->Shared->Prop}{E':YJ}{s:Shared},wpAny _ X.A t P (λ_ _=>False) s->wpAny [Ty] X.A t P E' s:=λh=>qK9 h (λ_ _ q=>q) λ_ _ q=>q.elim;rcases turn i n H5 w5 with ⟨stop,q⟩|⟨go,step⟩
 .refine thn (T.done (j5 X cs cl N' fp s3 I) rfl rfl rfl hc i [] s5 _ H5 _ I5 (YW Ye) Wx stop) λr s6 ⟨hr,I6⟩=>?_;subst hr;refine qK4 ?_;have J6:=I3.call' (H':=H5) (ch:=fp) I6.os I6.base I6.hok I6.bare λb hb=>by
   obtain ⟨f0,f1,f2,f3,f4,f5⟩:=VA b hb;show ⟨f3,f1,f4,f5⟩
  obtain ⟨m,hn,_⟩:=I6.loc;show hR H5 s6 J6 q ⟨m,hn⟩ (I3.fpOk (qA6 _) I6.free)
 .refine thn (T.item (j5 X cs cl N' fp s3 I) rfl rfl rfl hc i [] s5 _ H5 _ I5 (YW Ye) Wx go) λr s6 ⟨u,hr,h6⟩=>?_;subst hr;refine qA0 (thn h6 λ_ s7 a4=>?_);obtain ⟨x,H7,I7,r7,y7,Ym,ba⟩:=a4;have b4:=I7.pinned (YW ba) (T.obj _ _ Ym);refine qA0 (Za (thn (hg _ s7 _ H7 x u _ b4 r7 (hk x _ H7 _ (step x H7 y7))) λ_ s8 a6=>?_));obtain ⟨a3,H8,I8,q8,l8,k8⟩:=a6;refine qA0 (Za (thn (ht _ s8 a3 H8 _ I8 q8) λb s9 a5=>?_));obtain ⟨H9,I9,q9⟩:=a5;have again:∀{s':Shared}{H':Hp},Inv (j5 X cs cl N' fp s3 I) ([]++bz fp s7.heap) a3 H' s'->(∃O,O<n/\W (i+1) O H') ->
    ∃O,O<n/\∃i H',Inv (j5 X cs cl N' fp s3 I) [] (inner N' a) H' s'/\tn i s'.heap/\(∀b∈fp,H' b=none)/\W i O H':=λ{s' H'} I' zz116=>by
   obtain ⟨O,hm,w'⟩:=zz116;refine ⟨O,hm,i+1,H',(I'.unpinned).weak (by rw[l8]) (λj v e=>?_),T.keep _ _ _ Ym λb hb o e=>(I'.pin (b,o) (qE3 _ (qE3 _ (Y1 hb e)))).1,λb hb=>?_,w'⟩
   .have hj:j<X.N.length:=by rw[<- I3.len];show (qB4.mp (ki e)).1
    rw[k8 j hj];show e
   .obtain ⟨o,e,d⟩:=T.obj _ _ Ym b hb;show (I'.pin (b,o) (qE3 _ (qE3 _ (Y1 hb e)))).2.1
  cases b with
  | false=>
   have Yq:∃O,O<n/\W (i+1) O H9:=q9;show qK4 ⟨rfl,again I9 Yq⟩
  | true=>
   have Yq:te a3 H9 _:=q9;refine qA0 (qA0 (qK9 (he _ s9 a3 H9 _ I9.xe Yq) (λv b3 a8=>?_) hX));obtain ⟨y,ae,b0,c1,ys,hD,hy,c4⟩:=a8;have c3:Inv (j5 X cs cl N' fp s3 I) ([]++bz fp s7.heap) a3 ae b3:=b0.xe;refine qA0 (Za (thn (jZ _ b3 a3 ae [ZE,D] [y] [ZE,D] [v] (λ_ H'=>∃O,O<n/\W (i+1) O H') c3 rfl (.cons c1 .nil) ⟨D,ys,y,rfl,rfl,hD,hy,c4⟩) λ_ c5 a7=>?_));obtain ⟨_,cc,b5,_,c2⟩:=a7;show qK4 (qK4 ⟨rfl,again b5 c2⟩)
def ir {R:Value->Addr->Result->Shared->Prop}{Q:[Ts,V]}(S:i8 X.env.scope cs X.N N') (hc:X.calm=true) (hg:[Sz,PG [rj] tg g]) (hk:P7 X.N.length g) (ht:[Sz,PIf [rj] ifs tc]) (he:[Sz,PE (C3 X E cs cl N' ex s H) elt te]) (Uq:∀x c,cl.lookup x=some c->X.env.cells.lookup x=some c) (Vm:∀x,(x,NameKind.free)∈cs.names->∃c,cl.lookup x=some c) (h:PIE X pins a tg (λJ H1=>∀D,H1 D=none->um J D g tc te (inner N' a) H1 (Q (.ref D))) Vt s2) (hR:∀ D C H' s',[YR,a,H',s']->Q [ZE,D] H'->(∃m,s'.heap.Ns C m)->G9 X pins H' C->R [ZE,D] C (.ok .next) s') (hX:∀ fp s3 H3,[YR,a,H3,s3]->(∀b∈fp,G9 X pins H3 b)->∀I e s',(C3 X E cs cl N' fp s3 H3).xe e s'->notedBy [Ty] X.A (j5 X cs cl N' fp s3 H3).env (λe s'=>R I s3.heap.objs.size (.error e) s') e s'):
  wpAny [Ty] X.A (newList []) (λI a5=>wpAny [Ty] X.A (newFunctionEnv cs X.env.globals cl [] X.env.qual none .none [ZT,X.env]) (λcenv a6=>
   cenv.frame=X.env.frame/\codeAny [Ty] X.A (.compStart [Z0e,elt,ifs] 0 Vt I { cenv with scope:=relabel cs X.env }) (R I cenv.locals) a6) X.xe a5) X.xe s2:=by
 obtain ⟨it,fp,tn,J,H2,e,I2,T,st2,f2,hw⟩:=h;subst e;refine qL0 (wpAny_newFunctionEnv S.ncell (by intro y hy;simp at hy) (λh1 a7 a4=>?_) S.kind);have hD:=I2.hok.fresh (qA6 _);obtain ⟨W,⟨m0,w0⟩,turn⟩:=hw _ hD;have I3:=I2.lnew (t':=s2.toks) .nil (qE1 _);have Xj:∀b∈fp,b<s2.heap.objs.size:=λb O=>by
  obtain ⟨o,e,_⟩:=T.obj 0 _ st2 b O;show qB2 e
 have VA:∀b∈fp,G9 X pins (upd H2 _ [YM,[]]) b:=λb O=>by
  obtain ⟨f0,r⟩:=f2 b O;show ⟨[ZO,c0 (qD5 (Xj b O)),f0],r⟩
 have Ug:∀b∈fp,b<(s2.heap.push { cls:=.type "list",dict:=none,data:=.seq ([]).toArray }).objs.size:=λb O=>by rw[qI8];show Nat.lt_succ_of_lt (Xj b O)
 have kp:=λb o e=>a4.extBut b o (qD5 (qB2 e)) (qA2 _ e);have I4:=Bt (cl:=cl) (fp:=fp) (s4:=[SS,s2,h1,s2.toks+[ZM,([]:List (Str×Value))]]) S I3 Uq Vm VA Ug kp a7 rfl rfl;have a3:=T.keep 0 _ _ st2 λb O o e=>kp b o (qA2 _ e);have loop:=tP (R:=_) (iter:=iter) (pos:=pos) (Q:=_) hc (hg cl fp _ _) hk (ht cl fp _ _) (he cl fp _ _) (hX fp _ _ I3 VA _) Uq I3 I4 T a3 VA Ug w0 turn λH' s' I' q n f=>hR _ _ H' s' I' q n f;show ⟨rfl,codeAny_compStart_list loop (T.self _ 0 _ _ _ a3 loop)⟩
def ku {R:Value->Addr->Result->Shared->Prop}{Q:[Ts,V]}(S:i8 X.env.scope cs X.N N') (hc:X.calm=true) (hg:[Sz,PG [rj] tg g]) (hk:P7 X.N.length g) (ht:[Sz,PIf [rj] ifs tc]) (he:[Sz,PE [rj] elt te]) (Uq:∀x c,cl.lookup x=some c->X.env.cells.lookup x=some c) (Vm:∀x,(x,NameKind.free)∈cs.names->∃c,cl.lookup x=some c) (h:PIE X pins a tg (λJ H1=>∀D,H1 D=none->um J D g tc te (inner N' a) H1 (Q (.ref D))) Vt s2) (hR:∀ D C H' s',[YR,a,H',s']->Q [ZE,D] H'->(∃m,s'.heap.Ns C m)->G9 X pins H' C->R [ZE,D] C (.ok .next) s'):
  wpAny [Ty] X.A (newList []) (λI O=>wpAny [Ty] X.A (newFunctionEnv cs X.env.globals cl [] X.env.qual none .none [ZT,X.env]) (λcenv T=>
   codeAny [Ty] X.A (.compStart [Z0e,elt,ifs] 0 Vt I { cenv with scope:=relabel cs X.env }) (R I cenv.locals) T) X.xe O) X.xe s2:=
 qK9 (ir (E:=λ_ _ _=>False) (R:=R) S hc hg hk ht (λcl ex s H p s1 a3 H1 Q1 I1 h1=>qK9 (he cl ex s H p s1 a3 H1 Q1 I1.xe h1) (λ_ _ ⟨v,H2,I2,r⟩=>⟨v,H2,I2.xe,r⟩) λ_ _ z=>z.elim) Uq Vm h hR λ_ _ _ _ _ _ _ _ ⟨_,_,_,_,_,_,_,_,_,_,_,_,z⟩=>z.elim) (λ_ _ h=>qK9 h (λ_ _ h=>h.2) λ_ _ z=>z) λ_ _ z=>z
def EO (S:i8 X.env.scope cs X.N N') (hc:X.calm=true) (hi:PI X tg iter wi) (hg:[Sz,PG [rj] tg g]) (hk:P7 X.N.length g) (ht:[Sz,PIf [rj] ifs tc]) (he:[Sz,PE [rj] elt te]) (hs:[XXd,[Z0h]]):PE X [Z0e,elt,ifs] (gr N' wi g tc te):=by
 show 7 a;obtain ⟨cl,e,h1,T,_⟩:=cF _ [] (λx hx hk=>I.ok.has x.1 (S.free x hx hk)) (λ_ _ z=>nomatch z);have UA:closureFor cs X.env=pure cl:=by
  simp only [closureFor];rw[e];rfl
 refine wpAny_comprehension_free rfl hs UA S.kind S.loc (thn [SI,hi,a] λv s1 q1=>thn q1 λVt s2 q2=>?_);refine ku (Q:=Q) S hc hg hk ht he h1 T q2 λD C H' s' I' q n f=>?_;obtain ⟨m,hn⟩:=n;obtain ⟨f0,f1,f2,f3,f4,f5⟩:=f;show ⟨m,hn,λh' sb=>⟨.ref D,H',I'.turned (λb o O e=>sb.extBut b o O e) f0 f1 f3 f4 f5,rfl,q⟩⟩
def EF {X}{cs}{N'}{tg iter O}{T}{wi}{g}{tc}{te}{pos}{i}{y}{py WI}(S:i8 X.env.scope cs X.N N') (hc:X.calm=true) (hi:PI X tg iter wi) (hg:[Sz,PG [rj] tg g]) (hk:P7 X.N.length g) (ht:[Sz,PIf [rj] T tc]) (he:[Sz,PE [rj] O te]) (hN:X.N.Nodup) (hy:[ZI,X.N,y]) (hl:Loc X.env.scope y) (UM:[XXa,swapsWith [Z0e,O,T] [ZT,[YD,y,py]] WI.line X.env=pure true]) (hf:[XXc,X.fn y=true\/X.env.scope.names.lookup y=some .local]) (hs:[XXd,[Z0h]]):PS X (.Assign [.Name y py] [Z0e,O,T] WI) (T4 (gr N' wi g tc te) (L6 i)):=by
 show 7 c;obtain ⟨cl,e,h1,h2,_⟩:=cF _ [] (λx hx hk=>I.ok.has x.1 (S.free x hx hk)) (λ_ _ z=>nomatch z);have UA:closureFor cs X.env=pure cl:=by
  simp only [closureFor];rw[e];rfl
 rw[exec_Assign_Name_used _ _ _ _ UM];refine qA0 (qL8 (qA0 ?_));refine qA0 (thn (wpAny_comprehension_free (Q:=_) rfl hs UA S.kind S.loc (thn [SI,hi,c] λv s1 q1=>thn q1 λVt s2 q2=>?_)) λ_ s' q=>qK4 (qK4 q));refine ku (Q:=λx H1=>L6 i x c H1 Q.nx) S hc hg hk ht he h1 h2 q2 λD C H' s' I' q n f=>?_;obtain ⟨m,hn⟩:=n;obtain ⟨f0,f1,f2,f3,f4,f5⟩:=f;refine wpAny_assign_Name (jP (v:=.ref D) I' hN hy hl rfl (λUF a5 a3=>?_) hf);obtain ⟨a,sb,ha⟩:=a3;have a6:C≠a:=by
  grind
 refine ⟨m,hn.sameBut sb a6,λh' a4=>?_⟩;show ⟨_,H',a5.turned (λb o hb e=>a4.extBut b o hb e) f0 f1 f3 f4 f5,q⟩
def Sq.same {K}(e:Same H H') (h:Sq K H t a xs):Sq K H' t a xs:=by
 unfold Sq at h ⊢
 split
 .rename_i ht;rw[qA3 ht]at h
  rcases h with (h|⟨o,h⟩)|h
  .show .inl (.inl (e _ _ h))
  .show .inl (.inr ⟨o,e _ _ h⟩)
  .show .inr h
 .rename_i ht;rw[qA9 ht]at h
  show e.seq h
def seqAt (K:Frag) (H:Hp) (p:Addr) (R:List V->Prop):Prop:=match H p with
 |some (.tup xs)=>R xs
 |some (.lst xs)=>R xs
 |_=>∃t xs,Sq K H t p xs/\R xs
def ItQ (K:Frag)(t:Bool)(a:Addr):It:=if t=true then Itt K a else Itl K a
def iSq (K:Frag)(I:TE):TI:=λb H R=>I b H λx H1=>∃a,x=.ref a/\∃t xs,Sq K H1 t a xs/\R (ItQ K t a) H1
def Qo (hl:PE X l tl):PI X tg l (iSq X.K tl):=by
 intro pins s c H R I h;refine thn [SI,hl,c] λv s1 T=>?_;obtain ⟨x,H1,O,r1,q1⟩:=T;obtain ⟨a,e,t,xs,hq,q⟩:=q1;subst e;cases r1;cases t with
 | true=>
  have UV:SqT X.K H1 a xs:=[Tr,Sq]
  obtain ⟨its,rv,p,hz⟩:=O.tuple UV;refine qN0 (p) ?_;refine ⟨s1.heap.objs.size,_,_,_,H1,rfl,O.kept λb o e=>qA2 _ e,rG a _,⟨_,qB1 _ rfl,rfl,rfl⟩,λb hb=>?_,q⟩;have e:b=s1.heap.objs.size:=by simpa using hb
  subst e;show O.fpOk (qA6 _) (O.hok.fresh (qA6 _))
 | false=>
  have UV:SqL X.K H1 a xs:=[Tr,Sq]
  obtain ⟨its,rv,p,hz⟩:=O.list UV;refine qN6 p.isList ?_;refine ⟨s1.heap.objs.size,_,_,_,H1,rfl,O.kept λb o e=>qA2 _ e,uG a _,⟨_,qB1 _ rfl,rfl,rfl⟩,λb hb=>?_,q⟩;have e:b=s1.heap.objs.size:=by simpa using hb
  subst e;show O.fpOk (qA6 _) (O.hok.fresh (qA6 _))
def He:bootBuiltins "bool" = some (.type "bool"):=ZU
def oK:bootBuiltins "int" = some (.type "int"):=ZU
def Hd:bootBuiltins "list" = some (.type "list"):=ZU
def M1:bootBuiltins "tuple" = some (.type "tuple"):=ZU
def R0:bootBuiltins "str" = some (.type "str"):=ZU
def Ol:bootBuiltins "min" = some (.builtin "min"):=ZU
def tyO:Option HO->Option String
 |some (.lst _)=>some "list"
 |some (.tup _)=>some "tuple"
 |some (.dK _)=>some "dict"
 |_=>none
def tyB (H:Hp):V->Option String
 | .non=>some "NoneType"
 | .bl _=>some "bool"
 | .int _=>some "int"
 | .str _=>some "str"
 | .ref a=>tyO (H a)
 |_=>none
noncomputable def D3 (A T:String):Option Bool:=
 if A=T then some true else if A = "bool" /\ T = "int" then some true
 else if (A = "NoneType" \/ A = "bool" \/ A = "int" \/ A = "str" \/ A = "list" \/ A = "tuple" \/ A = "dict")/\(T = "bool" \/ T = "int" \/ T = "list" \/ T = "tuple" \/ T = "str") then some false else none
def Ih {K}(h:tyB H x=some A):U7 K H x (.type A):=by
 cases x with
 |non=>cases h;show .non
 |bl _=>cases h;show .bl _
 |int _=>cases h;show .int _
 |str _=>cases h;show .str _
 | ref a=>
  have h:tyO _=_:=h;cases e:H a with
  |none=>rw[e]at h;cases h
  | some o=>
   rw[e]at h;cases o <;> first | (cases h;show .lst e) | (cases h;show .tup e) | (cases h;show .dK e)|cases h
 |_=>cases h
def FN {K}(h:D3 A T=some b):PySem.W.kitOne K (.type A) (.type T)=some b:=by
 unfold D3 at h
 split at h
 .grind[PySem.W.kitOne]
 .split at h
  .rename_i e;show 1 rfl e;cases h;with_unfolding_all rfl
  .split at h
   .rename_i h1 h2 e
    obtain ⟨O,I⟩:=e;cases h;rcases O with rfl|rfl|rfl|rfl|rfl|rfl|rfl <;> rcases I with rfl|rfl|rfl|rfl|rfl <;>
     first|show absurd rfl h1|show absurd ⟨rfl,rfl⟩ h2|with_unfolding_all rfl
   .cases h
def rIsi:List V->Hp->VK->Prop:=λxs H Q=>∃x T,xs = [x,.ty T]/\∃A,tyB H x=some A/\∃b,D3 A T=some b/\Q (.bl b) H
def ah:C6 X (.builtin "isinstance") rIsi:=by
 intro pins s a H xs us Q I r h;obtain ⟨x,T,rfl,A,ty,b,e,q⟩:=h;obtain ⟨u,w',rfl,r1,r2⟩:=vals2 r;have O:=r2;subst O;show wL I r1 (Ih ty) (FN e) λtk=>⟨.bl b,H,I.tok tk,rfl,q⟩
def LI:D3 "bool" "bool" = some true:=Xaa
def LH:D3 "bool" "int" = some true:=Xaa
def LG:D3 "int" "bool" = some false:=Xaa
def LF:D3 "int" "int" = some true:=Xaa
def Lp:D3 "tuple" "tuple" = some true:=Xaa
def LC:D3 "list" "list" = some true:=Xaa
def Lz:D3 "NoneType" "int" = some false:=Xaa
def LA:D3 "NoneType" "bool" = some false:=Xaa
def Lv:D3 "str" "int" = some false:=Xaa
def Lw:D3 "str" "bool" = some false:=Xaa
def LD:D3 "list" "int" = some false:=Xaa
def LE:D3 "list" "bool" = some false:=Xaa
def Lr:D3 "tuple" "int" = some false:=Xaa
def Ls:D3 "tuple" "bool" = some false:=Xaa
def Y9 {n:Nat}{i:Int}(h0:0<=i)(I:i<n):ixN n i=some i.toNat:=by unfold ixN;rw[qA3 h0,qA3 I]
def mem_getD {ms:Xaj}{P:Int->Prop}(h:∀x∈ms,P x) (hi:i<ms.length):P (ms.getD i 0):=by
 grind
structure Runs (J:It) (n:Nat) (H1:Hp) (Y:Nat->V->[Ts,Hp]):Prop where
 go:∀i H,i<n->Same H1 H->J.go i H
 stop:∀H,Same H1 H->J.stop n H
 yld:∀i H x H',i<n->Same H1 H->J.yld i H x H'->Y i x H H'
def vc {K}(h:Sq K H1 t a xs) (h':Sq K H1 u b ys):
  Runs (ItZ K [(t,a),(u,b)]) (min xs.length ys.length) H1 λi x H H'=>∃p y z,x=.ref p/\H p=none/\H'=upd H p (.tup [y,z])/\[ZI,xs,y]/\[ZI,ys,z]:=by
 refine ⟨λi H hi s v O=>?_,λH s=>⟨λv O=>?_,?_⟩,λi H x H' hi s hy=>?_⟩
 .simp [qD4]at O;rcases O with rfl|rfl
  .show ⟨xs,xs[i]'(qB6 hi (qS8 ..)),Sq.same s h,Xaf⟩
  .show ⟨ys,ys[i]'(qB6 hi (qG4 ..)),Sq.same s h',Xaf⟩
 .simp [qD4]at O;rcases O with rfl|rfl
  .show ⟨xs,Sq.same s h⟩
  .show ⟨ys,Sq.same s h'⟩
 .rcases Nat.le_total xs.length ys.length with q|q
  .show ⟨(t,a),Xaf,xs,Sq.same s h,ZU⟩
  .show ⟨(u,b),Xaf,ys,Sq.same s h',ZU⟩
 .obtain ⟨p,zs,e1,T,e3,I⟩:=hy;cases I with
  | cons r1 I=>
   cases I with
   | cons r2 I=>
    cases I;show ⟨p,_,_,e1,T,e3,r1 xs (Sq.same s h),r2 ys (Sq.same s h')⟩
def vb {K}(h:Sq K H1 t a xs) (h':Sq K H1 u b ys) (T:Sq K H1 w c zs):
  Runs (ItZ K [(t,a),(u,b),(w,c)]) (min xs.length (min ys.length zs.length)) H1 λi x H H'=>∃p y z v,x=.ref p/\H p=none/\H'=upd H p (.tup [y,z,v])/\[ZI,xs,y]/\[ZI,ys,z]/\[ZI,zs,v]:=by
 refine ⟨λi H hi s v O=>?_,λH s=>⟨λv O=>?_,?_⟩,λi H x H' hi s hy=>?_⟩
 .simp [qD4]at O;rcases O with rfl|rfl|rfl
  .show ⟨xs,xs[i]'(qB6 hi (qS8 ..)),Sq.same s h,Xaf⟩
  .show ⟨ys,ys[i]'(qB6 hi (qC8 (qG4 ..) (qS8 ..))),Sq.same s h',Xaf⟩
  .show ⟨zs,zs[i]'(qB6 hi (qC8 (qG4 ..) (qG4 ..))),Sq.same s T,Xaf⟩
 .simp [qD4]at O;rcases O with rfl|rfl|rfl
  .show ⟨xs,Sq.same s h⟩
  .show ⟨ys,Sq.same s h'⟩
  .show ⟨zs,Sq.same s T⟩
 .have:min xs.length (min ys.length zs.length)=xs.length\/min xs.length (min ys.length zs.length)=ys.length\/min xs.length (min ys.length zs.length)=zs.length:=ZU
  rcases this with q|q|q
  .show ⟨(t,a),Xaf,xs,Sq.same s h,ZU⟩
  .show ⟨(u,b),Xaf,ys,Sq.same s h',ZU⟩
  .show ⟨(w,c),Xaf,zs,Sq.same s T,ZU⟩
 .obtain ⟨p,vs,e1,e2,e3,I⟩:=hy;cases I with
  | cons r1 I=>
   cases I with
   | cons r2 I=>
    cases I with
    | cons r3 I=>
     cases I;show ⟨p,_,_,_,e1,e2,e3,r1 xs (Sq.same s h),r2 ys (Sq.same s h'),r3 zs (Sq.same s T)⟩
structure Def (K:Frag) (mg:ZZ) (x:Str) (st:Stmt) (ps:ZK) (f:Addr) (fd:FuncData):Prop where
 F:Fun K x x st f fd
 m:mg x=some (.ref f)
 b:Binds K fd ps []
def M6 {X:Cx}K{es}{pos}{k}{t}n(hc:X.calm=true)(h:PGs X es t)(O:X.K=K:=by rfl)(hn:[ZM,assignEach es X.env]=n:=by rfl)(I:(assignEach es X.env).findIdx? (·.1)=none:=by rfl):PG X (.Tuple es k pos) (tu K n t):=by subst O;show Kp hc h hn I
def ID (I:TE) (O:TE):TE:=λa H Q=>I a H λx H1=>∃p,x=.ref p/\(∃xs,H1 p=some [YM,xs])/\O a H1 λy H2=>match H2 p with
 |some (.lst xs)=>xs.length<sizeLine/\Q .non (upd H2 p [YM,xs ++ [y]])
 |_=>False
def vM {X}{o e}{to te}{apos TU}(ho:PE X o to) (ha:PE X e te) (TX:[XXa,attributeBase o "append" X.env [Sy,o]=eval o X.env]) (Ul:([Z0v]
   && [ZL,[ZM,[e]]+[ZM,([]:List Keyword)]+[Z0j]<30])=true:=by rfl) (TV:[Z0X]:=by rfl) (hs:[Tm,[e]]=[SJ,e]::[Tm,[]]:=by rfl):PE X (.Call [wr,o,"append"] [e] [] TU) (ID to te):=by
 show 7 a;refine wpAny_Call_method_late TX Ul TV rfl (thn [SI,ho,a] λv s1 a3=>?_);obtain ⟨x,H1,I1,r1,p,ex,⟨xs,e1⟩,q1⟩:=a3;subst ex;obtain ⟨h1,h2⟩:=lM (T := "list") I1 r1 (.inl ⟨rfl,xs,SqL.of e1⟩);refine ⟨"list","list.append",qS4,PySem.F.slot_list_append,PySem.F.type_list_append,h1,h2,?_⟩;have hA:=B8 ha pa_nil hs TU pins s1 a H1 (λvs H2=>∃y,vs = [y]/\match H2 p with
  |some (.lst xs)=>xs.length<sizeLine/\Q .non (upd H2 p [YM,xs ++ [y]])
  | _=>False) I1 (by
   have e:(λ(y:V) (H2:Hp)=>match H2 p with
     |some (.lst xs)=>xs.length<sizeLine/\Q .non (upd H2 p [YM,xs ++ [y]])
     |_=>False)=λ(y:V) (H2:Hp)=>∃y',[y] = [y']/\match H2 p with
     |some (.lst xs)=>xs.length<sizeLine/\Q .non (upd H2 p [YM,xs ++ [y']])
     |_=>False:=by
    funext y H2
    show propext ⟨λq=>⟨y,rfl,q⟩,λa4=>by obtain ⟨y',e,q⟩:=a4;cases e;show q⟩
   rw[e]at q1;show q1)
 rw[hs]at hA ⊢;refine qN8 rfl (Calls.evalArgs_plain ?_);refine thn hA λus s2 O=>?_;obtain ⟨vs,H2,I2,r2,y,ev,q2⟩:=O;subst ev;refine jZ pins s2 a H2 [ZE,p] [y] v us Q I2 r1 r2 ?_
 split at q2
 .rename_i ys e2;show ⟨p,ys,y,rfl,rfl,e2,q2.1,q2.2⟩
 .show q2.elim
def zw (K:Frag):[Z0p]:=λx lo hi H Q=>∃p,x=.ref p/\∃xs,SqL K H p xs/\[Z0d,[YM,fR xs lo hi]]
def Df (i j:Int):Prop:=0<=j/\(Builtin.Int.intBits i:Int)*j<=2^27
def cY {ns:Xaj}(h:i<ns.length):[ZI,ns,ns.getD i 0]:=by simp [h]
end L2
namespace TP
open PySem L2
inductive W where
 |non|bl (b:Bool)|int (i:Int)|str (x:Str)|ty (n:String)|tup (ws:List W)|lst (ws:List W)|scr (ws:List W)
 |exc (c:Str) (i:ZV)|cls (c:Str)|dst (z:Bool) (a:Addr) (ks:ZK) (ws:List W)
abbrev Xag:=List W
def XD (F:Hp) (od:Option Addr):Option Int->Prop
 |none=>od=none
 |some i=>∃d,od=some d/\F d=some (.xd [("at",.int i)])
mutual
inductive Rep (K:Frag) (F:Hp):V->W->Prop where
 |non:Rep K F .non .non
 |bl {b:Bool}:Rep K F (.bl b) (.bl b)
 |int {i:Int}:Rep K F (.int i) (.int i)
 |str {x:Str}:Rep K F (.str x) (.str x)
 |ty {n:String}:Rep K F (.ty n) (.ty n)
 |tup {a:Addr}{vs:List V}{ws:Xag}:F a=some (.tup vs)->Reps K F vs ws->Rep K F (.ref a) (.tup ws)
 |lst {a:Addr}{vs:List V}{ws:Xag}:F a=some (.lst vs)->Reps K F vs ws->Rep K F (.ref a) (.lst ws)
 |scr {a:Addr}{vs:List V}{ws:Xag}:SqL K F a vs->Reps K F vs ws->Rep K F (.ref a) (.scr ws)
 |exc {a C:Addr}{o:Obj}{vs:ZY}{c:Str}{i:ZV}:F a=some (.ext λh=>h.get? a=some o)->o.cls=.ref C->o.data=.fields vs->PySem.W.nsIn K mainGlobals c=some (some (.ref C))->XD F o.dict i->Rep K F (.ref a) (.exc c i)
 |cls {C:Addr}{c:Str}:PySem.W.nsIn K mainGlobals c=some (some (.ref C))->Rep K F (.ref C) (.cls c)
 |dct {a:Addr}{o:Obj}{c:Str}:F a=some (.ext λh=>h.get? a=some o)->o.cls=.type "dict" -> (∀C,PySem.W.nsIn K mainGlobals c≠some (some (.ref C)))->Rep K F (.ref a) (.exc c none)
 |dst {a:Addr}{kvs:List (Key×V)}{ks:ZK}{ws:Xag}:F a=some (.dK kvs)->kvs.map (·.1)=ks.map Sum.inr->Reps K F (kvs.map (·.2)) ws->Rep K F (.ref a) (.dst false a ks ws)
 |dsz {a:Addr}{o:Obj}{kvs:List (Key×V)}{ks:ZK}{ws:Xag}:F a=some (.frz o (.dK kvs))->kvs.map (·.1)=ks.map Sum.inr->Reps K F (kvs.map (·.2)) ws->Rep K F (.ref a) (.dst true a ks ws)
inductive Reps (K:Frag) (F:Hp):List V->List W->Prop where
 |nil:Reps K F [] []
 |cons {v:V}{w:W}{vs:List V}{ws:Xag}:Rep K F v w->Reps K F vs ws->Reps K F (v::vs) (w::ws)
end
theorem yJ (e:Same F F') (h:SqT K F a xs):SqT K F' a xs:=by
 rcases h with (h|⟨o,h⟩)|h
 .show .inl (.inl (e _ _ h))
 .show .inl (.inr ⟨o,e _ _ h⟩)
 .show .inr h
def XD.same (e:Same F F'):∀{i:ZV},XD F od i->XD F' od i:=by
 intro i h;cases i with
 |none=>show h
 |some _=>obtain ⟨d,O,I⟩:=h;show ⟨d,O,e _ _ I⟩
def Rep.same (e:Same F F') (r:Rep K F v w):Rep K F' v w:=
 @Rep.rec K F _ (λvs ws _=>[Th,F']) .non .bl .int .str .ty (λh _ r=>.tup (e _ _ h) r) (λh _ r=>.lst (e _ _ h) r) (λh _ r=>.scr (Same.seq e h) r) (λh1 T O h4 h5=>.exc (e _ _ h1) T O h4 (XD.same e h5)) (λh=>.cls h) (λh1 T O=>.dct (e _ _ h1) T O) (λh I _ r=>.dst (e _ _ h) I r) (λh I _ r=>.dsz (e _ _ h) I r) .nil (λ_ _ a b=>.cons a b) v w r
def Reps.same (e:Same F F') (r:[Th,F]):[Th,F']:=
 @Reps.rec K F (λ_ _ _=>True) (λvs ws _=>[Th,F']) trivial trivial trivial trivial trivial (λ_ _ _=>trivial) (λ_ _ _=>trivial) (λ_ _ _=>trivial) (λ_ _ _ _ _=>trivial) (λ_=>trivial) (λ_ _ _=>trivial) [Tb,trivial] [Tb,trivial] .nil (λh _ _ b=>.cons (Rep.same e h) b) vs ws r
def Reps.ind {P:List V->List W->Prop}(h0:P [] []) (I:∀{v}{w}{vs}{ws:Xag},Rep K F v w->[Th,F]->P vs ws->P (v::vs) (w::ws)) (r:[Th,F]):P vs ws:=
 @Reps.rec K F (λ_ _ _=>True) _ trivial trivial trivial trivial trivial (λ_ _ _=>trivial) (λ_ _ _=>trivial) (λ_ _ _=>trivial) (λ_ _ _ _ _=>trivial) (λ_=>trivial) (λ_ _ _=>trivial) [Tb,trivial] [Tb,trivial] h0 (λh r _ b=>I h r b) vs ws r
def Pp (K:Frag) (F:Hp) (v:V):W->Prop
 | .non=>v=.non
 | .bl b=>v=.bl b
 | .int i=>v=.int i
 | .str x=>v=.str x
 | .ty n=>v=.ty n
 | .tup ws=>∃a vs,v=.ref a/\F a=some (.tup vs)/\[Th,F]
 | .lst ws=>∃a vs,v=.ref a/\F a=some [YM,vs]/\[Th,F]
 | .scr ws=>∃a vs,v=.ref a/\SqL K F a vs/\[Th,F]
 | .exc _ _=>True
 | .cls _=>True
 | .dst z a ks ws=>∃kvs,v=.ref a/\[YL,z,∃o,F a=some (.frz o (.dK kvs)),F a=some (.dK kvs)]/\kvs.map (·.1)=ks.map Sum.inr/\Reps K F (kvs.map (·.2)) ws
def Rep.inv (r:Rep K F v w):Pp K F v w:=
 @Rep.rec K F (λv w _=>Pp K F v w) (λ_ _ _=>True) rfl rfl rfl rfl rfl (λh r _=>⟨_,_,rfl,h,r⟩) (λh r _=>⟨_,_,rfl,h,r⟩) (λh r _=>⟨_,_,rfl,h,r⟩) (λ_ _ _ _ _=>trivial) (λ_=>trivial) (λ_ _ _=>trivial) (λh e r _=>⟨_,rfl,h,e,r⟩) (λh e r _=>⟨_,rfl,⟨_,h⟩,e,r⟩) trivial [Tb,trivial] v w r
def RepsI (K:Frag) (F:Hp) (vs:List V):List W->Prop
 | []=>vs = []
 |w::ws=>∃v us,vs=v::us/\Rep K F v w/\Reps K F us ws
def Reps.length (r:[Th,F]):vs.length=ws.length:=
 Reps.ind (P:=λvs ws=>vs.length=ws.length) rfl (λ_ _ h=>congrArg _ h) r
def Reps.get {i:Nat}(r:[Th,F]):[ZI,ws,w]->∃v,[ZI,vs,v]/\Rep K F v w:=
 Reps.ind (P:=λvs ws=>∀(i:Nat) (w:W),[ZI,ws,w]->∃v,[ZI,vs,v]/\Rep K F v w) (λi w e=>by cases e) (λh _ b i w e=>by
  cases i with
  |zero=>cases e;show [WH,rfl,h]
  |succ i=>show b i w e) r i w
def Reps.get' {i:Nat}(r:[Th,F]):[ZI,vs,v]->∃w,[ZI,ws,w]/\Rep K F v w:=
 Reps.ind (P:=λvs ws=>∀(i:Nat) (v:V),[ZI,vs,v]->∃w,[ZI,ws,w]/\Rep K F v w) (λi w e=>by cases e) (λh _ b i w e=>by
  cases i with
  |zero=>cases e;show [WH,rfl,h]
  |succ i=>show b i w e) r i v
def Reps.append (r:[Th,F]) (s:Reps K F us xs):Reps K F (vs++us) (ws++xs):=
 Reps.ind (P:=λvs ws=>Reps K F (vs++us) (ws++xs)) s (λh _ b=>.cons h b) r
def Reps.take n (r:[Th,F]):Reps K F (vs.take n) (ws.take n):=
 Reps.ind (P:=λvs ws=>∀n,Reps K F (vs.take n) (ws.take n)) (λn=>by simpa using .nil) (λh _ b n=>by
  cases n with
  |zero=>show .nil
  |succ n=>show .cons h (b n)) r n
def Reps.drop n (r:[Th,F]):Reps K F (vs.drop n) (ws.drop n):=
 Reps.ind (P:=λvs ws=>∀n,Reps K F (vs.drop n) (ws.drop n)) (λn=>by simpa using .nil) (λh r b n=>by
  cases n with
  |zero=>show .cons h r
  |succ n=>show b n) r n
def Reps.set (h:Rep K F v w) i (r:[Th,F]):Reps K F (vs.set i v) (ws.set i w):=
 Reps.ind (P:=λvs ws=>∀i,Reps K F (vs.set i v) (ws.set i w)) (λ_=>.nil) (λq t b i=>by
  cases i with
  |zero=>show .cons h t
  |succ i=>show .cons q (b i)) r i
def Reps.snoc (r:[Th,F])(h:Rep K F v w):Reps K F (vs ++ [v]) (ws ++ [w]):=r.append (.cons h .nil)
mutual
def noL:W->Bool
 | .lst _=>false
 | .scr _=>false
 | .dst _ _ _ _=>false
 | .tup ws=>A3 ws
 |_=>true
def A3:List W->Bool
 | []=>true
 |w::ws=>noL w&&A3 ws
end
noncomputable def isL:HO->Bool
 | .lst _=>true
 | .dT _=>true
 | .dK _=>true
 | .frz _ (.lst _)=>true
 | .frz _ (.dK _)=>true
 | .ins _ _ _=>true
 |_=>false
def join (H0 G:Hp):Hp:=λa=>match H0 a with
 |some o=>if isL o then some o else G a
 |none=>G a
inductive Oy where
 |own|pin (p:Addr)|kept
inductive Sl where
 |un|val (w:W)|par (w:W)|own (ws:Xag)|dic (ks:Xao)|dik (ks:Xaj)|iop (p:Addr) (ws:Xag)|hz (w:W)|dos (kw:List Str×List W)|obj (y:Oy) (C:Addr) (kw:List Str×List W)
abbrev Rho:=List Sl
def dv (G:Hp):Hp:=λa=>match G a with
 |some o=>if isL o then none else some o
 |none=>none
def aB (h:Same G G'):Same (dv G) (dv G'):=λa o e=>by
 unfold dv at e ⊢;cases q:G a with
 |none=>rw[q]at e;cases e
 |some u=>rw[q]at e;rw[h a u q];show e
def Af:Same (dv G) G:=λa o e=>by
 grind[dv]
def DkR (K:Frag)(G:Hp)(kvs:List (Key×V))(kw:[Ta]×List W):Prop:=kvs.map (·.1)=kw.1.map Sum.inr/\Reps K G (kvs.map (·.2)) kw.2
def DkR.same (h:DkR K G kvs kw)(s:Same G G'):DkR K G' kvs kw:=⟨h.1,h.2.same s⟩
def FsR (K:Frag)(G:Hp)(fs:List (Str×V))(kw:[Ta]×List W):Prop:=fs.map (·.1)=kw.1/\Reps K G (fs.map (·.2)) kw.2
def FsR.same (h:FsR K G fs kw)(s:Same G G'):FsR K G' fs kw:=⟨h.1,h.2.same s⟩
def ObY (H0 G:Hp) (a:Addr) (u:HO):Oy->Prop
 | .own=>G a=none/\H0 a=none
 | .pin p=>a=p/\H0 a=some u
 | .kept=>G a=some u
def ObR (K:Frag)(H0 G H:Hp)(y:Oy)(C:Addr)(kw:[Ta]×List W)(o:Option V):Prop:=∃a dx fs,o=some [ZE,a]/\H a=some (.ins C dx fs)/\FsR K G fs kw/\ObY H0 G a (.ins C dx fs) y
def ObR.move (r:ObR K H0 G H y C kw o) (s:Same G G') (h:∀a C dx fs,H a=some (.ins C dx fs)->H' a=some (.ins C dx fs)/\(G a=none->G' a=none)/\TW a=H0 a):ObR K TW G' H' y C kw o:=by
 obtain ⟨a,dx,fs,e,ha,r,q⟩:=r;obtain ⟨T,O,I⟩:=h a C dx fs ha;refine ⟨a,dx,fs,e,T,r.same s,?_⟩;cases y with
 |own=>show ⟨O q.1,[ZO,I,q.2]⟩
 |pin p=>show ⟨q.1,[ZO,I,q.2]⟩
 |kept=>show s a _ q
def SlR (K:Frag) (H0 G H:Hp):Sl->Option V->Prop
 | .un,_=>True
 | .val w,o=>∃v,o=some v/\Rep K G v w
 | .par w,o=>∃v,o=some v/\Rep K (join H0 G) v w
 | .own ws,o=>∃a vs,o=some [ZE,a]/\H a=some [YM,vs]/\G a=none/\H0 a=none/\[Th,G]
 | .dic ks,o=>∃(a:Addr) (kvs:List (List Key×V)),o=some [ZE,a]/\H a=some (.dT kvs)/\G a=none/\H0 a=none/\kvs.map (·.1)=ks.map λk=>k.map Sum.inl
 | .dik ks,o=>∃(a:Addr) (kvs:List (Key×V)),o=some [ZE,a]/\H a=some (.dK kvs)/\G a=none/\H0 a=none/\kvs.map (·.1)=ks.map Sum.inl
 | .iop p ws,o=>o=some [ZE,p]/\∃vs,H0 p=some [YM,vs]/\[Th,G]
 | .hz w,o=>∃v,o=some v/\Rep K (join H0 (dv G)) v w
 | .dos kw,o=>∃a kvs,o=some [ZE,a]/\H a=some (.dK kvs)/\G a=none/\H0 a=none/\DkR K G kvs kw
 | .obj y C kw,o=>ObR K H0 G H y C kw o
structure PIv (K:Frag) (H0 G:Hp) (ρ:Rho) (σ:St) (H:Hp):Prop where
 g0:∀a o,H0 a=some o->isL o=false->G a=some o
 gl:∀a o,H0 a=some o->isL o=true->G a=none
 gh:Same G H
 hh:Same H0 H
 len:ρ.length=σ.length
 sl:∀(i:Nat) (x:Sl) (o:Option V),ρ[i]?=some x->σ[i]?=some o->SlR K H0 G H x o
 ne:∀(i j:Nat) (ws us:Xag) (a:Addr),i≠j->ρ[i]?=some (.own ws)->ρ[j]?=some (.own us)->σ[i]?=some (some (.ref a))->σ[j]?≠some (some (.ref a))
 nd:∀(i j:Nat) (ws us:List Str×List W) (a:Addr),i≠j->ρ[i]?=some (.dos ws)->ρ[j]?=some (.dos us)->σ[i]?=some (some (.ref a))->σ[j]?≠some (some (.ref a))
structure Ext (G H G' H':Hp):Prop where
 gg:Same G G'
 hh:Same H H'
 gh:Same G' H'
 keep:∀a o,H a=some o->isL o=true->G a=none->G' a=none
def Ext.refl (h:Same G H):Ext G H G H:=⟨Same.refl G,Same.refl H,h,λ_ _ _ _ e=>e⟩
def Ext.trans (a:Ext G H G1 H1) (b:Ext G1 H1 G2 H2):Ext G H G2 H2:=
 ⟨a.gg.trans b.gg,a.hh.trans b.hh,b.gh,λx o h l e=>b.keep x o (a.hh x o h) l (a.keep x o h l e)⟩
def B7 (h:Same G G'):Same (join H0 G) (join H0 G'):=λa o e=>by
 unfold join at e ⊢;cases q:H0 a with
 |none=>rw[q]at e;show h a o e
 | some u=>
  rw[q]at e;dsimp at e ⊢;by_cases hl:isL u=true
  .omega
  .rw[qA9 hl]at e ⊢;show h a o e
def PIv.G_join (I:[TM,c,b]):Same G (join H0 G):=λa o e=>by
 unfold join;cases q:H0 a with
 |none=>show e
 | some u=>
  by_cases hl:isL u=true
  .rw[I.gl a u q hl]at e;cases e
  omega
def PIv.join_H (I:[TM,c,b]):Same (join H0 G) H:=λa o e=>by
 unfold join at e;cases q:H0 a with
 |none=>rw[q]at e;show I.gh a o e
 | some u=>
  rw[q]at e;dsimp at e;by_cases hl:isL u=true
  .rw[qA3 hl]at e;cases e;show I.hh a _ q
  .rw[qA9 hl]at e;show I.gh a o e
def PIv.ext (I:[TM,c,b]) (x:Ext G H G' H'):PIv K H0 G' c b H' where
 g0 a o e l:=x.gg a o (I.g0 a o e l)
 gl a o e l:=x.keep a o (I.hh a o e) l (I.gl a o e l)
 gh:=x.gh
 hh:=I.hh.trans x.hh
 len:=I.len
 sl i s o h1 h2:=by
  have:=I.sl i s o h1 h2
  cases s with
  |un=>trivial
  |val w=>obtain ⟨v,e,r⟩:=this;show ⟨v,e,r.same x.gg⟩
  |par w=>obtain ⟨v,e,r⟩:=this;show ⟨v,e,r.same (B7 x.gg)⟩
  | own ws=>
   obtain ⟨a,vs,e,h,g,h0,r⟩:=this;show ⟨a,vs,e,x.hh a _ h,x.keep a _ h rfl g,h0,r.same x.gg⟩
  | dic ks=>
   obtain ⟨a,kvs,e,h,g,h0,r⟩:=this;show ⟨a,kvs,e,x.hh a _ h,x.keep a _ h rfl g,h0,r⟩
  | dik ks=>
   obtain ⟨a,kvs,e,h,g,h0,r⟩:=this;show ⟨a,kvs,e,x.hh a _ h,x.keep a _ h rfl g,h0,r⟩
  | iop p ws=>
   obtain ⟨e,vs,h,r⟩:=this;show ⟨e,vs,h,r.same x.gg⟩
  |hz w=>obtain ⟨v,e,r⟩:=this;show ⟨v,e,r.same (B7 (aB x.gg))⟩
  | dos kw=>
   obtain ⟨a,vs,e,h,g,h0,r⟩:=this;show ⟨a,vs,e,x.hh a _ h,x.keep a _ h rfl g,h0,r.same x.gg⟩
  |obj y C kw=>show ObR.move this x.gg λa C dx fs h=>⟨x.hh _ _ h,x.keep _ _ h rfl,rfl⟩
 ne:=I.ne
 nd:=I.nd
def cy (h:join H0 G a=some o) (l:isL o=false):G a=some o:=by
 grind[join]
theorem XD.clean:∀{i:ZV},XD (join H0 G) od i->XD G od i
 |none,h=>h
 |some _,⟨d,h1,h2⟩=>⟨d,h1,cy h2 rfl⟩
theorem Rep.clean (I:[TM,d,c]) (r:Rep K (join H0 G) v w):noL w=true->Rep K G v w:=
 @Rep.rec K _ (λv w _=>noL w=true->Rep K G v w) (λvs ws _=>A3 ws=true->[Th,G]) (λ_=>.non) (λ_=>.bl) (λ_=>.int) (λ_=>.str) (λ_=>.ty)
  (λh _ r n=>.tup (cy h rfl) (r n)) (λ_ _ _ n=>by cases n) (λ_ _ _ n=>by cases n) (λh1 T O h4 h5 _=>.exc (cy h1 rfl) T O h4 (XD.clean h5)) (λh _=>.cls h) (λh1 T O _=>.dct (cy h1 rfl) T O) (λ_ _ _ _ n=>by cases n) (λ_ _ _ _ n=>by cases n) (λ_=>.nil)
  (λ_ _ a b n=>by rw[A3,qE6]at n;show .cons (a n.1) (b n.2)) v w r
theorem Reps.clean (I:[TM,c,a]) (r:[Th,join H0 G]):A3 ws=true->[Th,G]:=
 @Reps.rec K _ (λ_ _ _=>True) (λvs ws _=>A3 ws=true->[Th,G]) trivial trivial trivial trivial trivial (λ_ _ _=>trivial) (λ_ _ _=>trivial) (λ_ _ _=>trivial) (λ_ _ _ _ _=>trivial) (λ_=>trivial) (λ_ _ _=>trivial) [Tb,trivial] [Tb,trivial] (λ_=>.nil)
  (λh _ _ b n=>by rw[A3,qE6]at n;show .cons (Rep.clean I h n.1) (b n.2)) vs ws r
structure XW where
 cls:Str
 at_:Option Int
inductive R (α:Type) where
 |ok (a:α)|ex (e:XW)|stuck
noncomputable def R.bind {b I}(x:R b) (f:b->R I):R I:=match x with
 | .ok a=>f a
 | .ex e=>.ex e
 | .stuck=>.stuck
instance:Monad R where
 pure:=R.ok
 bind:=R.bind
@[simp] theorem R.ok_bind {α I}(a:α) (f:α->R I):(R.ok a)>>=f=f a:=rfl
@[simp] theorem R.stuck_bind {α I}(f:α->R I):R.stuck>>=f=.stuck:=rfl
@[simp] theorem R.ex_bind {α I}e (f:α->R I):(R.ex e)>>=f=.ex e:=rfl
@[simp] theorem R.pure_eq (a:α):(pure a:R α)=.ok a:=rfl
inductive Mode where
 |F|V|U|C|B
def Md (K:Frag) (H0 H G' H':Hp) (v:V) (w:W):Mode->Prop
 | .V=>Rep K G' v w
 | .U=>Rep K (join H0 G') v w
 | .F=>match w with
  | .lst ws=>∃a vs,v=.ref a/\H' a=some [YM,vs]/\G' a=none/\H a=none/\[Th,G']
  |w=>Rep K G' v w
 | .C=>Rep K G' v w\/∃a vs ws,v=.ref a/\w=.lst ws/\H' a=some [YM,vs]/\[Th,G']
 | .B=>Rep K (join H0 G') v w\/∃a vs ws,v=.ref a/\w=.lst ws/\H' a=some [YM,vs]/\[Th,G']
abbrev EXT:=[Ts,XW]
def Out {a I:Type}(EX:EXT) (G H:Hp) (md:a->I->[Ts,Hp]) (r:R a) (Q:[Ts,I]):Prop:=match r with
 | .ok w=>∀v G' H',Ext G H G' H'->md w v G' H'->Q v H'
 | .ex e=>∀H',Same H H'->EX e H'
 | .stuck=>False
abbrev mdW (K:Frag)(d:Mode)(H0 H:Hp):W->V->[Ts,Hp]:=λw v G' H'=>Md K H0 H G' H' v w d
abbrev mdB:Bool->Bool->[Ts,Hp]:=λb c _ _=>c=b
inductive MdA (K:Frag) (d:Mode) (H0 H G' H':Hp):List W->List V->Prop where
 |nil:MdA K d H0 H G' H' [] []
 |cons {w:W}{v:V}{ws:Xag}{vs:List V}:Md K H0 H G' H' v w d->MdA K d H0 H G' H' ws vs->MdA K d H0 H G' H' (w::ws) (v::vs)
def MdAI (K:Frag) (d:Mode) (H0 H G' H':Hp) (vs:List V):List W->Prop
 | []=>vs = []
 |w::ws=>∃v us,vs=v::us/\Md K H0 H G' H' v w d/\MdA K d H0 H G' H' ws us
abbrev mdA (K:Frag)(d:Mode)(H0 H:Hp):List W->List V->[Ts,Hp]:=λws vs G' H'=>MdA K d H0 H G' H' ws vs
def tM (K:Frag)(EX:EXT)(d:Mode)(m:Rho->R W):TE:=λb H Q=>∃H0 G a,[TM,a,b]/\[SO,mdW K d H0 H,m a]
def tT (K:Frag)(EX:EXT)(m:Rho->R Bool):TT:=λb H Q=>∃H0 G a,[TM,a,b]/\[SO,mdB,m a]
def tA (K:Frag)(EX:EXT)(d:Mode)(m:Rho->R Xag):TA:=λb H Q=>∃H0 G a,[TM,a,b]/\[SO,mdA K d H0 H,m a]
def Out.bind {md:a->c->[Ts,Hp]}{I:b->δ->[Ts,Hp]}{m:R a}{k:a->R b}{Q:[Ts,δ]}{O:[Ts,c]}(o:[SO,I,m>>=k]) (h:∀x G1 H1 w,Ext G H G1 H1->md w x G1 H1->Out EX G1 H1 I (k w) Q->O x H1):Out EX G H md m O:=by
 cases m with
 | ok w=>
  intro v G' H' e d;refine h v G' H' w e d ?_;rw[R.ok_bind]at o
  revert o
  cases k w with
  |ok u=>show λo v2 G2 H2 T d2=>o v2 G2 H2 (e.trans T) d2
  |ex x=>show λo H2 s2=>o H2 (e.hh.trans s2)
  |stuck=>show λo=>o
 |ex x=>show o
 |stuck=>show o
theorem Md.start (s:Same H H1) (h:Md K H0 H1 G2 H2 v w d):Md K H0 H G2 H2 v w d:=by
 cases d with
 | F=>
  cases w with
  |lst ws=>obtain ⟨a,vs,e,T,O,I,r⟩:=h;show ⟨a,vs,e,T,O,s.free I,r⟩
  |_=>show h
 |_=>show h
def Md.move (x:Ext G1 H1 G2 H2) (h:Md K H0 H G1 H1 v w d):Md K H0 H G2 H2 v w d:=by
 cases d with
 |V=>show Rep.same x.gg h
 |U=>show Rep.same (B7 x.gg) h
 | F=>
  cases w with
  |lst ws=>obtain ⟨a,vs,e,I,T,O,r⟩:=h;show ⟨a,vs,e,x.hh _ _ I,x.keep _ _ I rfl T,O,r.same x.gg⟩
  |non=>show Rep.same x.gg h
  |bl _=>show Rep.same x.gg h
  |int _=>show Rep.same x.gg h
  |str _=>show Rep.same x.gg h
  |ty _=>show Rep.same x.gg h
  |tup _=>show Rep.same x.gg h
  |scr _=>show Rep.same x.gg h
  |exc _ _=>show Rep.same x.gg h
  |cls _=>show Rep.same x.gg h
  |dst _ _ _ _=>show Rep.same x.gg h
 | C=>
  rcases h with h|⟨a,vs,ws,e,e2,I,r⟩
  .show .inl (h.same x.gg)
  .show .inr ⟨a,vs,ws,e,e2,x.hh _ _ I,r.same x.gg⟩
 | B=>
  rcases h with h|⟨a,vs,ws,e,e2,I,r⟩
  .show .inl (h.same (B7 x.gg))
  .show .inr ⟨a,vs,ws,e,e2,x.hh _ _ I,r.same x.gg⟩
def Md.CB (I:PIv K H0 G1 b a H1) (h:Md K H0 H G1 H1 v w .C):Md K H0 H G1 H1 v w .B:=by
 rcases h with h|h
 .show .inl (h.same I.G_join)
 .show .inr h
def sca:W->Bool
 | .tup _=>false
 | .scr _=>false
 | .lst _=>false
 | .dst _ _ _ _=>false
 |_=>true
def Md.sca (hs:sca w=true) (r:∀F,Rep K F v w) d:Md K H0 H G1 H1 v w d:=by
 cases d with
 |V=>show r _
 |U=>show r _
 |C=>show .inl (r _)
 |B=>show .inl (r _)
 |F=>cases w <;> first|show r _|cases hs
def Md.repB (h:Md K H0 H G1 H1 v w .B)(n:∀us,w≠.lst us):Rep K (join H0 G1) v w:=Or.elim h id λI=>by grind
def Md.repC (h:Md K H0 H G1 H1 v w .C)(n:∀us,w≠.lst us):Rep K G1 v w:=Or.elim h id λI=>by grind
def Md.lstB (I:PIv K H0 G1 c b H1) (h:Md K H0 H G1 H1 v [YM,ws] .B):∃a vs,v=.ref a/\H1 a=some [YM,vs]/\[Th,join H0 G1]:=by
 rcases h with h|⟨a,vs,us,e,e2,h1,r⟩
 .obtain ⟨a,vs,e,s,r⟩:=h.inv;show ⟨a,vs,e,I.join_H _ _ s,r⟩
 .rw[W.lst.inj e2];show ⟨a,vs,e,h1,r.same I.G_join⟩
def Md.scrB (I:PIv K H0 G1 c b H1) (h:Md K H0 H G1 H1 v (.scr ws) .B):∃a vs,v=.ref a/\SqL K H1 a vs/\[Th,join H0 G1]:=by
 obtain ⟨a,vs,e,s,r⟩:=(h.repB λ_=>W.noConfusion).inv;show ⟨a,vs,e,Same.seq I.join_H s,r⟩
def Md.lstC (I:PIv K H0 G1 c b H1) (h:Md K H0 H G1 H1 v [YM,ws] .C):∃a vs,v=.ref a/\H1 a=some [YM,vs]/\[Th,G1]:=by
 rcases h with h|⟨a,vs,us,e,e2,h1,r⟩
 .obtain ⟨a,vs,e,s,r⟩:=h.inv;show ⟨a,vs,e,I.gh _ _ s,r⟩
 .rw[W.lst.inj e2];show ⟨a,vs,e,h1,r⟩
def Md.tupB (I:PIv K H0 G1 c b H1) (h:Md K H0 H G1 H1 v (.tup ws) .B):∃a vs,v=.ref a/\H1 a=some (.tup vs)/\[Th,join H0 G1]:=by
 obtain ⟨a,vs,e,s,r⟩:=(h.repB λ_=>W.noConfusion).inv;show ⟨a,vs,e,I.join_H _ _ s,r⟩
def Md.tupC (I:PIv K H0 G1 c b H1) (h:Md K H0 H G1 H1 v (.tup ws) .C):∃a vs,v=.ref a/\H1 a=some (.tup vs)/\[Th,G1]:=by
 obtain ⟨a,vs,e,s,r⟩:=(h.repC λ_=>W.noConfusion).inv;show ⟨a,vs,e,I.gh _ _ s,r⟩
def Md.intB (h:Md K H0 H G1 H1 v (.int i) .B):v=.int i:=(h.repB λ_=>W.noConfusion).inv
def Md.blB (h:Md K H0 H G1 H1 v (.bl i) .B):v=.bl i:=(h.repB λ_=>W.noConfusion).inv
def Md.strB (h:Md K H0 H G1 H1 v (.str i) .B):v=.str i:=(h.repB λ_=>W.noConfusion).inv
def Md.nonB (h:Md K H0 H G1 H1 v .non .B):v=.non:=(h.repB λ_=>W.noConfusion).inv
def Md.tyB (h:Md K H0 H G1 H1 v (.ty n) .B):v=.ty n:=(h.repB λ_=>W.noConfusion).inv
def Fk (h:[Tw,.V,m,f]):[Tw,.F,m,f]:=by
 show 4 c ?_
 revert o
 cases m c with
 |ex e=>show id
 |stuck=>show id
 | ok w=>
  intro o v G' H' e d;cases w with
  | lst ws=>
   obtain ⟨a,vs,rfl,h1,h2,T,r⟩:=d;have s1:Same G' (upd G' a [YM,vs]):=λb o q=>[Tr,c0]
   refine o _ _ H' ⟨e.gg.trans s1,e.hh,λb o q=>?_,λb o q l g=>?_⟩ (.lst d5 (r.same s1))
   .by_cases O:b=a
    .grind[d5]
    .rw[c0 O]at q;show e.gh b o q
   .rw[c0 (j6 q T)];show e.keep b o q l g
  |_=>show o v G' H' e d
def Fh (h:[Tw,.U,m,b]):[Tw,.V,m,b]:=by
 show 4 a ?_
 revert o
 cases m a with
 |ex e=>show id
 |stuck=>show id
 |ok w=>show λo v G' H' e d=>o v G' H' e (Rep.same (I.ext e).G_join d)
def Fi (h:[Tw,.C,m,b]):[Tw,.V,m,b]:=by
 show 4 a ?_
 revert o
 cases m a with
 |ex e=>show id
 |stuck=>show id
 |ok w=>show λo v G' H' e d=>o v G' H' e (.inl d)
def Fj (h:[Tw,.B,m,b]):[Tw,.U,m,b]:=by
 show 4 a ?_
 revert o
 cases m a with
 |ex e=>show id
 |stuck=>show id
 |ok w=>show λo v G' H' e d=>o v G' H' e (.inl d)
def Fn (h:[Tw,.B,m,b]):[Tw,.C,m,b]:=by
 show 4 a ?_
 revert o
 cases m a with
 |ex e=>show id
 |stuck=>show id
 |ok w=>show λo v G' H' e d=>o v G' H' e (Md.CB (I.ext e) d)
def Fm (h:[Tw,.C,m,c]):[Tw,.F,m,c]:=by
 show 4 b ?_
 revert o
 cases m b with
 |ex e=>show id
 |stuck=>show id
 | ok w=>
  intro o v G' H' e d;cases w with
  |lst ws=>obtain ⟨a,vs,rfl,O,T,h3,r⟩:=d;show o _ G' H' e (.inr ⟨a,vs,ws,rfl,rfl,O,r⟩)
  |_=>show o v G' H' e (.inl d)
def chk (w:W):R W:=[TJ,noL w,.ok w]
def lj (n:noL w=true) (r:Rep K G1 v w):Md K H0 H G1 H1 v w .F:=by
 cases w with
 |lst ws=>cases n
 |_=>show r
def nv (hd:d=.F\/d=.V) (h:[Tw,d,λa=>m a>>=chk,b]):[Tw,.U,m,b]:=by
 show 4 a (Out.bind o [Tz,x,w,e]);unfold chk at o1;by_cases n:noL w=true
 .rw [qA3 n]at o1
  have r:=Rep.clean (I.ext e) m1 n;refine o1 x G1 H1 (Ext.refl e.gh) ?_;rcases hd with rfl|rfl
  .show lj n r
  .show r
 .rw[qA9 n]at o1;show o1.elim
def U6 (hs:sca w=true) (r:∀F,Rep K F v w) (h:[Tw,d,λ_=>.ok w,a]):tC v a H Q:=by
 show 5 b;show [Z04,Md.sca hs r d]
def B3 (d:Mode) (i:Nat):Rho->R W:=λρ=>match ρ[i]? with
 |some (.val w)=>(match d with | .F=>chk w|_=>.ok w)
 |some (.par w)=>(match d with | .F=>chk w | .V=>chk w | .C=>chk w|_=>.ok w)
 |some (.own ws)=>(match d with | .C=>.ok (.lst ws) | .B=>.ok (.lst ws)|_=>.stuck)
 |some (.iop _ ws)=>(match d with | .B=>.ok (.lst ws) | .U=>.ok (.lst ws)|_=>.stuck)
 |some (.hz w)=>(match d with | .B=>.ok w | .U=>.ok w|_=>.stuck)
 |_=>.stuck
theorem Out.chk {v:V}{md:W->a->[Ts,Hp]}(o:[SO,md,chk w]):noL w=true/\[SO,md,.ok w]:=by
 unfold TP.chk at o;by_cases n:noL w=true
 .rw[qA3 n]at o;show ⟨n,o⟩
 show 12 n
def CT (h:[Tw,d,B3 d i,b]):z8 i b H Q:=by
 show 5 c;unfold B3 at o;cases e:c[i]? with
 |none=>rw[e]at o;show 2
 | some s=>
  rw[e]at o;have hi:i<b.length:=by rw[<- I.len];show (qB4.mp e).1
  have es:[ZI,b,b[i]]:=Xaf;have r:=I.sl i s _ e es;cases s with
  |un=>show 2
  | val w=>
   obtain ⟨v,O,r⟩:=r;refine ⟨v,by rw[es,O],?_⟩;cases d with
   |F=>obtain ⟨n,o⟩:=Out.chk (v:=v) o;show [Z04,lj n r]
   |V=>show [Z04,r]
   |U=>show [Z04,r.same I.G_join]
   |C=>show [Z04,.inl r]
   |B=>show [Z04,.inl (r.same I.G_join)]
  | par w=>
   obtain ⟨v,O,r⟩:=r;refine ⟨v,by rw[es,O],?_⟩;cases d with
   |F=>obtain ⟨n,o⟩:=Out.chk (v:=v) o;show [Z04,lj n (Rep.clean I r n)]
   |V=>obtain ⟨n,o⟩:=Out.chk (v:=v) o;show [Z04,Rep.clean I r n]
   |U=>show [Z04,r]
   |C=>obtain ⟨n,o⟩:=Out.chk (v:=v) o;show [Z04,.inl (Rep.clean I r n)]
   |B=>show [Z04,.inl r]
  | own ws=>
   obtain ⟨a,vs,O,ha,hg,h0,r⟩:=r;refine [WH,by rw[es,O],?_];cases d with
   |F=>show 2
   |V=>show 2
   |U=>show 2
   |C=>show [re,.inr ⟨a,vs,ws,rfl,rfl,ha,r⟩]
   |B=>show [re,.inr ⟨a,vs,ws,rfl,rfl,ha,r⟩]
  |dic ks=>show 2
  |dik ks=>show 2
  |dos kw=>show 2
  |obj y C kw=>show 2
  | hz w=>
   obtain ⟨v,O,r⟩:=r;refine ⟨v,by rw[es,O],?_⟩;have T:=r.same (B7 (Af));cases d with
   |F=>show 2
   |V=>show 2
   |C=>show 2
   |U=>show [Z04,T]
   |B=>show [Z04,.inl T]
  | iop p ws=>
   obtain ⟨O,vs,h0,r⟩:=r;refine [WH,by rw[es,O],?_];have T:Rep K (join H0 G) [ZE,p] [YM,ws]:=by
    refine .lst ?_ (r.same I.G_join);unfold join;rw[h0];rfl
   cases d with
   |F=>show 2
   |V=>show 2
   |U=>show [re,T]
   |C=>show 2
   |B=>show [re,.inl T]
def Op2 (K:Frag) (b d:Mode) (r:R2) (f:W->W->R W):Prop:=∀(EX:EXT) (H0 I G H:Hp) (c:Rho) (a:St) (T O:Hp) (x y:V) (u v:W) (Q:VK),[TM,c,a]->Same I H->Md K H0 T G H x u b->Md K H0 O G H y v b ->
 [SO,mdW K d H0 I,f u v]->r x y H Q
def jy (hr:Op2 K b d r f) (h:[Tw,d,λa=>ma a>>=λx=>mb a>>=λy=>f x y,c]):tOp r (tM K EX b ma) (tM K EX b mb) c H Q:=by
 show 4 a (Out.bind o λx G1 H1 u T m1 o1=>⟨H0,G1,a,I.ext T,Out.bind o1 λy G2 H2 v O m2 o2=>?_⟩);show hr EX H0 H G2 H2 a c H H1 x y u v Q ((I.ext T).ext O) (T.hh.trans O.hh) (m1.move O) m2 o2
def Op1 (K:Frag) (b d:Mode) (r:V->Hp->VK->Prop) (f:W->R W):Prop:=∀(EX:EXT) (H0 I G H:Hp) (c:Rho) (a:St) (O:Hp) (x:V) (u:W) (Q:VK),[TM,c,a]->Same I H->Md K H0 O G H x u b ->
 [SO,mdW K d H0 I,f u]->r x H Q
def c_un (hr:Op1 K b d r f) (h:[Tw,d,λa=>ma a>>=λx=>f x,c]):tUn r (tM K EX b ma) c H Q:=by
 show 5 a;show ⟨H0,G,a,I,Out.bind o λx G1 H1 u O m1 o1=>hr EX H0 H G1 H1 a c H x u Q (I.ext O) O.hh m1 o1⟩
def fI (C:Int->Int->Prop) [∀i j,Decidable (C i j)] (g:Int->Int->W):W->W->R W
 | .int i,.int j=>[TJ,C i j,.ok (g i j)]
 |_,_=>.stuck
def fI0 (g:Int->Int->W):W->W->R W
 | .int i,.int j=>.ok (g i j)
 |_,_=>.stuck
def i7 [∀i j,Decidable (C i j)](hs:∀i j,sca (g i j)=true) (hg:∀i j F,Rep K F (gv i j) (g i j)):Op2 K .B d (rI C gv) (fI C g):=by
 show 16 b O T;cases u <;> first|show 2|skip
 all_goals (cases v <;> first|show 2|skip)
 rename_i i j
 have o':[SO,_,[YL,_,_,_]]:=o;by_cases c:C i j
 .rw [qA3 c]at o'
  show ⟨i,j,O.intB,T.intB,c,o' _ G H (Ext.refl I.gh) (Md.sca (hs i j) (hg i j) d)⟩
 .rw[qA9 c]at o';show o'.elim
def l5 (hs:∀i j,sca (g i j)=true) (hg:∀i j F,Rep K F (gv i j) (g i j)):Op2 K .B d (rI0 gv) (fI0 g):=by
 show 16 b O T;cases u <;> first|show 2|skip
 all_goals (cases v <;> first|show 2|skip)
 rename_i i j
 show ⟨i,j,O.intB,T.intB,[re,Md.sca (hs i j) (hg i j) d]⟩
def fU (g:Int->W):W->R W
 | .int i=>.ok (g i)
 |_=>.stuck
def zZ (hs:∀i,sca (g i)=true) (hg:∀i F,Rep K F (gv i) (g i)):Op1 K .B d (rU gv) (fU g):=by
 intro EX H0 T G H b a Ha x u Q I s O o;cases u <;> first|show 2|skip
 rename_i i
 show ⟨i,O.intB,[re,Md.sca (hs i) (hg i) d]⟩
def isN:W->Bool
 | .non=>true
 |_=>false
def Bg (neg:Bool):W->W->R W
 |u,.non=>.ok (.bl [YL,neg,!isN u,isN u])
 |_,_=>.stuck
def wM (O:b=.B\/b=.U\/b=.V\/b=.C) (h:Md K H0 Hs G1 H1 v w b):[ZL,v=.non]=isN w:=by
 have I:∀F,Rep K F v w->[ZL,v=.non]=isN w:=λF r=>by
  cases r <;> first|rfl | (intro z)
 rcases O with rfl|rfl|rfl|rfl
 .rcases h with h|⟨a,vs,ws,rfl,rfl,_⟩
  .show I _ h
  .apply qK2;omega
 .show I _ h
 .show I _ h
 .rcases h with h|⟨a,vs,ws,rfl,rfl,_⟩
  .show I _ h
  .apply qK2;omega
def dl:Op2 K .B d (λx y H Q=>y=.non/\Q (.bl (decide (x=.non))) H) (Bg false):=by
 show 16 b O T;cases v <;> first|show 2|skip
 refine ⟨T.nonB,?_⟩;rw[wM (.inl rfl) O];show [re,[SZ,.bl]]
def eA:Op2 K .B d (λx y H Q=>y=.non/\Q (.bl (! [ZL,x=.non])) H) (Bg true):=by
 show 16 b O T;cases v <;> first|show 2|skip
 refine ⟨T.nonB,?_⟩;rw[wM (.inl rfl) O];show [re,[SZ,.bl]]
def toB:W->R Bool
 | .bl b=>.ok b
 |_=>.stuck
def iA (h:tT K EX (λa=>ma a>>=toB) c H Q):kN (tM K EX .B ma) c H Q:=by
 show 4 a (Out.bind o [Tz,x,u,O]);cases u <;> first|show o1.elim|skip
 rename_i b
 show ⟨b,m1.blB,o1 b G1 H1 (Ext.refl O.gh) rfl⟩
def c_tB (h:tT K EX (λb=>ma b>>=toB) a H Q):tB (tM K EX .B ma) a H Q:=iA h
def iS (a b:R Bool):R Bool:=a>>=λc=>if c then b else .ok false
def rOr (a b:R Bool):R Bool:=a>>=λc=>if c then .ok true else b
def se (a:R Bool):R Bool:=a>>=λc=>.ok (!c)
def RJ (h:tT K EX (λa=>iS (ma a) (mb a)) b H Q):yH (tT K EX ma) (tT K EX mb) b H Q:=by
 show 4 a (Out.bind o [Tz,x,u,O]);cases m1;cases x with
 |true=>show ⟨H0,G1,a,I.ext O,o1⟩
 |false=>show o1 false G1 H1 (Ext.refl O.gh) rfl
def c_or (h:tT K EX (λa=>rOr (ma a) (mb a)) b H Q):tOr (tT K EX ma) (tT K EX mb) b H Q:=by
 show 4 a (Out.bind o [Tz,x,u,O]);cases m1;cases x with
 |true=>show o1 true G1 H1 (Ext.refl O.gh) rfl
 |false=>show ⟨H0,G1,a,I.ext O,o1⟩
def Rv (h:tT K EX (λa=>se (ma a)) b H Q):Iy (tT K EX ma) b H Q:=by
 show 4 a (Out.bind o [Tz,x,u,O]);cases m1;show o1 _ G1 H1 (Ext.refl O.gh) rfl
def dU (a b:R W):R W:=a>>=λx=>toB x>>=λc=>if c then b else .ok (.bl false)
def mz (a b:R W):R W:=a>>=λx=>toB x>>=λc=>if c then .ok (.bl true) else b
def rZ (a:R W):R W:=a>>=λx=>toB x>>=λc=>.ok (.bl (!c))
def Oe (h:[Tw,d,λa=>dU (ma a) (mb a),c]):BZ (tM K EX .B ma) (tM K EX d mb) c H Q:=by
 show 4 a (Out.bind o [Tz,x,u,O]);cases u <;> first|show o1.elim|skip
 rename_i b
 refine ⟨b,m1.blB,?_⟩;cases b with
 | true=>
  refine ⟨H0,G1,a,I.ext O,?_⟩;have o2:=o1
  revert o2
  cases mb a with
  |ok w=>show λo2 v G2 H2 T m2=>o2 v G2 H2 T (m2.start O.hh)
  |ex _=>show id
  |stuck=>show id
 | false=>
  show o1 _ G1 H1 (Ext.refl O.gh) [SZ,.bl]
def Out.restart {Q:VK}(s:Same H H1) (o:Out EX G1 H1 (mdW K d H0 H) r Q):Out EX G1 H1 (mdW K d H0 H1) r Q:=by
 revert o
 cases r with
 |ok w=>show λo v G2 H2 I O=>o v G2 H2 I (O.start s)
 |ex _=>show id
 |stuck=>show id
def c_if (h:[Tw,d,λa=>mc a>>=λc=>if c then ma a else mb a,b]):tIf (tT K EX mc) (tM K EX d ma) (tM K EX d mb) b H Q:=by
 show 4 a (Out.bind o [Tz,x,u,O]);cases m1;cases x with
 |true=>show ⟨H0,G1,a,I.ext O,Out.restart O.hh o1⟩
 |false=>show ⟨H0,G1,a,I.ext O,Out.restart O.hh o1⟩
def qX (hr:Op2 K b .B r f) (WZ:Op2 K b d r' f') (h:[Tw,d,λa=>ma a>>=λx=>mb a>>=λy=>f x y>>=λz=>toB z>>=λc=>if c then mc a>>=λu=>f' y u else .ok (.bl false),e]):
  (λe H Q=>tM K EX b ma e H λx H1=>tM K EX b mb e H1 λy H2=>r x y H2 λz O=>∃k,z=.bl k/\if k=true then tM K EX b mc e O λu H4=>r' y u H4 Q else Q (.bl false) O) e H Q:=by
 show 4 a (Out.bind o λx G1 H1 u e1 m1 o1=>⟨H0,G1,a,I.ext e1,Out.bind o1 λy G2 H2 v e2 m2 o2=>?_⟩);have I2:=(I.ext e1).ext e2;refine hr EX H0 H G2 H2 a e H H1 x y u v _ I2 (e1.hh.trans e2.hh) (m1.move e2) m2 (Out.bind o2 λz G3 O wz T m3 o3=>?_);cases wz <;> first|show o3.elim|skip
 rename_i k
 refine ⟨k,m3.blB,?_⟩;cases k with
 | true=>
  refine ⟨H0,G3,a,I2.ext T,Out.bind o3 λt G4 H4 wt e4 m4 o4=>?_⟩;show WZ EX H0 H G4 H4 a e H1 O y t v wt Q ((I2.ext T).ext e4) (((e1.hh.trans e2.hh).trans T.hh).trans e4.hh) ((m2.move T).move e4) m4 o4
 | false=>
  show o3 _ G3 O (Ext.refl T.gh) [SZ,.bl]
def Rx (h:tA K EX d (λ_=>.ok []) a H QA):tNil a H QA:=by
 show 5 b;show o [] G H (Ext.refl I.gh) .nil
def NW (h:tA K EX d (λb=>ma b>>=λx=>mr b>>=λxs=>.ok (x::xs)) c H QA):F1 (tM K EX d ma) (tA K EX d mr) c H QA:=by
 show 4 b (Out.bind o λx G1 H1 u T m1 o1=>⟨H0,G1,b,I.ext T,Out.bind o1 λxs G2 H2 us O m2 o2=>?_⟩);refine o2 _ G2 H2 (Ext.refl O.gh) (.cons (m1.move O) ?_);have go:∀{ws:_}{vs:_},MdA K d H0 H1 G2 H2 ws vs->MdA K d H0 H G2 H2 ws vs:=λ{ws vs} q=>by
  induction q with
  |nil=>show .nil
  |cons a _ ih=>show .cons (a.start T.hh) ih
 show go m2
def MdA.reps (h:MdA K .V H0 H G1 H1 ws vs):[Th,G1]:=
 @MdA.rec K .V H0 H G1 H1 (λws vs _=>[Th,G1]) .nil (λh _ b=>.cons h b) ws vs h
def MdA.repsU (h:MdA K .U H0 H G1 H1 ws vs):[Th,join H0 G1]:=
 @MdA.rec K .U H0 H G1 H1 (λws vs _=>[Th,_]) .nil (λh _ b=>.cons h b) ws vs h
def Fc (I:Same G H) (hp:H p=none):Ext G H G (upd H p o):=
 ⟨Same.refl G,λb u q=>[Tr,c0],λb u q=>[ZO,c0 (j6 (I b u q) hp),I b u q],λ_ _ _ _ e=>e⟩
def cr (I:Same G H) (hp:H p=none):Ext G H (upd G p o) (upd H p o):=by
 have T:=I.free hp;refine ⟨λb u q=>[Tr,c0],λb u q=>[Tr,c0],λb u q=>?_,λb u q l g=>?_⟩
 .by_cases O:b=p
  .grind[d5]
  .rw[c0 O]at q ⊢;show I b u q
 grind[c0]
def Out.newL {Q:VK}(I:[TM,b,a]) (s:Same Hs H) (r:[Th,G]) (hp:H p=none) (o:[SO,mdW K .F H0 Hs,.ok (.lst ws)]):Q [ZE,p] (upd H p [YM,vs]):=
 o _ G _ (Fc I.gh hp) ⟨p,vs,rfl,d5,I.gh.free hp,s.free hp,r⟩
def Out.newT {Q:VK}(I:[TM,c,a]) (r:[Th,G]) (hp:H p=none) (o:[SO,mdW K .V H0 Hs,.ok (.tup ws)]):Q [ZE,p] (upd H p (.tup vs)):=
 o _ _ _ (cr I.gh hp) (.tup d5 (r.same λb u q=>[ZO,c0 (j6 q (I.gh.free hp)),q]))
def Out.newTF {Q:VK}(I:[TM,c,a]) (r:[Th,G]) (hp:H p=none) (o:[SO,mdW K .F H0 Hs,.ok (.tup ws)]):Q [ZE,p] (upd H p (.tup vs)):=
 o _ _ _ (cr I.gh hp) (.tup d5 (r.same λb u q=>[ZO,c0 (j6 q (I.gh.free hp)),q]))
def lim (n:Nat)(w:W):R W:=[TJ,n<=1000,.ok w]
def Out.lim {md:W->a->[Ts,Hp]}(o:[SO,md,lim n w]):n<=1000/\[SO,md,.ok w]:=by
 unfold TP.lim at o;by_cases n:n<=1000
 .rw[qA3 n]at o;show ⟨n,o⟩
 show 12 n
def bG (h:n<=1000):[Te,n]:=qC8 h Xaa
def Ro (h:[Tw,.F,λa=>ma a>>=λws=>lim ws.length (.tup ws),b]):rK (tA K EX .V ma) b H Q:=by
 show 4 a (Out.bind o [Tz,xs,ws,O]);obtain ⟨hl,o2⟩:=Out.lim o1;have r:=MdA.reps m1;show ⟨by rw[r.length];show bG hl,λp hp=>Out.newTF (I.ext O) r hp o2⟩
def Ry (h:[Tw,.F,λa=>ma a>>=λws=>lim ws.length (.lst ws),b]):rM (tA K EX .V ma) b H Q:=by
 show 4 a (Out.bind o [Tz,xs,ws,O]);obtain ⟨hl,o2⟩:=Out.lim o1;have r:=MdA.reps m1;show ⟨by rw[r.length];show bG hl,λp hp=>Out.newL (I.ext O) O.hh r hp o2⟩
def nG (h:H0 p=none):join H0 (upd G p o)=upd (join H0 G) p o:=by
 grind[join,d5,c0]
def Nt (h:[Tw,.U,λa=>ma a>>=λws=>lim ws.length (.tup ws),c]):rK (tA K EX .U ma) c H Q:=by
 show 4 a (Out.bind o [Tz,xs,ws,T]);obtain ⟨hl,o2⟩:=Out.lim o1;have r:=MdA.repsU m1;have O:=I.ext T;refine ⟨by rw[r.length];show bG hl,λp hp=>o2 _ _ _ (cr O.gh hp) ?_⟩
 change Rep K _ _ _;rw[nG (O.hh.free hp)];show .tup d5 (r.same λb u q=>[ZO,c0 (j6 (O.join_H b u q) hp),q])
inductive Fl where
 |nx (ρ:Rho)|rt (w:W)|bk (ρ:Rho)|ct (ρ:Rho)
abbrev Xan:=W->Rho->Option Rho
abbrev Xam:=Rho->R Bool
abbrev Xal:=Rho->R Xag
abbrev Xae:=Rho->R Fl
abbrev Xad:=Rho->R W
def OutS (K:Frag) (EX:EXT) (d:Mode) (H0 G:Hp) (r:R Fl) (D:Ends):Prop:=match r with
 | .ok (.nx b)=>∀G' I H',Same G G'->PIv K H0 G' b I H'->D.nx I H'
 | .ok (.bk b)=>∀G' I H',Same G G'->PIv K H0 G' b I H'->D.bk I H'
 | .ok (.ct b)=>∀G' I H',Same G G'->PIv K H0 G' b I H'->D.ct I H'
 | .ok (.rt w)=>∀v G' H',Same G G'->Same G' H'->Same H0 H'->(∀a o,H0 a=some o->isL o=true->G' a=none)->Md K H0 H0 G' H' v w d->D.rt v H'
 | .ex e=>∀H',Same H0 H'->EX e H'
 | .stuck=>False
def tSt (K:Frag)(EX:EXT)(d:Mode)(m:Xae):TS:=λD b H=>∃H0 G a,[TM,a,b]/\OutS K EX d H0 G (m a) D
def OutS.move (s:Same G G1) (o:OutS K EX d H0 G r D):OutS K EX d H0 G1 r D:=by
 cases r with
 |stuck=>show o
 |ex e=>show o
 | ok f=>
  cases f with
  |nx T=>show λG' I H' s' O=>o G' I H' (s.trans s') O
  |bk T=>show λG' I H' s' O=>o G' I H' (s.trans s') O
  |ct T=>show λG' I H' s' O=>o G' I H' (s.trans s') O
  |rt w=>show λv G' H' s0 s1 s2 c md=>o v G' H' (s.trans s0) s1 s2 c md
def OutS.bind {md:b->c->[Ts,Hp]}(I:[TM,f,a]) (o:OutS K EX d H0 G (m>>=k) D) (h:∀x G1 H1 w,Ext G H G1 H1->md w x G1 H1->OutS K EX d H0 G1 (k w) D->Q1 x H1):Out EX G H md m Q1:=by
 cases m with
 |ok w=>show λv G' H' e q=>h v G' H' w e q (OutS.move e.gg o)
 |ex e=>show λH' s=>o H' (I.hh.trans s)
 |stuck=>show o
def aR (m n:Xae):Xae:=λa=>m a>>=λf=>match f with
 | .nx I=>n I
 | .rt w=>.ok (.rt w)
 | .bk I=>.ok (.bk I)
 | .ct I=>.ok (.ct I)
def NJ (h:[ou,λb=>.ok (.nx b),a]):tNext D a H:=by
 show 5 b;show o G a H (Same.refl G) I
def Ru (h:[ou,aR m n,b]):cU [Tx,m] [Tx,n] D b H:=by
 show 13 aR
 cases m a with
 |stuck=>show id
 |ex e=>show id
 | ok f=>
  cases f with
  |nx O=>show λo G' a3 H' s' T=>⟨H0,G',O,T,OutS.move s' o⟩
  |_=>show id
def GR (h:[ou,λ_=>.stuck,a]):tNever D a H:=by
 show 5 b;show o
def NU (h:[ou,λa=>m a>>=λ_=>.ok (.nx a),c]):gm (tM K EX b m) D c H:=by
 show 5 a;show ⟨H0,G,a,I,OutS.bind I o λx G1 H1 w O _ o1=>o1 G1 c H1 (Same.refl _) (I.ext O)⟩
def CV (h:[ou,λa=>m a>>=λw=>.ok (.rt w),b]):iL (tM K EX d m) D b H:=by
 show 4 a (OutS.bind I o [Tz,x,w,O]);have T:=I.ext O;show o1 x G1 H1 (Same.refl _) O.gh T.hh T.gl (m1.start I.hh)
def bE (d:Mode) (i:Nat):Xae:=λa=>match a[i]? with
 |some (.own ws)=>.ok (.rt (.lst ws))
 |_=>B3 d i a>>=λw=>.ok (.rt w)
def Bw (hd:d=.F\/d=.V) (h:[ou,bE d i,f]):iL (z8 i) D f H:=by
 show 5 g;unfold bE at o;by_cases ho:∃ws,[ZI,g,.own ws]
 .obtain ⟨ws,e⟩:=ho;rw[e]at o;have hi:i<f.length:=by rw[<- I.len];grind
  have es:[ZI,f,f[i]]:=Xaf;obtain ⟨a,vs,T,ha,hg,h0,r⟩:=I.sl i _ _ e es;refine [WH,by rw[es,T],?_];rcases hd with rfl|rfl
  .show o _ G H (Same.refl _) I.gh I.hh I.gl ⟨a,vs,rfl,ha,hg,h0,r⟩
  .have s1:Same G (upd G a [YM,vs]):=λb o q=>[Tr,c0]
   refine o _ _ H s1 (λb o q=>?_) I.hh (λb u q l=>?_) (.lst d5 (r.same s1))
   .by_cases O:b=a
    .grind[d5]
    .rw[c0 O]at q;show I.gh b o q
   .rw[c0 (j6 q h0)];show I.gl b u q l
 .have o':OutS K EX d H0 G (B3 d i g>>=λw=>.ok (.rt w)) D:=by
   grind
  have c:=CV ⟨H0,G,g,I,o'⟩;show CT c
def PIv.setV (I:[TM,e,d]) (r:Rep K G v w):[TM,e.set i (.val w),d.set i [ZT,v]] where
 g0:=I.g0
 gl:=I.gl
 gh:=I.gh
 hh:=I.hh
 len:=by rw[qD0,qD0];show I.len
 sl j x o h1 h2:=by
  by_cases T:i=j
  .subst T;rw[qB9]at h1 h2;simp only [qK7]at h1 h2
   split at h1 <;> split at h2 <;> simp [reduceCtorEq]at h1 h2
   subst h1;subst h2;show ⟨v,rfl,r⟩
  .rw[qA4 T]at h1 h2;show I.sl j x o h1 h2
 ne a b ws us c Ui h1 h2 h3 h4:=by
  have O:i≠a:=by
   show 21
  have nb:i≠b:=by
   show 18
  rw[qA4 O]at h1 h3;rw[qA4 nb]at h2 h4;show I.ne a b ws us c Ui h1 h2 h3 h4
 nd a b ws us c Ui h1 h2 h3 h4:=by
  have O:i≠a:=by
   show 21
  have nb:i≠b:=by
   show 18
  rw[qA4 O]at h1 h3;rw[qA4 nb]at h2 h4;show I.nd a b ws us c Ui h1 h2 h3 h4
def PIv.setU (I:[TM,e,d]) (r:Rep K (join H0 G) v w):[TM,e.set i (.par w),d.set i [ZT,v]] where
 g0:=I.g0
 gl:=I.gl
 gh:=I.gh
 hh:=I.hh
 len:=by rw[qD0,qD0];show I.len
 sl j x o h1 h2:=by
  by_cases T:i=j
  .subst T;rw[qB9]at h1 h2;simp only [qK7]at h1 h2
   split at h1 <;> split at h2 <;> simp [reduceCtorEq]at h1 h2
   subst h1;subst h2;show ⟨v,rfl,r⟩
  .rw[qA4 T]at h1 h2;show I.sl j x o h1 h2
 ne a b ws us c Ui h1 h2 h3 h4:=by
  have O:i≠a:=by
   show 21
  have nb:i≠b:=by
   show 18
  rw[qA4 O]at h1 h3;rw[qA4 nb]at h2 h4;show I.ne a b ws us c Ui h1 h2 h3 h4
 nd a b ws us c Ui h1 h2 h3 h4:=by
  have O:i≠a:=by
   show 21
  have nb:i≠b:=by
   show 18
  rw[qA4 O]at h1 h3;rw[qA4 nb]at h2 h4;show I.nd a b ws us c Ui h1 h2 h3 h4
def PIv.setO (I:[TM,e,d]) (ha:H a=some [YM,vs]) (hg:G a=none) (h0:H0 a=none) (r:[Th,G]) (nw:∀(j:Nat) us,e[j]?=some (Sl.own us)->d[j]?≠some (some (V.ref a))):[TM,e.set i (.own ws),d.set i [Wb,a]] where
 g0:=I.g0
 gl:=I.gl
 gh:=I.gh
 hh:=I.hh
 len:=by rw[qD0,qD0];show I.len
 sl j x o h1 h2:=by
  by_cases O:i=j
  .subst O;rw[qB9]at h1 h2;simp only [qK7]at h1 h2
   split at h1 <;> split at h2 <;> simp [reduceCtorEq]at h1 h2
   subst h1;subst h2;show ⟨a,vs,rfl,ha,hg,h0,r⟩
  .rw[qA4 O]at h1 h2;show I.sl j x o h1 h2
 ne p q We us c Ui h1 h2 h3 h4:=by
  by_cases hp:i=p
  .grind
  .rw [qA4 hp]at h1 h3
   by_cases T:i=q
   .grind
   .rw [qA4 T]at h2 h4
    show I.ne p q We us c Ui h1 h2 h3 h4
 nd a' b ws us c Ui h1 h2 h3 h4:=by
  have na:i≠a':=by
   show 21
  have nb:i≠b:=by
   show 18
  rw[qA4 na]at h1 h3;rw[qA4 nb]at h2 h4;show I.nd a' b ws us c Ui h1 h2 h3 h4
def N3:W->Sl
 | .lst ws=>.own ws
 |w=>.val w
def Nv (h:[ou,λa=>m a>>=λw=>[Rn,.val w],b]):T4 (tM K EX .V m) (L6 i) D b H:=by
 show 5 a;show ⟨H0,G,a,I,OutS.bind I o λx G1 H1 w O m1 o1=>o1 G1 _ H1 (Same.refl _) ((I.ext O).setV m1)⟩
def Nw (h:[ou,λa=>m a>>=λw=>[Rn,.par w],b]):T4 (tM K EX .U m) (L6 i) D b H:=by
 show 5 a;show ⟨H0,G,a,I,OutS.bind I o λx G1 H1 w O m1 o1=>o1 G1 _ H1 (Same.refl _) ((I.ext O).setU m1)⟩
def xK (h:[ou,λc=>m c>>=λw=>.ok (.nx (c.set i (N3 w))),e]):T4 (tM K EX .F m) (L6 i) D e H:=by
 show 4 c (OutS.bind I o [Tz,x,w,T]);have O:=I.ext T;cases w with
 | lst ws=>
  obtain ⟨a,vs,rfl,h1,h2,h3,r⟩:=m1;refine o1 G1 _ H1 (Same.refl _) (O.setO h1 h2 (I.hh.free h3) r λj us q z=>?_);obtain ⟨b,Uk,eb,hb,_⟩:=I.sl j _ _ q z;omega
 |non=>show 17
 |bl _=>show 17
 |int _=>show 17
 |str _=>show 17
 |ty _=>show 17
 |tup _=>show 17
 |scr _=>show 17
 |exc _ _=>show 17
 |cls _=>show 17
 |dst _ _ _ _=>show 17
instance:DecidableEq Mode:=λa b=>by cases a <;> cases b <;> first|show isTrue rfl|show isFalse (by intro h;cases h)
def Gt (K:Frag) (e:Mode) (g:TG) (mg:Xan):Prop:=∀(H0 T G:Hp) (b:Rho) (a:St) (H:Hp) (v:V) (w:W) (O:Rho) (Q:[Ts,St]),[TM,b,a]->Md K H0 T G H v w e->mg w b=some O ->
 (∀I,[TM,O,I]->Q I H)->g v a H Q
def Gts (K:Frag) (e:Mode) (g:TGs) (mg:List W->Rho->Option Rho):Prop:=∀(H0 G:Hp) (b:Rho) (a:St) (H:Hp) (vs:List V) (ws:Xag) (O:Rho) (Q:[Ts,St]),[TM,b,a]->[Th,[YL,e=.V,G,join H0 G]]->mg ws b=some O ->
 (∀I,[TM,O,I]->Q I H)->g vs a H Q
def gN (e:Mode)(i:Nat):Xan:=λw a=>some (a.set i [YL,e=.V,.val w,.par w])
def Mb {K}{i}:Gt K .V (L6 i) (gN .V i):=λH0 T G b a H v w O Q I m e h=>by
 cases e;show h _ (I.setV m)
def p9 {K}{i}:Gt K .U (L6 i) (gN .U i):=λH0 T G b a H v w O Q I m e h=>by
 cases e;show h _ (I.setU m)
def gsNil:List W->Rho->Option Rho
 | [],a=>some a
 |_,_=>none
def ib (f:Xan) (g:List W->Rho->Option Rho):List W->Rho->Option Rho
 |w::ws,a=>(f w a).bind (g ws)
 | [],_=>none
def K7 {K}{e}:Gts K e gNil gsNil:=λH0 G b a H vs ws O Q I r e h=>by
 cases r with
 |nil=>cases e;show ⟨rfl,h _ I⟩
 |cons _ _=>cases e
def n8 {K}{e}{t}{u}{f}{g}(he:e=.V\/e=.U) (h1:Gt K e t f) (h2:Gts K e u g):Gts K e (tz t u) (ib f g):=λH0 G d c H vs ws a3 Q I r q h=>by
 cases r with
 |nil=>cases q
 | cons a b=>
  obtain ⟨O,q1,q2⟩:=Option.bind_eq_some_iff.mp q;refine ⟨_,_,rfl,h1 H0 H G d c H _ _ O _ I ?_ q1 λT I1=>h2 H0 G O T H _ _ a3 Q I1 b q2 h⟩;rcases he with rfl|rfl
  .show a
  .show a
def gT (n:Nat) (g:List W->Rho->Option Rho):W->Rho->Option Rho
 | .tup ws,a=>if ws.length=n then g ws a else none
 |_,_=>none
def Q7 {K}{e}{n}{u}{g}(he:e=.V\/e=.U) (h:Gts K e u g):Gt K e (tu K n u) (gT n g):=λH0 Hs G c b H v w T Q I m q k=>by
 cases w <;> first|cases q|skip
 rename_i ws
 have O:[YL,ws.length=n,_,none]=_:=q;by_cases hn:ws.length=n
 .rw [qA3 hn]at O
  rcases he with rfl|rfl
  .obtain ⟨a,vs,e,s,r⟩:=Rep.inv m;show ⟨a,vs,e,SqT.of (I.gh _ _ s),[ZO,r.length,hn],h H0 G c b H _ ws T Q I (by show r) O k⟩
  .obtain ⟨a,vs,e,s,r⟩:=Rep.inv m;show ⟨a,vs,e,SqT.of (I.join_H _ _ s),[ZO,r.length,hn],h H0 G c b H _ ws T Q I ZU O k⟩
 .rw[qA9 hn]at O;cases O
noncomputable def toR {b}:Option b->R b
 |some a=>.ok a
 |none=>.stuck
def RH (hg:Gt K e g mg) (h:[ou,λa=>m a>>=λw=>toR (mg w a)>>=λO=>.ok (.nx O),b]):T4 (tM K EX e m) g D b H:=by
 show 4 a (OutS.bind I o [Tz,x,w,e1]);cases q:mg w a with
 |none=>rw[q]at o1;show o1.elim
 | some O=>
  rw[q]at o1;show hg H0 H G1 a b H1 x w O _ (I.ext e1) m1 q λT I'=>o1 G1 T H1 (Same.refl _) I'
def PIv.own_upd (I:[TM,d,f]) (e:[ZI,d,.own ws]) (es:[ZI,f,[Wb,a]]) (r:Reps K G Yl We):PIv K H0 G (d.set i (.own We)) f (upd H a [YM,Yl]):=by
 obtain ⟨a',vs,ev,ha,hg,h0,_⟩:=I.sl i _ _ e es;cases ev;refine ⟨I.g0,I.gl,λb o q=>[ZO,c0 (j6 q hg),I.gh b o q],λb o q=>[ZO,c0 (j6 q h0),I.hh b o q],[ZO,qD0,I.len],λj x o O T=>?_,λp q Vj us c Ui O T h3 h4=>?_,λp q Vj us c Ui O T h3 h4=>?_⟩
 .by_cases hj:i=j
  .subst hj;rw[qB9]at O;simp only [qK7]at O
   split at O <;> simp [reduceCtorEq]at O
   subst O;rw[es]at T;cases T;show ⟨a,Yl,rfl,d5,hg,h0,r⟩
  .rw [qA4 hj]at O
   have:=I.sl j x o O T
   cases x with
   | own us=>
    show 14;subst eb;have Ud:b≠a:=by
     rintro rfl;show I.ne i j ws us b hj e O es T
    show ⟨b,Uk,rfl,[ZO,c0 Ud,hb],Uw,Ux,rb⟩
   | dic ks=>
    show 14;have Ud:b≠a:=by
     omega
    show ⟨b,Uk,eb,[ZO,c0 Ud,hb],Uw,Ux,rb⟩
   | dik ks=>
    show 14;have Ud:b≠a:=by
     omega
    show ⟨b,Uk,eb,[ZO,c0 Ud,hb],Uw,Ux,rb⟩
   | dos ks=>
    show 14;have Ud:b≠a:=by
     omega
    show ⟨b,Uk,eb,[ZO,c0 Ud,hb],Uw,Ux,rb⟩
   |obj y C kw=>show ObR.move this (Same.refl G) λb C dx fs hb=>⟨[Tr,c0],id,rfl⟩
   |un=>show this
   |val _=>show this
   |par _=>show this
   |iop _ _=>show this
   |hz _=>show this
 .have a3:∀{k:Nat}{us:Xag},(d.set i (.own We))[k]?=some (.own us)->∃Uk,d[k]?=some (.own Uk):=λ{k us} hk=>by
   grind
  obtain ⟨w1,k1⟩:=a3 O;obtain ⟨w2,k2⟩:=a3 T;show I.ne p q w1 w2 c Ui k1 k2 h3 h4
 .have na:i≠p:=by
   rintro rfl;rw[qB9]at O;simp only [qK7]at O
   split at O <;> simp at O
  have nb:i≠q:=by
   rintro rfl;rw[qB9]at T;simp only [qK7]at T
   split at T <;> simp at T
  rw[qA4 na]at O;rw[qA4 nb]at T;show I.nd p q Vj us c Ui O T h3 h4
def PIv.own_at {i:Nat}(I:[TM,c,b]) (e:[ZI,c,.own ws]):∃a vs,[ZI,b,[Wb,a]]/\H a=some [YM,vs]/\G a=none/\H0 a=none/\[Th,G]:=by
 have hi:i<b.length:=by rw[<- I.len];show (qB4.mp e).1
 have es:[ZI,b,b[i]]:=Xaf;obtain ⟨a,vs,O,r⟩:=I.sl i _ _ e es;show ⟨a,vs,by rw[es,O],r⟩
def nD (i:Nat) (m:Xad):Xae:=λa=>match a[i]? with
 |some (.own ws)=>m a>>=λw=>[TJ,ws.length<1000,[Rn,.own (ws ++ [w])]]
 |_=>.stuck
def RI (h:[ou,nD i m,b]):gm (ID (z8 i) (tM K EX .V m)) D b H:=by
 show 5 c;show 10 nD
 .rename_i ws e
  obtain ⟨a,vs,es,ha,hg,h0,r⟩:=I.own_at e;refine ⟨_,es,a,rfl,⟨vs,ha⟩,H0,G,c,I,OutS.bind I o [Tz,x,w,O]⟩;by_cases hl:ws.length<1000
  .rw [qA3 hl]at o1
   have T:=O.hh a _ ha;rw[T];have hlen:=r.length;show ⟨qB6 (by omega:vs.length<1000) Xaa,o1 G1 b _ (Same.refl _) ((I.ext O).own_upd e es ((r.same O.gg).snoc m1))⟩
  .rw[qA9 hl]at o1;show o1.elim
 .show o.elim
def sS (i:Nat) (I me:Xad):Xae:=λa=>match a[i]? with
 | some (.own ws)=>me a>>=λw=>I a>>=λk=>(match k with
  | .int k=>(match ixN ws.length k with
   |some j=>[Rn,.own (ws.set j w)]
   |none=>.stuck)
  |_=>.stuck)
 |_=>.stuck
def Rt (h:[ou,sS i mk me,b]):T4 (tM K EX .V me) (gSub (z8 i) (tM K EX .B mk) rSetL) D b H:=by
 show 5 c;show 10 sS
 .rename_i ws e
  obtain ⟨a,vs,es,ha,hg,h0,r⟩:=I.own_at e;refine ⟨H0,G,c,I,OutS.bind I o λx G1 H1 w O m1 o1=>⟨.ref a,es,H0,G1,c,I.ext O,OutS.bind (I.ext O) o1 λy G2 H2 k T m2 o2=>?_⟩⟩;cases k <;> first|show o2.elim|skip
  rename_i k
  dsimp only at o2;cases q:ixN ws.length k with
  |none=>rw[q]at o2;show o2.elim
  | some j=>
   rw[q]at o2;refine ⟨a,vs,k,j,rfl,m2.intB,T.hh _ _ (O.hh _ _ ha),[ZO,r.length,q],?_⟩;show o2 G2 b _ (Same.refl _) (((I.ext O).ext T).own_upd e es (Reps.set (Rep.same T.gg m1) j ((r.same O.gg).same T.gg)))
 .show o.elim
def mAug (i:Nat) (f:Int->Int->Int) (m:Xad):Xae:=λc=>B3 .B i c>>=λx=>m c>>=λy=>match x,y with
 | .int a,.int b=>.ok (.nx (c.set i (.val (.int (f a b)))))
 |_,_=>.stuck
def mIf (c:Xam)(m n:Xae):Xae:=λa=>c a>>=λb=>if b then m a else n a
def RB (h:[ou,mIf c m n,b]):rN (tT K EX c) [Tx,m] [Tx,n] D b H:=by
 show 4 a (OutS.bind I o [Tz,x,w,O]);cases m1;cases x with
 |true=>show ⟨H0,G1,a,I.ext O,o1⟩
 |false=>show ⟨H0,G1,a,I.ext O,o1⟩
def frz (i:Nat) (a:Rho):Rho:=match a[i]? with
 |some (.own ws)=>a.set i (.val (.lst ws))
 |_=>a
def PIv.frz (I:[TM,f,d]):∃G',Same G G'/\PIv K H0 G' (frz i f) d H:=by
 unfold TP.frz
 split
 .rename_i ws e
  obtain ⟨a,vs,es,ha,hg,h0,r⟩:=I.own_at e;have s1:Same G (upd G a [YM,vs]):=λb o q=>[ZO,c0 (j6 q hg),q]
  refine ⟨upd G a (.lst vs),s1,?_⟩;have I1:[TM,f.set i .un,d]:=by
   refine ⟨I.g0,I.gl,I.gh,I.hh,[ZO,qD0,I.len],λj x o O h2=>?_,λp q Vj us c Ui O h2 h3 h4=>?_,λp q Vj us c Ui O h2 h3 h4=>?_⟩
   .by_cases hj:i=j
    .subst hj;rw[qB9]at O;simp only [qK7]at O
     split at O <;> simp only [Option.some.injEq,reduceCtorEq]at O
     subst O;trivial
    .rw[qA4 hj]at O;show I.sl j x o O h2
   .have na:i≠p:=by
     rintro rfl;rw[qB9]at O;simp only [qK7]at O
     split at O <;> simp at O
    have nb:i≠q:=by
     show 18
    rw[qA4 na]at O;rw[qA4 nb]at h2;show I.ne p q Vj us c Ui O h2 h3 h4
   .have na:i≠p:=by
     rintro rfl;rw[qB9]at O;simp only [qK7]at O
     split at O <;> simp at O
    have nb:i≠q:=by
     show 18
    rw[qA4 na]at O;rw[qA4 nb]at h2;show I.nd p q Vj us c Ui O h2 h3 h4
  have I2:PIv K H0 (upd G a [YM,vs]) (f.set i .un) d H:=by
   refine ⟨λb o q l=>s1 b o (I.g0 b o q l),λb o q l=>[ZO,c0 (j6 q h0),I.gl b o q l],λb o q=>?_,I.hh,I1.len,λj x o O h2=>?_,I1.ne,I1.nd⟩
   .by_cases T:b=a
    .subst T;rw[d5]at q;cases q;show ha
    .rw[c0 T]at q;show I.gh b o q
   .have:=I1.sl j x o O h2
    cases x with
    |un=>trivial
    |val w=>obtain ⟨v,e1,r1⟩:=this;show ⟨v,e1,r1.same s1⟩
    |par w=>obtain ⟨v,e1,r1⟩:=this;show ⟨v,e1,r1.same (B7 s1)⟩
    | own us=>
     obtain ⟨b,Uk,eb,T,Uw,Ux,rb⟩:=this;subst eb;have Vf:i≠j:=by
      rintro rfl;rw[qB9]at O;simp only [qK7]at O
      split at O <;> simp at O
     rw[qA4 Vf]at O;have Ud:b≠a:=by
      rintro rfl;show I.ne i j ws us b Vf e O es h2
     show ⟨b,Uk,rfl,T,[ZO,c0 Ud,Uw],Ux,rb.same s1⟩
    | dic ks=>
     obtain ⟨b,Uk,eb,T,Uw,Ux,rb⟩:=this;have Ud:b≠a:=by
      rintro rfl;rw[ha]at T;cases T
     show ⟨b,Uk,eb,T,[ZO,c0 Ud,Uw],Ux,rb⟩
    | dik ks=>
     obtain ⟨b,Uk,eb,T,Uw,Ux,rb⟩:=this;have Ud:b≠a:=by
      rintro rfl;rw[ha]at T;cases T
     show ⟨b,Uk,eb,T,[ZO,c0 Ud,Uw],Ux,rb⟩
    | dos ks=>
     obtain ⟨b,Uk,eb,T,Uw,Ux,rb⟩:=this;have Ud:b≠a:=by
      rintro rfl;rw[ha]at T;cases T
     show ⟨b,Uk,eb,T,[ZO,c0 Ud,Uw],Ux,rb.same s1⟩
    |iop p us=>obtain ⟨e1,Yk,Xs,r1⟩:=this;show ⟨e1,Yk,Xs,r1.same s1⟩
    |obj y C kw=>show ObR.move this s1 λb C dx fs T=>⟨T,λg=>[ZO,c0 (Qx T ha λz=>by cases z),g],rfl⟩
    |hz w=>obtain ⟨v,e,r⟩:=this;show ⟨v,e,r.same (B7 (aB s1))⟩
  have I3:=I2.setV (i:=i) (v:=.ref a) (w:=.lst ws) (.lst d5 (r.same s1));have e3:d.set i (some (V.ref a))=d:=by
   apply qK0;intro j;by_cases hj:i=j
   .subst hj;rw[es,qB9];simp only [qK7];rw[qA3 (qB4.mp es).1]
   .rw[qA4 hj]
  rw[e3,List.set_set]at I3;show I3
 .show ⟨G,Same.refl G,I⟩
def RE (h:[ou,λa=>m (frz i a),b]):[ou,m,b]:=by
 show 5 a;obtain ⟨G',s,O⟩:=I.frz;show ⟨H0,G',_,O,OutS.move s o⟩
section
variable {K:Frag}{EX:EXT}{H0 G H G1 H1 G2 H2:Hp}{ρ:Rho}{σ:St}{d:Mode}{D:Ends}
structure X3 (K:Frag) (e:Mode) (H0 Z G:Hp) (J:It) (ws:Xag):Prop where
 go:∀i H,i<ws.length->Same Z H->J.go i H
 stop:∀H,Same Z H->J.stop ws.length H
 yld:∀i H x H' w,ws[i]?=some w->Same Z H->J.yld i H x H'->∀G2 ρ σ,PIv K H0 G2 ρ σ H->Same G G2->∃G3,Ext G2 H G3 H'/\Md K H0 H G3 H' x w e
def fY (K:Frag) (EX:EXT) (lp:Bool) (e:Mode) (H0 G H:Hp) (r:R Xag) (I:[Ts,It]):Prop:=match r with
 | .ok ws=>∀J G' H',Ext G H G' H'->X3 K e H0 [YL,lp,join H0 G',H'] G' J ws->I J H'
 | .ex x=>∀H',Same H H'->EX x H'
 | .stuck=>False
def tIt (K:Frag)(EX:EXT)(lp:Bool)(e:Mode)(m:Xal):TI:=λσ H I=>∃H0 G ρ,[TM,ρ,σ]/\fY K EX lp e H0 G H (m ρ) I
def M9 (mg:Xan) (mb:Xae):List W->Rho->R Fl
 | [],ρ=>.ok (.nx ρ)
 | w::ws,ρ=>toR (mg w ρ)>>=λO=>mb O>>=λf=>match f with
  | .nx I=>M9 mg mb ws I
  | .ct I=>M9 mg mb ws I
  | .bk I=>.ok (.nx I)
  | .rt w=>.ok (.rt w)
def RF (hg:Gt K e g mg) (h:[ou,λρ=>mi ρ>>=λws=>M9 mg mb ws ρ,σ]):
  IA (tIt K EX true e mi) g [Tx,mb] D σ H:=by
 show 4 ρ ?_;replace o:OutS K EX d H0 G (_>>=_) D:=o
 revert o
 cases mi ρ with
 |stuck=>show id
 |ex x=>show λo H' s=>o H' (I.hh.trans s)
 | ok ws=>
  intro o J G1 H1 e1 T;have o1:=OutS.move e1.gg o;refine ⟨λi m σ H=>m=ws.length-i/\i<=ws.length/\∃G2 a3,Same G1 G2/\PIv K H0 G2 a3 σ H/\OutS K EX d H0 G2 (M9 mg mb (ws.drop i) a3) D,⟨_,rfl,qE1 _,G1,ρ,Same.refl _,I.ext e1,o1⟩,?_⟩;rintro i m a6 Hh ⟨rfl,hi,G2,a3,s2,I2,o2⟩;have hz:=(B7 s2).trans I2.join_H;by_cases Ug:i<ws.length
  .refine .inr ⟨T.go i Hh Ug hz,λa7 H'=>∃G4 O,_/\_/\_,λa7 H' a5=>by obtain ⟨G4,O,s4,I4,o4⟩:=a5;show ⟨ws.length-_,ZU,rfl,Ug,G4,O,s4,I4,o4⟩,λx H' y=>?_⟩;obtain ⟨G3,e3,m3⟩:=T.yld i Hh x H' ws[i] Xaf hz y G2 a3 a6 I2 s2;rw[qH3 Ug]at o2;unfold M9 at o2;cases q:mg ws[i] a3 with
   |none=>rw[q]at o2;show o2.elim
   | some a4=>
    rw[q]at o2;refine hg H0 Hh G3 a3 a6 H' x _ a4 _ (I2.ext e3) m3 q λa7 I'=>⟨H0,G3,a4,I',?_⟩;have o3:OutS K EX d H0 G3 (mb a4>>=_) D:=OutS.move e3.gg o2
    revert o3
    have s3:=s2.trans e3.gg;cases mb a4 with
    |stuck=>show id
    |ex x=>show id
    | ok f=>
     cases f with
     |nx O=>show λo4 G4 a8 H4 s4 I4=>⟨G4,O,s3.trans s4,I4,OutS.move s4 o4⟩
     |ct O=>show λo4 G4 a8 H4 s4 I4=>⟨G4,O,s3.trans s4,I4,OutS.move s4 o4⟩
     |bk O=>show id
     |rt w=>show id
  .have e:i=ws.length:=ZU;subst e;refine .inl ⟨T.stop Hh hz,?_⟩;rw[List.drop_length]at o2;show o2 G2 a6 Hh (Same.refl _) I2
noncomputable def tm (c:Xam) (b:Xae):Nat->Rho->Option (R Fl)
 |0,_=>none
 | n+1,ρ=>match c ρ with
  | .ok false=>some (.ok (.nx ρ))
  | .ok true=>(match b ρ with
   | .ok (.nx a)=>tm c b n a
   | .ok (.ct a)=>tm c b n a
   | .ok (.bk a)=>some (.ok (.nx a))
   | .ok (.rt w)=>some (.ok (.rt w))
   | .ex e=>some (.ex e)
   | .stuck=>some .stuck)
  | .ex e=>some (.ex e)
  | .stuck=>some .stuck
open Classical in
def mWhile (c:Xam)(b:Xae):Xae:=λρ=>if h:∃r n,tm c b n ρ=some r then h.choose else .stuck
def Md.whole (I:[TM,ρ,σ]) (h:Md K H0 Hs G H v w .B):Rep K H v w:=by
 rcases h with h|⟨a,vs,ws,rfl,rfl,h1,r⟩
 .show h.same I.join_H
 .show .lst h1 (r.same I.gh)
def MdA.whole (I:[TM,ρ,σ]) (h:MdA K .B H0 Hs G H ws vs):[Th,H]:=
 @MdA.rec K .B H0 Hs G H (λws vs _=>[Th,H]) .nil (λh _ b=>.cons (h.whole I) b) ws vs h
def XE (_:XK):EXT:=λ_ _=>False
def spM (K:Frag) (n:Nat) (d:Mode) (f:[TR]):Sp:=λvs H Q E=>vs.length=n/\∃ws,[Th,H]/\match f ws with
 | .ok w=>∀v G' H',Same H H'->Same G' H'->(∀a o,H a=some o->isL o=true->G' a=none)->Md K H H G' H' v w d->Q v H'
 | .ex e=>∀H',Same H H'->XE E e H'
 | .stuck=>False
def d9 (n N:Nat) (m:Xae) (ws:Xag):R W:=if ws.length=n then (m (ws.map Sl.par++[Sx,N,n])>>=λf=>match f with
 | .rt w=>.ok w
 | .nx _=>.ok .non
 |_=>.stuck) else .stuck
def bX ws (h:d9 n N m ws≠.stuck):ws.length=n:=by
 grind[d9]
def both (G G':Hp):Hp:=λb=>match G b with
 |some o=>some o
 |none=>G' b
def NZ (hd:d=.F\/d=.V) (hf:∀ws,f ws≠.stuck->ws.length=n) (hE:∀e H,EX e H->XE E e H) (h:[Tw,d,λρ=>ma ρ>>=λws=>f ws,σ]):
  X5 (spM K n d f) [] E (tA K EX .B ma) σ H Q:=by
 show 4 ρ (Out.bind o [Tz,xs,ws,e1]);have I1:=I.ext e1;have r:=MdA.whole I1 m1;rw[qD3];refine ⟨?_,ws,r,?_⟩
 .rw [r.length]
  refine hf ws λz=>?_;rw[z]at o1;show o1
 .revert o1
  cases f ws with
  |stuck=>show id
  |ex e=>show λo1 H' s=>hE e H' (o1 H' s)
  | ok w=>
   intro o1 v G' H' sH gH cl md;have sB:Same G1 (both G1 G'):=λb o q=>by unfold both;rw[q]
   have O:Same G' (both G1 G'):=λb o q=>by
    unfold both;cases T:G1 b with
    |none=>show q
    | some u=>
     have a1:=sH b u (I1.gh b u T);rw[gH b o q]at a1;show a1.symm
   have VQ:Same (both G1 G') H':=λb o q=>by
    unfold both at q;cases T:G1 b with
    |none=>rw[T]at q;show gH b o q
    |some u=>rw[T]at q;cases q;show sH b _ (I1.gh b _ T)
   have ex:Ext G1 H1 _ H':=⟨sB,sH,VQ,λb o q l g=>by unfold both;rw[g];show cl b o q l⟩;refine o1 v _ H' ex ?_;rcases hd with rfl|rfl
   .cases w with
    | lst us=>
     obtain ⟨a,vs,rfl,h1,h2,h3,r3⟩:=md;show ⟨a,vs,rfl,h1,by unfold both;rw[I1.gh.free h3];show h2,e1.hh.free h3,r3.same O⟩
    |non=>show Rep.same O md
    |bl _=>show Rep.same O md
    |int _=>show Rep.same O md
    |str _=>show Rep.same O md
    |ty _=>show Rep.same O md
    |tup _=>show Rep.same O md
    |scr _=>show Rep.same O md
    |exc _ _=>show Rep.same O md
    |cls _=>show Rep.same O md
    |dst _ _ _ _=>show Rep.same O md
   .show Rep.same O md
def jd (H:Hp):Hp:=λa=>match H a with
 |some o=>if isL o then none else some o
 |none=>none
def wE:join H (jd H)=H:=by
 grind[join,jd]
def Reps.slots {i:Nat}(r:[Th,H]):[ZI,ws.map Sl.par++List.replicate k Sl.un,x]->[ZI,vs.map some++List.replicate k' none,o]->x=.un\/∃v w,x=.par w/\o=some v/\Rep K H v w:=
 Reps.ind (P:=λvs ws=>∀i,(ws.map _++_)[i]?=_->(vs.map some++_)[i]?=_->x=.un\/∃v w,x=.par w/\o=some v/\Rep K H v w) (λi O I=>by
  grind) (λr _ b i O I=>by
  cases i with
  |zero=>show .inr ⟨_,_,Option.some.inj O.symm,Option.some.inj I.symm,r⟩
  |succ i=>show b i O I) r i
def PIv.begin (r:[Th,H]) (hk:k=k'):PIv K H (jd H) (ws.map Sl.par++List.replicate k Sl.un) (vs.map some++List.replicate k' none) H where
 g0 a o e l:=[Tr,jd]
 gl a o e l:=[Tr,jd]
 gh a o e:=by
  grind[jd]
 hh:=Same.refl H
 len:=by subst hk;simp [r.length]
 sl i x o h1 h2:=by
  rcases Reps.slots r h1 h2 with rfl|⟨v,w,rfl,rfl,q⟩
  .trivial
  .show ⟨v,rfl,[ZO,wE,q]⟩
 ne i j us xs a Vf h1 _ _ _:=by
  grind
 nd i j us xs a Vf h1 _ _ _:=by
  grind
def Oa (hd:d=.F\/d=.V) (h:spM K n d (d9 n Nl.length m) vs H Q E):tSt K (λ_ _=>False) d m { nx:=λ_ H'=>Q .non H',rt:=Q } (L2.start Nl vs) H:=by
 obtain ⟨hl,ws,r,o⟩:=h;have hw:ws.length=n:=by rw[<- r.length];show hl
 unfold d9 at o;rw[qA3 hw]at o;refine ⟨H,_,_,PIv.begin r (by rw[hl]),?_⟩
 revert o
 cases m _ with
 |stuck=>show id
 |ex e=>show λo=>(o H (Same.refl H)).elim
 | ok f=>
  cases f with
  |nx T=>show λo G' O H' s' I=>o _ G' H' I.hh I.gh I.gl [SZ,.non]
  |rt w=>show λo v G' H' _ s1 s2 c md=>o v G' H' s2 s1 c md
  |bk _=>show λo=>o.elim
  |ct _=>show λo=>o.elim
end
noncomputable def elR (mg:Xan) (O:Xam) (me:Xad) (a:Rho) (w:W):R (Option W):=match mg w a with
 |none=>.stuck
 | some I=>(match O I with
  | .ok true=>(match me I with
   | .ok y=>.ok (some y)
   |_=>.stuck)
  | .ok false=>.ok none
  |_=>.stuck)
def mapR (f:W->R (Option W)):List W->R Xag
 | []=>.ok []
 | w::ws=>match f w,mapR f ws with
  | .ok (some y),.ok ys=>.ok (y::ys)
  | .ok none,.ok ys=>.ok ys
  |_,_=>.stuck
def E1 (N':Nat) (mg:Xan) (I:Xam) (me:Xad) (ws:Xag) (a:Rho):R W:=
 if ws.length<=1000 then (match mapR (elR mg I me (a++[Sx,N',a.length])) ws with
  | .ok ys=>.ok (.lst ys)
  |_=>.stuck) else .stuck
def Fs:∀{ws ys:Xag},mapR f ws=.ok ys->(∀w∈ws,∃o,f w=.ok o)/\ys=ws.filterMap λw=>match f w with
  | .ok o=>o
  |_=>none:=by
 intro ws
 induction ws with
 |nil=>intro ys h;cases h;show ⟨Xaf,rfl⟩
 | cons w ws ih=>
  intro ys h;unfold mapR at h;cases hf:f w with
  |stuck=>rw[hf]at h;cases h
  |ex e=>rw[hf]at h;cases h
  | ok o=>
   rw[hf]at h;cases hm:mapR f ws with
   |stuck=>rw[hm]at h;cases o <;> cases h
   |ex e=>rw[hm]at h;cases o <;> cases h
   | ok zs=>
    rw[hm]at h;obtain ⟨T,O⟩:=ih hm;refine ⟨λu I=>?_,?_⟩
    .rcases qB5.mp I with rfl|I
     .show ⟨o,hf⟩
     .show T u I
    .cases o with
     |none=>cases h;rw[qH7,hf];show O
     |some y=>cases h;rw[qH7,hf,O]
theorem PIv.inner (I:[TM,a,b]):[TM,a++[Sx,N'.length,a.length],inner N' b]:=by
 have hl:=I.len;unfold L2.inner;rw[hl];refine ⟨I.g0,I.gl,I.gh,I.hh,by simp [hl],λi x o T h2=>?_,λp q ws us c Ui T h2 h3 h4=>?_,λp q ws us c Ui T h2 h3 h4=>?_⟩
 .by_cases hi:i<a.length
  .rw [qD7 hi]at T
   rw[qD7 ZU]at h2;show I.sl i x o T h2
  .rw [qE8 ZU,qN5]at T
   split at T <;> simp only [Option.some.injEq,reduceCtorEq]at T
   subst T;trivial
 .have O:∀{k:Nat}{us:Xag},(a++[Sx,N'.length,b.length])[k]?=some (Sl.own us)->k<a.length/\a[k]?=some (Sl.own us):=λ{k us} hk=>by
   by_cases hi:k<a.length
   .rw[qD7 hi]at hk;show ⟨hi,hk⟩
   .rw [qE8 ZU,qN5]at hk
    split at hk <;> simp at hk
  obtain ⟨l1,k1⟩:=O T;obtain ⟨l2,k2⟩:=O h2;rw[qD7 ZU]at h3 h4;show I.ne p q ws us c Ui k1 k2 h3 h4
 .have O:∀{k:Nat}{us:[Ta]×List W},(a++[Sx,N'.length,b.length])[k]?=some (Sl.dos us)->k<a.length/\a[k]?=some (Sl.dos us):=λ{k us} hk=>by
   by_cases hi:k<a.length
   .rw[qD7 hi]at hk;show ⟨hi,hk⟩
   .rw [qE8 ZU,qN5]at hk
    split at hk <;> simp at hk
  obtain ⟨l1,k1⟩:=O T;obtain ⟨l2,k2⟩:=O h2;rw[qD7 ZU]at h3 h4;show I.nd p q ws us c Ui k1 k2 h3 h4
open Classical in
def rest (G H:Hp)(Dd:Addr)(H':Hp):Hp:=λb=>if b=Dd\/∃o,H b=some o/\isL o=true/\G b=none then none else H' b
def A4 (h:b=Dd\/∃o,[TN,H]/\isL o=true/\G b=none):rest G H Dd H' b=none:=by unfold rest;rw[qA3 h]
def ax (h:¬ (b=Dd\/∃o,[TN,H]/\isL o=true/\G b=none)):rest G H Dd H' b=H' b:=by unfold rest;rw[qA9 h]
def qf (h:rest G H Dd H' b=some o):[TN,H']/\¬ (b=Dd\/∃o,[TN,H]/\isL o=true/\G b=none):=by
 by_cases c:b=Dd\/∃o,[TN,H]/\isL o=true/\G b=none
 .rw[A4 c]at h;cases h
 .rw[ax c]at h;show ⟨h,c⟩
def PIv.rest (I:[TM,d,c]) (hD:H Dd=none) (s:Same H H'):Same G (rest G H Dd H')/\PIv K H0 (rest G H Dd H') d c H':=by
 have sG:Same G (TP.rest G H Dd H'):=λb o q=>by
  rw[ax]
  .show s b o (I.gh b o q)
  .rintro (rfl|⟨u,T,O,h3⟩)
   .rw[I.gh _ _ q]at hD;cases hD
   .rw[q]at h3;cases h3
 refine ⟨sG,λa o e l=>sG a o (I.g0 a o e l),λa o e l=>A4 (.inr ⟨o,I.hh a o e,l,I.gl a o e l⟩),λb o q=>(qf q).1,I.hh.trans s,I.len,λi x o T O=>?_,I.ne,I.nd⟩
 have:=I.sl i x o T O
 cases x with
 |un=>trivial
 |val w=>obtain ⟨v,e,r⟩:=this;show ⟨v,e,r.same sG⟩
 |par w=>obtain ⟨v,e,r⟩:=this;show ⟨v,e,r.same (B7 sG)⟩
 | own ws=>
  obtain ⟨a,vs,e,h,g,h0,r⟩:=this;show ⟨a,vs,e,s a _ h,A4 (.inr ⟨_,h,rfl,g⟩),h0,r.same sG⟩
 | dic ks=>
  obtain ⟨a,vs,e,h,g,h0,r⟩:=this;show ⟨a,vs,e,s a _ h,A4 (.inr ⟨_,h,rfl,g⟩),h0,r⟩
 | dik ks=>
  obtain ⟨a,vs,e,h,g,h0,r⟩:=this;show ⟨a,vs,e,s a _ h,A4 (.inr ⟨_,h,rfl,g⟩),h0,r⟩
 |iop p ws=>obtain ⟨e1,Yk,Xs,r1⟩:=this;show ⟨e1,Yk,Xs,r1.same sG⟩
 |hz w=>obtain ⟨v,e,r⟩:=this;show ⟨v,e,r.same (B7 (aB sG))⟩
 |obj y C kw=>show ObR.move this sG λa C dx fs h=>⟨s a _ h,λg=>A4 (.inr ⟨_,h,rfl,g⟩),rfl⟩
 | dos ks=>
  obtain ⟨a,vs,e,h,g,h0,r⟩:=this;show ⟨a,vs,e,s a _ h,A4 (.inr ⟨_,h,rfl,g⟩),h0,r.same sG⟩
def V9 (s:∀b o,b≠Dd->[TN,Ha]->[TN,Hb]):Same (rest G H Dd Ha) (rest G H Dd Hb):=λb o q=>by
 obtain ⟨h,c⟩:=qf q;rw[ax c];show s b o (λz=>c (.inl z)) h
def mq (hl:∃ys,Ha Dd=some [YM,ys]) (s:Same H Ha) (e:Ext (rest G H Dd Ha) Ha G' Hb):Same G' (rest G H Dd Hb):=λb o q=>by
 rw[ax]
 .show e.gh b o q
 .rintro (rfl|⟨u,h1,h2,h3⟩)
  .obtain ⟨ys,hl⟩:=hl;rw[e.keep _ _ hl rfl (A4 (.inl rfl))]at q;cases q
  .rw[e.keep _ _ (s _ _ h1) h2 (A4 (.inr ⟨u,h1,h2,h3⟩))]at q;cases q
def xO (hg:Gt K e g mg) (h:[Tw,.F,λa=>mi a>>=λws=>E1 N'.length mg mc me ws a,c]):
  gr N' (tIt K EX false e mi) g (tT K EX mc) (tM K EX .V me) c H Q:=by
 show 4 a ?_;replace o:[SO,mdW K .F H0 H,mi a>>=λws=>E1 N'.length mg mc me ws a]:=o
 revert o
 cases mi a with
 |stuck=>show id
 |ex x=>show id
 | ok ws=>
  intro o J G1 H1 e1 T Dd hD;have I1:=I.ext e1;replace o:[SO,mdW K .F H0 H,E1 N'.length mg mc me ws a]:=o
  unfold E1 at o;by_cases hlen:ws.length<=1000
  .rw [qA3 hlen]at o
   cases hm:mapR (elR mg mc me (a++[Sx,N'.length,a.length])) ws with
   |stuck=>rw[hm]at o;show 2
   |ex x=>rw[hm]at o;show 2
   | ok ys=>
    rw[hm]at o;obtain ⟨Ur,a6⟩:=Fs hm;have T':X3 K e H0 H1 G1 J ws:=by
     have:=T
     rw[qA9 qC1]at this;show this
    generalize a8:a++[Sx,N'.length,a.length]=a5 at hm Ur a6
    refine ⟨λi m H2=>m=ws.length-i/\i<=ws.length/\Same H1 H2/\∃vs,H2 Dd=some [YM,vs]/\vs.length<=i/\Reps K (rest G1 H1 Dd H2) vs ((ws.take i).filterMap λw=>match elR mg mc me a5 w with
     | .ok o=>o
     |_=>none),⟨_,rfl,qE1 _,λb u q=>[ZO,c0 (j6 q hD),q],[],d5,qA6 _,.nil⟩,?_⟩
    rintro i m H2 ⟨rfl,hi,s2,vs,a4,a9,r2⟩;by_cases Ug:i<ws.length
    .refine .inr ⟨T'.go i H2 Ug s2,λx H3 y=>?_⟩;obtain ⟨sG,I2⟩:=I1.rest (Dd:=Dd) hD s2;have a7:=I2.inner (N':=N');obtain ⟨G3,e3,m3⟩:=T'.yld i H2 x H3 ws[i] Xaf s2 y _ _ _ a7 sG;obtain ⟨op,O⟩:=Ur ws[i] (qH4 Ug);have Xc:=O;unfold elR at O;rw[<- a8]at O;have UG:ws.take (i+1)=ws.take i ++ [ws[i]]:=by rw[qN9 Ug]
     cases q:mg ws[i] (a++[Sx,N'.length,a.length]) with
     |none=>rw[q]at O;cases O
     | some a3=>
      rw[q]at O;dsimp only at O;refine hg H0 H2 G3 _ _ H3 x _ a3 _ (a7.ext e3) m3 q λae I4=>⟨H0,G3,a3,I4,?_⟩;cases hc:mc a3 with
      |stuck=>rw[hc]at O;cases O
      |ex x=>rw[hc]at O;cases O
      | ok b=>
       intro b' G5 H5 e5 eb;cases eb;rw[hc]at O;cases b with
       | false=>
        rw[qA9 qC1];have Wm:op=none:=by cases O;rfl
        have s5:Same H2 H5:=e3.hh.trans e5.hh;refine ⟨ws.length-(i+1),ZU,rfl,Ug,s2.trans s5,vs,s5 _ _ a4,ZU,?_⟩;rw[UG,List.filterMap_append]
        have:([ws[i]].filterMap λw=>match elR mg mc me a5 w with
         | .ok o=>o
         |_=>none) = []:=by
         rw[qH7,Xc,Wm];rfl
        rw[this,qD3];show r2.same (V9 λb o _ q=>s5 b o q)
       | true=>
        dsimp only at O;rw[qA3 rfl];refine ⟨H0,G5,a3,I4.ext e5,?_⟩;cases Vy:me a3 with
        |stuck=>rw[Vy]at O;cases O
        |ex x=>rw[Vy]at O;cases O
        | ok z=>
         rw[Vy]at O;have Wm:op=some z:=by cases O;rfl
         intro yv G6 H6 e6 m6;have Xu:Ext (TP.rest G1 H1 Dd H2) H2 G6 H6:=(e3.trans e5).trans e6;have s6:Same H2 H6:=Xu.hh;refine ⟨vs,s6 _ _ a4,qG6 a9 (qB6 (by omega:i<1000) Xaa),ws.length-(i+1),ZU,rfl,Ug,λb u q=>[ZO,c0 (j6 q hD),s6 b u (s2 b u q)],vs ++ [yv],d5,by rw[qC4];simp;omega,?_⟩;rw[UG,List.filterMap_append]
         have:([ws[i]].filterMap λw=>match elR mg mc me a5 w with
          | .ok o=>o
          |_=>none) = [z]:=by
          rw[qH7,Xc,Wm];rfl
         rw[this];have k1:Same (TP.rest G1 H1 Dd H2) (TP.rest G1 H1 Dd (upd H6 Dd [YM,vs ++ [yv]])):=V9 λb o hb q=>[ZO,c0 hb,s6 b o q]
         have k2:Same G6 (TP.rest G1 H1 Dd (upd H6 Dd [YM,vs ++ [yv]])):=(mq ⟨vs,a4⟩ s2 Xu).trans (V9 λb o hb q=>[ZO,c0 hb,q]);show (r2.same k1).snoc (Rep.same k2 m6)
    .have ei:i=ws.length:=ZU;subst ei;refine .inl ⟨T'.stop H2 s2,?_⟩;rw[qK1,<- a6]at r2;obtain ⟨sG,I2⟩:=I1.rest (Dd:=Dd) hD s2;refine o _ (TP.rest G1 H1 Dd H2) H2 ⟨e1.gg.trans sG,e1.hh.trans s2,I2.gh,λb u q l g=>A4 (.inr ⟨u,e1.hh b u q,l,e1.keep b u q l g⟩)⟩ ⟨Dd,vs,rfl,a4,A4 (.inl rfl),e1.hh.free hD,r2⟩
  show 12 hlen
def seqW:W->R Xag
 | .lst ws=>.ok ws
 | .tup ws=>.ok ws
 | .scr ws=>.ok ws
 |_=>.stuck
def M5 (e:Same H H1) (h:Sq K H t a xs):Sq K H1 t a xs:=by
 grind[Sq,yJ,Same.seq]
def sqT (h:SqT K H a xs):Sq K H true a xs:=[Tr,Sq]
def sqL (h:SqL K H a xs):Sq K H false a xs:=[Tr,Sq]
def Rep.sq (h:Rep K F x w) (hw:seqW w=.ok ws):∃t a vs,x=.ref a/\Sq K F t a vs/\[Th,F]:=by
 cases w <;> first | (cases hw;done)|skip
 .obtain ⟨a,vs,e,s,r⟩:=h.inv;show ⟨true,a,vs,e,sqT (SqT.of s),R.ok.inj hw ▸ r⟩
 .obtain ⟨a,vs,e,s,r⟩:=h.inv;show ⟨false,a,vs,e,sqL (SqL.of s),R.ok.inj hw ▸ r⟩
 .obtain ⟨a,vs,e,s,r⟩:=h.inv;show ⟨false,a,vs,e,sqL s,R.ok.inj hw ▸ r⟩
def iN:Bool->Mode->Mode
 |true,e=>e
 |false,.V=>.C
 |false,_=>.B
def fz (e:Mode)(H0 G:Hp):Hp:=if e=.V then G else join H0 G
def Md.src (he:e=.V\/e=.U) (I:[TM,c,b]) (m:Md K H0 Hs G H x w (iN lp e)) (hw:seqW w=.ok ws):
  ∃t a vs,x=.ref a/\Sq K [YL,lp,join H0 G,H] t a vs/\[Th,fz e H0 G]:=by
 unfold fz;rcases he with rfl|rfl
 .cases lp with
  | true=>
   obtain ⟨t,a,vs,e1,T,O⟩:=Rep.sq m hw;show ⟨t,a,vs,e1,by show M5 I.G_join T,O⟩
  | false=>
   rcases m with m|⟨a,vs,us,rfl,rfl,h1,r⟩
   .obtain ⟨t,a,vs,e1,T,O⟩:=Rep.sq m hw;show ⟨t,a,vs,e1,M5 I.gh T,O⟩
   .cases hw;show ⟨false,a,vs,rfl,sqL (SqL.of h1),r⟩
 .cases lp with
  | true=>
   obtain ⟨t,a,vs,e1,T,O⟩:=Rep.sq m hw;show ⟨t,a,vs,e1,by show T,O⟩
  | false=>
   rcases m with m|⟨a,vs,us,rfl,rfl,h1,r⟩
   .obtain ⟨t,a,vs,e1,T,O⟩:=Rep.sq m hw;show ⟨t,a,vs,e1,M5 I.join_H T,O⟩
   .cases hw;show ⟨false,a,vs,rfl,sqL (SqL.of h1),r.same I.G_join⟩
def Md.of_fz (I:e=.V\/e=.U) (h:Rep K (fz e H0 G) v w):Md K H0 Hs G H v w e:=by
 unfold fz at h;rcases I with rfl|rfl
 .show h
 .show h
def R8 (s:Same G G1):Same (fz e H0 G) (fz e H0 G1):=by
 unfold fz
 split
 .show s
 .show B7 s
def FL (he:e=.V\/e=.U) (s:Sq K Z t a vs) (r:[Th,fz e H0 G]):X3 K e H0 Z G (ItQ K t a) ws:=by
 have hl:=r.length;cases t with
 | true=>
  have T:∀H,Same Z H->SqT K H a vs:=λH z=>by have:=M5 z s;grind[Sq]
  refine ⟨λi H hi z=>⟨vs,vs[i]'ZU,T H z,Xaf⟩,λH z=>⟨vs,T H z,ZU⟩,λi H x H' w hw z a3 G2 c b I sg=>?_⟩;obtain ⟨e1,y⟩:=a3;subst e1;have hx:=y vs (T _ z);obtain ⟨v,hv,rv⟩:=Reps.get r hw;rw[hx]at hv;cases hv;show ⟨G2,Ext.refl I.gh,Md.of_fz he (rv.same (R8 sg))⟩
 | false=>
  have T:∀H,Same Z H->SqL K H a vs:=λH z=>by have:=M5 z s;grind[Sq]
  refine ⟨λi H hi z=>⟨vs,vs[i]'ZU,T H z,Xaf⟩,λH z=>⟨vs,T H z,ZU⟩,λi H x H' w hw z O G2 c b I sg=>?_⟩;obtain ⟨e1,y⟩:=O;subst e1;have hx:=y vs (T _ z);obtain ⟨v,hv,rv⟩:=Reps.get r hw;rw[hx]at hv;cases hv;show ⟨G2,Ext.refl I.gh,Md.of_fz he (rv.same (R8 sg))⟩
def nF {lp:Bool}(I:[TM,b,a]):Same [YL,lp,join H0 G,H] H:=by
 cases lp
 .show Same.refl H
 .show I.join_H
def RD (he:e=.V\/e=.U) (h:tIt K EX lp e (λb=>ml b>>=seqW) c H Rr):iSq K (tM K EX (iN lp e) ml) c H Rr:=by
 show 4 b ?_;replace o:fY K EX lp e H0 G H (_>>=seqW) Rr:=o
 revert o
 cases ml b with
 |stuck=>show id
 |ex x=>show id
 | ok w=>
  intro o x G1 H1 O m1;have T:=I.ext O;have o':fY K EX lp e H0 G H (seqW w) Rr:=o;cases q:seqW w with
  |stuck=>rw[q]at o';show o'.elim
  |ex z=>cases w <;> cases q
  | ok ws=>
   rw[q]at o';obtain ⟨t,a,vs,ex,s,r⟩:=Md.src he T m1 q;show ⟨a,ex,t,vs,M5 (nF T) s,o' _ G1 H1 O (FL he s r)⟩
def T6 (lo hi:Int):R Xag:=[TJ,-1000000<=lo/\lo<=1000000 /\ -1000000<=hi/\hi<=1000000,.ok ([Tp,(hi-lo).toNat,λk=>W.int (lo+(k:Nat))])]
def zo:List W->R Xag
 | [.int j]=>T6 0 j
 |_=>.stuck
def rng2:List W->R Xag
 | [.int i,.int j]=>T6 i j
 |_=>.stuck
def AE (he:e=.V\/e=.U):X3 K e H0 Z G (Itr lo n) ([Tp,n,λk=>W.int (lo+(k:Nat))]):=by
 refine ⟨λi H hi _=>by change i<n;simpa using hi,λH _=>by simp [Itr],λi H x H' w hw _ O G2 b a I _=>?_⟩;obtain ⟨e1,T⟩:=O;subst e1;subst T;rw[qC6]at hw;cases q:(List.range n)[i]? with
 |none=>rw[q]at hw;cases hw
 | some k=>
  rw[q]at hw;have hk:k=i:=by
   have:=qB4.mp q
   obtain ⟨h1,h2⟩:=this;simpa using h2.symm
  subst hk;cases hw;refine ⟨G2,Ext.refl I.gh,Md.sca rfl (λ_=>.int) e⟩
def bT (h:tIt K EX lp e (λa=>ma a>>=k) c H Rr) (T:∀H0 G a G1 H1 xs ws us,[TM,a,c]->Ext G H G1 H1->MdA K b H0 H G1 H1 ws xs->k ws=.ok us->(∀J G' H',Ext G H G' H'->X3 K e H0 [YL,lp,join H0 G',H'] G' J us->Rr J H')->Q xs H1) (hx:∀ws e,k ws≠.ex e):tA K EX b ma c H Q:=by
 show 4 a ?_;replace o:fY K EX lp e H0 G H (_>>=k) Rr:=o
 revert o
 cases ma a with
 |stuck=>show id
 |ex x=>show id
 | ok ws=>
  intro o xs G1 H1 O m1;have o':fY K EX lp e H0 G H (k ws) Rr:=o;cases q:k ws with
  |stuck=>rw[q]at o';show o'.elim
  |ex z=>grind
  |ok us=>rw[q]at o';show T H0 G a G1 H1 xs ws us I O m1 q o'
def Ea (h:T6 lo hi=.ok us):(-1000000<=lo/\lo<=1000000 /\ -1000000<=hi/\hi<=1000000)/\us=[Tp,(hi-lo).toNat,λk=>W.int (lo+(k:Nat))]:=by
 unfold T6 at h
 split at h
 .cases h;rename_i c;show ⟨c,rfl⟩
 .cases h
def zl (h:T6 lo hi=.ex e):False:=by
 unfold T6 at h;by_cases c:-1000000<=lo/\lo<=1000000 /\ -1000000<=hi/\hi<=1000000
 .rw[qA3 c]at h;cases h
 .rw[qA9 c]at h;cases h
def NC (T:e=.V\/e=.U) (h:tIt K EX lp e (λb=>ma b>>=zo) d H Rr):CI (tA K EX .B ma) d H Rr:=by
 refine bT h (λH0 G b G1 H1 xs ws us I O m1 q o=>?_) (λws e z=>?_)
 .cases m1 with
  |nil=>cases q
  | @cons w _ _ _ a t=>
   cases t with
   |cons _ _=>first | (done) | (cases w <;> cases q)
   | nil=>
    cases w <;> first | (cases q)|skip
    rename_i j
    show 1 c (Ea (q));refine ⟨j,by rw[Md.intB a],ZU,ZU,?_⟩
    have:=o (Itr 0 j.toNat) G1 H1 O
    rw[Int.sub_zero]at this;show this (AE T)
 .cases ws with
  |nil=>cases z
  | cons w t=>
   cases t with
   |cons _ _=>first | (done) | (cases w <;> cases z)
   | nil=>
    cases w <;> first | (cases z)|skip
    show zl z
noncomputable def iI:List Xag->List Xag
 | [xs,ys]=>xs.zipWith (λx y=>[x,y]) ys
 | [xs,ys,zs]=>(xs.zip ys).zipWith (λp z=>[p.1,p.2,z]) zs
 |_=>[]
def bV:List W->R (List Xag)
 | []=>.ok []
 | w::ws=>match seqW w,bV ws with
  | .ok x,.ok xs=>.ok (x::xs)
  |_,_=>.stuck
def W6 (ws:Xag):R Xag:=if ws.length=2\/ws.length=3 then (match bV ws with
 | .ok xs=>.ok ((iI xs).map W.tup)
 |_=>.stuck) else .stuck
def iR (O:e=.V\/e=.U) (I:[TM,c,a]) (hp:H p=none) (r:[Th,fz e H0 G]):Ext G H (upd G p (.tup vs)) (upd H p (.tup vs))/\Md K H0 Hs (upd G p (.tup vs)) (upd H p (.tup vs)) [ZE,p] (.tup ws) e:=by
 refine ⟨cr I.gh hp,?_⟩;have T:=I.gh.free hp;rcases O with rfl|rfl
 .unfold fz at r;show .tup d5 (r.same λb u q=>[Tr,c0])
 .unfold fz at r
  change Rep K _ _ _;rw[nG (I.hh.free hp)];show .tup d5 (r.same λb u q=>[ZO,c0 (j6 (I.join_H b u q) hp),q])
def wI (he:e=.V\/e=.U) (s1:Sq K Z t a xs) (s2:Sq K Z u b ys) (T:Reps K (fz e H0 G) xs us) (r2:Reps K (fz e H0 G) ys vs):
  X3 K e H0 Z G (ItZ K [(t,a),(u,b)]) ((us.zipWith (λx y=>[x,y]) vs).map W.tup):=by
 have O:=vc s1 s2;have l1:=T.length;have l2:=r2.length;have hl:[ZM,(us.zipWith (λx y=>[x,y]) vs).map W.tup]=min xs.length ys.length:=by simp [l1,l2]
 refine ⟨λi H hi z=>O.go i H ZU z,λH z=>[ZO,hl,O.stop H z],λi H x H' w hw z y G2 d c I sg=>?_⟩;have hi:i<min xs.length ys.length:=by
  rw[<- hl];show (qB4.mp hw).1
 obtain ⟨p,y1,z1,rfl,hp,rfl,hy,hz⟩:=O.yld i H x H' hi z y;obtain ⟨w1,e1,q1⟩:=Reps.get' T hy;obtain ⟨w2,e2,q2⟩:=Reps.get' r2 hz;have WV:w=.tup [w1,w2]:=by
  rw[qC6,qG8,e1,e2]at hw;cases hw;rfl
 subst WV;obtain ⟨x1,x2⟩:=iR he I hp (.cons (q1.same (R8 sg)) (.cons (q2.same (R8 sg)) .nil));show [WH,x1,x2]
def wH (he:e=.V\/e=.U) (s1:Sq K Z t a xs) (s2:Sq K Z u b ys) (s3:Sq K Z v c zs) (r1:Reps K (fz e H0 G) xs us) (r2:Reps K (fz e H0 G) ys vs) (r3:Reps K (fz e H0 G) zs ts):
  X3 K e H0 Z G (ItZ K [(t,a),(u,b),(v,c)]) (((us.zip vs).zipWith (λp z=>[p.1,p.2,z]) ts).map W.tup):=by
 have T:=vb s1 s2 s3;have l1:=r1.length;have l2:=r2.length;have l3:=r3.length;have hl:[ZM,((us.zip vs).zipWith (λp z=>[p.1,p.2,z]) ts).map W.tup]=min xs.length (min ys.length zs.length):=by simp [l1,l2,l3]
 refine ⟨λi H hi z=>T.go i H ZU z,λH z=>[ZO,hl,T.stop H z],λi H x H' w hw z y G2 f d I O=>?_⟩;have hi:i<min xs.length (min ys.length zs.length):=by
  rw[<- hl];show (qB4.mp hw).1
 obtain ⟨p,y1,z1,t1,rfl,hp,rfl,hy,hz,ht⟩:=T.yld i H x H' hi z y;obtain ⟨w1,e1,q1⟩:=Reps.get' r1 hy;obtain ⟨w2,e2,q2⟩:=Reps.get' r2 hz;obtain ⟨w3,e3,q3⟩:=Reps.get' r3 ht;have WV:w=.tup [w1,w2,w3]:=by
  rw[qC6,qG8,List.zip,qG8,e1,e2,e3]at hw;cases hw;rfl
 subst WV;obtain ⟨x1,x2⟩:=iR he I hp (.cons (q1.same (R8 O)) (.cons (q2.same (R8 O)) (.cons (q3.same (R8 O)) .nil)));show [WH,x1,x2]
def bU (h:bV (w::ws)=.ok xs):∃y ys,seqW w=.ok y/\bV ws=.ok ys/\xs=y::ys:=by
 grind[bV]
def Rm (T:e=.V\/e=.U) (h:tIt K EX lp e (λa=>ma a>>=W6) b H Rr):LW K (tA K EX (iN lp e) ma) b H Rr:=by
 refine bT h (λH0 G a G1 H1 xs ws us I e1 m1 q o=>?_) (λws e z=>?_)
 .have O:=I.ext e1;unfold W6 at q
  split at q
  .rename_i hn
   cases hs:bV ws with
   |stuck=>rw[hs]at q;cases q
   |ex _=>rw[hs]at q;cases q
   | ok ls=>
    rw[hs]at q;cases q;cases m1 with
    |nil=>simp at hn
    | cons a1 m1=>
     cases m1 with
     |nil=>simp at hn
     | cons a2 m1=>
      obtain ⟨y1,ys,h1,XQ,rfl⟩:=bU hs;obtain ⟨y2,ys,h2,UC,rfl⟩:=bU XQ;obtain ⟨t1,p1,v1,rfl,q1,r1⟩:=Md.src T O a1 h1;obtain ⟨t2,p2,v2,rfl,q2,r2⟩:=Md.src T O a2 h2;have k1:=M5 (nF O) q1;have k2:=M5 (nF O) q2;cases m1 with
      | nil=>
       cases UC;refine ⟨_,rfl,.inl rfl,λu hu=>?_,o _ G1 H1 e1 (wI T q1 q2 r1 r2)⟩
       grind
      | cons a3 m1=>
       cases m1 with
       |cons _ _=>simp at hn
       | nil=>
        obtain ⟨y3,ys,h3,a4,rfl⟩:=bU UC;cases a4;obtain ⟨t3,p3,v3,rfl,q3,r3⟩:=Md.src T O a3 h3;refine ⟨_,rfl,.inr rfl,λu hu=>?_,o _ G1 H1 e1 (wH T q1 q2 q3 r1 r2 r3)⟩;simp [qD4]at hu;rcases hu with rfl|rfl|rfl
        .show ⟨_,k1⟩
        .show ⟨_,k2⟩
        .show ⟨_,M5 (nF O) q3⟩
  .cases q
 .unfold W6 at z
  split at z
  .split at z <;> cases z
  .cases z
def Reps.atI (r:[Th,F]) (h:[SA,ws,i,w]):∃v,[SA,vs,i,v]/\Rep K F v w:=by
 unfold L2.atI at h ⊢;rw[r.length];cases q:ixN _ i with
 |none=>rw[q]at h;cases h
 |some j=>rw[q]at h;show Reps.get r h
def fIx:W->W->R W
 | .lst ws,.int i=>toR (L2.atI ws i)
 | .tup ws,.int i=>toR (L2.atI ws i)
 | .scr ws,.int i=>toR (L2.atI ws i)
 |_,_=>.stuck
def KA:Op2 K .B .U (rIx K) fIx:=by
 intro EX H0 Hs G H c b Ha Hb x y u v Q I s T my o;cases u <;> first|show 2|skip
 all_goals (cases v <;> first|show 2|skip)
 .show 22 T.tupB
  cases q:L2.atI ws i with
  |none=>rw[q]at o;show 2
  | some w=>
   rw[q]at o;obtain ⟨v,O,rv⟩:=r.atI q;show .inr (.inl ⟨a,vs,i,v,rfl,my.intB,SqT.of hs,O,[Z04,rv]⟩)
 .show 22 T.lstB
  cases q:L2.atI ws i with
  |none=>rw[q]at o;show 2
  | some w=>
   rw[q]at o;obtain ⟨v,O,rv⟩:=r.atI q;show .inl ⟨a,vs,i,v,rfl,my.intB,SqL.of hs,O,[Z04,rv]⟩
 .show 22 T.scrB
  cases q:L2.atI ws i with
  |none=>rw[q]at o;show 2
  | some w=>
   rw[q]at o;obtain ⟨v,O,rv⟩:=r.atI q;show .inl ⟨a,vs,i,v,rfl,my.intB,hs,O,[Z04,rv]⟩
def Kz:Op2 K .C .V (rIx K) fIx:=by
 intro EX H0 Hs G H c b Ha Hb x y u v Q I s T my o;cases u <;> first|show 2|skip
 all_goals (cases v <;> first|show 2|skip)
 .show 22 T.tupC
  cases q:L2.atI ws i with
  |none=>rw[q]at o;show 2
  | some w=>
   rw[q]at o;obtain ⟨v,O,rv⟩:=r.atI q;show .inr (.inl ⟨a,vs,i,v,rfl,Md.intB (Md.CB I my),SqT.of hs,O,[Z04,rv]⟩)
 .show 22 T.lstC
  cases q:L2.atI ws i with
  |none=>rw[q]at o;show 2
  | some w=>
   rw[q]at o;obtain ⟨v,O,rv⟩:=r.atI q;show .inl ⟨a,vs,i,v,rfl,Md.intB (Md.CB I my),SqL.of hs,O,[Z04,rv]⟩
 .rename_i ws i
  obtain ⟨a,vs,rfl,hs,r⟩:=(Md.repC T λ_=>W.noConfusion).inv;replace o:[SO,_,toR _]:=o
  cases q:L2.atI ws i with
  |none=>rw[q]at o;show 2
  | some w=>
    rw[q]at o;obtain ⟨v,O,rv⟩:=r.atI q;show .inl ⟨_,_,i,v,rfl,Md.intB (Md.CB I my),Same.seq I.gh hs,O,[Z04,rv]⟩
def K2 (K:Frag)(EX:EXT)(m:Rho->R ZV):TO:=λd H Q=>∃H0 G a,[TM,a,d]/\[SO,λ(b c:ZV) _ _=>c=b,m a]
def partW:W->R ZV
 | .int i=>.ok (some i)
 |_=>.stuck
def By (h:K2 K EX (λ_=>.ok none) a H Q):tNoPart a H Q:=by
 show 5 b;show o none G H (Ext.refl I.gh) rfl
def NI (h:K2 K EX (λa=>m a>>=partW) b H Q):BX (tM K EX .B m) b H Q:=by
 show 4 a (Out.bind o [Tz,x,u,O]);cases u <;> first|show o1.elim|skip
 rename_i i
 show ⟨i,m1.intB,o1 _ G1 H1 (Ext.refl O.gh) rfl⟩
def C4 (xs:Xag)(lo hi:ZV):Xag:=[Z14]
def Reps.cut (r:[Th,F]) lo hi:Reps K F (fR vs lo hi) (C4 ws lo hi):=by
 unfold fR C4;rw[r.length];show (r.drop _).take _
def lstOf:W->Option Xag
 | .lst ws=>some ws
 | .scr ws=>some ws
 |_=>none
def chks (c:Bool)(ws:Xag):R W:=[TJ,c||A3 ws,.ok (.lst ws)]
def cb (c:Bool):Mode:=if c then .C else .B
def Md.lstOf (I:[TM,d,b]) (m:Md K H0 Ha G H x w (cb c)) (h:lstOf w=some ws):∃a vs,x=.ref a/\SqL K H a vs/\[Th,[YL,c,G,join H0 G]]:=by
 cases c with
 | true=>
  rw[qA3 rfl];cases w <;> first|cases h|skip
  .obtain ⟨a,vs,e,hs,r⟩:=Md.lstC (H:=Ha) I m;show ⟨a,vs,e,SqL.of hs,r⟩
  .obtain ⟨a,vs,e,hs,r⟩:=(Md.repC m λ_=>W.noConfusion).inv;show ⟨a,vs,e,Same.seq I.gh hs,r⟩
 | false=>
  rw[qA9 qC1];cases w <;> first|cases h|skip
  .obtain ⟨a,vs,e,hs,r⟩:=Md.lstB (H:=Ha) I m;show ⟨a,vs,e,SqL.of hs,r⟩
  .show Md.scrB (H:=Ha) I m
theorem Out.chks {Q:VK}(I:[TM,b,a]) (s:Same Hs H) (r:[Th,[YL,c,G,join H0 G]]) (o:[SO,mdW K .F H0 Hs,chks c ws]):∀p,H p=none->Q [ZE,p] (upd H p [YM,vs]):=by
 unfold TP.chks at o;by_cases n:(c||A3 ws)=true
 .rw [qA3 n]at o
  have O:[Th,G]:=by
   cases c with
   |true=>rw[qA3 rfl]at r;show r
   |false=>rw[qA9 qC1]at r;show Reps.clean I r [SX,n]
  show λp hp=>Out.newL I s O hp o
 show 12 n
def c_sl (h:[Tw,.F,λb=>m b>>=λx=>ml b>>=λl=>mh b>>=λu=>toR (lstOf x)>>=λws=>chks c (C4 ws l u),d]):
  tSl (JI K) (tM K EX (cb c) m) (K2 K EX ml) (K2 K EX mh) d H Q:=by
 show 4 b (Out.bind o λx G1 H1 w T m1 o1=>⟨H0,G1,b,I.ext T,Out.bind o1 λl' G2 H2 l O m2 o2=>⟨H0,G2,b,(I.ext T).ext O,Out.bind o2 λu' G3 H3 u e3 m3 o3=>?_⟩⟩);subst m2;subst m3;have I3:=((I.ext T).ext O).ext e3;cases q:lstOf w with
 |none=>rw[q]at o3;show o3.elim
 | some ws=>
  rw[q]at o3;obtain ⟨a,vs,ex,hs,r⟩:=Md.lstOf I3 ((m1.move O).move e3) q;refine ⟨a,vs,ex,hs,Out.chks I3 ((T.hh.trans O.hh).trans e3.hh) ?_ o3⟩;cases c with
  |true=>show r.cut ..
  |false=>show r.cut ..
def Cal (K:Frag) (b d:Mode) (r:List V->Hp->VK->Prop) (f:[TR]):Prop:=∀(EX:EXT) (H0 I G H:Hp) (c:Rho) (a:St) (O:Hp) (vs:List V) (ws:Xag) (Q:VK),[TM,c,a]->Same I H->MdA K b H0 O G H ws vs ->
 [SO,mdW K d H0 I,f ws]->r vs H Q
def NY (hr:Cal K b d r f) (h:[Tw,d,λa=>ma a>>=λws=>f ws,c]):tCB r (tA K EX b ma) c H Q:=by
 show 5 a;show ⟨H0,G,a,I,Out.bind o λxs G1 H1 ws O m1 o1=>hr EX H0 H G1 H1 a c H xs ws Q (I.ext O) O.hh m1 o1⟩
def fLen:[TR]
 | [w]=>seqW w>>=λws=>.ok (.int ws.length)
 |_=>.stuck
def w6:Cal K .B d (λxs H Q=>∃p ys,xs = [.ref p]/\(SqL K H p ys\/SqT K H p ys)/\Q (.int ys.length) H) fLen:=by
 intro EX H0 O G H c b T vs ws Q I s m o;cases m with
 |nil=>show 2
 | cons a t=>
  cases t with
  |cons _ _=>show 2
  | nil=>
   rename_i w v
   cases w <;> first|show 2|skip
   .obtain ⟨p,ys,rfl,hs,r⟩:=a.tupB I;show ⟨p,ys,rfl,.inr (SqT.of hs),[ZO,r.length,[re,[SZ,.int]]]⟩
   .obtain ⟨p,ys,rfl,hs,r⟩:=a.lstB I;show ⟨p,ys,rfl,.inl (SqL.of hs),[ZO,r.length,[re,[SZ,.int]]]⟩
   .obtain ⟨p,ys,rfl,hs,r⟩:=a.scrB I;show ⟨p,ys,rfl,.inl hs,[ZO,r.length,[re,[SZ,.int]]]⟩
def CO (c:Bool):[TR]
 | [w]=>seqW w>>=chks c
 |_=>.stuck
def ag (c:Bool)(ws:Xag):R W:=[TJ,c||A3 ws,.ok (.tup ws)]
def nZ (c:Bool):[TR]
 | [w]=>seqW w>>=ag c
 |_=>.stuck
def aG:Cal K (cb c) .F (λxs H Q=>∃p ys,xs = [.ref p]/\((SqL K H p ys/\[Z0d,.tup ys])\/SqT K H p ys/\Q [ZE,p] H)) (nZ c):=by
 intro EX H0 Hs G H d b Ha vs ws Q I s m o;have O:∀{vs:_}{us:_},Reps K [YL,c,G,join H0 G] vs us->[SO,mdW K .F H0 Hs,ag c us]->Reps K G vs us/\[SO,mdW K .F H0 Hs,.ok (.tup us)]:=λ{vs us} r o=>by
  unfold ag at o;by_cases n:(c||A3 us)=true
  .grind[Reps.clean]
  show 12 n
 cases m with
 |nil=>show 2
 | cons a t=>
  cases t with
  |cons _ _=>show 2
  | nil=>
   rename_i w v
   cases w <;> first|show 2|skip
   .rename_i us
    have hx:∃p ys,v=.ref p/\[YL,c,G,join H0 G] p=some (.tup ys)/\Reps K [YL,c,G,join H0 G] ys us:=by
     cases c with
     |true=>show (Md.repC a λ_=>W.noConfusion).inv
     |false=>show (Md.repB a λ_=>W.noConfusion).inv
    obtain ⟨p,ys,rfl,hp,r⟩:=hx;obtain ⟨T,o'⟩:=O r o;have hH:H p=some (.tup ys):=by
     cases c with
     |true=>show I.gh _ _ hp
     |false=>show I.join_H _ _ hp
    have hG:G p=some (.tup ys):=by
     grind[join,isL]
    show ⟨p,ys,rfl,.inr ⟨SqT.of hH,o' _ G H (Ext.refl I.gh) (.tup hG T)⟩⟩
   .obtain ⟨p,ys,rfl,hs,r⟩:=Md.lstOf I a rfl;obtain ⟨T,o'⟩:=O r o;show ⟨p,ys,rfl,.inl ⟨hs,λl hl=>Out.newTF I T hl o'⟩⟩
   .obtain ⟨p,ys,rfl,hs,r⟩:=Md.lstOf I a rfl;obtain ⟨T,o'⟩:=O r o;show ⟨p,ys,rfl,.inl ⟨hs,λl hl=>Out.newTF I T hl o'⟩⟩
def f2 (g:Int->Int->Int):[TR]
 | [.int i,.int j]=>.ok (.int (g i j))
 |_=>.stuck
def b_2:Cal K .B d (λxs H Q=>∃i j,xs = [.int i,.int j]/\Q (.int (g i j)) H) (f2 g):=by
 intro EX H0 O G H e c T vs ws Q I s m o;show 10 f2
 .cases m with
  | cons a t=>
   cases t with
   | cons b t=>
    cases t;show ⟨_,_,by rw[a.intB,b.intB],[re,[SZ,.int]]⟩
 .show o.elim
def tyW:W->Option String
 | .non=>some "NoneType"
 | .bl _=>some "bool"
 | .int _=>some "int"
 | .str _=>some "str"
 | .tup _=>some "tuple"
 | .lst _=>some "list"
 |_=>none
def fIsi:[TR]
 | [x,.ty T]=>toR ((tyW x).bind λA=>D3 A T)>>=λb=>.ok (.bl b)
 |_=>.stuck
def Ig (I:[TM,c,b]) (m:Md K H0 Ha G H v w .B) (h:tyW w=some A):L2.tyB H v=some A:=by
 cases w <;> first|cases h|skip
 .rw[m.nonB];rfl
 .rw[m.blB];rfl
 .rw[m.intB];rfl
 .rw[m.strB];rfl
 .obtain ⟨a,vs,rfl,hs,r⟩:=m.tupB I
  change L2.tyO _=_;rw[hs];rfl
 .obtain ⟨a,vs,rfl,hs,r⟩:=m.lstB I
  change L2.tyO _=_;rw[hs];rfl
def iC:Cal K .B d rIsi fIsi:=by
 intro EX H0 Hs G H f e Ha vs ws Q I s m o;cases m with
 |nil=>show 2
 | @cons x _ _ _ a t=>
  cases t with
  |nil=>show 2
  | @cons y _ _ _ b t=>
   cases t with
   |cons _ _=>first|show 2 | (cases y <;> show o.elim)
   | nil=>
    cases y <;> first|show 2|skip
    rename_i T
    replace o:[SO,mdW K d H0 Hs,_>>=_]:=o
    cases q:tyW x with
    |none=>rw[q]at o;show 2
    | some A=>
     rw[q]at o;replace o:[SO,mdW K d H0 Hs,toR (D3 A T)>>=_]:=o
     cases O:D3 A T with
     |none=>rw[O]at o;show 2
     | some c=>
      rw[O]at o;show ⟨_,T,by rw[b.tyB],A,Ig I a q,c,O,[re,[SZ,.bl]]⟩
def MK (c:Bool):W->W->R W
 | .lst us,.lst vs=>[TJ,us.length+vs.length<=1000,chks c (us++vs)]
 |_,_=>.stuck
def B0:Op2 K (cb c) .F rCat (MK c):=by
 intro EX H0 Hs G H e d Ha Hb x y u v Q I s O T o;cases u <;> first|show 2|skip
 all_goals (cases v <;> first|show 2|skip)
 rename_i us vs
 replace o:[SO,_,[YL,us.length+vs.length<=1000,_,_]]:=o
 by_cases hn:us.length+vs.length<=1000
 .rw [qA3 hn]at o
  have h1:∃a ws,x=.ref a/\H a=some [YM,ws]/\Reps K [YL,c,G,join H0 G] ws us:=by
   cases c with
   |true=>show Md.lstC I O
   |false=>show Md.lstB I O
  have h2:∃a ws,y=.ref a/\H a=some [YM,ws]/\Reps K [YL,c,G,join H0 G] ws vs:=by
   cases c with
   |true=>show Md.lstC I T
   |false=>show Md.lstB I T
  obtain ⟨a,xs,rfl,ha,ra⟩:=h1;obtain ⟨b,ys,rfl,hb,rb⟩:=h2;show ⟨a,b,xs,ys,rfl,rfl,ha,hb,by rw[ra.length,rb.length];show bG hn,Out.chks I s (ra.append rb) o⟩
 show 12 hn
def Reps.rep (r:[Th,F]):∀k,Reps K F (List.replicate k vs).flatten (List.replicate k ws).flatten
 |0=>.nil
 |k+1=>by show r.append (Reps.rep r k)
def jt (c:Bool):W->W->R W
 | .lst us,.int k=>[TJ,us.length*k.toNat<=1000 /\ -1000<=k/\k<=1000,chks c (List.replicate k.toNat us).flatten]
 |_,_=>.stuck
def gM:Op2 K (cb c) .F rRep (jt c):=by
 intro EX H0 Hs G H d b Ha Hb x y u v Q I s O T o;cases u <;> first|show 2|skip
 all_goals (cases v <;> first|show 2|skip)
 rename_i us k
 replace o:[SO,_,[YL,us.length*k.toNat<=1000 /\ -1000<=k/\k<=1000,_,_]]:=o
 by_cases hn:us.length*k.toNat<=1000 /\ -1000<=k/\k<=1000
 .rw [qA3 hn]at o
  have h1:∃a ws,x=.ref a/\H a=some [YM,ws]/\Reps K [YL,c,G,join H0 G] ws us:=by
   cases c with
   |true=>show Md.lstC I O
   |false=>show Md.lstB I O
  have h2:y=.int k:=by
   cases c with
   |true=>show Md.intB (Md.CB I T)
   |false=>show Md.intB T
  obtain ⟨a,xs,rfl,ha,ra⟩:=h1;subst h2;show ⟨a,k,xs,rfl,rfl,ha,ZU,ZU,by rw[ra.length];show bG hn.1,Out.chks I s (ra.rep _) o⟩
 show 12 hn
def mC (w:W):Xad:=λ_=>.ok w
def b1 (f:W->R W)(ma:Xad):Xad:=λa=>ma a>>=λx=>f x
def b2 (f:W->W->R W)(ma mb:Xad):Xad:=λa=>ma a>>=λx=>mb a>>=λy=>f x y
def bA (f:[TR])(ma:Xal):Xad:=λa=>ma a>>=λws=>f ws
def bI (f:List W->R Xag)(ma:Xal):Xal:=λa=>ma a>>=f
def bS (ma:Xad):Xal:=λa=>ma a>>=seqW
def aN:Xal:=λ_=>.ok []
def aC (ma:Xad)(I:Xal):Xal:=λa=>ma a>>=λx=>I a>>=λxs=>.ok (x::xs)
def BG (ma:Xad):Xad:=λa=>ma a>>=chk
def V8 (ma:Xad):Xam:=λa=>ma a>>=toB
def rO (a b:Xam):Xam:=λc=>iS (a c) (b c)
def Ix (a b:Xam):Xam:=λc=>rOr (a c) (b c)
def rL (a:Xam):Xam:=λb=>se (a b)
def Ic (a b:Xad):Xad:=λc=>dU (a c) (b c)
def vOr (a b:Xad):Xad:=λc=>mz (a c) (b c)
def vNot (a:Xad):Xad:=λb=>rZ (a b)
def vIf (c:Xam)(a b:Xad):Xad:=λd=>c d>>=λt=>if t then a d else b d
def lJ (f I:W->W->R W)(ma mb O:Xad):Xad:=λa=>ma a>>=λx=>mb a>>=λy=>f x y>>=λz=>toB z>>=λc=>if c then O a>>=λu=>I y u else .ok (.bl false)
def yt (ma:Xal):Xad:=λa=>ma a>>=λws=>lim ws.length (.tup ws)
def rF (ma:Xal):Xad:=λa=>ma a>>=λws=>lim ws.length (.lst ws)
def pN:Rho->R ZV:=λ_=>.ok none
def pS (m:Xad):Rho->R ZV:=λa=>m a>>=partW
def vSl (c:Bool)(m:Xad)(I O:Rho->R ZV):Xad:=λa=>m a>>=λx=>I a>>=λl=>O a>>=λu=>toR (lstOf x)>>=λws=>chks c (C4 ws l u)
def ge (n:Nat)(I:Xal)(mg:Xan)(O:Xam)(me:Xad):Xad:=λa=>I a>>=λws=>E1 n mg O me ws a
def yes:Xam:=λ_=>.ok true
def sNx:Xae:=λa=>.ok (.nx a)
def Cg (m:Xad):Xae:=λa=>m a>>=λ_=>.ok (.nx a)
def IR (m:Xad):Xae:=λa=>m a>>=λw=>.ok (.rt w)
def PX:Xae:=λ_=>.ok (.rt .non)
def sV (i:Nat)(m:Xad):Xae:=λa=>m a>>=λw=>[Rn,.val w]
def sU (i:Nat)(m:Xad):Xae:=λa=>m a>>=λw=>[Rn,.par w]
def sF (i:Nat)(m:Xad):Xae:=λa=>m a>>=λw=>[Rn,N3 w]
def sG (mg:Xan)(m:Xad):Xae:=λa=>m a>>=λw=>toR (mg w a)>>=λI=>.ok (.nx I)
def IW (I:Xal)(mg:Xan)(mb:Xae):Xae:=λa=>I a>>=λws=>M9 mg mb ws a
def IV (i:Nat)(m:Xae):Xae:=λa=>m (frz i a)
def IT:Xae:=λ_=>.stuck
def sBk:Xae:=λa=>.ok (.bk a)
def sCt:Xae:=λa=>.ok (.ct a)
def _root_.L2.PE.mono {X:Cx}{e:Expr}{t t':TE}(h:PE X e t)(hm:∀a H Q,t' a H Q->t a H Q):PE X e t':=λpins s a H Q I q=>h pins s a H Q I (hm a H Q q)
def _root_.L2.PT.mono {X:Cx}{e:Expr}{t t':TT}(h:PT X e t)(hm:∀a H Q,t' a H Q->t a H Q):PT X e t':=λpins s a H Q I q=>h pins s a H Q I (hm a H Q q)
def _root_.L2.PW.mono {X:Cx}{e:Expr}{t t':TT}(h:PW X e t)(hm:∀a H Q,t' a H Q->t a H Q):PW X e t':=λO pins s a H Q I q=>h O pins s a H Q I (hm a H Q q)
def _root_.L2.PA.mono {X:Cx}{es:ZX}{t t':TA}(h:PA X es t)(hm:∀a H Q,t' a H Q->t a H Q):PA X es t':=λpos pins s a H Q I q=>h pos pins s a H Q I (hm a H Q q)
def _root_.L2.PS.mono {X:Cx}{st:Stmt}{t t':TS}(h:PS X st t)(hm:∀D a H,t' D a H->t D a H):PS X st t':=λpins s a H D I q=>h pins s a H D I (hm D a H q)
def _root_.L2.PSs.mono {X:Cx}{O:Wk}{t t':TS}(h:PSs X O t)(hm:∀D a H,t' D a H->t D a H):PSs X O t':=λpins s a H D I q=>h pins s a H D I (hm D a H q)
def _root_.L2.PI.mono {X:Cx}{e:Expr}{tg:Expr}{t t':TI}(h:PI X tg e t)(hm:∀a H Q,t' a H Q->t a H Q):PI X tg e t':=λpins s a H Q I q=>h pins s a H Q I (hm a H Q q)
def _root_.L2.PO.mono {X:Cx}{O:Option Expr}{t t':TO}(h:PO X O t) (hm:∀a H Q,t' a H Q->t a H Q):PO X O t':=by
 intro pins s a H Q I q;show h pins s a H Q I (hm a H Q q)
def v4 {X}{K}{EX}{e}{ma:Xad}(h:[ZR,e,.F,ma]):[ZR,e,.V,ma]:=h.mono [SH,Fk q]
def aP {X}{K}{EX}{e}{ma:Xad}(h:[ZR,e,.V,ma]):[ZR,e,.U,ma]:=h.mono [SH,Fh q]
def M8 {X}{K}{EX}{e}{ma:Xad}(h:[ZR,e,.V,ma]):[ZR,e,.C,ma]:=h.mono [SH,Fi q]
def h9 {X}{K}{EX}{e}{ma:Xad}(h:[ZR,e,.F,ma]):[ZR,e,.C,ma]:=h.mono [SH,Fm q]
def i0 {X}{K}{EX}{e}{ma:Xad}(h:[ZR,e,.U,ma]):[ZR,e,.B,ma]:=h.mono [SH,Fj q]
def j9 {X}{K}{EX}{e}{ma:Xad}(h:[ZR,e,.C,ma]):[ZR,e,.B,ma]:=h.mono [SH,Fn q]
def vv {X}{K}{EX}{e}{ma:Xad}(h:[ZR,e,.U,ma]):[ZR,e,.V,BG ma]:=h.mono [SH,nv (.inr rfl) q]
def mI {X}{K}{EX}{e}{ma:Xad}(h:[ZR,e,.U,ma]):[ZR,e,.F,BG ma]:=h.mono [SH,nv (.inl rfl) q]
def qv {X}{K}{EX}{pos}d i{x}(I:[ZI,X.N,x]:=by rfl)(O:[cz]:=by first|show Or.inl rfl|show Or.inr (Or.inl rfl)|show Or.inr (Or.inr rfl))(hd:(x == ("__debug__"))=false:=by decide)(T:(x == ("__classdict__"))=false:=by decide):[ZR,[YD,x,pos],d,B3 d i]:=[TD,x9 I O hd T,CT q]
def b9 {X}{K}{EX}{d}{pos}{i j}:[ZR,.Constant (.int i) j pos,d,mC (.int i)]:=pe_int.mono [SH,U6 rfl (λ_=>.int) q]
def bY {X}{K}{EX}{d}{pos}{t j}:[ZR,.Constant (.bool t) j pos,d,mC (.bl t)]:=pe_bl.mono [SH,U6 rfl (λ_=>.bl) q]
def F8 {X}{K}{EX}{d}{pos}{j}:[ZR,.Constant .none j pos,d,mC .non]:=pe_non.mono [SH,U6 rfl (λ_=>.non) q]
def b8 {X}{K}{EX}{d}{pos}{x j}:[ZR,.Constant (.str x) j pos,d,mC (.str x)]:=pe_str.mono [SH,U6 rfl (λ_=>.str) q]
def U0 {X}{K}{EX}{d}{pos}{x}{i}{t}(hg:Gl X x) (hm:X.mg x=some (.int i t)) (hd:[Z02]):[ZR,[YD,x,pos],d,mC (.int i)]:=
 [TD,bB (v:=.int i) hg hm ⟨t,rfl⟩ hd,U6 rfl (λ_=>.int) q]
def fD {X}{K}{EX}{d}{pos}{x}{n}(hg:Gl X x) (hm:X.mg x=none) (I:bootBuiltins x=some (.type n)) (hn:x ≠ "__name__" := by decide) (hd:[Z02]):[ZR,[YD,x,pos],d,mC (.ty n)]:=
 [TD,EQ (v:=.ty n) hg hm I rfl hn hd,U6 rfl (λ_=>.ty) q]
def c7 {X}{K}{EX}{d b}{a c}{pos}{ma mb:Xad}{I}{r}{f}(T:OpR X (binaryOp I) r) (hr:Op2 K b d r f) (ha:[ZR,a,b,ma]) (O:[ZR,c,b,mb]):[ZR,.BinOp a I c pos,d,b2 f ma mb]:=
 [TD,Qq T ha O,jy hr q]
def L5 {X}{K}{EX}{d b}{a c}{pos}{ma mb:Xad}{I}{r}{f}(T:[tr,I,r]) (hr:Op2 K b d r f) (ha:[ZR,a,b,ma]) (O:[ZR,c,b,mb]) (hm:[XXf,behindInMarks I c=false]):[ZR,.Compare a [I] [c] pos,d,b2 f ma mb]:=
 [TD,qq T ha O hm,jy hr q]
def e8 {X}{K}{EX}{b}{a c}{pos}{ma mb:Xad}{O}{r}{f}(ho:[tr,O,r]) (hr:Op2 K b .B r f) (ha:[ZR,a,b,ma]) (T:[ZR,c,b,mb]) (hm:[XXf,behindInMarks O c=false]):PT X (.Compare a [O] [c] pos) (tT K EX (V8 (b2 f ma mb))):=
 (iY ho ha T hm).mono λe H Q q=>by
  obtain ⟨H0,G,d,I,o⟩:=q
  have:=iA ⟨H0,G,d,I,o⟩
  show jy hr this
def zD {X}{K}{EX}{d b}{a}{pos}{ma:Xad}{I}{r}{f}(O:UnR X (unaryOp I) r) (hr:Op1 K b d r f) (ha:[ZR,a,b,ma]):[ZR,.UnaryOp I a pos,d,b1 f ma]:=
 [TD,Qp O ha,c_un hr q]
def N4 {X}{K}{EX}{a}{ma:Xad}(ha:[ZR,a,.B,ma]) (I:[XXd,∀whole,isTrue a X.env whole=(do let v <- whole;standAt a.pos;holding [v] (truthy v))]):PT X a (tT K EX (V8 ma)):=
 [TD,Ke ha I,c_tB q]
def dW {X}{K}{EX}{a}{pos}{ta:Xam}(ha:PT X a (tT K EX ta)):PW X (.BoolOp .And [a] pos) (tT K EX ta):=qm ha
def R9 {X}{K}{EX}{a}{pos}{ta:Xam}(ha:PT X a (tT K EX ta)):PW X (.BoolOp .Or [a] pos) (tT K EX ta):=Kd ha
def gF {X}{K}{EX}{a}{rest:ZX}{pos}{ta tb:Xam}{b}(ha:PT X a (tT K EX ta))(I:PW X (.BoolOp .And (b::rest) pos) (tT K EX tb)):PW X (.BoolOp .And (a::b::rest) pos) (tT K EX (rO ta tb)):=[TD,vz ha I,RJ q]
def X6 {X}{K}{EX}{a}{rest:ZX}{pos}{ta tb:Xam}{b}(ha:PT X a (tT K EX ta))(I:PW X (.BoolOp .Or (b::rest) pos) (tT K EX tb)):PW X (.BoolOp .Or (a::b::rest) pos) (tT K EX (Ix ta tb)):=[TD,Qj ha I,c_or q]
def M3 {X}{K}{EX}{a}{pos}{ta:Xam}(ha:PT X a (tT K EX ta)):PT X (.UnaryOp .Not a pos) (tT K EX (rL ta)):=(Kf ha).mono [SH,Rv q]
def gG {X}{K}{EX}{d}{a}{pos}{ma:Xad}{op}(h:[ZR,a,d,ma]):[ZR,.BoolOp op [a] pos,d,ma]:=Ks h
def dX {X}{K}{EX}{d}{a}{rest:ZX}{pos}{ma mb:Xad}{b}(ha:[ZR,a,.B,ma])(I:[ZR,.BoolOp .And (b::rest) pos,d,mb]):[ZR,.BoolOp .And (a::b::rest) pos,d,Ic ma mb]:=[TD,Ku ha I,Oe q]
def JV {X}{K}{EX}{d}{a c}{pos}{ma mb:Xad}{ta:Xam}{t}(I:PT X t (tT K EX ta))(ha:[ZR,a,d,ma])(O:[ZR,c,d,mb]):[ZR,.IfExp t a c pos,d,vIf ta ma mb]:=[TD,zR I ha O,c_if q]
def qk {X}{K}{EX}{d b}{pos}{ma mb mc:Xad}{I O}{r r'}{f T}{x y z}(ho:[tr,I,r]) (hr:Op2 K b .B r f) (Vd:[tr,O,r']) (WZ:Op2 K b d r' T) (ha:[ZR,x,b,ma]) (hb:[ZR,y,b,mb]) (hc:[ZR,z,b,mc]) (hm:[XXg,lastMarks [I,O] [y,z]=false]):[ZR,.Compare x [I,O] [y,z] pos,d,lJ f T ma mb mc]:=
 [TD,zU ho Vd ha hb hc hm,qX hr WZ q]
def zE {X}{K}{EX}{b}{pos}{ma mb mc:Xad}{O T}{r r'}{f f'}{x y z}(ho:[tr,O,r]) (hr:Op2 K b .B r f) (Vd:[tr,T,r']) (WZ:Op2 K b .B r' f') (ha:[ZR,x,b,ma]) (hb:[ZR,y,b,mb]) (hc:[ZR,z,b,mc]) (hm:[XXg,lastMarks [O,T] [y,z]=false]):PT X (.Compare x [O,T] [y,z] pos) (tT K EX (V8 (lJ f f' ma mb mc))):=
 (zK ho Vd ha hb hc hm).mono λc H Q q=>by
  obtain ⟨H0,G,a,I,o⟩:=q
  have:=iA ⟨H0,G,a,I,o⟩
  show qX hr WZ this
theorem b7 {X}{K}{EX}{d}:PA X [] (tA K EX d aN):=pa_nil.mono [SH,Rx q]
def b6 {X}{K}{EX}{d}{e}{es}{ma:Xad}{I:Xal}(ha:[ZR,e,d,ma])(hr:PA X es (tA K EX d I))(hs:[Z0O]):PA X [TC] (tA K EX d (aC ma I)):=[TD,B8 ha hr hs,NW q]
def J0 {X}{K}{EX}{es}{pos}{I:Xal}{x1}(h:PA X es (tA K EX .V I)):[ZR,.Tuple es x1 pos,.F,yt I]:=(mP h).mono [SH,Ro q]
def E5 {X}{K}{EX}{es}{pos}{I:Xal}{x1}(h:PA X es (tA K EX .U I)):[ZR,.Tuple es x1 pos,.U,yt I]:=(mP h).mono [SH,Nt q]
def l0 {X}{K}{EX}{es}{pos}{I:Xal}(h:PA X es (tA K EX .V I)):[ZR,.List es pos,.F,rF I]:=(mQ h).mono [SH,Ry q]
def e9 {X}{K}{EX}{a c}{pos}{ma mb:Xad}(ha:[ZR,a,.B,ma]) (I:[ZR,c,.B,mb]) (hs:eR c:=by show λ_ _=>rfl) (O:[XXa,X.K=K]):[ZR,.Subscript a c pos,.U,b2 fIx ma mb]:=by
 subst O;show [TD,sD wG ha I hs,jy KA q]
def J8 {X}{K}{EX}{a c}{pos}{ma mb:Xad}(ha:[ZR,a,.C,ma]) (I:[ZR,c,.C,mb]) (hs:eR c:=by show λ_ _=>rfl) (O:[XXa,X.K=K]):[ZR,.Subscript a c pos,.V,b2 fIx ma mb]:=by
 subst O;show [TD,sD wG ha I hs,jy Kz q]
def T9 {X}{K}{EX}:PO X none (K2 K EX pN):=po_none.mono [SH,By q]
def L4 {X}{K}{EX}{e}{ma:Xad}(h:[ZR,e,.B,ma]):PO X [ZT,e] (K2 K EX (pS ma)):=(EI h).mono [SH,NI q]
def aO {X}{K}{EX}{e}{pos}{ma:Xad}k{lo hi}{p2}{O I}(T:[ZR,e,cb k,ma]) (hl:PO X lo (K2 K EX O)) (hu:PO X hi (K2 K EX I)) (hK:X.K=K:=by rfl):[ZR,.Subscript e (.Slice lo hi none p2) pos,.F,vSl k ma O I]:=by
 subst hK;show [TD,fF DJ T hl hu,c_sl q]
def m7 {X}{K}{EX}{d b}{e}{es:ZX}{pos}{O:Xal}{x}{I}{r:List V->Hp->VK->Prop}{f:[TR]}{p}(hc:C6 X (.builtin I) r) (hr:Cal K b d r f) (hg:Gl X x) (hm:X.mg x=none) (hv:bootBuiltins x=some (.builtin I)) (ha:PA X [TC] (tA K EX b O)) (hn:x ≠ "__name__" := by decide) (Ue:[Z08]) (he:[Z0O]) (T:[XXa,[rd,pos,X.env]]):
  [ZR,[SY,[YD,x,p],[TC]],d,bA f O]:=[TD,mR hc hg hm hv ha hn Ue he T,NY hr q]
def N9 {X}{K}{EX}{d b}{e}{es:ZX}{pos}{I:Xal}{x}{T}{r:List V->Hp->VK->Prop}{f:[TR]}{p}(hc:C6 X (.type T) r) (hr:Cal K b d r f) (hg:Gl X x) (hm:X.mg x=none) (hv:bootBuiltins x=some (.type T)) (ha:PA X [TC] (tA K EX b I)) (hn:x ≠ "__name__" := by decide) (Ue:[Z08]) (he:[Z0O]) (O:[XXa,[rd,pos,X.env]]):
  [ZR,[SY,[YD,x,p],[TC]],d,bA f I]:=[TD,jW hc hg hm hv ha hn Ue he O,NY hr q]
def w8 (I:[XXa,X.K=K]):C6 X (.builtin "len") (λxs H Q=>∃p ys,xs = [.ref p]/\(SqL K H p ys\/SqT K H p ys)/\Q (.int ys.length) H):=by subst I;show oJ
def aI (I:[XXa,X.K=K]):C6 X (.type "tuple") (λxs H Q=>∃p ys,xs = [.ref p]/\((SqL K H p ys/\[Z0d,.tup ys])\/SqT K H p ys/\Q [ZE,p] H)):=by subst I;show kH
def n9 {X}{K}{d}{e}{es:ZX}{pos}{I:Xal}{k}{f}{fd}{ps}{x}{p}{n N}{m}(F:[Z0T,CX0,k,spM K n d (d9 n N m)]) (hd:d=.F\/d=.V) (hr:Room k X.A) (hg:Gl X x) (hm:X.mg x=some [ZE,f]) (hk:PySem.W.keepIn X.K [ZE,f]=true) (T:Binds X.K fd ps []) (ha:PA X [TC] (tA K (λ_ _=>False) .B I)) (Ue:[Z08]) (he:[Z0O]) (O:[XXa,[rd,pos,X.env]]):
  PE X [SY,[YD,x,p],[TC]] (tM K (λ_ _=>False) d (bA (d9 n N m) I)):=
 [TD,P1 F hr hg hm hk T .nil ee ha Ue he O,NZ hd (λws h=>bX ws h) (λ_ _ z=>z) q]
def Cl (h:[ZR,e,iN lp .U,ma])(I:[XXa,X.K=K]):PI X tg e (tIt K EX lp .U (bS ma)):=by subst I;show (Qo h).mono [SH,RD (.inr rfl) q]
def F6 {X}{K}{EX}{a}{pos}{I:Xal}{tg}{lp}{p}(hg:Gl X "range") (hm:X.mg "range" = none) (ha:PA X [a] (tA K EX .B I)) (hs:[XXa,[Tm,[a]] = [[SJ,a]]]):PI X tg [SY,[YD,"range",p],[a]] (tIt K EX lp .U (bI zo I)):=
 [TD,vJ hg hm ha hs,NC (.inr rfl) q]
def Cj {X}{K}{EX}{a}{es:ZX}{pos}{I:Xal}{lp}{elts:ZX}{p tp}{k}(hg:Gl X "zip") (hm:X.mg "zip" = none) (ha:PA X (a::es) (tA K EX (iN lp .U) I)) (T:[XXa,X.K=K]) (hs:[XXa,[Tm,a::es]=[SJ,a]::[Tm,es]]) (O:[XXa,[rd,pos,X.env]]):
  PI X (.Tuple elts k tp) [SY,[YD,"zip",p],a::es] (tIt K EX lp .U (bI W6 I)):=by subst T;show [TD,Km hg hm ha hs O,Rm (.inr rfl) q]
def Kb (S:i8 X.env.scope cs X.N N') (hc:X.calm=true) (hi:PI X tg iter (tIt K EX false dd mi)) (hg:[Sz,PG [rj] tg g]) (O:Gt K dd g mg) (hk:P7 X.N.length g) (T:[Sz,PIf [rj] ifs (tT K EX ta)]) (I:[Sz,PE [rj] elt (tM K EX .V ma)]) (hs:[XXd,[Z0h]]):[ZR,[Z0e,elt,ifs],.F,ge N'.length mi mg ta ma]:=
 [TD,EO S hc hi hg hk T I hs,xO O q]
def JS {X}{K}{EX}{d}{pos}{ma:Xad}{ta:Xam}{i}{y}{py}{cs}{N'}{tg iter I}{O}{dd}{g}{mg}{T}{TU}(S:i8 X.env.scope cs X.N N') (hc:X.calm=true) (hi:PI X tg iter (tIt K EX false dd T)) (hg:[Sz,PG [rj] tg g]) (UW:Gt K dd g mg) (hk:P7 X.N.length g) (ht:[Sz,PIf [rj] O (tT K EX ta)]) (he:[Sz,PE [rj] I (tM K EX .V ma)]) (hN:X.N.Nodup) (hy:[ZI,X.N,y]) (hl:Loc X.env.scope y) (UM:[XXa,[Z0N,.ListComp I [⟨tg,iter,O,0⟩] cs TU,[YD,y,py]]=pure true]) (hf:[XXc,X.fn y=true\/X.env.scope.names.lookup y=some .local]) (hs:[XXd,[Z0h]]):PS X (.Assign [.Name y py] (.ListComp I [⟨tg,iter,O,0⟩] cs TU) pos) [Tx,sF i (ge N'.length T mg ta ma)]:=
 (EF S hc hi hg hk ht he hN hy hl UM hf hs).mono λD a H q=>by
  have:=xK q
  show xO UW this
def D8 {X}{K}{EX}:PIf X [] (tT K EX yes):=λpins s a H Q I q=>EK pins s a H Q I (by obtain ⟨H0,G,b,O,o⟩:=q;show o true G H (Ext.refl O.gh) rfl)
def mF {X}{K}{EX}{ta:Xam}{c}(h:PT X c (tT K EX ta)):PIf X [c] (tT K EX ta):=EJ h
def u8 {X}{K}{EX}{d}:PSs X [] [Tx,sNx]:=pss_nil.mono [SH,NJ q]
def c8 {X}{K}{EX}{d}{st}{I}{m n}(T:PS X st [Tx,m])(O:PSs X I [Tx,n]):PSs X (st::I) [Tx,aR m n]:=[TD,R3 T O,Ru q]
def d6 {X}{K}{EX}{d}{st}{m}(I:PS X st [Tx,m]):PSs X [st] [Tx,m]:=bw I
def Cm {X}{K}{EX}{d}{st}{m}{i}(h:PS X st [Tx,m]):PS X st [Tx,IV i m]:=h.mono [SH,RE q]
def Ew {X}{K}{EX}{d}{st}:PS X st [Tx,IT]:=ps_never.mono [SH,GR q]
def vp {X}{K}{EX}{d b}{e}{pos}{ma:Xad}(I:[ZR,e,b,ma])(hs:[XXa,swapsWith e none pos.line X.env=pure false]):PS X (.Expr e pos) [Tx,Cg ma]:=[TD,dY I hs,NU q]
def o0 {X}{K}{EX}{d}{e}{pos}{ma:Xad}(I:[ZR,e,d,ma]):PS X (.Return [ZT,e] pos) [Tx,IR ma]:=(dg I).mono [SH,CV q]
def db {X}{K}{EX}{d}{pos}i{x}{p}(hd:d=.F\/d=.V)(O:[ZI,X.N,x]:=by rfl)(T:[cz]:=by first|show Or.inl rfl|show Or.inr (Or.inl rfl)|show Or.inr (Or.inr rfl))(I:(x == ("__debug__"))=false:=by decide)(Ub:(x == ("__classdict__"))=false:=by decide):PS X (.Return [ZT,[YD,x,p]] pos) [Tx,bE d i]:=(dg (x9 O T I Ub)).mono [SH,Bw hd q]
def w4 {X}{K}{EX}{d}{e}{pos}{ma:Xad}{i}{x}{pos'}(O:X.N.Nodup) (hi:[ZI,X.N,x]) (T:Loc X.env.scope x) (I:[ZR,e,.V,ma]) (hs:[XXa,[Z0N,e,[YD,x,pos']]=pure false]) (hf:[Z0c]):
  PS X (.Assign [.Name x pos'] e pos) [Tx,sV i ma]:=[TD,Z7 O hi T I hs hf,Nv q]
def vh {X}{K}{EX}{d}{e}{pos}{ma:Xad}{i}{x}{pos'}(O:X.N.Nodup) (hi:[ZI,X.N,x]) (T:Loc X.env.scope x) (I:[ZR,e,.U,ma]) (hs:[XXa,[Z0N,e,[YD,x,pos']]=pure false]) (hf:[Z0c]):
  PS X (.Assign [.Name x pos'] e pos) [Tx,sU i ma]:=[TD,Z7 O hi T I hs hf,Nw q]
def i6 {X}{K}{EX}{d}{e}{pos}{ma:Xad}{i}{x}{pos'}(O:X.N.Nodup) (hi:[ZI,X.N,x]) (T:Loc X.env.scope x) (I:[ZR,e,.F,ma]) (hs:[XXa,[Z0N,e,[YD,x,pos']]=pure false]) (hf:[Z0c]):
  PS X (.Assign [.Name x pos'] e pos) [Tx,sF i ma]:=[TD,Z7 O hi T I hs hf,xK q]
def Co {X}{K}{EX}{d b}{e}{pos:Pos}{ma:Xad}{tg}{g}{mg}(T:[ZR,e,b,ma]) (hg:PG X tg g) (O:Gt K b g mg) (hs:[XXa,swapsWithSole [tg] e pos.line X.env=pure false]) (hw:[XXa,swappedStores [tg] e X.env=pure none]) (I:[XXa,(assignEach [tg] X.env).map (·.2) = [assign tg X.env]]):PS X (.Assign [tg] e pos) [Tx,sG mg ma]:=
 [TD,mK T hg hs hw I,RH O q]
def bZ {X}{K}{EX}{d}{e}{pos}{ma:Xad}{i}{x}{p apos TU}(hN:[ZI,X.N,x]) (O:[cz]) (ha:[ZR,e,.V,ma]) (hd:[Z02]) (Ub:[Z0V]) (TX:[XXa,attributeBase [YD,x,p] "append" X.env [Sy,[YD,x,p]]=eval [YD,x,p] X.env]) (T:([Z0v]
   && [ZL,[ZM,[e]]+[ZM,([]:List Keyword)]+[Z0j]<30])=true:=by rfl) (I:[Z0X]:=by rfl) (hs:[Tm,[e]]=[SJ,e]::[Tm,[]]:=by rfl) (UM:swapsWith (.Call [wr,[YD,x,p],"append"] [e] [] TU) none pos.line X.env=pure false:=by rfl):
  PS X (.Expr (.Call [wr,[YD,x,p],"append"] [e] [] TU) pos) [Tx,nD i ma]:=[TD,dY (vM (x9 hN O hd Ub) ha TX T I hs) UM,RI q]
def u9 {X}{K}{EX}{d}{pos}{ta:Xam}{m n}{c}{x y}(hc:PT X c (tT K EX ta))(ha:PSs X x [Tx,m])(I:PSs X y [Tx,n]):PS X (.If c x y pos) [Tx,mIf ta m n]:=[TD,sm hc ha I,RB q]
def O8 {X}{K}{EX}{d}{pos}{m}{tg iter}{body}{dd}{g}{mg}{I}(hp:PassesOwn [Ty] X.A X.env X.xe)(hc:X.calm=true)(hi:PI X tg iter (tIt K EX true dd I))(hg:PG X tg g)(T:Gt K dd g mg)(O:PSs X body [Tx,m])(hs:[XXd,[Z0h]]):PS X (.For tg iter body [] pos) [Tx,IW I mg m]:=[TD,Kg hp hc hi hg O hs,RF T q]
def Qh {X}{K}{EX}{d}{e}{pos}{ma mb:Xad}{i}{x}{k}{p p2}(hN:[ZI,X.N,x]) (O:[cz]) (hk:[ZR,k,.B,mb]) (I:[ZR,e,.V,ma]) (hd:[Z02]) (T:[Z0V]) (hg:PG X (.Subscript [YD,x,p] k p2) (gSub (z8 i) (tM K EX .B mb) rSetL)) (hs:[XXa,swapsWithSole [.Subscript [YD,x,p] k p2] e pos.line X.env=pure false]) (hw:[XXa,swappedStores [.Subscript [YD,x,p] k p2] e X.env=pure none]):PS X (.Assign [.Subscript [YD,x,p] k p2] e pos) [Tx,sS i mb ma]:=
 [TD,mK I hg hs hw,Rt q]
abbrev gLt (i j:Int):W:=.bl (decide (i<j))
abbrev gLe (i j:Int):W:=.bl (decide (i<=j))
abbrev gGt (i j:Int):W:=.bl (decide (j<i))
abbrev gGe (i j:Int):W:=.bl (decide (j<=i))
abbrev F2 (i j:Int):W:=.int (i+j)
abbrev gSub (i j:Int):W:=.int (i-j)
abbrev L7 (i j:Int):W:=.int (i*j)
abbrev y0 (i j:Int):W:=.int (i%j)
abbrev G7 (i j:Int):W:=.int (i/j)
abbrev tx (i j:Int):W:=.int (i^j.toNat)
abbrev jk (i:Int):W:=.int (-i)
abbrev gMax (i j:Int):Int:=if j>i then j else i
abbrev Mc (i j:Int):Int:=if j<i then j else i
abbrev QO (i j:Int):Int:=i+j
abbrev QN (i j:Int):Int:=i-j
abbrev y4 (_ j:Int):Prop:=0<j
instance (i j:Int):Decidable (CMul i j):=by unfold CMul;infer_instance
instance (i j:Int):Decidable (D7 i j):=by unfold D7;infer_instance
instance (i j:Int):Decidable (fZ i j):=by unfold fZ;infer_instance
instance (i j:Int):Decidable (Df i j):=by unfold Df;infer_instance
def vOf:W->Option V
 | .non=>some .non
 | .bl b=>some (.bl b)
 | .int i=>some (.int i)
 | .str x=>some (.str x)
 |_=>none
def Bl (u v:W):Option Bool:=match vOf u,vOf v with
 |some x,some y=>if lZ x y then some (decide (x=y)) else none
 |_,_=>none
def S6 (neg:Bool) (u v:W):R W:=match Bl u v with
 |some b=>.ok (.bl [YL,neg,!b,b])
 |none=>.stuck
def kM (h:Md K H0 Ha G H v w .B) (e:vOf w=some x):v=x:=by
 cases w <;> first|cases e|skip
 .show h.nonB
 .show h.blB
 .show h.intB
 .show h.strB
def k9:Op2 K .B d rEq (S6 false):=by
 show 16 b mx my;unfold S6 Bl at o;cases O:vOf u with
 |none=>rw[O]at o;show 2
 | some p=>
  cases T:vOf v with
  |none=>rw[O,T]at o;show 2
  | some q=>
   rw[O,T]at o;cases kM mx O;cases kM my T;dsimp at o;by_cases c:lZ x y=true
   .rw [qA3 c]at o
    show ⟨c,[re,[SZ,.bl]]⟩
   show 12 c
def vV:Op2 K .B d rNe (S6 true):=by
 show 16 b mx my;unfold S6 Bl at o;cases O:vOf u with
 |none=>rw[O]at o;show 2
 | some p=>
  cases T:vOf v with
  |none=>rw[O,T]at o;show 2
  | some q=>
   rw[O,T]at o;cases kM mx O;cases kM my T;dsimp at o;by_cases c:lZ x y=true
   .rw [qA3 c]at o
    show ⟨c,[re,[SZ,.bl]]⟩
   show 12 c
mutual
def pd:W->PyData
 | .non=>.none
 | .bl b=>.bool b
 | .int i=>.int i
 | .str x=>.str x
 | .ty _=>.none
 | .exc _ _=>.none
 | .cls _=>.none
 | .dst _ _ _ _=>.none
 | .tup ws=>.tuple (pds ws)
 | .lst ws=>.list (pds ws)
 | .scr ws=>.list (pds ws)
def pds:List W->List PyData
 | []=>[]
 |w::ws=>pd w::pds ws
end
mutual
def shp:Nat->W->Bool
 |_,.non=>true
 |_,.bl _=>true
 |_,.int _=>true
 |_,.str x=>PyData.strOk x
 |n+1,.tup ws=>W7 n ws
 |n+1,.lst ws=>W7 n ws
 |n+1,.scr ws=>W7 n ws
 |_,_=>false
def W7:Nat->List W->Bool
 |_,[]=>true
 |n,w::ws=>shp n w&&W7 n ws
end
def cZ:∀ w n,shp n w=true->(pd w).canLay0=true/\(pd w).depth<=n:=by
 intro w;have tl:∀(ws:_) (c:_->PyData),(∀l,(c l).canLay0=PyData.canLayAll0 l)->(∀l,(c l).depth=_+1)->(∀n,_=true->_=true/\PyData.depthAll _<=n)->∀n,(match n with|0=>false|n+1=>W7 n ws)=true->(c (pds ws)).canLay0=true/\(c (pds ws)).depth<=n:=λws c T O I n h=>by
  cases n with
  |zero=>cases h
  |succ n=>have:=I n h;show ⟨by show this.1,by rw[O];show qS0 this.2⟩
 have fl:∀{n:Nat}{w:W}{P:Prop},shp n w=false->shp n w=true->P:=λT O=>ZU
 induction w using W.rec (motive_2:=λws=>∀n,W7 n ws=true->PyData.canLayAll0 (pds ws)=true/\PyData.depthAll (pds ws)<=n) with
 |non=>show λn _=>⟨rfl,qE1 _⟩
 |bl b=>show λn _=>⟨rfl,qE1 _⟩
 |int i=>show λn _=>⟨rfl,qE1 _⟩
 |str x=>show λn h=>⟨by cases n <;> show h,qE1 _⟩
 |ty a=>show λn h=>fl (by cases n <;> rfl) h
 |exc a b=>show λn h=>fl (by cases n <;> rfl) h
 |cls a=>show λn h=>fl (by cases n <;> rfl) h
 |dst a b c d=>show λn h=>fl (by cases n <;> rfl) h
 |tup ws I=>show λn h=>tl ws .tuple (λ_=>rfl) (λ_=>rfl) I n (by cases n <;> show h)
 |lst ws I=>show λn h=>tl ws .list (λ_=>rfl) (λ_=>rfl) I n (by cases n <;> show h)
 |scr ws I=>show λn h=>tl ws .list (λ_=>rfl) (λ_=>rfl) I n (by cases n <;> show h)
 |nil=>show ⟨rfl,qE1 _⟩
 | cons w ws T O=>
  rename_i n h
  have h':=(qE6 ..).mp h;have a:=T n h'.1;have b:=O n h'.2;show ⟨by change (_&&_)=true;rw[a.1,b.1];rfl,Nat.max_le.mpr ⟨a.2,b.2⟩⟩
def iO (ws:Xag) n (h:W7 n ws=true):PyData.canLayAll0 (pds ws)=true/\PyData.depthAll (pds ws)<=n:=by
 have:=cZ (.tup ws) (n+1) h
 show ⟨this.1,Nat.le_of_succ_le_succ this.2⟩
def Rep.reads {a:St}(I:[UE]) n (r:Rep X.K H x w):shp n w=true->RelV x u->∃as,Reads s.heap u (pd w) as:=by
 have fl:∀{n:Nat}{w:W}{P:Prop},shp n w=false->shp n w=true->P:=λh1 T=>ZU
 induction r using Rep.rec (motive_2:=λxs ws _=>∀(us:_) (n:Nat),W7 n ws=true->Vals xs us->∃as,ReadsAll s.heap us (pds ws) as) generalizing u n with
 |non=>intro _ r;cases r;show ⟨_,.none⟩
 |bl=>intro _ r;cases r;show ⟨_,.bool _⟩
 |int=>intro _ r;show 1 t r;show ⟨_,.int ..⟩
 |str=>intro _ r;show 1 t r;show ⟨_,.str ..⟩
 |ty=>show λh _=>fl (by cases n <;> rfl) h
 |exc=>show λh _=>fl (by cases n <;> rfl) h
 |cls=>show λh _=>fl (by cases n <;> rfl) h
 |dct=>show λh _=>fl (by cases n <;> rfl) h
 |dst=>show λh _=>fl (by cases n <;> rfl) h
 |dsz=>show λh _=>fl (by cases n <;> rfl) h
 | tup ha _ O=>
  intro h r;cases r;cases n with
  |zero=>cases h
  | succ n=>
   obtain ⟨its,rv,⟨o,e,c,k,dd⟩,_⟩:=I.tuple (SqT.of ha);obtain ⟨as,q⟩:=O _ n h rv;show ⟨_,.tuple e c dd ZU⟩
 | lst ha _ O=>
  intro h r;cases r;cases n with
  |zero=>cases h
  | succ n=>
   obtain ⟨its,rv,pl,_⟩:=I.list (SqL.of ha);obtain ⟨o,e,c,k,dd⟩:=pl.isList;obtain ⟨as,q⟩:=O _ n h rv;show ⟨_,.list e c dd ZU⟩
 | scr ha _ O=>
  intro h r;cases r;cases n with
  |zero=>cases h
  | succ n=>
   obtain ⟨its,rv,pl,_⟩:=I.list ha;obtain ⟨o,e,c,k,dd⟩:=pl.isList;obtain ⟨as,q⟩:=O _ n h rv;show ⟨_,.list e c dd ZU⟩
 |nil=>rename_i us n _ r;cases r;show ⟨_,.nil⟩
 | cons _ _ h1 T=>
  rename_i us n h r
  cases r with
  | cons r1 r2=>
   have h':=(qE6 ..).mp h;obtain ⟨as,q1⟩:=h1 n h'.1 r1;obtain ⟨bs,q2⟩:=T _ n h'.2 r2;show ⟨_,.cons q1 q2⟩
def eqW (u v:W):Bool:=PyData.eqv (pd u) (pd v)
def zy (K:Frag)(neg:Bool):R2:=λx y H Q=>∃u v,Rep K H x u/\Rep K H y v/\shp 8 u=true/\shp 8 v=true/\Q (.bl [YL,neg,!eqW u v,eqW u v]) H
def au (h:shp 8 w=true):SeqAt.shaped (pd w)=true:=by
 obtain ⟨a,b⟩:=cZ w 8 h
 grind[SeqAt.shaped]
def E7 (hu:X.A.units+64<cLine):[tr,.Eq,zy X.K false]:=by
 intro pins s c H x y v u Q I T ry h;obtain ⟨a,b,ra,rb,sa,O,q⟩:=h;obtain ⟨as,qa⟩:=Rep.reads I 8 ra sa T;obtain ⟨bs,qb⟩:=Rep.reads I 8 rb O ry;show PyProof.Rows.eq_dataH qa qb (au sa) (au O) hu ⟨.bl _,H,I,rfl,q⟩
def dh (hu:X.A.units+64<cLine):[tr,.NotEq,zy X.K true]:=by
 intro pins s c H x y v u Q I T ry h;obtain ⟨a,b,ra,rb,sa,O,q⟩:=h;obtain ⟨as,qa⟩:=Rep.reads I 8 ra sa T;obtain ⟨bs,qb⟩:=Rep.reads I 8 rb O ry;show PyProof.Rows.ne_dataH qa qb (au sa) (au O) hu ⟨.bl _,H,I,rfl,q⟩
def fEq (neg:Bool)(u v:W):R W:=[TJ,shp 8 u&&shp 8 v,.ok (.bl [YL,neg,!eqW u v,eqW u v])]
def A6:Op2 K .B d (zy K neg) (fEq neg):=by
 show 16 b T my;unfold fEq at o;by_cases c:(shp 8 u&&shp 8 v)=true
 .rw [qA3 c]at o
  have O:shp 8 u=true/\shp 8 v=true:=by simpa using c
  show ⟨u,v,T.whole I,my.whole I,O.1,O.2,[re,[SZ,.bl]]⟩
 show 12 c
def aS:W->Bool->Bool
 | .bl a,b=>a == b
 |_,_=>false
def fIsB (neg:Bool):W->W->R W
 |u,.bl b=>.ok (.bl [YL,neg,!aS u b,aS u b])
 |_,_=>.stuck
def A7 (hr:Room k A):A.units+64<cLine:=hr.units
def lG (r:Vals [x] us):∃u,us = [u]/\RelV x u:=by
 cases r with
 |cons a t=>cases t;show [WH,rfl,a]
def wB {s:Shared}{h':Heap}(hk:∀b u,b ∉ [s.heap.objs.size]->(s.heap.push o).get? b=some u->h'.get? b=some u):∀b u,s.heap.get? b=some u->h'.get? b=some u:=λb u e=>
 hk b u (by simp;show qD5 (qB2 e)) (qA2 _ e)
def HY {b:Type}{f:b->V}{g:b->Value->Prop}(hg:∀a u,RelV (f a) u->g a u){as:List b}(r:Vals (as.map f) its){i:Nat}(h:[ZI,its.toArray,v]):∃a,[ZI,as,a]/\g a v:=by
 have h':[ZI,its,v]:=by simpa using h
 induction as generalizing its i with
 |nil=>cases r;simp at h'
 | cons a as I=>
  cases r with
  | cons q t=>
   cases i with
   |zero=>simp at h';subst h';show ⟨a,rfl,hg _ _ q⟩
   |succ i=>simpa using I t [SX,h'] [SX,h']
def uq {a:St}(I:[UE]) (hc:X.calm=true) (hp:H p=some [YM,xs]):∃its:List Value,Vals xs its/\s.heap.IsList p its.toArray/\xs.length=its.toArray.size/\p≠s.heap.objs.size /\
  Walks X.prog X.w X.A.in1 s.heap.objs.size [s.heap.objs.size,p] [s.heap.objs.size] its.toArray.size (λi v=>[ZI,its.toArray,v]) (λi h=>h.IsListIter s.heap.objs.size p i/\h.IsList p its.toArray):=by
 obtain ⟨its,rv,pl,hz⟩:=I.list (SqL.of hp);obtain ⟨o,e,_⟩:=pl.isList;have O:=qD5 (qB2 e);show ⟨its,rv,pl.isList,by show rv.length,O,Walks.list [SF,X.A.in1.handled=none,I.ok.hd hc] _ p O _⟩
def all_range {bs:List Bool}:(List.range bs.length).all (λi=>bs.getD i false)=bs.all id:=by
 rw[qI1,qE0,qE0];constructor
 .intro h x I;obtain ⟨i,hi,e⟩:=List.mem_iff_getElem.mp I;simp_all
 grind[List.getElem_mem]
def yC {X:Cx}{bs:List Bool}(rv:Vals (bs.map V.bl) its):TruthOf X.prog X.w A (λi v=>[ZI,its.toArray,v]) (λi=>bs.getD i false):=λi v s' O E I T=>by
 obtain ⟨b,hb,e⟩:=HY (f:=V.bl) (g:=λb u=>u=_) (λb u r=>r) rv I
 grind[PySem.wpAny_truthy_bool]
def xJ (hc:X.calm=true):C6 X (.builtin "all") (λxs H Q=>∃(p:Addr) (bs:List Bool),xs = [.ref p]/\H p=some (.lst (bs.map V.bl))/\Q (.bl (bs.all id)) H):=by
 intro pins s a H xs us Q I r h;obtain ⟨p,bs,rfl,hp,q⟩:=h;obtain ⟨u,rfl,O⟩:=lG r;cases O;obtain ⟨its,rv,hl,hlen,Ud,T⟩:=uq I hc hp;rw[qA1]at hlen;refine call_all_walk (qN6 hl ⟨_,_,_,_,_,_,_,rfl,T,⟨⟨_,qB1 _ rfl,rfl,rfl⟩,hl.push _⟩,yC rv,λh' tk hk=>?_⟩);rw[<- hlen,all_range];show ⟨.bl _,H,I.kept (wB hk),rfl,q⟩
def cH:List W->Option (List Bool)
 | []=>some []
 | .bl b::ws=>(cH ws).map (b::·)
 |_=>none
def Hf bs:cH (bs.map W.bl)=some bs:=by
 induction bs <;> grind[cH]
def Reps.bls (r:[Th,F]):cH ws=some bs->vs=bs.map V.bl:=
 Reps.ind (P:=λvs ws=>∀bs,cH ws=some bs->vs=bs.map V.bl) (λbs h=>by cases h;rfl) (λ{v w vs ws} r _ ih bs h=>by
  cases w <;> first|cases h|skip
  rename_i b
  have e:=r.inv;subst e;have h':(cH ws).map _=_:=h;cases q:cH ws <;> grind) r bs
def xc (g:List Bool->Bool):[TR]
 | [.lst ws]=>toR (cH ws)>>=λbs=>.ok (.bl (g bs))
 |_=>.stuck
def Hj:Cal K .B d (λxs H Q=>∃(p:Addr) (bs:List Bool),xs = [.ref p]/\H p=some (.lst (bs.map V.bl))/\Q (.bl (g bs)) H) (xc g):=by
 intro EX H0 O G H c b Ha vs ws Q I s m o;cases m with
 |nil=>show 2
 | @cons w v T XA a t=>
  cases t with
  |cons _ _=>first|show 2 | (cases w <;> show o.elim)
  | nil=>
   cases w <;> first|show 2|skip
   rename_i ws
   obtain ⟨p,ys,rfl,hs,r⟩:=a.lstB I;replace o:[SO,mdW K d H0 O,_>>=_]:=o
   cases q:cH ws with
   |none=>rw[q]at o;show 2
   | some bs=>
    rw[q]at o;rw[Reps.bls r q]at hs;show ⟨p,bs,rfl,hs,[re,[SZ,.bl]]⟩
def tD (bs:List Bool):Bool:=bs.all id
def Om:bootBuiltins "all" = some (.builtin "all"):=ZU
noncomputable def Y2:List W->Option Xaj
 | []=>some []
 | .int b::ws=>(Y2 ws).map (b::·)
 |_=>none
def ints_map bs:Y2 (bs.map W.int)=some bs:=by
 induction bs <;> grind[Y2]
def QX (g:List Int->Int):[TR]
 | [.lst ws]=>toR (Y2 ws)>>=λbs=>.ok (.int (g bs))
 |_=>.stuck
def fAbs:[TR]
 | [.int i]=>.ok (.int [YL,i<0,-i,i])
 |_=>.stuck
def fInt:[TR]
 | [.int i]=>.ok (.int i)
 | [.bl k]=>.ok (.int [YL,k,1,0])
 |_=>.stuck
def RN:Cal K .B d (λxs H Q=>(∃i,xs = [.int i]/\Q (.int i) H)\/∃k:Bool,xs = [.bl k]/\Q (.int [YL,k,1,0]) H) fInt:=by
 intro EX H0 T G H c b Ha vs ws Q I s m o;cases m with
 |nil=>show 2
 | @cons w v O XA a t=>
  cases t with
  |cons _ _=>first|show 2 | (cases w <;> show o.elim)
  | nil=>
   cases w <;> first|show 2|skip
   .show .inr [WH,by rw[a.blB],[re,[SZ,.int]]]
   .show .inl [WH,by rw[a.intB],[re,[SZ,.int]]]
def fStr:[TR]
 | [.int i]=>[TJ,i.natAbs.log2<1920,.ok (.str (toString i))]
 |_=>.stuck
def cI:Cal K .B d (λxs H Q=>∃i,xs = [.int i]/\i.natAbs.log2<1920/\Q (.str (toString i)) H) fStr:=by
 intro EX H0 T G H e b Ha vs ws Q I s m o;cases m with
 |nil=>show 2
 | @cons w v O XA a t=>
  cases t with
  |cons _ _=>first|show 2 | (cases w <;> show o.elim)
  | nil=>
   cases w <;> first|show 2|skip
   rename_i i
   replace o:[SO,_,[YL,i.natAbs.log2<1920,_,_]]:=o
   by_cases c:i.natAbs.log2<1920
   .rw [qA3 c]at o
    show ⟨_,by rw[a.intB],c,[re,[SZ,.str]]⟩
   show 12 c
def mExt (i:Nat) (c:Bool) (m:Xad):Xae:=λa=>match a[i]? with
 | some (.own ws)=>m a>>=λw=>(match w with
  | .lst us=>[TJ,ws.length+us.length<=1000,[YL,c||A3 us,[Rn,.own (ws++us)],.stuck]]
  |_=>.stuck)
 |_=>.stuck
def mRev (i:Nat):Xae:=λa=>match a[i]? with
 |some (.own ws)=>[Rn,.own ws.reverse]
 |_=>.stuck
def df {X}{K}{EX}{e tg}{ma:Xad}(h:[ZR,e,.B,ma])(I:[XXa,X.K=K]):PI X tg e (tIt K EX false .U (bS ma)):=Cl h I
def vo {X}{K}{EX}{e tg}{ma:Xad}(h:[ZR,e,.U,ma])(I:[XXa,X.K=K]):PI X tg e (tIt K EX true .U (bS ma)):=Cl h I
def gE {X}{K}{EX}{a}{es:ZX}{pos}{I:Xal}{elts:ZX}{p tp}{k}(hg:Gl X "zip") (hm:X.mg "zip" = none) (ha:PA X (a::es) (tA K EX .B I)) (T:[XXa,X.K=K]) (hs:[XXa,[Tm,a::es]=[SJ,a]::[Tm,es]]) (O:[XXa,[rd,pos,X.env]]):
  PI X (.Tuple elts k tp) [SY,[YD,"zip",p],a::es] (tIt K EX false .U (bI W6 I)):=Cj hg hm ha T hs O
def mD {X}{K}{EX}{a}{es:ZX}{pos}{I:Xal}{elts:ZX}{p tp}{k}(hg:Gl X "zip") (hm:X.mg "zip" = none) (ha:PA X (a::es) (tA K EX .U I)) (T:[XXa,X.K=K]) (hs:[XXa,[Tm,a::es]=[SJ,a]::[Tm,es]]) (O:[XXa,[rd,pos,X.env]]):
  PI X (.Tuple elts k tp) [SY,[YD,"zip",p],a::es] (tIt K EX true .U (bI W6 I)):=Cj hg hm ha T hs O
def QJ:Sl->Bool
 | .own _=>true
 | .dic _=>true
 | .dik _=>true
 | .dos _=>true
 | .obj _ _ _=>true
 |_=>false
def noOwn (a:Rho):Bool:=a.all λs=>!QJ s
def sCU (i:Nat)(f:[TR])(ma:Xal):Xae:=λa=>[TJ,noOwn a,ma a>>=λws=>f ws>>=λw=>[Rn,.par w]]
def revW:List W->R Xag
 | [.lst ws]=>.ok ws.reverse
 |_=>.stuck
def seqI:W->Option Xaj
 | .lst ws=>Y2 ws
 | .tup ws=>Y2 ws
 |_=>none
def CP (g:List Int->Int):[TR]
 | [w]=>toR (seqI w)>>=λns=>[TJ,0<ns.length,.ok (.int (g ns))]
 |_=>.stuck
end TP
namespace HT
open PySem PySem.Spec PyProof.Rows
end HT
namespace TP
open PySem L2 PySem.Spec PyProof.Rows
end TP
namespace TP
open PySem PySem.W PyProof.Rows
section
variable (r:Nat->Int)
def runK {b}:KasT b->b
 | .ret a=>a
 | .ask i j k=>runK (k (decide (r i<r j)))
def RY {k:Bool->KasT a}(h:r i<r j):runK r (.ask i j k)=runK r (k true):=congrArg (λb=>runK r (k b)) (qK5 h)
def RZ {k:Bool->KasT a}(h:¬ r i<r j):runK r (.ask i j k)=runK r (k false):=congrArg (λb=>runK r (k b)) (qK2 h)
def ky (p:Array Nat)(k:Nat):Int:=r (p.getD k 0)
def up (p:Array Nat)(n:Nat):Prop:=∀k,k+1<n->ky r p k<=ky r p (k+1)
def dn (p:Array Nat)(n:Nat):Prop:=∀k,k+1<n->ky r p (k+1)<=ky r p k
def uE (h:up r p n):∀j i,i<=j->j<n->ky r p i<=ky r p j:=by
 intro j
 induction j with
 |zero=>omega
 | succ j I=>
  intro i a b;rcases Nat.lt_or_eq_of_le a with q|rfl
  .show Int.le_trans (I i (qQ8 q) (Nat.lt_of_succ_lt b)) (h j b)
  omega
def mO (hu:up r p k):∀ f l h,h-l<=f->l<=h->h<=k->(∀i,i<l->ky r p i<=ky r p k)->(∀i,h<=i->i<k->ky r p k<ky r p i) ->
  ∃R,runK r (kas_place p k f l h)=R/\R<=k/\(∀i,i<R->ky r p i<=ky r p k)/\∀i,R<=i->i<k->ky r p k<ky r p i:=by
 intro f
 induction f with
 | zero=>
  intro l h hf hl hk a b;have e:h=l:=ZU;subst e;show ⟨h,rfl,hk,a,b⟩
 | succ f ih=>
  intro l h hf hl hk a b;by_cases I:l≥h
  .have e:=Nat.le_antisymm I hl;subst e;show ⟨h,by change runK r [YL,h≥h,_,_]=h;rw[qA3 (qA6 _)];rfl,hk,a,b⟩
  .obtain ⟨md,T⟩:∃md,md=(l+h)/2:=[Tq];have m1:l<=md:=[ZO,T,(Nat.le_div_iff_mul_le Xaa).mpr ([ZO,Nat.mul_two,qP1 hl _])]
   have O:md<h:=[ZO,T,(Nat.div_lt_iff_lt_mul Xaa).mpr ([ZO,Nat.mul_two,Nat.add_lt_add_right (Nat.lt_of_not_le I) _])]
   have m3:=qQ8 (qB6 (Nat.sub_lt_sub_right m1 O) hf);have m4:=qC8 (Nat.sub_le_sub_left (qS0 m1) h) (Nat.pred_le_pred hf);have e0:runK r (kas_place p k (f+1) l h)=runK r (.ask (p.getD k 0) (p.getD md 0) λc=>if c=true then kas_place p k f l md else kas_place p k f (md+1) h):=by
    rw[T]
    change runK r [YL,l≥h,_,_]=_;rw[qA9 I]
   by_cases c:ky r p k<ky r p md
   .obtain ⟨R,e,x⟩:=ih l md m3 m1 (qC8 (qJ6 O) hk) a λi x y=>Int.lt_of_lt_of_le c (uE r hu i md x y);show ⟨R,e0.trans ((RY r c).trans e),x⟩
   .obtain ⟨R,e,x⟩:=ih _ h m4 O hk (λi x=>Int.le_trans (uE r hu md i (qQ8 x) (qB6 O hk)) (Int.not_lt.mp c)) b;show ⟨R,e0.trans ((RZ r c).trans e),x⟩
end
end TP
namespace TP
open PySem L2
def jL (hh:A.handled=none) (u:Sub) (T:u.l≠u.i) its:
  Draws prog w A u.i [u.i,u.l] its.size (λi v=>[ZI,its,v]) (λi h=>u.At h i/\u.Src h its) where
 live:=λ_ _ st=>by obtain ⟨o,e,_⟩:=st.1.obj;grind
 frame:=λ_ _ _ st hk=>⟨st.1.keep λo e=>hk u.i Xaf o e,st.2.keep λo e=>hk u.l Xaf o e⟩
 item:=λi s Q E hi st O=>Sub.item st.1 st.2 (x:=its[i]) (by simp [hi]) λh' a I=>O _ h' _ (by simp [hi]) ⟨a,st.2.keep λo e=>I.extBut _ _ T e⟩ I
 done:=λs Q E st hE=>Sub.ends hh st.1 st.2 Xaf hE
def pD l (its:ZY) m (dct:Option Addr) (sl:Array Uj) :
  Meets (Builtin.«enumerate.__new__» ⟨[.type "enumerate",.ref l],[]⟩) (λ_ R s=>s.heap.get? l=some { cls:=.type "tuple",dict:=dct,data:=.seq its m,slots:=sl } /\
   R (.ok (.ret [ZE,(s.heap.push [Z0A,"tuple_iterator",#[.ref l,.int 0 0]]).objs.size]))
    [To,s,(s.heap.push [Z0A,"tuple_iterator",#[.ref l,.int 0 0]]).push [Z0A,"enumerate",#[.none,.bool false,.ref s.heap.objs.size,rawInt 0,.none,.none]]]):=
 .of_wp λprog w A R s I=>by
  obtain ⟨hp,g,d,tk,os⟩:=s;obtain ⟨hl,I⟩:=I;have T:=sub_enumerate;have O:Heap.IsTuple (Shared.heap ⟨hp,g,d,tk,os⟩) l its:=⟨_,hl,rfl,m,rfl⟩
  wp_walk using qN1 hl
  refine wpAny_stack_any λstk=>qK4 ?_
  split
  .rename_i cc _ _ _ _ _
   cases (cc == Value.type "enumerate") <;>
   .wp_walk using qN1 hl,qN0 O
    show [WH,rfl,I]
  .wp_walk using qN1 hl,qN0 O
   show [WH,rfl,I]
def tR (hL:s.heap.IsTuple l its) (O:∀h',IsEnum h' [Z0F] s.heap.objs.size 0 .none->h'.IsTupleIter s.heap.objs.size l 0->(∀b o,([SR])->[TN,h'.get?])->Q [ZE,[Z0F]] [To,s,h']):
  [ST,call (.type "enumerate") [.ref l]]:=by
 obtain ⟨⟨c,dct,dt,sl⟩,hl,hc,m,hd⟩:=hL;have WE := hc;have XX:=hd;subst WE XX;refine callType_new F.called_enumerate Xaa (F.typeCall_enumerate_1 _) (F.newCall_enumerate_1 _) (λobj=>F.args_object_init_2 obj _) F.entry_enumerate_new (pD l its m dct sl) ⟨hl,?_⟩;generalize I:s.heap.push [Z0A,"tuple_iterator",#[.ref l,.int 0 0]]=P
 have hz:P.objs.size=s.heap.objs.size+1:=by rw[<- I];show qI8 ..
 have hi:P.get? s.heap.objs.size=some [Z0A,"tuple_iterator",#[.ref l,.int 0 0]]:=by rw[<- I];show qB1 _ rfl
 have hk:∀b o,([SR])->[TN,P.get?]:=λb o e=>by rw[<- I];show qA2 _ e
 change _/\_;have T:IsEnum (P.push [Z0A,"enumerate",#[.none,.bool false,.ref s.heap.objs.size,rawInt 0,.none,.none]]) [Z0F] s.heap.objs.size 0 .none:=by rw[<- hz];show qB1 _ rfl
 rw[hz];show ⟨[WH,T,rfl],O _ T ⟨_,qA2 _ hi,rfl,rfl⟩ λb o e=>qA2 _ (hk b o e)⟩
def xI (O:SrcAt s.heap (t,l,its)) (I:∀h',IsEnum h' [Z0F] s.heap.objs.size 0 .none->(L2.Sub.mk t s.heap.objs.size l).At h' 0->(∀b o,([SR])->[TN,h'.get?])->Q [ZE,[Z0F]] [To,s,h']):
  [ST,call (.type "enumerate") [.ref l]]:=by
 cases t with
 |true=>show tR O λh' a b c=>I h' a (by show b) c
 |false=>show call_enumerate_list O λh' a b _ c=>I h' a (by show b) c
def ItE (K:Frag) (t:Bool) (a:Addr):It:=
  ⟨fun i H=>∃xs x,Sq K H t a xs/\[ZI,xs,x],
   λi H x H'=>∃p y,x=.ref p/\H p=none/\H'=upd H p (.tup [.int (i:Int),y])/\∀xs,Sq K H t a xs->[ZI,xs,y],
   λi H=>∃xs,Sq K H t a xs/\xs.length=i⟩
abbrev eTn (e:Addr)(u:Sub)(i:Nat)(h:Heap):Prop:=(∃I,IsEnum h e u.i (i:Int) I)/\u.At h i
def uH (Ud:e≠u.i):
  Turn P w K (.Tuple elts k tp) (ItE K u.t u.l) [e,u.i] e (eTn e u) where
 mem:=Xaf
 obj:=λi h st b O=>by
  obtain ⟨⟨a3,T⟩,ha⟩:=st;simp [qD4]at O;rcases O with rfl|rfl
  .show [WH,T,λv q=>by cases q]
  .obtain ⟨o,q,d⟩:=ha.obj;show ⟨o,q,λv z=>by rw[d]at z;cases z⟩
 keep:=λi h h' st kp=>⟨st.1.imp λa3 T=>kp e Xaf _ T,st.2.keep λo q=>kp u.i Xaf o q⟩
 item:=by
  show 19;obtain ⟨⟨a3,T⟩,ha⟩:=st;obtain ⟨xs,x,hq,hx⟩:=hg;obtain ⟨its,rv,Uv⟩:=Sq.src I hq;obtain ⟨v,hv,rx⟩:=rv.get hx;have fi:=Sq.ne I hq (hf u.i Xaf);have hi:i<its.toArray.size:=by have:=(qB4.mp hv).1;simpa using this
  refine wpAny_pyNext_enum_itemD (jL (prog:=X.prog) (w:=X.w) [SF,X.A.in1.handled=none,I.ok.hd hc] u fi its.toArray) T ⟨ha,Uv⟩ hi Ud (by have:=Sq.ne I hq (hf e Xaf);grind) λy h1 tk hy z1 s1 p1 z2 k1=>?_;have ey:y=v:=by
   have e1:[ZI,its,y]:=by simpa using hy
   rw[hv]at e1;cases e1;rfl
  subst ey;refine [WH,rfl,wpAny_letOwnedTupleGo_enum z1 λh2 e2 sb2=>?_];have hl:∀b∈[e,u.i],b<s.heap.objs.size:=λb O=>by
   simp only [qB5,qD4,or_false]at O;rcases O with rfl|rfl
   .show qB2 T
   .obtain ⟨o,q,_⟩:=ha.obj;show qB2 q
  have J:[YR,a,_,[SS,s,h2,tk+1]]:=I.turnsT (xs:=[.int i,x]) (us:=[.int i tk,y]) (ch:=[e,u.i]) hf (λb o O q=>sb2.extBut _ _ (λz=>O (by simp [z])) (k1 b o (λz=>O (by simp [z])) (λz=>O (by simp [z])) q)) (qA6 _) ([SK,[Te,2]]) (.cons ⟨tk,rfl⟩ (.cons rx .nil)) (sb2.extBut _ _ (qI7 (hl e Xaf)) p1);refine ⟨.ref s.heap.objs.size,_,J,rfl,⟨_,_,rfl,I.hok.fresh (qA6 _),rfl,λys a4=>?_⟩,⟨⟨y,?_⟩,?_⟩,λb O=>?_⟩
  .rw[Sq.inj I a4 hq];show hx
  .have:((i+1:Nat):Int)=(i:Int)+1:=ZU
   rw[this];show e2
  .show s1.1.keep λo q=>sb2.extBut _ _ (Ne.symm Ud) q
  .rw [c0 (qD5 (hl b O))]
   show (hf b O).1
 done:=by
  show 19;obtain ⟨⟨a3,T⟩,ha⟩:=st;obtain ⟨xs,hq,hn⟩:=hg;obtain ⟨its,rv,Uv⟩:=Sq.src I hq;have fi:=hf u.i Xaf;have a5:u.l≠u.i:=Sq.ne I hq fi;have Vk:its.toArray.size=i:=by have:=rv.length;simp;omega
  subst Vk;refine wpAny_pyNext_enum_endD (jL (prog:=X.prog) (w:=X.w) [SF,X.A.in1.handled=none,I.ok.hd hc] u a5 its.toArray) T ⟨ha,Uv⟩ λh' eb=>⟨rfl,?_⟩;obtain ⟨f0,f1,f2,f3,f4,f5⟩:=fi;show I.turned (t':=s.toks) (λb o O q=>eb b o O q) f0 f1 f3 f4 f5
 self:=λA i s Q E st h=>by
  obtain ⟨⟨a3,T⟩,_⟩:=st;show wpAny_pyIter_enum T h
def CJ (K:Frag)(ta:TA):TI:=λb H R=>ta b H λvs H1=>∃t a xs,vs = [.ref a]/\Sq K H1 t a xs/\R (ItE K t a) H1
def oM:bootBuiltins "enumerate" = some (.type "enumerate"):=ZU
def EL (hg:Gl X "enumerate") (hm:X.mg "enumerate" = none) (ha:PA X [a] ta) (hs:[XXa,[Tm,[a]] = [[SJ,a]]]):PI X (.Tuple elts k tp) [SY,[YD,"enumerate",p],[a]] (CJ X.K ta):=by
 intro pins s d H R I h;refine qL1 (W2 I hg hm oM ?_ Xaa Xaa);refine qF2 (thn (ha pos pins s d H _ I h) λus s1 O=>?_) hs WU;obtain ⟨vs,H1,T,r1,t,b,xs,e1,hq,q⟩:=O;subst e1;obtain ⟨u,rfl,ru⟩:=lG r1;cases ru;obtain ⟨its,rv,Uv⟩:=Sq.src T hq;refine xI (its:=its.toArray) (by unfold Sub.Src at Uv;show Uv) λh' he hA hk=>wpAny_pyIter_enum he ?_;have I2:=T.kept (t':=s1.toks) hk;have TE:=uH (P:=X.prog) (w:=X.w) (K:=X.K) (elts:=elts) (k:=k) (tp:=tp) (e:=s1.heap.objs.size+1) (u:=⟨t,s1.heap.objs.size,b⟩) (neN ZU);refine ⟨_,_,_,_,H1,rfl,I2,TE,⟨⟨_,he⟩,hA⟩,λc hc=>?_,q⟩;have VY:s1.heap.objs.size<=c:=by
  grind
 show T.fpOk VY (T.hok.fresh VY)
def jv:List W->R Xag
 | [w]=>match seqW w with
  | .ok xs=>.ok (xs.mapIdx λi x=>W.tup [.int (i:Int),x])
  |_=>.stuck
 |_=>.stuck
def wK (he:e=.V\/e=.U) (s1:Sq K Z t a xs) (T:Reps K (fz e H0 G) xs us):X3 K e H0 Z G (ItE K t a) (us.mapIdx λi x=>W.tup [.int i,x]):=by
 have l1:=T.length;have O:∀H,_->Sq K H t a xs:=λH z=>Sq.same z s1;refine ⟨λi H hi z=>?_,λH z=>⟨xs,O H z,by grind⟩,λi H x H' w hw z y G2 c b I sg=>?_⟩
 .rw [List.length_mapIdx]at hi
  show ⟨xs,xs[i]'ZU,O H z,Xaf⟩
 .obtain ⟨p,y1,rfl,hp,rfl,hy⟩:=y;obtain ⟨w1,e1,q1⟩:=Reps.get' T (hy xs (O H z));have WV:w=.tup [.int i,w1]:=by
   rw[List.getElem?_mapIdx,e1]at hw;cases hw;rfl
  subst WV;obtain ⟨x1,x2⟩:=iR he I hp (.cons .int (.cons (q1.same (R8 sg)) .nil));show [WH,x1,x2]
def NT (he:e=.V\/e=.U) (h:tIt K EX lp e (λa=>ma a>>=jv) b H Rr):CJ K (tA K EX (iN lp e) ma) b H Rr:=by
 refine bT h (λH0 G a G1 H1 xs ws us I O m1 q o=>?_) (λws e z=>?_)
 .have I1:=I.ext O;unfold jv at q
  split at q
  .rename_i w
   cases hw:seqW w with
   |stuck=>rw[hw]at q;cases q
   |ex _=>rw[hw]at q;cases q
   | ok ls=>
    rw[hw]at q;cases q;cases m1 with
    | cons a1 m1=>
     cases m1;obtain ⟨t1,p1,v1,rfl,T,r1⟩:=Md.src he I1 a1 hw;show ⟨t1,p1,v1,rfl,M5 (nF I1) T,o _ G1 H1 O (wK he T r1)⟩
  .cases q
 .unfold jv at z
  split at z
  .split at z <;> cases z
  .cases z
def Ka {X}{K}{EX}{a}{pos}{I:Xal}{elts:ZX}{p tp}{k}(hg:Gl X "enumerate") (hm:X.mg "enumerate" = none) (ha:PA X [a] (tA K EX .U I)) (O:[XXa,X.K=K]) (hs:[XXa,[Tm,[a]] = [[SJ,a]]]):PI X (.Tuple elts k tp) [SY,[YD,"enumerate",p],[a]] (tIt K EX true .U (bI jv I)):=by
 subst O;show [TD,EL hg hm ha hs,NT (.inr rfl) q]
def inW (u:W):W->Option Bool
 | .tup ws=>some ((pds ws).any λy=>PyData.eqv y (pd u))
 | .lst ws=>some ((pds ws).any λy=>PyData.eqv y (pd u))
 | .scr ws=>some ((pds ws).any λy=>PyData.eqv y (pd u))
 |_=>none
def rIn (K:Frag)(neg:Bool):R2:=λx y H Q=>∃u v b,Rep K H x u/\Rep K H y v/\shp 8 u=true/\shp 8 v=true/\inW u v=some b/\Q (.bl [YL,neg,!b,b]) H
def Qu (hu:X.A.units+64<cLine):[tr,.In,rIn X.K false]:=by
 intro pins s d H x y v u Q I rx ry h;obtain ⟨a,c,b,ra,rc,sa,sc,e,q⟩:=h;obtain ⟨as,qa⟩:=Rep.reads I 8 ra sa rx;obtain ⟨bs,T⟩:=Rep.reads I 8 rc sc ry;have la:=cZ a 8 sa;cases c <;> first | (cases e;done)|skip
 all_goals
  rename_i ws
  have O:=iO ws 7 sc;have hm:X.A.units+1+min (PyData.depthAll (pds ws)) (pd a).depth<cLine:=ZU;cases e
 .show SeqAt.in_tuple_reads T qa O.1 la.1 hm ⟨.bl _,H,I,rfl,q⟩
 .show SeqAt.in_list_reads T qa O.1 la.1 hm ⟨.bl _,H,I,rfl,q⟩
 .show SeqAt.in_list_reads T qa O.1 la.1 hm ⟨.bl _,H,I,rfl,q⟩
def vR (hu:X.A.units+64<cLine):[tr,.NotIn,rIn X.K true]:=by
 intro pins s d H x y v u Q I rx ry h;obtain ⟨a,c,b,ra,rc,sa,sc,e,q⟩:=h;obtain ⟨as,qa⟩:=Rep.reads I 8 ra sa rx;obtain ⟨bs,T⟩:=Rep.reads I 8 rc sc ry;have la:=cZ a 8 sa;cases c <;> first | (cases e;done)|skip
 all_goals
  rename_i ws
  have O:=iO ws 7 sc;have hm:X.A.units+1+min (PyData.depthAll (pds ws)) (pd a).depth<cLine:=ZU;cases e
 .show SeqAt.notIn_tuple_reads T qa O.1 la.1 hm ⟨.bl _,H,I,rfl,q⟩
 .show SeqAt.notIn_list_reads T qa O.1 la.1 hm ⟨.bl _,H,I,rfl,q⟩
 .show SeqAt.notIn_list_reads T qa O.1 la.1 hm ⟨.bl _,H,I,rfl,q⟩
def fIn (neg:Bool) (u v:W):R W:=if shp 8 u&&shp 8 v then (match inW u v with
 |some b=>.ok (.bl [YL,neg,!b,b])
 |none=>.stuck) else .stuck
def sK:Op2 K .B d (rIn K neg) (fIn neg):=by
 show 16 e mx my;unfold fIn at o;by_cases c:(shp 8 u&&shp 8 v)=true
 .rw [qA3 c]at o
  have T:shp 8 u=true/\shp 8 v=true:=by simpa using c
  cases O:inW u v with
  |none=>rw[O]at o;show 2
  | some b=>
   rw[O]at o;show ⟨u,v,b,mx.whole I,my.whole I,T.1,T.2,O,[re,[SZ,.bl]]⟩
 show 12 c
def lexLt:List Int->List Int->Bool
 | [],[]=>false
 | [],_::_=>true
 |_::_,[]=>false
 |a::as,b::bs=>if a=b then lexLt as bs else [ZL,a<b]
def Qe (ss:Xao)(i:Nat):Int:=((ss.countP λx=>lexLt x (ss.getD i [])):Nat)
def getD_mem {ss:Xao}(h:i<ss.length):ss.getD i []∈ss:=by
 simp [h]
def allLt (n:Nat)(p:Array Nat):Prop:=∀x∈p,x<n
section
open PySem.W PyProof.Rows
variable {n:Nat}(h0:0<n)
include h0
end
section
open PySem.W PyProof.Rows
end
section
open PySem.W PyProof.Rows
end
set_option maxHeartbeats 2000000
end TP
namespace L2
open PySem PySem.Spec PyProof.Rows
end L2
namespace TP
open PySem L2
end TP
namespace HT
open PySem PyProof.Rows
def getItem_tuple_all {lo:ZV}(I:IsTup s.heap t items) (hs:s.heap.IsSliceOf sl vl vu .none) (pl:IsPart vl lo) (pu:IsPart vu hi) (hw:sIx items.size 0 lo=0/\sIx items.size items.size hi=items.size) (h:Q [ZE,t] s) (Vk:[Te,items.size]):[ST,getItem [ZE,t] [ZE,sl]]:=by
 obtain ⟨os,T,VX,Xm⟩:=id hs;have YT:s.TypeIs [ZE,sl] "slice" := ⟨os,T,VX⟩;unfold getItem
 try with_reducible refine qK6 ?_
 refine qA0 (wpAny_sequenceKey I.typeIs Xaa ?_);refine qA0 (qL2 I.typeIs qG0
  (qL7 qG0 I.typeIs entry_tuple_getitem ?_ (args_tuple_getitem ..)))
 change wpAny _ _ (Builtin.Tuple.tupleItemsOf _>>=_) _ _ s;refine qA0 (tupleItemsOf_ I ?_);refine qA0 (qR6 YT ?_);refine qA0 (Z4 hs pl pu ?_);have O:(((sIx items.size 0 lo):Int) == 0&&(1:Int) == 1&&sIx items.size items.size hi-sIx items.size 0 lo == items.size)=true:=by
  rw[hw.1,hw.2];simp
 change wpAny _ _ [YL,_=true,_,_] _ _ s;unfold Builtin.Tuple.tupleIsExact
 wp_walk using qR6 I.typeIs
 show [WH,rfl,qK4 h]
end HT
namespace TP
open PySem L2
def zw (K:Frag):[Z0p]:=λx lo hi H Q=>∃a xs,x=.ref a/\SqT K H a xs/\(HT.sIx xs.length 0 lo=0/\HT.sIx xs.length xs.length hi=xs.length)/\Q [ZE,a] H
def DI:L2.SlR X (zw X.K):=by
 intro pins s b H x v vl vu lo hi sl Q I T hs pl pu h;obtain ⟨a,xs,rfl,hx,hw,q⟩:=h;cases T;obtain ⟨its,r,O,hz⟩:=I.tuple hx;have hlen:its.toArray.size=xs.length:=by show r.length.symm
 refine ⟨"tuple",_,PyProof.Rows.slot_tuple_getitem.lookup,O.typeIs,?_⟩;show HT.getItem_tuple_all O hs pl pu ([ZO,hlen,hw]) ⟨.ref a,H,I,rfl,q⟩ ([ZO,hlen,hz])
def JJ (K:Frag):[Z0p]:=λx lo hi H Q=>JH K x lo hi H Q\/zw K x lo hi H Q
def DH:L2.SlR X (JJ X.K):=L2.SlR.or IG DI
def Rst (x:R W) (l u:R ZV):R W:=x>>=λx=>l>>=λl=>u>>=λu=>(match x with
 | .tup ws=>[TJ,A3 ws=true,.ok (.tup (C4 ws l u))]
 |_=>.stuck)
def yw (m:Xad)(O I:Rho->R ZV):Xad:=λa=>Rst (m a) (O a) (I a)
def Br (h:HT.sIx ws.length 0 lo=0/\HT.sIx ws.length ws.length hi=ws.length):C4 ws lo hi=ws:=by
 grind[C4]
def Rq (h:[Tw,.F,yw m ml mh,c]):tSl (JJ K) (tM K EX .B m) (K2 K EX ml) (K2 K EX mh) c H Q:=by
 show 4 b (Out.bind o λx G1 H1 w e1 m1 o1=>⟨H0,G1,b,I.ext e1,Out.bind o1 λl' G2 H2 l e2 m2 o2=>⟨H0,G2,b,(I.ext e1).ext e2,Out.bind o2 λu' G3 H3 u e3 m3 O=>?_⟩⟩);subst m2;subst m3;have T:=((I.ext e1).ext e2).ext e3;cases w <;> first|show O.elim|skip
 rename_i ws
 dsimp at O;by_cases hn:A3 ws=true
 .rw [qA3 hn]at O
  have mx:=(m1.move e2).move e3;rcases mx with mx|⟨_,_,_,_,z,_⟩
  .have cx:=Rep.clean T mx (by simpa [noL]using hn);cases cx with
   | tup ha ra=>
    rename_i a vs
    have l1:=ra.length;by_cases hw:HT.sIx vs.length 0 l'=0/\HT.sIx vs.length vs.length u'=vs.length
    .refine .inr ⟨a,vs,rfl,SqT.of (T.gh _ _ ha),hw,?_⟩;rw[Br (by rw[<- l1];show hw)]at O;show O _ G3 H3 (Ext.refl T.gh) (.tup ha ra)
    .show .inl ⟨a,vs,rfl,SqT.of (T.gh _ _ ha),hw,λp hp=>Out.newTF T (ra.cut l' u') hp O⟩
  .cases z
 .rw[qA9 hn]at O;show O.elim
def Qg {X}{K}{EX}{e}{pos}{ma:Xad}{lo hi}{p2}{O I}(T:[ZR,e,.B,ma]) (hl:PO X lo (K2 K EX O)) (hu:PO X hi (K2 K EX I)) (hK:[XXa,X.K=K]):[ZR,.Subscript e (.Slice lo hi none p2) pos,.F,yw ma O I]:=by
 subst hK;show [TD,fF DH T hl hu,Rq q]
def pM m O I a:yw m O I a=Rst (m a) (O a) (I a):=rfl
def ye (h:A3 ws=true) l u:Rst (.ok (.tup ws)) (.ok l) (.ok u)=.ok (.tup (C4 ws l u)):=by
 change [YL,_=true,_,_]=_;rw[qA3 h]
def Lm:W->Option Xaj
 | .tup ws=>Y2 ws
 |_=>none
def Ll ns:Lm (.tup (ns.map W.int))=some ns:=ints_map ns
def Ox (ks:Xao)(k:Xaj):List Xaj:=if k∈ks then ks else ks ++ [k]
def QK:Sl->Bool
 | .dic _=>true
 |_=>false
def Cu (a:Rho):Bool:=a.all λs=>!QK s
def putD (ks:Xao) (i:Nat) (w:W) (a:Rho):R Fl:=match Lm w with
 |some k=>[TJ,Cu (a.set i .un)=true/\ks.length<1000,[Rn,.dic (Ox ks k)]]
 |none=>.stuck
def Rc (o:Option Sl) (I rk:R W) (i:Nat) (a:Rho):R Fl:=match o with
 |some (.dic ks)=>I>>=λ_=>rk>>=λw=>putD ks i w a
 |_=>.stuck
set_option maxHeartbeats 2000000
def om ks w k i a (h:Cu (a.set i .un)=true) (hl:ks.length<1000):Rc (some (.dic ks)) (.ok w) (.ok (.tup (k.map W.int))) i a=.ok (.nx (a.set i (.dic (Ox ks k)))):=by
 change putD ks i _ a=_;unfold putD;rw[Ll];show qA3 ⟨h,hl⟩
theorem x6 {X}{K}{EX}{d}{p}{es}{I:Xal}{i j}(hr:PA X es (tA K EX d I)):PA X (.Constant (.int i) j p::es) (tA K EX d (aC (mC (.int i)) I)):=b6 b9 hr WU
def mG {X}{K}{EX}{a0 a1 a2 a3 a4 a5}{u0 u1 u2 u3 u4 u5}{p0 p1 p2 T O I}{pos}:[ZR,.List [.Constant (.int a0) u0 p0,.Constant (.int a1) u1 p1,.Constant (.int a2) u2 p2,.Constant (.int a3) u3 T,.Constant (.int a4) u4 O,.Constant (.int a5) u5 I] pos,.F,rF (aC (mC (.int a0)) (aC (mC (.int a1)) (aC (mC (.int a2)) (aC (mC (.int a3)) (aC (mC (.int a4)) (aC (mC (.int a5)) aN))))))]:=by
 refine l0 ?_;refine x6 ?_;refine x6 ?_
 grind[x6,b7]
def vn {X}{K}{EX}{a0 a1 a2 a3 a4 a5 a6 a7}{u0 u1 u2 u3 u4 u5 u6 u7}{p0 p1 p2 p3 p4 I O T}{pos}:[ZR,.List [.Constant (.int a0) u0 p0,.Constant (.int a1) u1 p1,.Constant (.int a2) u2 p2,.Constant (.int a3) u3 p3,.Constant (.int a4) u4 p4,.Constant (.int a5) u5 I,.Constant (.int a6) u6 O,.Constant (.int a7) u7 T] pos,.F,rF (aC (mC (.int a0)) (aC (mC (.int a1)) (aC (mC (.int a2)) (aC (mC (.int a3)) (aC (mC (.int a4)) (aC (mC (.int a5)) (aC (mC (.int a6)) (aC (mC (.int a7)) aN))))))))]:=by
 refine l0 ?_;refine x6 ?_;refine x6 ?_;refine x6 ?_;refine x6 ?_
 grind[x6,b7]
end TP
namespace TB
open PySem PySem.W
def bits_of {ns:Xaj}(h:WData.layableAll [WData.list (ns.map WData.int)]=true):∀x∈ns,[Z0Z]:=λx O=>by
 have h1:(WData.list (ns.map WData.int)).layable=true:=by simpa [WData.layableAll]using h
 have T:=(layableW_iff.mp h1).2.2;have I:∀ms:List Int,x∈ms->Builtin.Int.intBits x<=WData.weightAll (ms.map WData.int):=by
  intro ms
  induction ms with
  |nil=>intro z;cases z
  | cons m ms ih=>
   intro z
   change _<=_+1+_;rcases qB5.mp z with e|e
   .have:WData.weight (.int x)=Builtin.Int.intBits x:=WU
    omega
   .omega
 show qC8 (I ns O) (by simpa [WData.weight]using T)
end TB
namespace Att
open PySem PySem.W PySem.Calls PyProof.Rows
def attach_callB {l:OpenLaw}(hn:l.most=some n) (Xn:d.params.defaults = []) (call:∀ w s₀ I (mg mb:ZZ) T o pm cd doc a (vs:ZW) (ns:Xaj),
   Ground q loose [] XP w s₀ mg mb I.heap->YP w I.heap ->
   I.heap.get? T=some o->o.data=.func (docDef d.name d.params d.body d.scope pm cd doc)->I.heap.CodeRec cd d.name->mg d.name=some [ZE,T] ->
   I.heap.get? a=some { cls:=.type "list",data:=.seq vs.toArray }->IntsAre vs ns->ns.length<=n->(∀x∈ns,[Z0Z])->I.gens=#[] ->
   codeAny (model l.prog w) callerA (.call [ZE,T] ⟨[.ref a],[]⟩) (λr s'=>r=.ok (.ret (.bool true))/\OldK I.heap s'.heap/\s'.os=I.os/\AllBare s'.gens) I):
  WalkO q loose XP YP l.row.toRowW d [] (λf vs=>PySem.call f vs):=by
 intro w s₀ I mg mb G Y T o pm cd doc dV kV ho hd Ub hD YI hg args vals as VJ O a4 Yv a3;obtain rfl:=Dflts.none hD Xn;obtain rfl:=Dflts.noKw hD;obtain ⟨a,vs,ns,rfl,rfl,Wn,hints,hlen⟩:=uW hn VJ Yv;refine enter_call (qL6 (call w s₀ I mg mb T o pm cd doc a vs ns G Y ho (fd_plain hd) Ub YI Wn hints hlen (TB.bits_of O) hg) λr s' hq=>?_);obtain ⟨rfl,h2,h3,h4⟩:=hq;show ⟨.inl ⟨_,_,[],rfl,λ_=>rfl,.bool true,vF l _,λ_=>⟨List.Pairwise.nil,λ_ hm=>nomatch hm⟩⟩,h2,h3,h4⟩
end Att
namespace L2
open PySem PySem.Spec PyProof.Rows
def yo {l:PySem.W.OpenLaw}{K:Params->Frag}{CX:World->CXT}{sp:World->Sp}(hn:l.most=some n) (VU:[Te,n]) (Xn:d.params.defaults = []) (hr:Room k callerA) (hY:∀ w h,YP w h->(K w.params).In h) (F:∀ w (mg:ZZ) O h,(K w.params).In h->h.Ns mainGlobals mg->mg d.name=some [ZE,O] ->
   ∃ fd:FuncData,(∀ s u,BindsTo s fd ⟨[u],[]⟩ [(x,u)]) /\
    ∀base:Heap,(K w.params).In base->base.Ns mainGlobals mg->FnOk l.prog w (K w.params) mg base (CX w) k O fd [x] (sp w)) (Vp:∀ w H a (ns:Xaj),ns.length<=n->(∀x∈ns,[Z0Z])->uh H->SqL (K w.params) H a (ns.map V.int)->sp w [.ref a] H (λv _=>v=.bl true) λ_ _ _=>False) (Xr:∀ w H s e s',CX w [] H s (λ_ _ _=>False) e s'->False):
  PySem.W.WalkO q loose XP YP l.row.toRowW d [] (λf vs=>PySem.call f vs):=by
 refine Att.attach_callB hn Xn λw s₀ I mg mb O o pm cd doc a vs ns G Y ho hd Ub YI Wn hints hlen a3 hg=>?_;have KX:=hY w _ Y;obtain ⟨fd,hb,hF⟩:=F w mg O _ KX G.T.g YI;show AC KX G.T.g G.T.b G.T.builtins G.T.nolimit hg Wn hints (qC8 hlen VU) hr hF hb (λH hO hS=>Vp w H a ns hlen a3 hO hS) λH e s'=>Xr w H I e s'
def walk_ofKB {l:PySem.W.OpenLaw}{K:Params->Frag}{sp:Frag->Sp}(hn:l.most=some n) (T:[Te,n]) (Xn:d.params.defaults = []) (hr:Room k callerA) (hY:∀ w h,YP w h->(K w.params).In h) (F:∀ w (mg:ZZ) I h,(K w.params).In h->h.Ns mainGlobals mg->mg d.name=some [ZE,I] ->
   ∃ fd:FuncData,(∀ s u,BindsTo s fd ⟨[u],[]⟩ [(x,u)]) /\
    ∀base:Heap,(K w.params).In base->base.Ns mainGlobals mg->FnOk l.prog w (K w.params) mg base CX k I fd [x] (sp (K w.params))) (Vp:∀ K H a (ns:Xaj),ns.length<=n->(∀x∈ns,[Z0Z])->uh H->SqL K H a (ns.map V.int)->sp K [.ref a] H (λv _=>v=.bl true) λ_ _ _=>False) (Xr:∀ H s e s',CX [] H s (λ_ _ _=>False) e s'->False):
  PySem.W.WalkO q loose XP YP l.row.toRowW d [] (λf vs=>PySem.call f vs):=
 yo (CX:=_) hn T Xn hr hY F (λw H a ns h1 O h2 h3=>Vp _ H a ns h1 O h2 h3) λ_ H s e s'=>Xr H s e s'
end L2
namespace TP
open PySem L2
def CMulB (i j:Int):Prop:=CMul i j\/Builtin.Int.intBits i+Builtin.Int.intBits j<=134217728
instance (i j:Int):Decidable (CMulB i j):=by unfold CMulB;infer_instance
def CMulB.ok (h:CMulB i j):IntMulOk i j:=by
 rcases h with h|h
 .show h.ok
 .show IntMulOk.of_le (qA6 _) (qA6 _) h
def D6:OpR X (binaryOp .Mult) (rI CMulB λi j=>.int (i*j)):=opI λ_ _ _ _ _ _ _ hc q=>PyProof.Rows.mul_int q hc.ok
def wb {i j}(h:-18446744073709551616<i/\i<18446744073709551616):fI CMulB L7 (.int i) (.int j)=.ok (.int (i*j)):=by
 show qA3 (.inl (.inl h))
def wa {i j}(h:-18446744073709551616<j/\j<18446744073709551616):fI CMulB L7 (.int i) (.int j)=.ok (.int (i*j)):=by
 show qA3 (.inl (.inr h))
def vZ {i j}(h:Builtin.Int.intBits i+Builtin.Int.intBits j<=134217728):fI CMulB L7 (.int i) (.int j)=.ok (.int (i*j)):=by
 show qA3 (.inr h)
def FK (G:FnOk P w K mg base CX0 k f fd ps (spM K 1 d F)) (h:∀ns:List Int,ns.length<=63->(∀x∈ns,[Z0Z])->[TH,F [.scr (ns.map W.int)],true]):FnOk P w K mg base CX0 k f fd ps (λvs H Q _=>∃(a:Addr) (ns:Xaj),vs = [.ref a]/\SqL K H a (ns.map V.int)/\ns.length<=63/\(∀x∈ns,[Z0Z])/\∀H',Q (.bl true) H'):=
 G.imp λvs H Q E I=>by
  obtain ⟨a,ns,e,hs,hl,O,q⟩:=I;subst e;refine ⟨rfl,[.scr (ns.map W.int)],.cons (.scr hs ?_) .nil,?_⟩
  .clear hs hl O
   induction ns with
   |nil=>show .nil
   |cons n ns T=>show .cons .int T
  .rw [h ns hl O]
   intro v G' H' _ _ _ m;have e:v=.bl true:=by
    cases d <;> first | (cases m;rfl) | (rcases m with m|⟨_,_,_,_,z,_⟩ <;> first | (cases m;rfl)|cases z)
   subst e;show q H'
end TP
namespace TL
open PySem
def kOf (v:Value):Sem ZW:=match v with
 | .ref a=>do
  match (<- load a).data with
  | .seq xs _=>pure xs.toList
  |_=>unsupported "internal:collect"
 |_=>unsupported "internal:collect"
end TL
namespace TP
open PySem L2
def fM (u:W)(ws:Xag):Option Nat:=(pds ws).findIdx? λy=>PyData.eqv y (pd u)
def mB (K:Frag):V->List V->Hp->VK->Prop:=λx vs H Q=>∃u ws y j,vs = [y]/\Rep K H y u/\Rep K H x [YM,ws]/\shp 8 u=true/\shp 8 (.lst ws)=true/\fM u ws=some j/\j<1000/\Q (.int (j:Int)) H
def Ai (hu:X.A.units+64<cLine):MtR X "list.index" (mB X.K):=by
 intro pins s b H x vs v us Q I rx rv h;obtain ⟨u,ws,y,j,rfl,ry,rc,su,sc,hj,a5,q⟩:=h;obtain ⟨uy,rfl,rr⟩:=rv.one;obtain ⟨as,qa⟩:=Rep.reads I 8 ry su rr;obtain ⟨bs,qb⟩:=Rep.reads I 8 rc sc rx;have la:=cZ u 8 su;have lc:=iO ws 7 sc;have hm:X.A.units+1+min (PyData.depthAll (pds ws)) (pd u).depth<cLine:=ZU;cases qb with
 | list h1 h2 h3 h4=>
  rename_i a o items n as'
  obtain ⟨oc,od,a4,Vr⟩:=o;have h3:=h3;subst h2 h3;have O:=SeqAt.readsAll_map (pds ws) _ _ lc.1 h4;have a3:=SeqAt.items_eqAt (A:=X.A) h4 qa lc.1 la.1 hm;unfold fM at hj;rw[<- O,List.findIdx?_map,List.findIdx?_eq_some_iff_getElem]at hj;obtain ⟨Ug,ht,Xe⟩:=hj;have T:j<items.size:=ZU;refine qM2 qS5 [WH,h1,rfl] PySem.F.entry_list_index (PySem.F.args_list_index_2 _ _) (SeqAt.list_indexAt a items n od Vr uy (λz=>PyData.eqv (SeqAt.readOf s.heap z) (pd u)) j T ZU [SX,ht] (λm VM Wo=>by simpa using Xe m Wo)) ⟨h1,a3,?_⟩;show ⟨.int (j:Int),H,I.tok _,[Tq],q⟩
def nN (ws:Xag) (u:W):R W:=if (shp 8 u&&shp 8 (.lst ws))=true then (match fM u ws with
 |some j=>[TJ,j<1000,.ok (.int (j:Int))]
 |none=>.stuck) else .stuck
def Rix (x:R W) (y:R W):R W:=x>>=λx=>(match x with
 | .lst ws=>y>>=λy=>nN ws y
 |_=>.stuck)
def AA (mo me:Xad):Xad:=λa=>Rix (mo a) (me a)
def FB mo me a:AA mo me a=Rix (mo a) (me a):=rfl
def Pi (ws:Xag)u:Rix (.ok (.lst ws)) (.ok u)=nN ws u:=rfl
def GV (h:[Tw,d,AA mo me,f]):tBM K "list" (mB K) (tM K EX .B mo) (tA K EX .B (aC me aN)) f H Q:=by
 show 4 b (Out.bind o [Tz,x,w,e1]);have I1:=I.ext e1;cases w <;> first|show o1.elim|skip
 rename_i ws
 obtain ⟨p,vs,rfl,hs,_⟩:=m1.lstB I1;refine ⟨.inl ⟨rfl,vs,SqL.of hs⟩,H0,G1,b,I1,?_⟩;have O:Out EX G1 H1 _ _ λy H2=>mB K _ [y] H2 Q:=Out.bind (md:=mdW K .B H0 H1) o1 λy G2 H2 u T m2 o2=>by
  have I2:=I1.ext T;unfold nN at o2;by_cases c:(shp 8 u&&shp 8 (.lst ws))=true
  .rw [qA3 c]at o2
   have c':shp 8 u=true/\shp 8 (.lst ws)=true:=by simpa using c
   cases hj:fM u ws with
   |none=>rw[hj]at o2;show o2.elim
   | some j=>
    rw[hj]at o2;by_cases hl:j<1000
    .dsimp at o2;rw[qA3 hl]at o2;show ⟨u,ws,y,j,rfl,m2.whole I2,(m1.move T).whole I2,c'.1,c'.2,hj,hl,o2 _ G2 H2 (Ext.refl I2.gh) [SZ,.int]⟩
    .dsimp at o2;rw[qA9 hl]at o2;show o2.elim
  .rw[qA9 c]at o2;show o2.elim
 change Out EX G1 H1 _ (_>>=_) _
 revert O
 cases me b with
 |stuck=>show id
 |ex e=>show id
 | ok u=>
  intro O v G2 H2 T m2;cases m2 with
  |cons a t=>cases t;show O _ G2 H2 T a
def Ex {X:Cx}{K}{EX}{d}{o e}{apos TU:Pos}{mo me:Xad}(hu:X.A.units+64<cLine) (ho:[ZR,o,.B,mo]) (he:[ZR,e,.B,me]) (O:[XXa,X.K=K]) (TX:[XXa,attributeBase o "index" X.env [Sy,o]=eval o X.env]) (T:([Z0v]
   && [ZL,[ZM,([e]:ZX)]+[ZM,([]:List Keyword)]+[Z0j]<30])=true:=by rfl) (I:[Z0X]:=by rfl) (hs:[Tm,[e]]=[SJ,e]::[Tm,[]]:=by rfl) (Ua:[Z0r,[],X.env]:=by rfl):
  [ZR,.Call [wr,o,"index"] [e] [] TU,d,AA mo me]:=by
 subst O;show [TD,dZ qS4 qS5 PySem.F.type_list_index (Ai hu) ho (b6 he b7 hs) TX T I hs Ua,GV q]
def OutW (K:Frag) (EX:EXT) (d:Mode) (H0:Hp) (r:R Fl) (D:Ends):Prop:=match r with
 | .ok (.nx b)=>∀G' I H',PIv K H0 G' b I H'->D.nx I H'
 | .ok (.bk b)=>∀G' I H',PIv K H0 G' b I H'->D.bk I H'
 | .ok (.ct b)=>∀G' I H',PIv K H0 G' b I H'->D.ct I H'
 | .ok (.rt w)=>∀v G' H',Same G' H'->Same H0 H'->(∀a o,H0 a=some o->isL o=true->G' a=none)->Md K H0 H0 G' H' v w d->D.rt v H'
 | .ex e=>∀H',Same H0 H'->EX e H'
 | .stuck=>False
def tStW (K:Frag)(EX:EXT)(d:Mode)(m:Xae):TS:=λD b H=>∃H0 G a,[TM,a,b]/\OutW K EX d H0 (m a) D
def clS:Sl->Sl
 | .un=>.un
 | .val w=>if noL w=true then .val w else .un
 | .par w=>if noL w=true then .val w else .un
 | .own ws=>if A3 ws=true then .own ws else .un
 | .dic ks=>.dic ks
 | .dik ks=>.dik ks
 | .iop p ws=>if A3 ws=true then .iop p ws else .un
 | .hz _=>.un
 | .obj _ _ _=>.un
 | .dos kw=>if A3 kw.2=true then .dos kw else .un
def subS (i j:Nat)(us I:Xag)(a:Rho):Rho:=(a.map clS).set i (.val (.tup (us.set j [YM,I])))
set_option maxHeartbeats 2000000
def Hx (p:Addr)(H0 H1:Hp):Prop:=(∀a,a≠p->H1 a=H0 a)/\∃vs,H1 p=some [YM,vs]
def Ss (K:Frag) (EX:EXT) (p:Addr) (H0:Hp) (r:R Fl) (D:Ends):Prop:=match r with
 | .ok (.nx a)=>∀O G' I H',Hx p H0 O->PIv K O G' a I H'->D.nx I H'
 | .ok (.bk a)=>∀O G' I H',Hx p H0 O->PIv K O G' a I H'->D.rt .non H'
 | .ex e=>∀H',EX e H'
 |_=>False
def tStI (K:Frag)(EX:EXT)(p:Addr)(m:Xae):TS:=λD b H=>∃H0 G a,[TM,a,b]/\(∃vs,H0 p=some [YM,vs])/\Ss K EX p H0 (m a) D
def nbR:R Fl->R Fl
 | .ok (.nx a)=>.ok (.nx a)
 | .ex e=>.ex e
 |_=>.stuck
def nb (m:Xae):Xae:=λa=>nbR (m a)
def clI:Sl->Sl
 | .un=>.un
 | .val w=>.val w
 | .par w=>if noL w=true then .val w else .un
 | .own ws=>.own ws
 | .dic ks=>.dic ks
 | .dik ks=>.dik ks
 | .iop _ _=>.un
 | .hz _=>.un
 | .obj _ _ _=>.un
 | .dos kw=>.dos kw
def ioR (p:Addr) (a:Rho):R Xag:=match (a[1]?:Option Sl) with
 |some (.iop q cs)=>[TJ,q=p,.ok cs]
 |_=>.stuck
def Qa (n N:Nat) (m:[p5]) (p:Addr) (O:W) (cs I:Xag):R Xag:=if I.length+2=n/\A3 cs=true then (match m p (.par O::.iop p cs::(I.map Sl.par++[Sx,N,n])) with
 | .ok (.nx a)=>ioR p a
 | .ok (.bk a)=>ioR p a
 |_=>.stuck) else .stuck
open Classical in
def runIOA (n N:Nat)(m:Addr->Rho->R Fl)(T:W)(cs O:Xag):R Xag:=if h:∃I,∀p,Qa n N m p T cs O=.ok I then .ok (Classical.choose h) else .stuck
section
open PySem.W PyProof.Rows
def items_int:∀{xs:Xaj}{its:ZW},Vals (xs.map V.int) its->ItemsAre (intKind prog w) xs its:=by
 intro xs
 induction xs with
 |nil=>intro its h;cases h;show .nil
 | cons x xs I=>
  intro its h;cases h with
  | cons r t=>
   show 1 tk r;show .cons (by simp [intKind,Value.isInt]) (I t)
end
section
open PySem.W PyProof.Rows
end
section
open PySem.W PyProof.Rows
end
section
open PySem.W PyProof.Rows
end
section
open PySem.W PyProof.Rows
end
end TP
namespace TP
open PySem PyProof.Rows
def kk (rk:Keyed->Int) (xs:Array Keyed) (i:Nat):Int:=match xs[i]? with
 |some p=>rk p
 |none=>0
def sb1 (h0:0<n) (h:n<=A):A-(n-1)=A-n+1:=by
 cases n with
 |zero=>show absurd h0 (qE7 _)
 |succ m=>show (Nat.succ_pred_eq_of_pos (Nat.sub_pos_of_lt h)).symm
def sb2 {A:Nat}(h:n<=A)(hk:k<=n):A-k=A-n+(n-k):=(Nat.sub_add_sub_cancel h hk).symm
def sb3 {lo:Nat}(I:q<=x)(h:lo+x-q<=k):x-q<=k-lo:=by rw[qQ9 I]at h;show Nat.le_sub_of_add_le' h
def sb4 {lo:Nat}(I:q<=x)(h:lo+x-q<=k):lo+(k-lo)=k:=qP2 (qC8 ([ZO,qQ9 I,Nat.le_add_right ..]) h)
def sb5 {lo}(h:0<j):lo+(j-1)=lo+j-1:=(qQ9 h lo).symm
def ms0 (h:n+1+m+x+min y 1<=T):n+m+x+1<=T:=ZU
def KZ (h:n+m+x+min y 1<=T) (h0:0<n):n-1+m+x+1<=T:=by
 cases n with
 |zero=>show absurd h0 (qE7 _)
 |succ n=>show ms0 h
def ms1 (h:n+m+x+min y 1<=T)(h0:0<n):n-1+m+x+min (y+1) 1<=T:=qC8 (qP1 (qG4 _ 1) _) (KZ h h0)
def ms2' (h:n+m+x+min y 1<=T)(h0:0<m):n+(m-1)+x+1<=T:=[ZO,Nat.add_comm n _,KZ ([ZO,Nat.add_comm m n,h]) h0]
def ms2 (h:n+m+x+min y 1<=T)(h0:0<m):n+(m-1)+x+min (y+1) 1<=T:=qC8 (qP1 (qG4 _ 1) _) (ms2' h h0)
def upL (rk:Keyed->Int)(l:List Keyed):Prop:=l.Pairwise λx y=>rk x<=rk y
structure Mg (rk:Keyed->Int) (t:List Keyed) (out ra rb:List Keyed):Prop where
 perm:(out++(ra++rb)).Perm t
 up:upL rk out
 le:∀x∈out,∀y∈ra++rb,rk x<=rk y
def Gd (rk:Keyed->Int)(t I:List Keyed):Prop:=I.Perm t/\upL rk I
abbrev rn (rk:Keyed->Int)(x:Keyed):Int:=-rk x
abbrev rv (a:Array Keyed):List Keyed:=a.toList.reverse
section
variable {prog:Program}{w:World}{A:Around}{E:YJ}{s:Shared}{a₀:Array Keyed}{κ:SortKind}{rk:Keyed->Int}{arr:Array Keyed}{pd:Array (Nat×Nat×Nat)}{g lo:Nat}
structure Rl (lo:Nat) (arr UZ:Array Keyed):Prop where
 perm:UZ.toList.Perm arr.toList
 same:∀k,k<lo->UZ[k]?=arr[k]?
end
end TP
namespace TP
open PySem L2
section
open PySem.W PyProof.Rows
open Classical in
def rkV (vs:ZW)(ss:Xao)(p:Keyed):Int:=if h:∃i,i<vs.length/\vs.getD i Value.none=p.1 then Qe ss h.choose else 0
end
def zk (n N:Nat) (m:Xae) (ws:Xag):R W:=if ws.length=n then (m (ws.map Sl.val++[Sx,N,n])>>=λf=>match f with
 | .rt w=>.ok w
 | .nx _=>.ok .non
 |_=>.stuck) else .stuck
def fP:List Nat->Rho->Rho
 | [],a=>a
 |j::js,a=>fP js (frz j a)
def yQ (i:Nat)(I:List Nat)(w:W)(a:Rho):Rho:=if noL w=true then a.set i (.val w) else (fP I a).set i (.val w)
def sCX (i:Nat)(I:List Nat)(f:[TR])(ma:Xal):Xae:=λa=>ma (fP I a)>>=λws=>f ws>>=λw=>.ok (.nx (yQ i I w a))
def AY a:fP [] a=a:=rfl
def wS j I a:fP (j::I) a=fP I (frz j a):=rfl
def RcX (f:[TR]) (i:Nat) (I:List Nat) (a:Rho):R Xag->R Fl
 | .ok ws=>f ws>>=λw=>.ok (.nx (yQ i I w a))
 | .ex e=>.ex e
 | .stuck=>.stuck
def IZ i I f ma a:sCX i I f ma a=RcX f i I a (ma (fP I a)):=by
 unfold sCX;cases ma _ <;> rfl
def Pw f i I a ws:RcX f i I a (.ok ws)=f ws>>=λw=>.ok (.nx (yQ i I w a)):=rfl
def Su (H:Hp):Prop:=∀a vs,H a≠some (.lst vs)
def OutN (K:Frag) (d:Mode) (O:Hp) (r:R Fl) (D:Ends):Prop:=match r with
 | .ok (.nx b)=>∀H0 G' I H',Same O H0->PIv K H0 G' b I H'->D.nx I H'
 | .ok (.rt w)=>∀v G' H',Same G' H'->Same O H'->(∀a o,O a=some o->isL o=true->G' a=none)->Md K O O G' H' v w d->D.rt v H'
 |_=>False
def tStN (K:Frag)(EX:EXT)(d:Mode)(m:Xae):TS:=λD b H=>∃I H0 G a,Su I/\Same I H0/\[TM,a,b]/\OutN K d I (m a) D
def sGx {b:Type}{l:List b}{x y:b}(h:(l.set i x)[k]?=some y):i=k/\y=x\/i≠k/\l[k]?=some y:=by
 by_cases e:i=k
 .subst e;have q:=(List.getElem?_eq_some_iff.mp h).1;rw[qD0]at q;rw[qE4 q]at h;cases h;show .inl ⟨rfl,rfl⟩
 .rw[qA4 e]at h;show .inr ⟨e,h⟩
def uNx {H:Hp}{a b:Addr}{u v w:HO}(ha:H a=some u)(hb:H b=some v)(n:u≠v):upd H a w b=some v:=by
 rw[c0 (by rintro rfl;rw[ha]at hb;cases hb;show n rfl)];show hb
def PIv.put (I:[TM,b,c]) (r:SlR K H0 G H s o) (no:∀ws,s≠.own ws) (a3:∀kw,s≠.dos kw:=by intro _ e;cases e):[TM,b.set i s,c.set i o] where
 g0:=I.g0
 gl:=I.gl
 gh:=I.gh
 hh:=I.hh
 len:=by rw[qD0,qD0];show I.len
 sl k x u h1 h2:=by
  rcases sGx h1 with ⟨rfl,rfl⟩|⟨e,h1⟩
  .rcases sGx h2 with ⟨_,rfl⟩|⟨e,_⟩
   .show r
   .show absurd rfl e
  .rw [qA4 e]at h2
   show I.sl k x u h1 h2
 ne p q ws us a hpq h1 h2 h3 h4:=by
  rcases sGx h1 with ⟨_,e⟩|⟨n,h1⟩
  .show absurd e.symm (no _)
  .rcases sGx h2 with ⟨_,e⟩|⟨m,h2⟩
   .show absurd e.symm (no _)
   .rw[qA4 n]at h3;rw[qA4 m]at h4;show I.ne p q ws us a hpq h1 h2 h3 h4
 nd p q ws us a hpq h1 h2 h3 h4:=by
  rcases sGx h1 with ⟨_,e⟩|⟨n,h1⟩
  .show absurd e.symm (a3 _)
  .rcases sGx h2 with ⟨_,e⟩|⟨m,h2⟩
   .show absurd e.symm (a3 _)
   .rw[qA4 n]at h3;rw[qA4 m]at h4;show I.nd p q ws us a hpq h1 h2 h3 h4
end TP
namespace TP
open PySem L2
open PyProof.Rows (envOfC)
def XE1 (K:Frag)(E:XK):EXT:=λe H=>∀(C:Addr)(od:Option Addr),[Z0C,e.cls,C]->XD H od e.at_->E [ZE,C] od H
def spR (K:Frag) (n:Nat) (d:Mode) (f:[TR]):Sp:=λvs H Q E=>vs.length=n/\∃ws,[Th,H]/\match f ws with
 | .ok w=>∀v G' H',Same H H'->Same G' H'->(∀a o,H a=some o->isL o=true->G' a=none)->Md K H H G' H' v w d->Q v H'
 | .ex e=>∀H',Same H H'->XE1 K E e H'
 | .stuck=>False
def calm (f:[TR]):[TR]:=λws=>match f ws with
 | .ok w=>.ok w
 |_=>.stuck
def v6 (h:f ws=.ok w):calm f ws=.ok w:=by unfold calm;rw[h]
def GI:calm f ws≠.ex e:=by
 unfold calm;cases f ws <;> intro z <;> cases z
theorem GH (h:calm f ws=.ok w):f ws=.ok w:=by
 grind[calm]
theorem spM.calm (h:spM K n d (calm f) vs H Q E):spM K n d f vs H Q E:=by
 obtain ⟨hl,ws,r,o⟩:=h;refine ⟨hl,ws,r,?_⟩;unfold TP.calm at o
 revert o
 cases f ws with
 |ok w=>show id
 |ex e=>show λo=>o.elim
 |stuck=>show id
def cG (I1:PIv K H0 G1 d c H1) (O:Same H1 H') (gH:Same G' H') (cl:∀a o,H1 a=some o->isL o=true->G' a=none):Same G' (both G1 G')/\Ext G1 H1 (both G1 G') H':=by
 have sB:Same G1 (both G1 G'):=λb o q=>by unfold both;rw[q]
 have Um:Same G' (both G1 G'):=λb o q=>by
  unfold both;cases I:G1 b with
  |none=>show q
  | some u=>
   have T:=O b u (I1.gh b u I);rw[gH b o q]at T;show T.symm
 have VQ:Same (both G1 G') H':=λb o q=>by
  unfold both at q;cases I:G1 b with
  |none=>rw[I]at q;show gH b o q
  |some u=>rw[I]at q;cases q;show O b _ (I1.gh b _ I)
 show ⟨Um,sB,O,VQ,λb o q l g=>by unfold both;rw[g];show cl b o q l⟩
theorem Md.both (hd:d=.F\/d=.V) (I1:PIv K H0 G1 c b H1) (s:Same H H1) (I:Same G' (both G1 G')) (md:Md K H1 H1 G' H' v w d):Md K H0 H (TP.both G1 G') H' v w d:=by
 rcases hd with rfl|rfl
 .cases w with
  | lst us=>
   obtain ⟨a,vs,rfl,T,h2,O,r3⟩:=md;show ⟨a,vs,rfl,T,by unfold TP.both;rw[I1.gh.free O];show h2,s.free O,r3.same I⟩
  |_=>show Rep.same I md
 .show Rep.same I md
def GZ (hd:d=.F\/d=.V) (hf:∀ws,f ws≠.stuck->ws.length=n) (h:[Tw,d,λa=>ma a>>=λws=>calm f ws,b]):
  X5 (spM K n d (calm f)) [] E (tA K EX .B ma) b H Q:=by
 show 4 a (Out.bind o [Tz,xs,ws,T]);have O:=I.ext T;have r:=MdA.whole O m1;rw[qD3];cases q:calm f ws with
 |stuck=>rw[q]at o1;show o1.elim
 |ex e=>show absurd q GI
 | ok w=>
  rw[q]at o1;refine ⟨?_,ws,r,?_⟩
  .rw [r.length]
   grind[GH]
  .rw [q]
   intro v G' H' sH gH cl md;obtain ⟨Um,ex⟩:=cG O sH gH cl;show o1 v _ H' ex (Md.both hd O T.hh Um md)
def qY (hd:d=.F\/d=.V) (hf:∀ws,f ws≠.stuck->ws.length=n) (h:tM K (XE1 K E) d (λa=>ma a>>=λws=>f ws) b H Q):
  X5 (spR K n d f) [] E (tA K (XE1 K E) .B ma) b H Q:=by
 show 4 a (Out.bind o [Tz,xs,ws,T]);have O:=I.ext T;have r:=MdA.whole O m1;rw[qD3];refine ⟨?_,ws,r,?_⟩
 .rw [r.length]
  refine hf ws λz=>?_;rw[z]at o1;show o1
 .revert o1
  cases f ws with
  |stuck=>show id
  |ex e=>show id
  | ok w=>
   intro o1 v G' H' sH gH cl md;obtain ⟨Um,ex⟩:=cG O sH gH cl;show o1 v _ H' ex (Md.both hd O T.hh Um md)
def Hc (hd:d=.F\/d=.V) (h:spR K n d (d9 n Nl.length m) vs H Q E):tSt K (XE1 K E) d m { nx:=λ_ H'=>Q .non H',rt:=Q } (L2.start Nl vs) H:=by
 obtain ⟨hl,ws,r,o⟩:=h;have hw:ws.length=n:=by rw[<- r.length];show hl
 unfold d9 at o;rw[qA3 hw]at o;refine ⟨H,_,_,PIv.begin r (by rw[hl]),?_⟩
 revert o
 cases m _ with
 |stuck=>show id
 |ex e=>show id
 | ok f=>
  cases f with
  |nx T=>show λo G' O H' s' I=>o _ G' H' I.hh I.gh I.gl [SZ,.non]
  |rt w=>show λo v G' H' _ s1 s2 c md=>o v G' H' s2 s1 c md
  |bk _=>show λo=>o.elim
  |ct _=>show λo=>o.elim
def gy (C:Addr):Sp:=λvs H Q _=>∃(a:Addr) (I:Obj) (ws:ZY) (i:Int),vs = [.ref a,.int i]/\H a=some (.ext λh=>h.get? a=some I)/\I.cls=.ref C/\I.dict=none/\I.data=.fields ws /\
 ∀d,H d=none->Q .non (upd (upd H d (.xd [("at",.int i)])) a (.ext λh=>h.get? a=some { I with dict:=some d }))
def gC (c:Str) (I:Xal):Xae:=λa=>I a>>=λws=>match ws with
 | [.int i]=>.ex ⟨c,some i⟩
 |_=>.stuck
def GN (hc:[Z0C,c,C]) (h:tSt K (XE1 K E) d (gC c mr) D e H):pR C (gy C) E (tA K (XE1 K E) .B mr) D e H:=by
 show 4 f (OutS.bind I o [Tz,xs,ws,e1]);have I1:=I.ext e1
 split at o1
 .rename_i i
  cases m1 with
  | cons a t=>
   cases t;cases a.intB;rintro x oe hx Uz T ⟨us,O⟩;refine ⟨x,oe,us,i,rfl,d5,Uz,T,O,λdd hd=>⟨rfl,_,d5,?_⟩⟩;have a3:dd≠x:=[Tr,d5]
   refine o1 _ (λb u q=>?_) C _ hc ⟨dd,rfl,?_⟩
   .have q1:=I1.hh b u q
    grind[dE,c0]
   .rw[dE a3,c0 a3,d5]
 .show o1.elim
def bNew (c:Str) (I:Xal):Xad:=λa=>I a>>=λws=>match ws with
 | [.int i]=>.ok (.exc c [ZT,i])
 |_=>.stuck
def PIv.setN (I:[TM,e,d]):[TM,e.set i .un,d.set i o] where
 g0:=I.g0
 gl:=I.gl
 gh:=I.gh
 hh:=I.hh
 len:=by rw[qD0,qD0];show I.len
 sl j x o h1 h2:=by
  by_cases T:i=j
  .subst T;rw[qB9]at h1;simp only [qK7]at h1
   split at h1 <;> simp [reduceCtorEq]at h1
   subst h1
   trivial
  .rw[qA4 T]at h1 h2;show I.sl j x o h1 h2
 ne a b ws us c Ui h1 h2 h3 h4:=by
  have O:i≠a:=by
   show 21
  have nb:i≠b:=by
   show 18
  rw[qA4 O]at h1 h3;rw[qA4 nb]at h2 h4;show I.ne a b ws us c Ui h1 h2 h3 h4
 nd a b ws us c Ui h1 h2 h3 h4:=by
  have O:i≠a:=by
   show 21
  have nb:i≠b:=by
   show 18
  rw[qA4 O]at h1 h3;rw[qA4 nb]at h2 h4;show I.nd a b ws us c Ui h1 h2 h3 h4
def nS (j:Nat):Fl->R Fl
 | .nx a=>.ok (.nx (a.set j .un))
 | .bk a=>.ok (.bk (a.set j .un))
 | .ct a=>.ok (.ct (a.set j .un))
 | .rt w=>.ok (.rt w)
def dw (c:Str)(j:Nat)(mb:Xae)(e:XW)(a:Rho):R Fl:=[TJ,e.cls=c,mb (a.set j (.val (.exc e.cls e.at_)))>>=nS j]
def IQ (i:Nat) (c:Str) (j:Nat) (f:[TR]) (ma:Xal) (mb:Xae):Xae:=λa=>ma a>>=λws=>match f ws with
 | .ok w=>[Rn,N3 w]
 | .ex e=>dw c j mb e a
 | .stuck=>.stuck
def Cf (c:Str) (j:Nat) (f:[TR]) (ma:Xal) (mb:Xae):Xae:=λa=>ma a>>=λws=>match f ws with
 | .ok _=>.ok (.nx a)
 | .ex e=>dw c j mb e a
 | .stuck=>.stuck
def Bj (I:[TM,d,b]) (m:Md K H0 Ha G H v (.exc c i) .B):Rep K H v (.exc c i):=by
 rcases m with m|⟨a,vs,ws,_,e,_⟩
 .show m.same I.join_H
 .cases e
def fAt (c:Str):W->R W
 | .exc c' (some i)=>[TJ,c'=c,.ok (.int i)]
 |_=>.stuck
def c_at (hc:[Z0C,c,C]) (g:XGet K C "at") (h:[Tw,d,b1 (fAt c) ma,a]):Ir K (tM K EX .B ma) "at" a H Q:=by
 show 4 b (Out.bind o [Tz,x,w,T]);have I1:=I.ext T;unfold fAt at o1
 split at o1
 .rename_i c' i
  by_cases O:c'=c
  .rw [qA3 O]at o1
   subst O;have m2:=Bj I1 m1;cases m2 with
   | exc h1 h2 h3 h4 h5=>
    rw[hc]at h4;cases h4;obtain ⟨dd,e2,e3⟩:=h5;refine ⟨_,_,_,C,dd,_,_,rfl,h1,h2,h3,e2,e3,rfl,g,?_,o1 _ G1 H1 (Ext.refl T.gh) [SZ,.int]⟩;rintro u ⟨t,rfl⟩;rfl
  .rw[qA9 O]at o1;show o1.elim
 .show o1.elim
def JG (C:Addr)(cv:V)(b:Bool):List V->Hp->VK->Prop:=λxs H Q=>∃(a:Addr)(I:Obj)(vs:ZY),xs = [.ref a,cv]/\H a=some (.ext λh=>h.get? a=some I)/\I.cls=.ref C/\I.data=.fields vs/\(∀d,I.dict=some d->∃fs,H d=some (.xd fs))/\Q (.bl b) H
def Bv (hu:∀x,RelV cv x->x=u) (g:XIs X.K C) (e:PySem.W.kitOne X.K [ZE,C] u=some b):C6 X (.builtin "isinstance") (JG C cv b):=by
 rintro pins s c H xs us Q I rv ⟨a,ox,vs,rfl,O,hc,hd,hx,q⟩;cases rv with
 | cons T rv=>
  cases rv with
  | cons r2 rv=>
   cases rv;cases hu _ r2;cases T;show HW I O hc hd hx g e λtk=>⟨.bl b,H,I.tok _,rfl,q⟩
noncomputable def Mp (c:Str) (k:W) (b:Bool):[TR]
 | [.exc c' _,k']=>match k,k' with
  | .cls n,.cls n'=>[TJ,c'=c/\n'=n,.ok (.bl b)]
  | .ty n,.ty n'=>[TJ,c'=c/\n'=n,.ok (.bl b)]
  |_,_=>.stuck
 |_=>.stuck
def q_at {X}{K}{EX}{d}{e}{pos}{ma:Xad}{C}{c}(hc:[Z0C,c,C]) (g:XGet K C "at") (ha:[ZR,e,.B,ma]) (O:[XXa,X.K=K]) (I:[XXa,attributeBase e "at" X.env [Sy,e]=eval e X.env]):[ZR,.Attribute e "at" pos,d,b1 (fAt c) ma]:=by
 subst O;show [TD,Kr ha I,c_at hc g q]
def az {X}{K}{EX}{pos}{x}{C}(hg:Gl X x) (hm:X.mg x=some [ZE,C]) (hc:[Z0C,x,C]) (hd:[Z02]):[ZR,[YD,x,pos],.B,mC (.cls x)]:=
 (bB (v:=.ref C) hg hm rfl hd).mono λ_ H Q q=>by
  obtain ⟨H0,G,a,I,o⟩:=q;show [re,.inl (.cls hc)]
def O9 {X}{K}{EX}{d}{e}{es:ZX}{pos}{I:Xal}{k}{f}{fd}{ps}{x}{p}{n N}{m}(F:[Z0T,CX0,k,spM K n d (d9 n N m)]) (hd:d=.F\/d=.V) (hr:Room k X.A) (hg:Gl X x) (hm:X.mg x=some [ZE,f]) (hk:PySem.W.keepIn X.K [ZE,f]=true) (T:Binds X.K fd ps []) (ha:PA X [TC] (tA K EX .B I)) (Ue:[Z08]) (he:[Z0O]) (O:[XXa,[rd,pos,X.env]]):
  [ZR,[SY,[YD,x,p],[TC]],d,bA (calm (d9 n N m)) I]:=
 [TD,P1 (F.imp λ_ _ _ _ q=>spM.calm q) hr hg hm hk T .nil ee ha Ue he O,GZ hd (λws h=>bX ws h) q]
def K4 {P}{w}{K}{mg}{base}{N}{qual}{scope}{I}{cd}{A}{outer:List Env}{s0}{H0}{E}{d}{e}{es:ZX}{pos}{O:Xal}{k}{f}{fd}{ps}{x}{p}{n N'}{m}(F:[Z0l,k,spR K n d (d9 n N' m)]) (hd:d=.F\/d=.V) (hr:Room k [Z0D].A) (hg:Gl [Z0D] x) (hm:mg x=some [ZE,f]) (hk:PySem.W.keepIn K [ZE,f]=true) (hb:Binds K fd ps []) (ha:PA [Z0D] [TC] (tA K (XE1 K E) .B O)) (Ue:[Z08]) (he:[XXa,starEach [TC] [SB]=(false,eval e [SB])::starEach es [SB]]) (T:[XXa,[rd,pos,[SB]]]):
  PE [Z0D] [SY,[YD,x,p],[TC]] (tM K (XE1 K E) d (bA (d9 n N' m) O)):=
 [TD,P1 F hr hg hm hk hb .nil kY ha Ue he T,qY hd (λws h=>bX ws h) q]
def Ev {P}{w}{K}{mg}{base}{N}{qual}{scope}{I}{cd}{A}{outer:List Env}{s0}{H0}{E}{d}{e}{es:ZX}{pos}{mr:Xal}{k}{C f}{fd}{ps}{O}{np cp}(M:XMk K C f) (F:FnOk P w K mg base CX0 k f fd ps (gy C)) (hr:Room (k+1) [Z0D].A) (hg:Gl [Z0D] O) (hm:mg O=some [ZE,C]) (hc:[Z0C,O,C]) (hb:Binds K fd ps []) (ha:PA [Z0D] [TC] (tA K (XE1 K E) .B mr)) (T:[XXb,ps.length<=1000]) (Ue:[Z0f,O]) (he:[XXa,starEach [TC] [SB]=(false,eval e [SB])::starEach es [SB]]) (TY:[XXa,[rd,cp,[SB]]]):
  PS [Z0D] (.Raise [ZT,.Call [YD,O,np] [TC] [] cp] none pos) (tSt K (XE1 K E) d (gC O mr)):=
 [TD,vB M F hr hg hm hb T ha Ue he TY,GN hc q]
def FQ {P}{w}{K}{mg}{base}{x qual}{st}{f C}{fd}{p1 p2 O pos}(F:Fun K x qual st f fd) (S:K9 ["self","at"] ["self","at"] (d8 st)) (c:BJ K C "at") (hb:z7 st = [.Assign [.Attribute [YD,"self",p1] "at" p2] [YD,"at",O] pos]) (hs:[XXd,∀env,swapsWithSole [.Attribute [YD,"self",p1] "at" p2] [YD,"at",O] pos.line env=Pure.pure false]) (I:Vis (d8 st) "self" := by show Or.inl rfl) (Yw:Vis (d8 st) "at" := by show Or.inl rfl):FnOk P w K mg base CX0 1 f fd ["self","at"] (gy C):=by
 refine F.ok S (λvs H Q E h=>?_) (λUc A outer s H vs Q E hr h=>?_)
 .obtain ⟨_,_,_,_,rfl,_⟩:=h;rfl
 .rw [hb]
  obtain ⟨a,T,ws,i,rfl,h1,h2,h3,h4,q⟩:=h;refine [WH,bw (ED c (x9 (i:=1) rfl Yw Xaa Xaa) (x9 (i:=0) rfl I Xaa Xaa) (hs _)),?_];show ⟨_,rfl,_,rfl,a,T,ws,rfl,h1,h2,h3,h4,λd hd=>q d hd⟩
end TP
namespace TP
open PySem L2
def big8:Int:=2^2000
def Dh (_ j:Int):Prop:=0<j/\j<big8
instance (i j:Int):Decidable (Dh i j):=by unfold Dh;infer_instance
def Dg (_ j:Int):Prop:=j≠0/\j.natAbs<2^8999
instance (i j:Int):Decidable (Dg i j):=by unfold Dg;infer_instance
def CW (_ j:Int):Prop:=j≠0
instance (i j:Int):Decidable (CW i j):=by unfold CW;infer_instance
end TP
namespace HT
open PySem PySem.Spec PyProof.Rows PySem.W
end HT
namespace TP
open PySem L2
section
open PySem.W PyProof.Rows
end
end TP
namespace L2
open PySem PySem.Spec PyProof.Rows
end L2
namespace TP
open PySem L2
end TP
namespace L2
open PySem PySem.Spec PyProof.Rows
end L2
namespace TP
open PySem L2
end TP
namespace L2
open PySem PySem.Spec PyProof.Rows
def Qr:W5 (CXW X.prog X.w) (C3 X E cs cl N' ex s H) E:=
 λpins a H1 s1 e s' I q=>⟨pins,a,H1,s1,I.xe,q⟩
def xy (M:Model) (A:Around) (E:YJ) (env:Env) (Q:YJ) (I:Value) (C:Addr) (r:Result) (s':Shared):Prop:=
 match r with
 | .ok _=>∃m,s'.heap.Ns C m/\∀h',Heap.SameBut C s'.heap h'->Q I [To,s',h']
 | .error x=>∃m,s'.heap.Ns C m/\∀h',Heap.SameBut C s'.heap h'->wpAny M A (PySem.passOn "comprehension.variables-let-go" x env:Sem Value) (λ_ _=>False) E [To,s',h']
def Rk (a6:clausesOf e=g::gs) (hs:∀x,foldedSetIterable g.iter env x=pure x) (UA:closureFor scope env=pure cl) (Ve:scope.kind=.function) (I:∀x∈scope.names,x.2=.local->scope.names.lookup x.1=some .local) (h:wpAny M A first (λx a5=>wpAny M A (pyIter x) (λit T=>wpAny M A Vs (λO a3=>
   wpAny M A (newFunctionEnv scope env.globals cl [] env.qual none .none [ZT,env]) (λcenv a4=>
    cenv.frame=env.frame/\codeAny M A (.compStart e 0 it O { cenv with scope:=relabel scope env }) (xy M A E env Q O cenv.locals) a4) E a3) E T) E a5) E s):
  wpAny M A (comprehension e scope env pos Vs false first none) Q E s:=by
 unfold comprehension;rw[UA,a6];refine qA0 (thn h λx s1 h1=>qA0 (qL8 (qA0 (qP9 (hs x) (qA0 (qK6 (thn h1 λit s2 h2=>?_)))))));refine wpAny_standIf (qA0 (thn h2 λO s3 h3=>qA0 (qK4 (qA0 (thn h3 λcenv s4 h4=>?_)))));obtain ⟨UR,h4⟩:=h4;have hv:∀x∈(scope.names.filter λx=>(x.2 == .local||x.2 == .cell)&&x.1 != (".0" : Str)).reverse,x.2=_->Env.kindOf { cenv with scope:=relabel scope env } x.1=_:=λx hx hl=>
  lookup_relabel_local (I x (qG7.mp (List.mem_reverse.mp hx)).1 hl)
 refine qK6 (qA0 (qM4 (qK6 (wpAny_run (qL6 h4 λr s' hr=>?_)))));cases r with
 | ok f=>
  obtain ⟨m,hn,hr⟩:=hr;show qA0 (qK6 (wpAny_comp_letGo Ve _ s' m hv hn λh' m' _ XS=>qK4 (hr h' XS)))
 | error x=>
  obtain ⟨m,hn,hr⟩:=hr;refine qA0 (qK6 (wpAny_comp_letGo (cenv:={ cenv with scope:=relabel scope env }) Ve _ s' m hv hn λh' m' _ XS=>?_));have e:(PySem.passOn "comprehension.variables-let-go" x { cenv with scope:=relabel scope env }:Sem Value)=PySem.passOn "comprehension.variables-let-go" x env:=by
   unfold PySem.passOn;rw[show ({ cenv with scope:=relabel scope env }:Env).frame=env.frame from UR]
  change wpAny M A (PySem.passOn "comprehension.variables-let-go" x { cenv with scope:=relabel scope env }:Sem Value) _ _ _;rw[e];show qK9 (hr h' XS) (λ_ _ f=>f.elim) λ_ _ y=>y
def Un.fly' {B:Heap}(u:Un fs [] H H' h0 h) (st:B.StaysIn h) (O:B.StaysIn h') (up:∀b∈fs,∀o,[TN,h.get?]->(∀vs,o.data≠.fields vs)->∃sl,h'.get? b=some { o with slots:=sl }) (all:∀b o,[TN,h0.get?]->b∉fs->∃o',B.get? b=some o') (fr:∀b∈fs,∃o,[TN,h.get?]/\∀vs,o.data≠.fields vs):Un fs [] H H' h0 h' where
 keep b o q n I hx:=by
  have t:=u.keep b o q n I hx;obtain ⟨o',y⟩:=all b o q I;have z:=st b o' y;rw[t]at z;cases z;show O b _ y
 slot b o q n I hx:=by
  obtain ⟨sl,e⟩:=u.slot b o q n I hx
  grind
 free:=u.free
 there b o q hx:=by
  by_cases I:b∈fs
  .grind
  .obtain ⟨o',y⟩:=all b o q I;show ⟨_,O b _ y⟩
 tups:=u.tups
 frzs:=u.frzs
 tbls:=u.tbls
def FunFrames.but {h h':Heap}:∀{l},C∉frs l->(∀b o,b≠C->[TN,h.get?]->[TN,h'.get?])->(∀L∈frs l,B.get? L=none)->h.FunFrames base l->h'.FunFrames B l
 | [],_,_,_,_=>trivial
 | env::l,hC,k,n,⟨hk,⟨L,o,hf,_,ho,hd⟩,r⟩=>by
  have e:frs (env::l)=L::frs l:=by grind[frs]
  rw[e]at hC n;show ⟨hk,⟨L,o,hf,n L qB3,k L o (λz=>hC (z ▸ qB3)) ho,hd⟩,FunFrames.but (λz=>hC (qA5 _ z)) k (λI z=>n I (qA5 _ z)) r⟩
def Bb {K}{c:St}(I:Inv [Z0Y] pins c H1 s1) (hn:s1.heap.Ns C m) (hC:H1 C=none) (VE:C∉frs ([Z0B]::outer)) (h0:s.heap.get? C=none) (q:CXW P w ([Z0B]::outer) H1 s1 E e s2):
  notedBy (model P w) (A.deeper [Z0i]) [Z0i] (λx s'=>∃m,s'.heap.Ns C m/\∀h',Heap.SameBut C s'.heap h' ->
   wpAny (model P w) (A.deeper [Z0i]) (PySem.passOn "comprehension.variables-let-go" x [Z0i]:Sem Value) (λ_ _=>False) [Z0Y].xe [To,s',h']) e s2:=by
 obtain ⟨a,B,H',cls,od,rfl,F,hE⟩:=q;have I2:=I.call' F.os F.un F.hok F.bare (λb z=>absurd z Xaf);obtain ⟨a0,fl⟩:=F.fl;obtain ⟨oC,es,ep,eC,dC,rC⟩:=id hn;obtain ⟨oB,bC⟩:=F.all C oC eC VE;have c2:=F.un.keep C oC eC hC VE Xaf;have VU:s2.heap.Ns C m:=⟨oC,es,ep,c2,dC,rC⟩;have fC:=F.un.free C oC eC hC Xaf;have Ys:a≠C:=by rintro rfl;rw[fl.2.1]at bC;cases bC
 refine qK9 (KD.any (KD.noteFrame ..) (wpAny_looks_onW (Q:=λ_ UF=>∃h',UF=[To,s2,h']/\B.HeldW _ a cls a0 _ h'/\s2.heap.UpToSlots h') I.ok.frames rfl fl λh' f u=>⟨h',rfl,f,u⟩)) (λ_ UF a4=>?_) λ_ _ x=>x;obtain ⟨⟨h',e,hd,u⟩,d⟩:=a4;subst e;refine ⟨m,u.ns VU,λh3 sb=>?_⟩;have kp:=λb o O q=>sb.extBut b o O q;obtain ⟨k1,k2,k3,oe,vs,T,oT,ts,g1,g2,g3,g4,g5,g6,g7,g8,g9⟩:=hd;have nT:T≠C:=ZU;have e1:=kp a oe Ys g1;have e7:=kp T oT nT g7;have nB:∀L∈frs ([Z0B]::outer),(cut B [C]).get? L=none:=λL hL=>by
  rw[U5 (by grind)];show (k3.mem hL).1
 have XC:(cut B [C]).StaysIn h3:=λb o q=>by
  by_cases O:b=C
  .grind[dG]
  .show kp b o O (k1 b o (aE b o q))
 have held:(cut B [C]).HeldW ([Z0B]::outer) a cls a0 s.heap.objs.size h3:=
  ⟨XC,[ZO,U5 (by simpa using Ys),k2],FunFrames.but VE kp nB k3,oe,vs,T,oT,ts,e1,g2,g3,g4,[ZO,U5 (by simpa using nT),g5],g6,e7,g8,g9⟩
 unfold PySem.passOn;refine qA0 (qK8 e1 g3 g4 ?_);rw[qA9 (by intro z;cases z)];refine qA0 (kj ⟨a,oe,vs,rfl,e1,g3,g4⟩ e7 g8 g9 ?_);rw[show h3.update T (Obj.mapFields (·.setIfInBounds 3 ([Z0i].frame.elim .none λf=>rawInt f)))=h3 from uD e7 (kd g8 g9)];refine wpAny_throw ?_
 change wpAny _ _ (leaving _ _) _ _ _;unfold leaving;refine qA0 (wpAny_noteFrame_againW rfl held.2.2.2 ?_);refine qK9 (KD.any (KD.setFlight _ _) (wpAny_landsW (Q:=λ_ UF=>∃h4,UF=[To,s2,h4]/\(cut B [C]).FlyingW ([Z0B]::outer) a cls a0 h4/\h3.UpToSlots h4) held λh4 f u=>⟨h4,rfl,f,u⟩)) (λ_ UF a3=>?_) λ_ _ x=>x;obtain ⟨⟨h4,e,f4,u4⟩,d4⟩:=a3;subst e;obtain ⟨j1,j2,⟨_,_,j3⟩,j4⟩:=f4;have a6:∀b∈frs outer,b∈frs ([Z0B]::outer):=λb O=>qA5 _ O;have inC:∀b o,[TN,H']->∃ob,(cut B [C]).get? b=some ob:=λb o q=>by
  obtain ⟨ob,z⟩:=F.inB b o q
  grind[U5]
 have st2:(cut B [C]).StaysIn s2.heap:=λb o q=>fl.1 b o (aE b o q);have all:∀b o,([SR])->b∉frs outer->∃o',(cut B [C]).get? b=some o':=λb o q O=>by
  obtain ⟨o1,q1⟩:=I.base.there b o q (by simp [i4]);obtain ⟨o',z⟩:=F.all b o1 q1 (du q O)
  grind[U5]
 refine ⟨a,cut B [C],H',cls,od,rfl,⟨⟨a0,j1,j2,j3,j4⟩,?_,I2.os,I2.bare,?_,HOk.fly I2.hok st2 j1 inC,inC,all⟩,hE⟩
 .obtain ⟨o,e,q⟩:=F.dict;obtain ⟨o',e',_,q'⟩:=d a o e;obtain ⟨a7,a8,_,a5⟩:=d4 a o' (kp a o' Ys e');show ⟨a7,a8,a5.trans (q'.trans q)⟩
 .refine Un.fly' I2.base st2 j1 (λb O o q nd=>?_) all (tE I2.funs);obtain ⟨sl,z⟩:=u b o q nd;obtain ⟨Wy,z'⟩:=u4 b _ (kp b _ (λz=>VE (z ▸ a6 b O)) z) nd;show ⟨Wy,z'⟩
def zT {P}{w}{K}{mg}{base}{N}{qual}{scope}{f}{cd}{A}{outer}{s0}{H0}{E}
  {cs}{N'}{tg iter T}{a3}{wi}{g}{tc}{te}{pos}X (a4:X=i4 (CXW P w) P w K mg base N qual scope f cd A outer s0 H0 E) (S:i8 X.env.scope cs X.N N') (hc:X.calm=true) (hi:PI X tg iter wi)
  (hg:[Sz,PG [rj] tg g]) (hk:P7 X.N.length g) (ht:[Sz,PIf [rj] a3 tc]) (he:[Sz,PE (C3 X E cs cl N' ex s H) T te])
  (hs:[Z0h]:=by intro _;rfl):PE X [Z0e,T,a3] (gr N' wi g tc te):=by
 show 7 a;obtain ⟨cl,e,h1,h2,_⟩:=cF _ [] (λx hx hk=>I.ok.has x.1 (S.free x hx hk)) (λ_ _ z=>nomatch z);have UA:closureFor cs X.env=pure cl:=by
  simp only [closureFor];rw[e];rfl
 refine Rk rfl hs UA S.kind S.loc (thn [SI,hi,a] λv s1 q1=>thn q1 λVt s2 q2=>?_);refine ir (R:=_) S hc hg hk ht he h1 h2 q2 (λD C H' s' I' q n f=>?_) λfp s3 H3 I3 VA a6 e s' hx=>?_
 .obtain ⟨m,hn⟩:=n;obtain ⟨f0,f1,f2,f3,f4,f5⟩:=f;show ⟨m,hn,λh' sb=>⟨.ref D,H',I'.turned (λb o hb e=>sb.extBut b o hb e) f0 f1 f3 f4 f5,rfl,q⟩⟩
 .obtain ⟨a5,a7,H1,s1,O,q⟩:=hx;have J1:=I3.call' (ch:=fp) O.os O.base O.hok O.bare λb hb=>by
   obtain ⟨f0,f1,f2,f3,f4,f5⟩:=VA b hb;show ⟨f3,f1,f4,f5⟩
  obtain ⟨m,hn,_⟩:=O.loc;have fr:=O.free;subst a4;have big:∀{o:Obj},s3.heap.get? _=some o->False:=λ{o} z=>absurd (qB2 z) (qE7 _);refine Bb J1 hn fr (λz=>?_) ?_ q
  .obtain ⟨_,o,eo,_⟩:=I3.stack.mem z;show big eo
  .cases z:s0.heap.get? _ with
   |none=>rfl
   | some o=>
    obtain ⟨o',z'⟩:=I3.base.there _ o z (by simp [i4]);omega
end L2
namespace TP
open PySem L2
open PyProof.Rows (envOfC)
def elX (mg:Xan) (me:Xad) (a:Rho) (w:W):R W:=match mg w a with
 |none=>.stuck
 |some I=>me I
def K6 (f:W->R W):List W->R Xag
 | []=>.ok []
 |w::ws=>f w>>=λy=>K6 f ws>>=λys=>.ok (y::ys)
def S3 (N':Nat) (mg:Xan) (me:Xad) (ws:Xag) (a:Rho):R W:=
 [TJ,ws.length<=1000,K6 (elX mg me (a++[Sx,N',a.length])) ws>>=λys=>.ok (.lst ys)]
def lH (n:Nat)(I:Xal)(mg:Xan)(me:Xad):Xad:=λa=>I a>>=λws=>S3 n mg me ws a
def aQ:∀(us ws:Xag),K6 f (us++ws)=K6 f us>>=λys=>K6 f ws>>=λzs=>.ok (ys++zs)
 | [],ws=>by
  change K6 f ws=_;cases K6 f ws <;> rfl
 | u::us,ws=>by
  change (f u>>=λy=>K6 f (us++ws)>>=_)=(f u>>=_)>>=_;rw[aQ];cases f u with
  |stuck=>rfl
  |ex e=>rfl
  | ok y=>
   cases K6 f us with
   |stuck=>rfl
   |ex e=>rfl
   |ok ys=>cases K6 f ws <;> rfl
def Fq (hi:i<ws.length) (h:K6 f (ws.take i)=.ok ys):K6 f ws=f ws[i]>>=λy=>K6 f (ws.drop (i+1))>>=λzs=>.ok (ys++y::zs):=by
 have e:ws=ws.take i++ws[i]::ws.drop (i+1):=by simp_all
 conv=>lhs;rw[e]
 rw[aQ,h]
 change ((_>>=λy=>K6 f (ws.drop (i+1))>>=λys=>.ok (y::ys))>>=λzs=>.ok (ys++zs))=_;cases f ws[i] with
 |stuck=>rfl
 |ex e=>rfl
 |ok y=>cases K6 f (ws.drop (i+1)) <;> rfl
def wf {ws:Xag}(hi:i<ws.length) (h:K6 f (ws.take i)=.ok ys) (hz:f ws[i]=.ok z):K6 f (ws.take (i+1))=.ok (ys ++ [z]):=by
 rw[qN9,aQ,h]
 change ((f ws[i]>>=λy=>R.ok [y])>>=λzs=>.ok (ys++zs))=_;rw[hz];rfl
def GX (hg:Gt K e g mg) (h:[Tw,.F,lH N'.length mi mg me,c]):
  gr N' (tIt K EX false e mi) g (tT K EX yes) (tM K EX .V me) c H Q:=by
 show 4 a ?_;replace o:[SO,_,_>>=_]:=o
 revert o
 cases mi a with
 |stuck=>show id
 |ex x=>show id
 | ok ws=>
  intro o J G1 H1 e1 T Dd hD;have I1:=I.ext e1;replace o:[SO,_,S3 _ mg me ws a]:=o
  unfold S3 at o;by_cases hlen:ws.length<=1000
  .rw [qA3 hlen]at o
   have T':X3 K e H0 H1 G1 J ws:=by
    omega
   generalize a6:a++_=a3 at o
   refine ⟨λi m H2=>m=ws.length-i/\i<=ws.length/\Same H1 H2/\∃vs ys,H2 Dd=some [YM,vs]/\vs.length<=i/\K6 (elX mg me a3) (ws.take i)=.ok ys/\Reps K (rest G1 H1 Dd H2) vs ys,
    ⟨_,rfl,qE1 _,λb u q=>[Tr,c0],[],[],d5,qA6 _,rfl,.nil⟩,?_⟩
   rintro i m H2 ⟨rfl,hi,s2,vs,ys,a4,a7,hm,r2⟩;by_cases Ug:i<ws.length
   .refine .inr ⟨T'.go i H2 Ug s2,λx H3 y=>?_⟩;obtain ⟨sG,I2⟩:=I1.rest (Dd:=Dd) hD s2;have a5:=I2.inner (N':=N');obtain ⟨G3,e3,m3⟩:=T'.yld i H2 x H3 ws[i] Xaf s2 y _ _ _ a5 sG;rw[Fq Ug hm]at o;rw[a6]at a5;have Wt:elX mg me a3 ws[i]=match mg ws[i] a3 with
     |none=>.stuck
     |some O=>me O:=rfl
    cases q:mg ws[i] a3 with
    |none=>rw[q]at Wt;rw[Wt]at o;show 2
    | some O=>
     rw[q]at Wt;dsimp only at Wt;refine hg H0 H2 G3 _ _ H3 x _ O _ (a5.ext e3) m3 q λa8 I4=>⟨H0,G3,O,I4,?_⟩;intro b' G5 H5 e5 eb;cases eb;rw[qA3 rfl];refine ⟨H0,G5,O,I4.ext e5,?_⟩;cases Vy:me O with
     |stuck=>rw[Wt,Vy]at o;show 2
     | ex x=>
      rw[Wt,Vy]at o;intro H' s';show o H' ((e1.hh.trans s2).trans ((e3.hh.trans e5.hh).trans s'))
     | ok z=>
      intro yv G6 H6 e6 m6;have Xu:Ext (TP.rest G1 H1 Dd H2) H2 G6 H6:=(e3.trans e5).trans e6;have s6:Same H2 H6:=Xu.hh;refine ⟨vs,s6 _ _ a4,qG6 a7 (qB6 (by omega:i<1000) Xaa),ws.length-(i+1),ZU,rfl,Ug,λb u q=>[ZO,c0 (j6 q hD),s6 b u (s2 b u q)],vs ++ [yv],ys ++ [z],d5,by rw[qC4];simp;omega,wf Ug hm (Wt.trans Vy),?_⟩;have k1:Same (TP.rest G1 H1 Dd H2) (TP.rest G1 H1 Dd (upd H6 Dd [YM,vs ++ [yv]])):=V9 λb o hb q=>[ZO,c0 hb,s6 b o q]
      have k2:Same G6 (TP.rest G1 H1 Dd (upd H6 Dd [YM,vs ++ [yv]])):=(mq ⟨vs,a4⟩ s2 Xu).trans (V9 λb o hb q=>[ZO,c0 hb,q]);show (r2.same k1).snoc (Rep.same k2 m6)
   .have ei:i=ws.length:=ZU;subst ei;refine .inl ⟨T'.stop H2 s2,?_⟩;rw[qK1]at hm;rw[hm]at o;obtain ⟨sG,I2⟩:=I1.rest (Dd:=Dd) hD s2;refine o _ (TP.rest G1 H1 Dd H2) H2 ⟨e1.gg.trans sG,e1.hh.trans s2,I2.gh,λb u q l g=>A4 (.inr ⟨u,e1.hh b u q,l,e1.keep b u q l g⟩)⟩ ⟨Dd,vs,rfl,a4,A4 (.inl rfl),e1.hh.free hD,r2⟩
  show 12 hlen
def Y6 (c:Str)(I:Xal):Xae:=λa=>I a>>=λws=>[TJ,ws.length<=1000,.ex ⟨c,none⟩]
def Bx (hc:[Z0C,c,C]) (h:tSt K (XE1 K E) d (Y6 c mr) D a H):ft C E (tA K (XE1 K E) .B mr) D a H:=by
 show 4 b (OutS.bind I o [Tz,xs,ws,T]);have O:=I.ext T;by_cases hl:ws.length<=1000
 .rw [qA3 hl]at o1
  show ⟨[ZO,[ZM,MdA.whole O m1],hl],o1 _ O.hh C none hc rfl⟩
 .rw[qA9 hl]at o1;show o1.elim
def E6 {P}{w}{K}{mg}{base}{N}{qual}{scope}{I}{cd}{A}{outer:List Env}{s0}{H0}{E}{d}{e}{es:ZX}{pos}{mr:Xal}{C}{O}{np T}(M:aW K C) (hg:Gl [Z0D] O) (hm:mg O=some [ZE,C]) (hc:[Z0C,O,C]) (ha:PA [Z0D] [TC] (tA K (XE1 K E) .B mr)) (Ue:[Z0f,O]) (he:[XXa,starEach [TC] [SB]=(false,eval e [SB])::starEach es [SB]]) (TY:[XXa,[rd,T,[SB]]]):
  PS [Z0D] (.Raise [ZT,.Call [YD,O,np] [TC] [] T] none pos) (tSt K (XE1 K E) d (Y6 O mr)):=
 [TD,gI M hg hm ha Ue he TY,Bx hc q]
def Ez {P}{w}{K}{mg}{base}{N}{qual}{scope}{I}{cd}{A}{outer}{s0}{H0}{E}{pos}{cs}{N'}{tg iter O}{dd}{g}{T}{mi}{ma:Xad}(S:i8 [Z0D].env.scope cs N N') (hi:PI [Z0D] tg iter (tIt K (XE1 K E) false dd mi)) (hg:[Sz,PG (j5 [Z0D] cs cl N' ex s H) tg g]) (UW:Gt K dd g T) (hk:P7 N.length g) (he:[Sz,PE (C3 [Z0D] E cs cl N' ex s H) O (tM K (XE1 K E) .V ma)]) (hs:[XXd,∀x,foldedSetIterable iter [Z0D].env x=pure x]):PE [Z0D] [Z0e,O,[]] (tM K (XE1 K E) .F (lH N'.length mi T ma)):=
 [TD,zT _ rfl S rfl hi hg hk [Tb,D8] he hs,GX UW q]
def zG {P}{w}{K}{mg}{base}{N}{qual}{scope}{O}{cd}{A}{outer:List Env}{s0}{H0}{E}{d}{e}{es:ZX}{pos}{T:Xal}{cs}{cl:List (Str×Addr)}{I}{ex:List Addr}{s1}{H1}{k}{f}{fd}{ps}{x}{p}{n N'}{m}(F:[Z0l,k,spR K n d (d9 n N' m)]) (hd:d=.F\/d=.V) (hr:Room k (i4 (CXW P w) P w K mg base N qual scope O cd A outer s0 H0 E).A) (hg:Gl (C3 (i4 (CXW P w) P w K mg base N qual scope O cd A outer s0 H0 E) E cs cl I ex s1 H1) x) (hm:mg x=some [ZE,f]) (hk:PySem.W.keepIn K [ZE,f]=true) (hb:Binds K fd ps []) (ha:PA (C3 (i4 (CXW P w) P w K mg base N qual scope O cd A outer s0 H0 E) E cs cl I ex s1 H1) [TC] (tA K (XE1 K E) .B T)) (Ue:[Z08]) (he:[XXa,starEach [TC] [Z15]=(false,eval e [Z15])::starEach es [Z15]]) (TY:[XXa,[rd,pos,[Z15]]]):
  PE (C3 (i4 (CXW P w) P w K mg base N qual scope O cd A outer s0 H0 E) E cs cl I ex s1 H1) [SY,[YD,x,p],[TC]] (tM K (XE1 K E) d (bA (d9 n N' m) T)):=
 [TD,P1 (X:=C3 _ E cs cl I ex s1 H1) F hr hg hm hk hb .nil Qr ha Ue he TY,qY hd (λws h=>bX ws h) q]
end TP
namespace L2
open PySem PySem.Spec PyProof.Rows
end L2
namespace TP
open PySem L2
def bFs (y:Str) (ma:Xad):Xad:=λa=>ma a>>=λw=>match w with
 | .str x=>[TJ,x.length<=1000/\y.length<=1000,.ok (.str (Str.empty++x++y))]
 |_=>.stuck
def bDct (c:Str) (I mv:Xad):Xad:=λa=>I a>>=λw=>mv a>>=λ_=>match w with
 | .int _=>.ok (.exc c none)
 |_=>.stuck
end TP
namespace L2
open PySem PySem.Spec PyProof.Rows
end L2
namespace TP
open PySem L2
end TP
namespace L2
open PySem PySem.Spec PyProof.Rows
def Di {K:Frag}(lk:K.lookup C=some (excClassObj nm q C N bs bm Up sn sub ab col dd k0 k1 k2 k3 k5 "ValueError.__new__")) (I:PySem.W.excIn K C P9 "ValueError.__new__" = true) (ty:[Z0t]) (be:[Z0k]) (kp:PySem.W.keepIn K [ZE,C]=true) (ob:PySem.W.mroIn K C (.type "object")=some true) (ga:[Z0z]) (gh:[Z10]) (cl:PySem.W.findIn K [ZE,C] (Str.ofString "__class__")=some [ck,"object.__class__"]) (gt:PySem.W.specialIn K (.builtin "object.__class__") (Str.ofString "__get__")=some [ck,"getset_descriptor.__get__"]) (tk:PySem.W.takesIn K (.builtin "object.__class__")=some true) (O:PySem.W.subIn K [ZE,C] [ZE,C]=some true):aW K C/\XIs K C:=by
 unfold PySem.W.excIn at I;rw[lk]at I;simp only [qE6,qR1]at I;show ⟨Dj lk I.1.1.2 I.1.2 I.2 ty be kp,⟨ga,gh,be,ob,cl,gt,tk,hU (xA lk) ty O⟩⟩
end L2
namespace L2
open PySem PySem.Spec PyProof.Rows Builtin Builtin.Str
def jJ:∀(ts:ZK) k,Vals (ts.map V.str) (strsFrom k ts)
 | [],k=>.nil
 |x::ts,k=>.cons [Tq] (jJ ts _)
def nr {a:St}(I:[UE]) (r:Vals ys its) (hz:[Te,ys.length]) (q:[Z0d,[YM,ys]]):
  EP X pins a Q [ZE,s.heap.objs.size] { s with toks:=k,heap:=s.heap.push { cls:=.type "list",data:=.seq its.toArray } }:=
 ⟨.ref _,_,I.laid (o:=.lst ys) (λb ob e=>qA2 _ e) (qA6 _) ⟨hz,its,0,r,qB1 _ rfl⟩,rfl,q _ (I.hok.fresh (qA6 _))⟩
def rSplit:V->List V->Hp->VK->Prop:=λx xs H Q=>∃a b,x=.str a/\xs = [.str b]/\(b.length == 0)=false/\[Te,a.length]/\[Te,[ZM,Txt.split a b]]/\[Z0d,[YM,(Txt.split a b).map V.str]]
def Ah:MtR X "str.split" rSplit:=by
 intro pins s c H x xs v us Q I rx rs h;obtain ⟨a,b,rfl,rfl,T,ha,hn,q⟩:=h;show 1 t rx;obtain ⟨u,rfl,t',rfl⟩:=vals1 rs;have one:Txt.split a b = [a]->_:=λe=>by
  rw[e]at q;show nr (k:=s.toks) (ys:=[.str a]) (its:=[.str a t]) I (.cons [Tq] .nil) (by change [Te,1];decide) q
 cases O:_||_
 .cases hf:(occurrences a b 0 _ _).isEmpty
  .have e:Txt.split a b=_:=(qA9 (qP3 O)).trans (qA9 (qP3 hf));rw[e]at hn q;refine qM2 qS1 (qN4 ..) qR0 (qQ4 ..) (meets_str_split_sep a b t t' O T hf ha hn) ?_;show nr I (jJ ..) ([ZO,qA1,hn]) q
  .show qM2 qS1 (qN4 ..) qR0 (qQ4 ..) (meets_str_split_not_found a b t t' O T hf) (one ((qA9 (qP3 O)).trans (qA3 hf)))
 .show qM2 qS1 (qN4 ..) qR0 (qQ4 ..) (meets_str_split_cannot_occur a b t t' O) (one (qA3 O))
def pX:∀{ts:ZK}{its:ZW},Vals (ts.map V.str) its->∃l:List (Str×Tok),its=strValues l/\l.map (·.1)=ts
 | [],_,h=>by cases h;show ⟨[],rfl,rfl⟩
 | x::ts,_,h=>by
  cases h with
  | cons O I=>
   show 1 t O;show 3 l rfl (pX I);show ⟨(x,t)::l,rfl,rfl⟩
def rJoin (K:Frag):V->List V->Hp->VK->Prop:=λx xs H Q=>∃a p ts,x=.str a/\xs = [.ref p]/\SqL K H p (ts.map V.str)/\JoinOk a ts=true/\Q (.str (Txt.join a ts)) H
def Ff:MtR X "str.join" (rJoin X.K):=by
 intro pins s b H x xs v us Q I O rs h;obtain ⟨a,p,ts,rfl,rfl,hp,hok,q⟩:=h;show 1 t O;obtain ⟨u,rfl,r⟩:=vals1 rs;cases r;obtain ⟨its,r,pl,hz⟩:=I.list hp;obtain ⟨l,rfl,hl⟩:=pX r;show SC.join pl.isList hl hok λt' k=>⟨.str _,H,I.tok k,[Tq],q⟩
def rSlS:[Z0p]:=λx lo hi H Q=>∃a,x=.str a/\[Te,a.length]/\Q (.str (Txt.slice a lo hi)) H
def IH:SlR X rSlS:=by
 intro pins s b H x v vl T lo hi sl Q I O hs pl pu h;obtain ⟨a,rfl,ha,q⟩:=h;show 1 t O;refine ⟨"str",_,F.slot_str_getitem.lookup,qN4 ..,?_⟩;obtain ⟨l,el,rfl⟩:∃l:_,vl=partValue l/\lo=l.map (·.1):=by cases pl with
  |none=>show ⟨none,rfl,rfl⟩
  |int=>show ⟨some (_,_),rfl,rfl⟩
 obtain ⟨u,eu,rfl⟩:∃l:_,T=partValue l/\hi=l.map (·.1):=by cases pu with
  |none=>show ⟨none,rfl,rfl⟩
  |int=>show ⟨some (_,_),rfl,rfl⟩
 subst el eu;show wpAny_getItem_str_slice (u:=u) (st:=none) hs rfl (post_val_or_str ⟨qC8 (Txt.slice_le a ..) ha,λt' k=>⟨.str _,H,I.tok k,[Tq],q⟩⟩)
end L2
namespace L2
open PySem PySem.Spec PyProof.Rows
abbrev TPt:=St->Hp->([Ts,Str])->Prop
def PPt (X:Cx) (e:Expr) (tp:TPt):Prop:=
 ∀(pins:ZQ) (s:Shared) (a:St) (H:Hp) (Q:[Ts,Str]),([UE])->tp a H Q->[yc,[Sy,e],λv s1=>∃y t H1,v=.str y t/\[YR,a,H1,s1]/\Q y H1]
def gk:List TPt->Str->TE
 | [],out=>λa H Q=>out.length<=sizeLine/\Q (.str out) H
 |p::ps,out=>λa H Q=>p a H λy H1=>[ZM,out++y]<=sizeLine/\gk ps (out++y) a H1 Q
inductive jI (X:Cx):List Expr->List TPt->Prop where
 |nil:jI X [] []
 |cons {e:Expr}{es:ZX}{p:TPt}{ps:List TPt}:PPt X e p->jI X es ps->jI X (e::es) (p::ps)
def Iu (I:TE):TPt:=λa H Q=>I a H λv H1=>(∃x,v=.str x/\[Te,x.length]/\Q x H1)\/∃i,v=.int i/\i.natAbs.log2<1920/\Q (Str.ofString (toString i)) H1
def Ki {j}:PPt X (.Constant (.str y) j p) (λ_ H Q=>Q y H):=λpins s a H Q I h=>Calls.Constant_str ⟨y,_,H,rfl,I.tok _,h⟩
def Kh (he:PE X e te):PPt X (.FormattedValue e (-1) none p) (Iu te):=by
 show 7 a;refine FormattedValue_plain (thn [SI,he,a] λu s1 O=>?_);obtain ⟨v,H1,T,r,q⟩:=O;rcases q with ⟨x,rfl,hx,q⟩|⟨i,rfl,hi,q⟩
 .show 1 t r;show formatField_str (λt' tk=>⟨x,t',H1,rfl,T.tok tk,q⟩) hx
 .show 1 t r;show formatField_int_small hi ⟨_,_,H1,rfl,T.tok _,q⟩
def qp:∀{es:ZX}{ps},jI X es ps->∀ out pins s (a:St) H Q,([UE])->gk ps out a H Q->[yc,joinParts out (evalEach es X.env),EP X pins a Q]
 |_,_,.nil,out,pins,s,a,H,Q,I,h=>joinParts_nil ⟨.str out,H,I.tok _,[Tq],h.2⟩ h.1
 | _,_,.cons hp hr,out,pins,s,a,H,Q,I,h=>by
  refine joinParts_cons (qK9 [SI,hp,a] (λv s1 O=>?_) λ_ _ z=>z);obtain ⟨y,t,H1,e,T,hl,q⟩:=O;subst e;show ⟨hl,qp hr _ pins s1 a H1 Q T q⟩
def vL (h:jI X (O::e2::es) ps):PE X (.JoinedStr (O::e2::es) pos) (gk ps Str.empty):=λpins s a H Q I q=>JoinedStr_many (qp h _ pins s a H Q I q)
def xG:C6 X (.type "int") (λxs H Q=>∃x n,xs = [.str x]/\PySem.intText? x=some n/\x.length<=640/\Q (.int n) H):=by
 intro pins s a H xs us Q I r h;obtain ⟨x,n,rfl,hn,hl,q⟩:=h;obtain ⟨u,rfl,t,rfl⟩:=vals1 r;show PySem.W.KIN.call_text hn hl ⟨.int n,H,I.tok _,[Tq],q⟩
def Its (x:Str):It:=⟨λi _=>i<x.cps.size,λi H v H'=>H'=H/\∃c,[ZI,x.cps,c]/\v=.str ⟨#[c]⟩,λi _=>x.cps.size<=i⟩
def yB {K}it x t:Turn P w K tg (Its x) [it] it (λi h=>i<=x.cps.size/\h.IsStrIter it "str_ascii_iterator" x t i) where
 mem:=Xaf
 obj:=λi h st b O=>by
  have e:b=it:=by grind
  obtain ⟨_,o,e,c,d⟩:=st
  grind
 keep:=λi h h' st k=>⟨st.1,by
  obtain ⟨_,o,e,r⟩:=st;show ⟨o,k it Xaf o e,r⟩⟩
 item:=by
  show 19;show 20;have W:=Walks.strAscii (prog:=X.prog) (w:=X.w) (I.ok.hd hc) it x t;refine W.item i s _ _ hg st.2 λv h' tk hv Uo kk=>?_;obtain ⟨c,u,hc,rfl⟩:=hv;have I1:[YR,a,H,[SS,s,h',tk]]:=[Z0o,kk,by grind,T];obtain ⟨o,e,c1,d1⟩:=id Uo;show [WH,rfl,eM e c1 d1 Xaa ⟨.str _,H,I1,⟨u,rfl⟩,⟨rfl,c,hc,rfl⟩,⟨hg,Uo⟩,λb O=>(hf b O).1⟩]
 done:=by
  show 19;show 20;have W:=Walks.strAscii (prog:=X.prog) (w:=X.w) (I.ok.hd hc) it x t;have ei:=Nat.le_antisymm st.1 hg;subst ei;show W.done s _ _ st.2 λh' tk kk=>⟨rfl,[Z0o,kk,by grind,T]⟩
 self:=λA i s Q E st h=>by
  grind[wpAny_pyIter_striter_ascii]
def LY (I:TE):TI:=λa H R=>I a H λv H1=>∃x,v=.str x/\x.cps.all (·<128)=true/\R (Its x) H1
def Kn (hl:PE X l tl):PI X tg l (LY tl):=by
 intro pins s a H R I h;refine thn [SI,hl,a] λv s1 O=>?_;obtain ⟨x,H1,T,r1,q1⟩:=O;obtain ⟨z,rfl,ha,q⟩:=q1;show 1 t r1;refine wpAny_pyIter_ascii ha ?_;refine ⟨s1.heap.objs.size,_,_,_,H1,rfl,T.kept λb o e=>qA2 _ e,yB _ z t,⟨qE1 _,_,qB1 _ rfl,rfl,rfl⟩,λb hb=>?_,q⟩;have e:b=s1.heap.objs.size:=by simpa using hb
 subst e;show T.fpOk (qA6 _) (T.hok.fresh (qA6 _))
def Inv.retrack {d:St}(I:[YR,d,H,s]) (e:H a=some u) (ht:∀xs,u≠.tup xs) (hb:∀ps,u≠.tbl ps) (ho:∀x,u≠.own x) (hf:∀o w,X.H₀ a≠some (.frz o w)) (hu:ObjOk X.prog X.w (upd H a u') s.heap a u'):[YR,d,upd H a u',s]:=by
 have us:∀{b:Addr}{w:HO},b≠a->H b=_->upd H a u' b=some w:=λ{b w} n q=>[ZO,c0 n,q]
 have un:∀{b:Addr},H b=none->upd H a u' b=none:=λ{b} q=>[Tr,c0]
 refine ⟨I.ok,I.os,I.bare,⟨I.base.keep,I.base.slot,λb ob q n hx=>un (I.base.free b ob q n hx),I.base.there,λb xs q=>us (λz=>?_) (I.base.tups b xs q),λb ob w q=>us (λz=>hf ob w (z ▸ q)) (I.base.frzs b ob w q),λb ps q=>?_⟩,I.loc,I.cell,un I.free,λx c q=>un (I.freeC x c q),λp hp=>?_,λb ob q=>?_,I.len⟩
 .have:=I.base.tups b xs q
  grind
 .obtain ⟨more,q'⟩:=I.base.tbls b ps q
  grind
 .obtain ⟨p1,p2,T⟩:=I.pin p hp;show ⟨p1,un p2,T⟩
 .by_cases z:b=a
  .grind[d5]
  .rw [c0 z]at q
   show (I.hok b ob q).stay (λ_ _ _ k=>k) (λc k=>us (λO=>by grind) k) λc xs k=>us (λO=>by grind) k
def Ct {b:St}(I:[YR,b,H,s]) (e:H a=some (.dK kvs)):∀o w,X.H₀ a≠some (.frz o w):=λo w q=>by
 have:=I.base.frzs a o w q
 omega
def Inv.freeze {b:St}(I:[YR,b,H,s]) (e:H a=some (.dK kvs)):∃ob,[YR,b,upd H a (.frz ob (.dK kvs)),s]:=by
 obtain ⟨z,y,vs,r,ob,es,ep,O,T⟩:=I.hok a _ e;show ⟨ob,I.retrack e (λ_ z=>by cases z) (λ_ z=>by cases z) (λ_ z=>by cases z) (Ct I e) ⟨O,z,y,vs,r,ob,es,ep,O,T⟩⟩
def Inv.thaw {b:St}(I:[YR,b,H,s]) (e:H a=some (.frz ob (.dK kvs))) (hf:∀o w,X.H₀ a≠some (.frz o w)):[YR,b,upd H a (.dK kvs),s]:=by
 obtain ⟨h0,z,y,vs,r,k⟩:=I.hok a _ e;show I.retrack e (λ_ z=>by cases z) (λ_ z=>by cases z) (λ_ z=>by cases z) hf ⟨z,y,vs,r,k⟩
def Itd (d:Addr)(o:Obj)(kvs:List (Key×V)):It:=⟨λi H=>H d=some (.frz o (.dK kvs))/\i<kvs.length,λi H v H'=>H'=H/\∃p,[ZI,kvs,p]/\v=kV p.1,λi H=>H d=some (.frz o (.dK kvs))/\kvs.length<=i⟩
def oh (o:Obj):Nat:=match o.data with
 | .dict _ ep=>ep
 |_=>0
def Gy {h:Heap}(hd:h.DictOf (z6 P w) d vs) (O:h.get? d=some o):h.DictAt (z6 P w) d vs (oh o):=by
 obtain ⟨o',es,ep,T,h2,I,h4⟩:=hd;rw[O]at T;cases T;have e:oh o=ep:=by unfold oh;rw[I]
 rw[e];show ⟨o,es,O,h2,I,h4⟩
def wC (h:(z6 P w).is k u=true):RelV (kV k) u:=by
 rcases A8 h with ⟨i,t,rfl,rfl⟩|⟨x,t,rfl,rfl⟩
 .show ⟨t,rfl⟩
 .show ⟨t,rfl⟩
def fO {a:St}(I:[UE]) (e:H d=some (.frz o (.dK kvs))):(d == sysModules)=false/\[Te,kvs.length]/\∃vs,KV kvs vs/\s.heap.DictAt (z6 X.prog X.w) d vs (oh o):=by
 obtain ⟨h0,z,y,vs,r,k⟩:=I.hok d _ e;show ⟨y,z,vs,r,Gy k h0⟩
def uI {K}it d o (kvs:List (Key×V)):Turn P w K tg (Itd d o kvs) [it] it (λi h=>h.IsKeyIter it d i kvs.length (oh o)) where
 mem:=Xaf
 obj:=λi h st b O=>by
  have e:b=it:=by grind
  obtain ⟨o,e,c,d⟩:=st
  grind
 keep:=λi h h' st k=>by
  obtain ⟨o,e,r⟩:=st;show ⟨o,k it Xaf o e,r⟩
 item:=by
  show 19;show 20;obtain ⟨lo,hz,vs,r,da⟩:=fO I hg.1;have hl:=r.length;have hi:i<vs.length:=by rw[<- hl];show hg.2
  have hk:kvs[i].1=vs[i].1:=by
   have:=congrArg (λl=>l[i]?) r.keys
   simpa [hg.2,hi]using this
  rw[hl]at st;refine wpAny_pyNext_dict_item (k:=vs[i].1) (v:=vs[i].2) st da (by simp [hi]) λa3 h' Wp Uo sb=>?_;have I1:[YR,a,H,[To,s,h']]:=I.turned (t':=s.toks) (λb o O e=>(sb.2 b O).trans e) f0 f1 f3 T f5;obtain ⟨oi,e,c1,d1⟩:=id Uo;rw[<- hl]at Uo;show [WH,rfl,eM (s:=[To,s,h']) e c1 d1 Xaa ⟨kV kvs[i].1,H,I1,by rw[hk];show wC Wp,⟨rfl,kvs[i],by simp [hg.2],rfl⟩,Uo,λb O=>(hf b O).1⟩]
 done:=by
  show 19;show 20;obtain ⟨lo,hz,vs,r,da⟩:=fO I hg.1;have hl:kvs.length=vs.length:=r.length;rw[hl]at st;show wpAny_pyNext_dict_end (I.ok.hd hc) st da (qI9 (by rw[<- hl];show hg.2)) λh' eb=>⟨rfl,I.turned (t':=s.toks) (λb o O e=>eb b o O e) f0 f1 f3 T f5⟩
 self:=λA i s Q E st h=>wpAny_pyIter_keyiter st h
def LZ (I:TE):TI:=λa H R=>I a H λv H1=>∃d o kvs,v=.ref d/\H1 d=some (.frz o (.dK kvs))/\R (Itd d o kvs) H1
def Ko (hl:PE X l tl):PI X tg l (LZ tl):=by
 intro pins s a H R I h;refine thn [SI,hl,a] λv s1 O=>?_;obtain ⟨x,H1,T,r1,q1⟩:=O;obtain ⟨d,o,kvs,rfl,hd,q⟩:=q1;cases r1;obtain ⟨lo,hz,vs,r,da⟩:=fO T hd;have hl:=r.length;refine wpAny_pyIter_dict lo da ?_;refine ⟨s1.heap.objs.size,_,_,_,H1,rfl,T.kept λb o e=>qA2 _ e,uI _ d o kvs,⟨_,qB1 _ rfl,rfl,by rw[hl];rfl⟩,λb hb=>?_,q⟩;have e:b=s1.heap.objs.size:=by simpa using hb
 subst e;show T.fpOk (qA6 _) (T.hok.fresh (qA6 _))
def rGet:V->List V->Hp->VK->Prop:=λx xs H Q=>∃d k v kvs,x=.ref d/\xs = [kV k,v]/\Rd H d (.dK kvs)/\Q ((P8 kvs k).getD v) H
def KY:MtR X "dict.get" rGet:=by
 intro pins s a H x xs v us Q I O rs h;obtain ⟨d,k,v0,kvs,rfl,rfl,hd,q⟩:=h;cases O;obtain ⟨u,T,rfl,r1,r2⟩:=vals2 rs;obtain ⟨hz,lo,vs,r,dd⟩:=eO I.hok hd;refine call_meetsIn PySem.F.slot_dict_get dd.typeIs PySem.F.entry_dict_get (PySem.F.args_dict_get_3 ..) (meets_dict_get_default _ d (hZ r1) lo T) [WH,dd.mapOf,?_];show ⟨_,H,I.tok _,(r.val k).getD r2,q⟩
def ux (r:KV kvs vs) (h:ItemsOf (λi v=>∃k x,[ZI,vs,(k,x)]/\(z6 P w).is k v=true) acc vs.length):Vals (kvs.map λp=>kV p.1) acc.toList:=by
 have hl:=r.length;have I:∀i (T:i<kvs.length) (O:i<acc.toList.length),RelV (kV kvs[i].1) acc.toList[i]:=λi T O=>by
  obtain ⟨k,x,e,hk⟩:=h.2 i acc.toList[i] (by simp [O]);have e1:kvs[i].1=k:=by
   have:=congrArg (λl=>l[i]?) r.keys
   simp only [qC6,e,qD1 T]at this;show Option.some.inj this
  rw[e1];show wC hk
 have hlen:acc.toList.length=kvs.length:=by rw[qG3,h.1,hl]
 revert I hlen
 generalize acc.toList=us
 clear h hl r;intro I hlen
 induction kvs generalizing us with
 | nil=>cases us with
  |nil=>show .nil
  |cons _ _=>cases hlen
 | cons p kvs ih=>cases us with
  |nil=>cases hlen
  |cons u us=>show .cons (I 0 Xaf Xaf) (ih us (λi T O=>I (i+1) [SX,T] [SX,O]) [SX,hlen])
def tQ (hc:X.calm=true):C6 X (.type "list") (λxs H Q=>∃d kvs,xs = [.ref d]/\Rd H d (.dK kvs)/\[Z0d,.lst (kvs.map λp=>kV p.1)]):=by
 intro pins s a H xs us Q I r h;obtain ⟨d,kvs,rfl,hd,q⟩:=h;obtain ⟨u,rfl,T⟩:=vals1 r;cases T;obtain ⟨hz,lo,vs,rv,dd⟩:=eO I.hok hd;obtain ⟨ep,da⟩:=dd.dictAt;have hl:=rv.length;refine PySem.W.kdl_call (PySem.W.kdl_dict (ep:=ep) lo) (I.ok.hd hc) da (by rw[<- hl];show hz) λh' tk O c hk hS UB=>?_;refine ⟨.ref _,_,I.laid hk (qA6 _) [SF,ObjOk _ X.w _ h' _ [YM,_],⟨[ZO,qA1,hz],O.toList,c,?_,ZU⟩],rfl,q _ (I.hok.fresh (qA6 _))⟩;show ux rv UB
def xj (K:PySem.W.KdlSrc prog w T r d n P OK) (hh:A.handled=none) (hok:OK s.heap) (hn:[Te,n]) (hQ:∀h' tk I,(∀b o,([SR])->[TN,h'.get?])->ItemsOf P I n->Q I.toList [SS,s,h',tk]):[ST,collect (.ref r)]:=by
 have Ug:=K.there _ hok;refine qA0 (wpAny_runValue (codeAny_builtin F.entry_proto_collect ?_));change _;refine qA0 (qL0 ?_);refine qK4 ⟨plainId_quiet F.plain_list_iadd _,codeAny_builtin F.entry_list_iadd ?_⟩;change _;refine PySem.W.kdl_extend (R:=wants _ E) (s:=[To,s,_]) K hh (K.keep _ _ hok λb _ o e=>qA2 _ e) _ (qI7 Ug.1) (qI7 Ug.2) _ 0 (qB1 _ rfl) (λh' tk I c' hk O UB=>?_) hn;refine qA0 (wpAny_load O ?_);show qK4 (hQ h' tk I (λb o e=>hk b o (λz=>absurd (qB2 e) (by rw[z];show qE7 _)) (qA2 _ e)) UB)
def MS (K:PySem.W.KdlSrc prog w T r d n P OK) (hh:A.handled=none) (hok:OK s.heap) (hn:[Te,n]) (h:∀(h':Heap) tk I,(∀b o,([SR])->[TN,h'.get?])->ItemsOf P I n->Q₁ [ZE,h'.objs.size] [SS,s,h'.push { cls:=.type "tuple",data:=.seq I },tk]):
  codeAny (model prog w) A (.call (.builtin "tuple.__new__") ⟨[.type "tuple",.ref r],[]⟩) (wants Q₁ E) s:=by
 refine codeAny_of_tree ?_;refine qA0 (qP9 (F.newCall_tuple_1 _) (qK4 ⟨plainId_quiet F.plain_tuple_new _,codeAny_builtin F.entry_tuple_new ?_⟩));rw[Around.under_plainId F.plain_tuple_new _];have g1:=sub_tuple_self;have g2:=init_tuple_lookup;have g3:=madeHere_tuple;have UO:=K.type s hok;have hT:(Value.type T == Value.type "tuple")=false:=K.notTuple;have a3:A.in1.handled=none:=hh;have Vk:∀I:Array Value,ItemsOf P I n->[Te,I.toList.toArray.size]:=λI O=>by simp only [Array.toArray_toList];rw[O.1];show hn
 wp_walk using qR6 UO,xj (A:=A.in1) K a3 hok hn
 intro h' tk I hm O
 change wpAny _ _ (Builtin.Tuple.tupleExact I.toList.toArray>>=λv=>ret v) _ _ _;unfold Builtin.Tuple.tupleExact;refine qA0 (qL0 ?_ (Vk I O));refine qK4 ?_;simp_all
def Bo (K:PySem.W.KdlSrc prog w T r d n P OK) (hh:A.handled=none) (hok:OK s.heap) (hn:[Te,n]) (hQ:∀(h':Heap) tk a3,(∀b o,([SR])->[TN,h'.get?])->ItemsOf P a3 n->Q [ZE,h'.objs.size] [SS,s,h'.push [Z09,a3],tk]):
  [ST,call (.type "tuple") [.ref r]]:=by
 refine callType_codes (Q₁:=λobj O=>O.TypeIs obj "tuple" /\ _) F.called_tuple (F.typeCall_tuple_1 _) F.entry_object_init (MS K hh hok hn λh' tk a3 hm UB=>⟨[WH,qB1 _ rfl,rfl],hQ h' tk a3 hm UB⟩) λobj O I=>?_;show ⟨I.1,F.args_object_init_2 obj _,object_init_meets F.called_tuple.init.lookup F.called_tuple.made Xaa prog w A.in1 _ O ⟨I.1,rfl,I.2⟩⟩
def uv {kvs:List (Key×V)}(r:KV kvs vs) (h:ItemsOf (λi v=>∃k,[ZI,vs,(k,v)]) acc vs.length):Vals (kvs.map (·.2)) acc.toList:=by
 have e:=PySem.W.kdl_vals_eq _ (by rw[qG3,h.1]) λj v q=>h.2 j v (by grind);rw[e];clear h e
 induction r with
 |nil=>show .nil
 |cons h _ I=>show .cons h.2 I
def BV (I:TE):TE:=λa H Q=>I a H λv H1=>∃d kvs,v=.ref d/\H1 d=some (.dK kvs)/\∀p,H1 p=none->Q [ZE,p] (upd H1 p (.tup (kvs.map (·.2))))
def zP {X}{e}{te}{p pos apos TU}(hc:X.calm=true) (YO:Gl X "tuple") (YG:X.mg "tuple" = none) (he:PE X e te) (TX:[XXa,attributeBase e "values" X.env [Sy,e]=eval e X.env]) (TV:[XXa,[Z0X]]) (UC:[XXa,[Tm,[.Call [wr,e,"values"] [] [] TU]] = [[SJ,.Call [wr,e,"values"] [] [] TU]]]):PE X [SY,[YD,"tuple",p],[.Call [wr,e,"values"] [] [] TU]] (BV te):=by
 show 7 a;refine qL1 (W2 I YO YG M1 ?_ Xaa Xaa);refine qF2 ?_ UC WU
 change _;refine Calls.spliced_cons ?_;refine wpAny_Call_method0_late TX TV (thn [SI,he,a] λv s1 O=>?_);obtain ⟨x,H1,T,r1,q1⟩:=O;obtain ⟨d,kvs,rfl,hd,q⟩:=q1;cases r1;obtain ⟨hz,lo,vs,rv,dd⟩:=CQ T.hok hd;obtain ⟨ep,da⟩:=dd.dictAt;have hl:=rv.length;obtain ⟨h1,h2⟩:=lM T (x:=.ref d) rfl [SF,tyV X.K "dict" [ZE,d] H1,.inr (.inr (.inl ⟨rfl,.inl ⟨kvs,hd⟩⟩))];refine ⟨"dict","dict.values",qS6,qS2,PySem.F.type_dict_values,h1,h2,qN8 rfl (PySem.evalArgs_none ?_)⟩;refine call_meetsIn qS2 dd.typeIs PySem.F.entry_dict_values (PySem.F.args_dict_values_1 _) (meets_dict_values (z6 X.prog X.w) d lo) ⟨⟨vs,dd⟩,Calls.spliced_nil ?_⟩;have I2:[YR,a,H1,[To,s1,s1.heap.push [Z0A,"dict_values",#[.ref d]]]]:=T.kept (t':=s1.toks) λb o e=>qA2 _ e;refine Bo (s:=[To,s1,s1.heap.push [Z0A,"dict_values",#[.ref d]]]) (PySem.W.kdl_values (r:=s1.heap.objs.size) (kvs:=vs) (ep:=ep)) (T.ok.hd hc) ⟨⟨_,qB1 _ rfl,rfl,rfl⟩,da.push _⟩ (by rw[<- hl];show hz) λh' tk a3 hk UB=>?_;have I3:[YR,a,H1,[SS,s1,h',tk]]:=I2.kept hk;refine ⟨.ref h'.objs.size,_,I3.laid (t':=tk) (λb o e=>qA2 _ e) (qA6 _) [SF,ObjOk X.prog X.w _ _ _ (.tup (kvs.map (·.2))),⟨[ZO,qA1,hz],a3.toList,uv rv UB,?_⟩],rfl,q _ (I3.hok.fresh (qA6 _))⟩;simp_all[PyProof.Rows.IsTup.new]
def pT (p:Addr)(t:TS):TS:=λD a H=>∃kvs,H p=some (.dK kvs)/\∀ob,t { nx:=λI H'=>H' p=some (.frz ob (.dK kvs))/\D.nx I (upd H' p (.dK kvs)),rt:=λ_ _=>False } a (upd H p (.frz ob (.dK kvs)))
def vC {st}p (h:PS X st t):PS X st (pT p t):=by
 intro pins s a H D I q;obtain ⟨kvs,hp,q⟩:=q;have hf:=Ct I hp;obtain ⟨ob,I1⟩:=I.freeze hp;refine thn (h pins s a _ _ I1 (q ob)) λf s' r=>?_;cases f with
 | next=>
  obtain ⟨O,H',T,e,q'⟩:=r;show ⟨O,_,T.thaw e hf,q'⟩
 |brk=>obtain ⟨_,_,_,z⟩:=r;show z.elim
 |cont=>obtain ⟨_,_,_,z⟩:=r;show z.elim
 |ret u=>obtain ⟨_,_,_,_,_,z⟩:=r;show z.elim
end L2
namespace TP
open PySem L2
def szl (h:n<=100000):[Te,n]:=qC8 h Xaa
def fSS (C:Str->Str->Bool) (g:Str->Str->W):W->W->R W
 | .str x,.str y=>[TJ,C x y=true,.ok (g x y)]
 |_,_=>.stuck
def Cs (hs:∀x y,sca (g x y)=true) (h:∀x y H Q,C x y=true->∃v,(∀F,Rep K F v (g x y))/\(Q v H->r (.str x) (.str y) H Q)):Op2 K .B d r (fSS C g):=by
 show 16 b O T;cases u <;> first|show 2|skip
 all_goals (cases v <;> first|show 2|skip)
 rename_i i j
 have o':[SO,_,[YL,_=true,_,_]]:=o;by_cases c:C i j=true
 .rw [qA3 c]at o'
  obtain ⟨z,hz,hr⟩:=h i j H Q c;rw[O.strB,T.strB];show hr (o' z G H (Ext.refl I.gh) (Md.sca (hs i j) hz d))
 .rw[qA9 c]at o';show o'.elim
def CY (x y:Str):Bool:=[ZL,x.length+y.length<=100000]
def CL (x y:Str):W:=.str (x++y)
def l7:Op2 K .B d (λx y H Q=>∃i j,x=.str i/\y=.str j/\i.length+j.length<=sizeLine/\Q (.str (i++j)) H) (fSS CY CL):=
 Cs (λ_ _=>rfl) λx y H Q c=>[WH,λ_=>.str,λq=>⟨x,y,rfl,rfl,szl (qL4 c),q⟩]
def Of (_ _:Str):Bool:=true
def Mi (x y:Str):W:=.bl (!(Builtin.Str.occurrences y x 0 y.length 1).isEmpty)
def KC:Op2 K .B d (λx y H Q=>∃i j,x=.str i/\y=.str j/\Q (.bl (!(Builtin.Str.occurrences j i 0 j.length 1).isEmpty)) H) (fSS Of Mi):=
 Cs (λ_ _=>rfl) λx y H Q _=>[WH,λ_=>.bl,λq=>⟨x,y,rfl,rfl,q⟩]
def fIxS:W->W->R W
 | .str x,.int i=>if x.length<=100000 then (match atI x.cps.toList i with
  |some c=>.ok (.str ⟨#[c]⟩)
  |none=>.stuck) else .stuck
 |_,_=>.stuck
def KB:Op2 K .B d rIxS fIxS:=by
 show 16 b O T;cases u <;> first|show 2|skip
 all_goals (cases v <;> first|show 2|skip)
 rename_i z i
 have o':[SO,_,[YL,z.length<=100000,_,_]]:=o;by_cases c:z.length<=100000
 .rw [qA3 c]at o'
  cases e:atI _ i with
  |none=>rw[e]at o';show o'.elim
  | some k=>
   rw[e]at o';show ⟨z,i,k,O.strB,T.intB,szl c,e,o' _ G H (Ext.refl I.gh) [SZ,.str]⟩
 .rw[qA9 c]at o';show o'.elim
def slS (x:W) (l u:ZV):R W:=match x with
 | .str z=>[TJ,z.length<=100000,.ok (.str (Txt.slice z l u))]
 |_=>.stuck
def yx (m:Xad)(I O:Rho->R ZV):Xad:=λa=>m a>>=λx=>I a>>=λl=>O a>>=λu=>slS x l u
def Rs (h:[Tw,d,yx m ml mh,b]):tSl rSlS (tM K EX .B m) (K2 K EX ml) (K2 K EX mh) b H Q:=by
 show 4 a (Out.bind o λx G1 H1 w O m1 o1=>⟨H0,G1,a,I.ext O,Out.bind o1 λl' G2 H2 l T m2 o2=>⟨H0,G2,a,(I.ext O).ext T,Out.bind o2 λu' G3 H3 u e3 m3 o3=>?_⟩⟩);subst m2;subst m3;have I3:=((I.ext O).ext T).ext e3;cases w <;> first|show o3.elim|skip
 rename_i z
 have o':Out EX G3 H3 _ [YL,z.length<=100000,_,_] Q:=o3;by_cases c:z.length<=100000
 .rw [qA3 c]at o'
  show ⟨z,m1.strB,szl c,o' _ G3 H3 (Ext.refl I3.gh) [SZ,.str]⟩
 .rw[qA9 c]at o';show o'.elim
def fLenS:[TR]
 | [.str x]=>[TJ,x.length<=100000,.ok (.int x.length)]
 |_=>.stuck
def iB:Cal K .B d (λxs H Q=>∃z,xs = [.str z]/\[Te,z.length]/\Q (.int z.length) H) fLenS:=by
 intro EX H0 O G H c b T vs ws Q I s m o;show 10 fLenS
 .rename_i x
  cases m with
  | cons a t=>
   cases t
   split at o
   .rename_i hl
    show ⟨x,by rw[a.strB],szl hl,[re,[SZ,.int]]⟩
   .show o.elim
 .show o.elim
def fIntS:[TR]
 | [.str x]=>if x.length<=640 then (match PySem.intText? x with
  |some n=>.ok (.int n)
  |none=>.stuck) else .stuck
 |_=>.stuck
def On:Cal K .B d (λxs H Q=>∃x n,xs = [.str x]/\PySem.intText? x=some n/\x.length<=640/\Q (.int n) H) fIntS:=by
 intro EX H0 O G H c b T vs ws Q I s m o;show 10 fIntS
 .rename_i x
  cases m with
  | cons a t=>
   cases t
   split at o
   .rename_i hl
    split at o
    .rename_i n hn
     show ⟨x,n,by rw[a.strB],hn,hl,[re,[SZ,.int]]⟩
    .show o.elim
   .show o.elim
 .show o.elim
noncomputable def L3 (a:Str) (y:W):R W:=match y with
 | .str b=>[TJ,(b.length == 0)=false/\a.length<=100000/\[ZM,Txt.split a b]<=1000,.ok (.lst ((Txt.split a b).map W.str))]
 |_=>.stuck
def BN (x y:R W):R W:=x>>=λx=>(match x with
 | .str a=>y>>=λy=>L3 a y
 |_=>.stuck)
def sR (mo me:Xad):Xad:=λa=>BN (mo a) (me a)
def fB:∀ts:[Ta],Reps K F (ts.map V.str) (ts.map W.str)
 | []=>.nil
 |_::ts=>.cons .str (fB ts)
def ef (h:Out EX G H (mdW K .B H0 H) (me b) λy H2=>QA [y] H2):Out EX G H (mdA K .B H0 H) (aC me aN b) QA:=by
 unfold aC aN
 revert h
 cases me b with
 |stuck=>show id
 |ex e=>show id
 | ok u=>
  intro h v G2 H2 I O;cases O with
  |cons a t=>cases t;show h _ G2 H2 I a
def GM (h:[Tw,.F,sR mo me,d]):tBM K "str" rSplit (tM K EX .B mo) (tA K EX .B (aC me aN)) d H Q:=by
 show 4 c (Out.bind o [Tz,x,w,T]);have I1:=I.ext T;cases w <;> first|show o1.elim|skip
 rename_i a
 obtain rfl:=m1.strB;refine ⟨rfl,H0,G1,c,I1,ef (Out.bind o1 λy G2 H2 u O m2 o2=>?_)⟩;have I2:=I1.ext O;unfold L3 at o2
 split at o2
 .rename_i b
  obtain rfl:=m2.strB
  split at o2
  .rename_i hc
   show ⟨a,b,rfl,rfl,hc.1,szl hc.2.1,szl (qC8 hc.2.2 Xaa),λp hp=>Out.newL I2 (T.hh.trans O.hh) (fB _) hp o2⟩
  .show o2.elim
 .show o2.elim
def strW:W->Option Str
 | .str x=>some x
 |_=>none
def dP:List W->Option ZK
 | []=>some []
 | w::ws=>match strW w,dP ws with
  |some x,some xs=>some (x::xs)
  |_,_=>none
def lU:∀{ws:Xag}{ts},dP ws=some ts->ws=ts.map W.str
 | [],_,h=>by cases h;rfl
 | w::ws,ts,h=>by
  unfold dP at h
  split at h
  .rename_i x xs hx hxs
   cases h;rw[lU hxs];cases w <;> first | (cases hx;rfl)|cases hx
  .cases h
def jM:∀ts,dP (ts.map W.str)=some ts
 | []=>rfl
 | x::ts=>by
  change (match _,dP _ with|some x,some xs=>some (x::xs)|_,_=>none)=_;rw[jM];rfl
def ac (a:Str) (y:W):R W:=match y with
 | .lst ws=>(match dP ws with
  |some ts=>[TJ,JoinOk a ts=true,.ok (.str (Txt.join a ts))]
  |none=>.stuck)
 |_=>.stuck
def BP (x y:R W):R W:=x>>=λx=>(match x with
 | .str a=>y>>=λy=>ac a y
 |_=>.stuck)
def Ay (mo me:Xad):Xad:=λa=>BP (mo a) (me a)
def jT:∀{ts:ZK}{vs},Reps K F vs (ts.map W.str)->vs=ts.map V.str
 | [],_,h=>by cases h;rfl
 | x::ts,_,h=>by
  cases h with
  |cons a b=>cases a;rw[jT b];rfl
def NM (h:[Tw,d,Ay mo me,c]):tBM K "str" (rJoin K) (tM K EX .B mo) (tA K EX .B (aC me aN)) c H Q:=by
 show 4 b (Out.bind o [Tz,x,w,e1]);have O:=I.ext e1;cases w <;> first|show o1.elim|skip
 rename_i a
 obtain rfl:=m1.strB;refine ⟨rfl,H0,G1,b,O,ef (Out.bind o1 λy G2 H2 u e2 m2 o2=>?_)⟩;have T:=O.ext e2;unfold ac at o2
 split at o2
 .split at o2
  .rename_i ts hts
   have:=lU hts
   subst this;obtain ⟨p,vs,rfl,hs,r⟩:=m2.lstB T;have e:=jT r;subst e
   split at o2
   .rename_i hc
    show ⟨a,p,ts,rfl,rfl,SqL.of hs,hc,o2 _ G2 H2 (Ext.refl T.gh) [SZ,.str]⟩
   .show o2.elim
  .show o2.elim
 .show o2.elim
def fq:W->Option Str
 | .str x=>if x.length<=100000 then some x else none
 | .int i=>if i.natAbs.log2<1920 then some (Str.ofString (toString i)) else none
 |_=>none
noncomputable def fpR:List (R W)->Str->R W
 | [],out=>[TJ,out.length<=100000,.ok (.str out)]
 | r::rs,out=>r>>=λw=>(match fq w with
  |some y=>[TJ,[ZM,out++y]<=100000,fpR rs (out++y)]
  |none=>.stuck)
def mFp (ms:List Xad):Xad:=λa=>fpR (ms.map λm=>m a) Str.empty
def ptM (K:Frag)(EX:EXT)(m:Xad):TPt:=Iu (tM K EX .B m)
def NR {Q:VK}:∀(ms:List Xad) out{G H},[TM,a,b]->Same Hs H->[SO,mdW K d H0 Hs,fpR (ms.map λm=>m a) out]->gk (ms.map (ptM K EX)) out b H Q
 | [],out,G,H,I,s,o=>by
  have o':[SO,_,[YL,out.length<=100000,_,_]]:=o;by_cases c:out.length<=100000
  .rw [qA3 c]at o'
   show ⟨szl c,o' _ G H (Ext.refl I.gh) [SZ,.str]⟩
  .rw[qA9 c]at o';show o'.elim
 | m::ms,out,G,H,I,s,o=>by
  refine ⟨H0,G,a,I,Out.bind o [Tz,v,w,O]⟩;have T:=I.ext O;cases q:fq w with
  |none=>rw[q]at o1;show o1.elim
  | some y=>
   rw[q]at o1;have o2:Out EX G1 H1 _ [YL,_<=100000,_,_] Q:=o1;by_cases c:[ZM,out++y]<=100000
   .rw [qA3 c]at o2
    have rest:_<=sizeLine/\_:=⟨szl c,NR ms _ T (s.trans O.hh) o2⟩;unfold fq at q
    split at q
    .split at q
     .rename_i hx
      cases q;show .inl ⟨_,m1.strB,szl hx,rest⟩
     .cases q
    .split at q
     .rename_i hi
      cases q;show .inr ⟨_,m1.intB,hi,rest⟩
     .cases q
    .cases q
   .rw[qA9 c]at o2;show o2.elim
noncomputable def seqS:W->R Xag
 | .str x=>[TJ,x.cps.all (·<128)=true/\x.cps.size<=1000,.ok (x.cps.toList.map λc=>W.str ⟨#[c]⟩)]
 |_=>.stuck
def bSs (ma:Xad):Xal:=λa=>ma a>>=seqS
def AD (T:e=.V\/e=.U):X3 K e H0 Z G (Its x) (x.cps.toList.map λc=>W.str ⟨#[c]⟩):=by
 refine ⟨λi H hi _=>by change i<x.cps.size;simpa using hi,λH _=>by simp [Its],λi H v H' w hw _ O G2 b a I _=>?_⟩;obtain ⟨e1,c,hc,e2⟩:=O;subst e1;subst e2;rw[qC6,Array.getElem?_toList,hc]at hw;cases hw;refine ⟨G2,Ext.refl I.gh,?_⟩;rcases T with rfl|rfl
 .show .str
 .show .str
def NO (O:e=.V\/e=.U) (h:tIt K EX lp e (bSs ml) b H Rr):LY (tM K EX .B ml) b H Rr:=by
 show 4 a ?_;replace o:fY K EX lp e H0 G H (_>>=seqS) Rr:=o
 revert o
 cases ml a with
 |stuck=>show id
 |ex x=>show id
 | ok w=>
  intro o v G1 H1 T m1;replace o:fY K EX lp e H0 G H (seqS w) Rr:=o
  show 10 seqS
  .rename_i x
   split at o
   .rename_i hc
    show ⟨x,m1.strB,hc.1,o _ G1 H1 T (AD O)⟩
   .show o.elim
  .show o.elim
section
variable {X:Cx}{K:Frag}{EX:EXT}{d:Mode}{a e o:Expr}{pos apos TU:Pos}{ma mo me:Xad}{tg:Expr}{lp:Bool}
def qj {x}{y}{t}(hg:Gl X x) (hm:X.mg x=some (.str y t)) (hd:[Z02]):[ZR,[YD,x,pos],d,mC (.str y)]:=
 [TD,bB (v:=.str y) hg hm ⟨t,rfl⟩ hd,U6 rfl (λ_=>.str) q]
def Qi {c}{mb:Xad}(ha:[ZR,a,.B,ma])(I:[ZR,c,.B,mb])(hs:eR c:=by show λ_ _=>rfl):[ZR,.Subscript a c pos,d,b2 fIxS ma mb]:=[TD,sD wF ha I hs,jy KB q]
def si {lo hi}{p2}{I O}(T:[ZR,e,.B,ma])(hl:PO X lo (K2 K EX I))(hu:PO X hi (K2 K EX O)):[ZR,.Subscript e (.Slice lo hi none p2) pos,d,yx ma I O]:=[TD,fF IH T hl hu,Rs q]
def JW (h:[ZR,e,.B,ma]):PI X tg e (tIt K EX lp .U (bSs ma)):=(Kn h).mono [SH,NO (.inr rfl) q]
def iU (ho:[ZR,o,.B,mo]) (I:[ZR,e,.B,me]) (hK:[XXa,X.K=K])
  (TX:attributeBase o "split" X.env [Sy,o]=eval o X.env:=by rfl)
  (T:([Z0v]
   && [ZL,[ZM,([e]:ZX)]+[ZM,([]:List Keyword)]+[Z0j]<30])=true:=by rfl)
  (O:[Z0X]:=by rfl) (hs:[Tm,[e]]=[SJ,e]::[Tm,[]]:=by rfl) (Ua:[Z0r,[],X.env]:=by rfl) :
  [ZR,.Call [wr,o,"split"] [e] [] TU,.F,sR mo me]:=by
 subst hK;show [TD,dZ qI6 PySem.F.slot_str_split PySem.F.type_str_split Ah ho (b6 I b7 hs) TX T O hs Ua,GM q]
def D9 (ho:[ZR,o,.B,mo]) (I:[ZR,e,.B,me]) (hK:[XXa,X.K=K])
  (TX:attributeBase o "join" X.env [Sy,o]=eval o X.env:=by rfl)
  (T:([Z0v]
   && [ZL,[ZM,([e]:ZX)]+[ZM,([]:List Keyword)]+[Z0j]<30])=true:=by rfl)
  (O:[Z0X]:=by rfl) (hs:[Tm,[e]]=[SJ,e]::[Tm,[]]:=by rfl) (Ua:[Z0r,[],X.env]:=by rfl) :
  [ZR,.Call [wr,o,"join"] [e] [] TU,d,Ay mo me]:=by
 subst hK;show [TD,dZ qI6 PySem.F.slot_str_join PySem.F.type_str_join Ff ho (b6 I b7 hs) TX T O hs Ua,NM q]
inductive QPts (X:Cx) (K:Frag) (EX:EXT):List Expr->List Xad->Prop where
 |nil:QPts X K EX [] []
 |str {y:Str} {j}{p:Pos}{es:ZX}{ms:List Xad}:y.length<=1000->QPts X K EX es ms->QPts X K EX (.Constant (.str y) j p::es) (mC (.str y)::ms)
 |val {e:Expr}{p:Pos}{es:ZX}{m:Xad}{ms:List Xad}:PE X e (tM K EX .B m)->QPts X K EX es ms->QPts X K EX (.FormattedValue e (-1) none p::es) (m::ms)
def EH {j}(T:y.length<=1000):PPt X (.Constant (.str y) j p) (ptM K EX (mC (.str y))):=λpins s b H Q I h=>by
 refine Ki pins s b H Q I ?_;obtain ⟨H0,G,c,O,o⟩:=h;rcases o _ G H (Ext.refl O.gh) (.inl .str) with ⟨x,e,_,q⟩|⟨i,e,_⟩
 .cases e;show q
 .cases e
def QPts.pp (h:QPts X K EX es ms):jI X es (ms.map (ptM K EX)):=by
 induction h with
 |nil=>show .nil
 |str O _ I=>show .cons (EH O) I
 |val T _ I=>show .cons (Kh T) I
def JZ {e1 T}{es:ZX}{ms}(h:QPts X K EX (e1::T::es) ms):[ZR,.JoinedStr (e1::T::es) pos,d,mFp ms]:=
 (vL h.pp).mono λ_ _ _ O=>by obtain ⟨H0,G,b,I,o⟩:=O;show NR ms _ I (Same.refl _) o
end
abbrev DW:=[Ta]×List W
def dAt:([Ta])->List W->Str->Option W
 |k::ks,w::ws,x=>if k=x then some w else dAt ks ws x
 |_,_,_=>none
def qT:∀{kvs:List (Key×V)}{ks:ZK}{ws:Xag}x,kvs.map (·.1)=ks.map Sum.inr->Reps K F (kvs.map (·.2)) ws->(match dAt ks ws x with
  |some w=>∃v,P8 kvs (Sum.inr x)=some v/\Rep K F v w
  |none=>P8 kvs (Sum.inr x)=none)
 | [],[],_,x,_,h=>WU
 | [],_::_,_,x,e,_=>by cases e
 |_::_,[],_,x,e,_=>by cases e
 | p::kvs,k::ks,_,x,e,h=>by
  cases h with
  | @cons _ w _ ws r t=>
   have O:=(List.cons.inj e).1;have I:=(List.cons.inj e).2
   change match if k=x then _ else dAt ks ws x with|some w=>_|none=>_
   by_cases hk:k=x
   .grind[bP]
   .rw [qA9 hk,bQ ZU]
    show qT x I t
def jg {kvs:List (Key×V)}{ks:ZK}(e:kvs.map (·.1)=ks.map Sum.inr):(P8 kvs (Sum.inr x)).isSome=decide (x∈ks):=by
 rw[<- bR,qI1,List.any_eq_true,decide_eq_true_iff];constructor
 .rintro ⟨p,hp,q⟩
  have:p.1∈ks.map Sum.inr:=by grind
  grind
 .intro h
  have:(Sum.inr x)∈kvs.map (·.1):=by grind
  grind
def iX {kw:DW}(h:DkR K G kvs kw) (I:x∉kw.1) (r:Rep K G v w):DkR K G (putK kvs (Sum.inr x) v) (kw.1 ++ [x],kw.2 ++ [w]):=by
 have hn:P8 kvs (Sum.inr x)=none:=by
  have:=jg (x:=x) h.1
  simp_all
 rw[zJ v hn];refine ⟨?_,?_⟩
 .rw[qC0,h.1,qC0];rfl
 .rw[qC0];show h.2.append (.cons r .nil)
def DkR.len {kw:DW}(h:DkR K G kvs kw):kvs.length=kw.1.length:=by have:=congrArg List.length h.1;simpa using this
def PIv.dos_at {i:Nat}{kw:DW}(I:[TM,c,b]) (e:[ZI,c,.dos kw]):∃a kvs,[ZI,b,[Wb,a]]/\H a=some (.dK kvs)/\G a=none/\H0 a=none/\DkR K G kvs kw:=by
 have hi:i<b.length:=by rw[<- I.len];show (qB4.mp e).1
 have es:[ZI,b,b[i]]:=Xaf;obtain ⟨a,kvs,O,r⟩:=I.sl i _ _ e es;show ⟨a,kvs,by rw[es,O],r⟩
noncomputable def LL:Sl->Bool
 | .dik _=>true
 |_=>false
def R5 (a:Rho):Bool:=a.all λs=>!LL s
theorem Fb {j:Nat}(h:R5 a=true):a[j]?≠some (.dik ks):=λe=>by
 have:=qE0.mp h _ (qD9 e)
 grind[LL]
def PIv.dos_chg {kw:DW}(I:[TM,d,f]) (e:[ZI,d,.dos kw]) (es:[ZI,f,[Wb,a]]) (one:R5 d=true) (hs:SlR K H0 G (upd H a u) s' [Wb,a]) (XS:(∀ws,s'≠.own ws)):PIv K H0 G (d.set i s') f (upd H a u):=by
 obtain ⟨a',kvs,ev,ha,hg,h0,_⟩:=I.sl i _ _ e es;cases ev;refine ⟨I.g0,I.gl,λb o q=>[ZO,c0 (j6 q hg),I.gh b o q],λb o q=>[ZO,c0 (j6 q h0),I.hh b o q],[ZO,qD0,I.len],λj x o T h2=>?_,λp q Vj us c Ui T h2 h3 h4=>?_,λp q Vj us c Ui T h2 h3 h4=>?_⟩
 .rcases sGx T with ⟨rfl,rfl⟩|⟨hj,T⟩
  .rw[es]at h2;cases h2;show hs
  .have:=I.sl j x o T h2
   cases x with
   | own us=>
    show 14;show ⟨b,Uk,eb,uNx ha hb (by rintro ⟨⟩),Uw,Ux,rb⟩
   | dic ks=>
    show 14;show ⟨b,Uk,eb,uNx ha hb (by rintro ⟨⟩),Uw,Ux,rb⟩
   |dik ks=>grind[Fb]
   | dos ks=>
    show 14;subst eb;have Ud:b≠a:=by
     rintro rfl;show I.nd i j kw ks b hj e T es h2
    show ⟨b,Uk,rfl,[ZO,c0 Ud,hb],Uw,Ux,rb⟩
   |obj y C kw=>show ObR.move this (Same.refl G) λb C dx fs hb=>⟨uNx ha hb (by rintro ⟨⟩),id,rfl⟩
   |un=>show this
   |val _=>show this
   |par _=>show this
   |iop _ _=>show this
   |hz _=>show this
 .rcases sGx T with ⟨_,e⟩|⟨n,T⟩
  .show absurd e.symm (XS _)
  .rcases sGx h2 with ⟨_,e⟩|⟨m,h2⟩
   .show absurd e.symm (XS _)
   .show I.ne p q Vj us c Ui T h2 h3 h4
 .have O:∀{k:Nat}{us:DW},(d.set i s')[k]?=some (.dos us)->∃Uk,d[k]?=some (.dos Uk):=λ{k us} hk=>by
   rcases sGx hk with ⟨rfl,_⟩|⟨_,h⟩
   .show ⟨_,e⟩
   .show ⟨_,h⟩
  obtain ⟨w1,k1⟩:=O T;obtain ⟨w2,k2⟩:=O h2;show I.nd p q w1 w2 c Ui k1 k2 h3 h4
def PIv.dos_upd {kw O:DW}(I:[TM,b,c]) (e:[ZI,b,.dos kw]) (es:[ZI,c,[Wb,a]]) (one:R5 b=true) (r:DkR K G Wi O):PIv K H0 G (b.set i (.dos O)) c (upd H a (.dK Wi)):=by
 obtain ⟨a',kvs,T,ha,hg,h0,_⟩:=I.sl i _ _ e es;cases T;show I.dos_chg e es one ⟨a,Wi,rfl,d5,hg,h0,r⟩ λ_ z=>by cases z
def PIv.dos_in {kw:DW}(I:[TM,d,e]) (hi:i<d.length) (es:[ZI,e,[Wb,a]]) (hn:∀u,H a=some u->∃ob w,u=.frz ob w) (hg:G a=none) (h0:H0 a=none) (r:DkR K G kvs kw):PIv K H0 G (d.set i (.dos kw)) e (upd H a (.dK kvs)):=by
 have nx:∀{b u},H b=some u->(∀ob w,u≠.frz ob w)->b≠a:=by
  rintro b u q n rfl;obtain ⟨x,y,z⟩:=hn _ q;show n _ _ z
 refine ⟨I.g0,I.gl,λb o q=>[ZO,c0 (j6 q hg),I.gh b o q],λb o q=>[ZO,c0 (j6 q h0),I.hh b o q],[ZO,qD0,I.len],λj x o O T=>?_,λp q Vj us c Ui O T h3 h4=>?_,λp q Vj us c Ui O T h3 h4=>?_⟩
 .rcases sGx O with ⟨rfl,rfl⟩|⟨hj,O⟩
  .rw[es]at T;cases T;show ⟨a,kvs,rfl,d5,hg,h0,r⟩
  .have:=I.sl j x o O T
   cases x with
   | own us=>
    show 14;show ⟨b,Uk,eb,[ZO,c0 (nx hb (by rintro _ _ ⟨⟩)),hb],Uw,Ux,rb⟩
   | dic ks=>
    show 14;show ⟨b,Uk,eb,[ZO,c0 (nx hb (by rintro _ _ ⟨⟩)),hb],Uw,Ux,rb⟩
   | dik ks=>
    show 14;show ⟨b,Uk,eb,[ZO,c0 (nx hb (by rintro _ _ ⟨⟩)),hb],Uw,Ux,rb⟩
   | dos ks=>
    show 14;show ⟨b,Uk,eb,[ZO,c0 (nx hb (by rintro _ _ ⟨⟩)),hb],Uw,Ux,rb⟩
   |obj y C kw=>show ObR.move this (Same.refl G) λb C dx fs hb=>⟨[ZO,c0 (nx hb (by rintro _ _ ⟨⟩)),hb],id,rfl⟩
   |un=>show this
   |val _=>show this
   |par _=>show this
   |iop _ _=>show this
   |hz _=>show this
 .rcases sGx O with ⟨_,e⟩|⟨n,O⟩
  .cases e
  .rcases sGx T with ⟨_,e⟩|⟨m,T⟩
   .cases e
   .show I.ne p q Vj us c Ui O T h3 h4
 .have apart:∀{k:Nat}{us:DW}{b:Addr},d[k]?=some (.dos us)->e[k]?=some [Wb,b]->b≠a:=λ{k us b} hk hb=>by
   obtain ⟨b',Uk,eb,VY,_⟩:=I.sl k _ _ hk hb;cases eb;show nx VY (by rintro _ _ ⟨⟩)
  rcases sGx O with ⟨rfl,_⟩|⟨n,O⟩
  .rw[es]at h3;cases h3;rcases sGx T with ⟨rfl,_⟩|⟨m,T⟩
   .show Ui rfl
   .show apart T h4 rfl
  .rcases sGx T with ⟨rfl,_⟩|⟨m,T⟩
   .rw[es]at h4;cases h4;show apart O h3 rfl
   .show I.nd p q Vj us c Ui O T h3 h4
def gX (i:Nat):Xae:=λa=>[TJ,i<a.length,[Rn,.dos ([],[])]]
def GW (h:[ou,gX i,b]):T4 tDNewK (L6 i) D b H:=by
 show 5 c;unfold gX at o;intro p hp;by_cases hi:i<c.length
 .rw [qA3 hi]at o
  have T:=I.setN (i:=i) (o:=some (.ref p));have O:=PIv.dos_in (a:=p) (kvs:=[]) (kw:=([],[])) T ([ZO,qD0,hi]) (by rw[qE4 (by rw[<- I.len];show hi)]) (λu q=>ZU) (I.gh.free hp) (I.hh.free hp) ⟨rfl,.nil⟩;rw[List.set_set]at O;show o G _ _ (Same.refl _) O
 show 12 hi
noncomputable def dSl:Option Sl->Option DW
 |some (.dos kw)=>some kw
 |some (.par (.dst _ _ ks ws))=>some (ks,ws)
 |some (.val (.dst _ _ ks ws))=>some (ks,ws)
 |_=>none
def xm (r:Rep K F v (.dst z a ks ws)):v=.ref a/\∃kvs,Rd F a (.dK kvs)/\DkR K F kvs (ks,ws):=by
 obtain ⟨kvs,I,h,e,r⟩:=r.inv;refine ⟨I,kvs,?_,e,r⟩;cases z with
 |true=>show .inr h
 |false=>show .inl h
def Rd.same' (s:Same F F') (h:Rd F a u):Rd F' a u:=by
 rcases h with h|⟨o,h⟩
 .show .inl (s _ _ h)
 .show .inr ⟨o,s _ _ h⟩
def PIv.dict {i:Nat}(I:[TM,c,b]) (e:dSl c[i]?=some kw):∃a kvs,[ZI,b,[Wb,a]]/\Rd H a (.dK kvs)/\DkR K (join H0 G) kvs kw:=by
 cases q:c[i]? with
 |none=>rw[q]at e;cases e
 | some s=>
  rw[q]at e;have hi:i<b.length:=by rw[<- I.len];show (qB4.mp q).1
  have es:[ZI,b,b[i]]:=Xaf;have r:=I.sl i s _ q es;cases s with
  | dos T=>
   cases e;obtain ⟨a,kvs,O,ha,_,_,r⟩:=r;show ⟨a,kvs,by rw[es,O],.inl ha,r.same I.G_join⟩
  | par w=>
   cases w <;> first|cases e|skip
   obtain ⟨v,O,r⟩:=r;obtain ⟨rfl,kvs,hd,r⟩:=xm r;show ⟨_,kvs,by rw[es,O],Rd.same' I.join_H hd,r⟩
  | val w=>
   cases w <;> first|cases e|skip
   obtain ⟨v,O,r⟩:=r;obtain ⟨rfl,kvs,hd,r⟩:=xm r;show ⟨_,kvs,by rw[es,O],Rd.same' I.gh hd,r.same I.G_join⟩
  |_=>cases e
def inS (neg:Bool) (o:Option Sl) (w:W):R Bool:=match dSl o with
 | some kw=>(match w with
  | .str k=>.ok (if neg then ! [ZL,k∈kw.1] else [ZL,k∈kw.1])
  |_=>.stuck)
 |none=>.stuck
def nA (neg:Bool)(i:Nat)(I:Xad):Xam:=λa=>I a>>=λw=>inS neg a[i]? w
def NV (h:tT K EX (nA false i mk) b H Q):tB (IC (tM K EX .B mk) (z8 i)) b H Q:=by
 show 4 c (Out.bind o [Tz,y,w,T]);have O:=I.ext T;unfold inS at o1
 split at o1
 .rename_i kw e
  split at o1
  .rename_i k
   obtain ⟨a,kvs,es,ha,r⟩:=O.dict e;obtain rfl:=Md.strB m1;refine ⟨_,es,a,_,rfl,.inl ⟨kvs,.inr k,ha,rfl,rfl⟩,_,rfl,?_⟩;rw[jg r.1];show o1 _ G1 H1 (Ext.refl O.gh) rfl
  .show o1.elim
 .show o1.elim
def xN (h:tT K EX (nA true i mk) b H Q):tB (pU (tM K EX .B mk) (z8 i)) b H Q:=by
 show 4 c (Out.bind o [Tz,y,w,T]);have O:=I.ext T;unfold inS at o1
 split at o1
 .rename_i kw e
  split at o1
  .rename_i k
   obtain ⟨a,kvs,es,ha,r⟩:=O.dict e;obtain rfl:=Md.strB m1;refine ⟨_,es,a,_,rfl,.inl ⟨kvs,.inr k,ha,rfl,rfl⟩,_,rfl,?_⟩;rw[jg r.1];show o1 _ G1 H1 (Ext.refl O.gh) rfl
  .show o1.elim
 .show o1.elim
def im (i:Nat):Xad:=λa=>match dSl a[i]? with
 |some kw=>[TJ,kw.1.length<=1000,.ok (.int kw.1.length)]
 |none=>.stuck
def PL (i:Nat):TE:=λb H Q=>∃a kvs,[ZI,b,[Wb,a]]/\Rd H a (.dK kvs)/\Q (.int kvs.length) H
def NL (h:[Tw,d,im i,b]):PL i b H Q:=by
 show 5 c;show 10 im
 .rename_i kw e
  split at o
  .obtain ⟨a,kvs,es,ha,r⟩:=I.dict e;refine ⟨a,kvs,es,ha,?_⟩;rw[r.len];show [re,[SZ,.int]]
  .show o.elim
 .show o.elim
def AQ (kw:DW) (w v:W):R W:=match w with
 | .str k=>.ok ((dAt kw.1 kw.2 k).getD v)
 |_=>.stuck
def lu (i:Nat) (I mv:Xad):Xad:=λa=>match a[i]? with
 |some (.dos kw)=>I a>>=λw=>mv a>>=λv=>AQ kw w v
 |_=>.stuck
def NQ (h:[Tw,.V,lu i mk mv,c]):tBM K "dict" rGet (z8 i) (F1 (tM K EX .B mk) (F1 (tM K EX .V mv) tNil)) c H Q:=by
 show 5 b;show 10 lu
 .rename_i kw e
  obtain ⟨a,kvs,es,ha,hg,h0,r⟩:=I.dos_at e;refine ⟨_,es,.inr (.inr (.inl ⟨rfl,.inl ⟨kvs,ha⟩⟩)),H0,G,b,I,Out.bind o λy G1 H1 w T m1 o1=>⟨H0,G1,b,I.ext T,Out.bind o1 λz G2 H2 v e2 m2 o2=>?_⟩⟩;have I2:=(I.ext T).ext e2;unfold AQ at o2
  split at o2
  .rename_i k
   obtain rfl:=Md.strB m1;refine ⟨a,.inr k,z,kvs,rfl,rfl,.inl (e2.hh _ _ (T.hh _ _ ha)),?_⟩;have O:=qT (x:=k) r.1 ((r.2.same T.gg).same e2.gg);refine o2 _ G2 H2 (Ext.refl I2.gh) ?_
   revert O
   cases dAt _ _ k with
   |none=>intro O;rw[O];show m2
   |some w=>rintro ⟨u,q,ru⟩;rw[q];show ru
  .show o2.elim
 .show o.elim
def gW (i:Nat):Xad:=λa=>match a[i]? with
 |some (.dos kw)=>.ok (.lst (kw.1.map W.str))
 |_=>.stuck
def Iz (i:Nat):TE:=λb H Q=>∃a kvs,[ZI,b,[Wb,a]]/\Rd H a (.dK kvs)/\[Z0d,.lst (kvs.map λp=>kV p.1)]
def GT (h:[Tw,.F,gW i,b]):Iz i b H Q:=by
 show 5 c;show 10 gW
 .rename_i kw e
  obtain ⟨a,kvs,es,ha,hg,h0,r⟩:=I.dos_at e;refine ⟨a,kvs,es,.inl ha,λp hp=>?_⟩;have O:(kvs.map λp=>kV p.1)=kw.1.map V.str:=by
   have:=congrArg (List.map kV) r.1
   rw[qC5,qC5]at this;show this
  rw[O];show Out.newL I (Same.refl _) (fB _) hp o
 .show o.elim
def gS (i:Nat):Xad:=λa=>match a[i]? with
 |some (.dos kw)=>.ok (.tup kw.2)
 |_=>.stuck
def GJ (h:[Tw,.F,gS i,b]):BV (z8 i) b H Q:=by
 show 5 c;show 10 gS
 .rename_i kw e
  obtain ⟨a,kvs,es,ha,hg,h0,r⟩:=I.dos_at e;show ⟨_,es,a,kvs,rfl,ha,λp hp=>Out.newTF I r.2 hp o⟩
 .show o.elim
def sZ (i:Nat):Xal:=λa=>match a[i]? with
 |some (.par (.dst true _ ks _))=>.ok (ks.map W.str)
 |_=>.stuck
def AF {ks:ZK}(he:e=.V\/e=.U) (hz:Z a=some (.frz ob (.dK kvs))) (hk:kvs.map (·.1)=ks.map Sum.inr):X3 K e H0 Z G (Itd a ob kvs) (ks.map W.str):=by
 have hl:kvs.length=ks.length:=by have:=congrArg List.length hk;grind
 refine ⟨λi H hi s=>⟨s _ _ hz,by rw[hl];simpa using hi⟩,λH s=>⟨s _ _ hz,by grind⟩,λi H v H' w hw _ O G2 c b I _=>?_⟩;obtain ⟨e1,p,hp,e2⟩:=O;subst e1;subst e2;rw[qC6]at hw;have T:(kvs.map (·.1))[i]?=(ks.map Sum.inr)[i]?:=by rw[hk]
 rw[qC6,qC6,hp]at T;cases q:ks[i]? with
 |none=>rw[q]at hw;cases hw
 | some k=>
  rw[q]at hw T;cases hw;have ek:p.1=_:=Option.some.inj T;rw[ek];refine ⟨G2,Ext.refl I.gh,?_⟩;rcases he with rfl|rfl
  .show .str
  .show .str
def NP (T:e=.V\/e=.U) (h:tIt K EX lp e (sZ i) b H Rr):LZ (z8 i) b H Rr:=by
 show 5 c;show 10 sZ
 .rename_i a ks ws e
  have hi:i<b.length:=by rw[<- I.len];show (qB4.mp e).1
  have es:[ZI,b,b[i]]:=Xaf;obtain ⟨v,O,r⟩:=I.sl i _ _ e es;obtain ⟨kvs,rfl,⟨ob,h⟩,hk,_⟩:=r.inv;refine ⟨_,by rw[es,O],a,ob,kvs,rfl,I.join_H _ _ h,[re,AF T ?_ hk]⟩;cases lp with
  |true=>show h
  |false=>show I.join_H _ _ h
 .show o.elim
def sk (kw:DW) (i:Nat) (w v:W) (a:Rho):R Fl:=match w with
 | .str k=>[TJ,R5 a=true/\k∉kw.1/\kw.1.length<1000,[Rn,.dos (kw.1 ++ [k],kw.2 ++ [v])]]
 |_=>.stuck
def dD (o:Option Sl) (I rk:R W) (i:Nat) (a:Rho):R Fl:=match o with
 |some (.dos kw)=>I>>=λv=>rk>>=λw=>sk kw i w v a
 |_=>.stuck
def lq (i:Nat)(I me:Xad):Xae:=λa=>dD a[i]? (me a) (I a) i a
def NG (h:[ou,lq i mk me,b]):rY (z8 i) (tM K EX .B mk) (tM K EX .V me) D b H:=by
 show 5 c;unfold lq dD at o
 split at o
 .rename_i kw e
  refine ⟨H0,G,c,I,OutS.bind I o [Tz,v,w1,e1]⟩;have T:=I.ext e1;obtain ⟨a,kvs,es,ha,hg,h0,r⟩:=T.dos_at e;refine ⟨_,es,H0,G1,c,T,OutS.bind T o1 λy G2 H2 w O m2 o2=>?_⟩;have I2:=T.ext O;unfold sk at o2
  split at o2
  .rename_i k
   split at o2
   .rename_i hc
    obtain rfl:=Md.strB m2;have hl:=r.len;refine ⟨a,_,rfl,DPut.k (k:=.inr k) (O.hh a _ ha) (qB6 ([TQ,kvs.length<1000]) Xaa),?_⟩;show o2 G2 b _ (Same.refl _) (I2.dos_upd e es hc.1 (iX (r.same O.gg) hc.2.1 (Rep.same O.gg m1)))
   .show o2.elim
  .show o2.elim
 .show o.elim
def OutP (K:Frag) (EX:EXT) (H0 G:Hp) (r:R Fl) (D:Ends):Prop:=match r with
 | .ok (.nx b)=>∀G' I H',Same G G'->PIv K H0 G' b I H'->D.nx I H'
 | .ok (.rt (.dst false p [k] [w]))=>∃kvs,H0 p=some (.dK kvs)/\kvs.length<1000/\∀v G' I H',Same G' H'->Same H0 H'->(∀a o,H0 a=some o->isL o=true->G' a=none)->Rep K G' v w->D.nx I (upd H' p (.dK (putK kvs (Sum.inr k) v)))
 | .ex e=>∀H',Same H0 H'->EX e H'
 |_=>False
def tStP (K:Frag)(EX:EXT)(m:Xae):TS:=λD b H=>∃H0 G a,[TM,a,b]/\OutP K EX H0 G (m a) D
def OutP.move (s:Same G G1) (o:OutP K EX H0 G r D):OutP K EX H0 G1 r D:=by
 unfold OutP at o ⊢
 split at o
 .show λG' I H' s' O=>o G' I H' (s.trans s') O
 all_goals omega
def OutP.bind {md:b->c->[Ts,Hp]}(I:[TM,d,a]) (o:OutP K EX H0 G (m>>=k) D) (h:∀x G1 H1 w,Ext G H G1 H1->md w x G1 H1->OutP K EX H0 G1 (k w) D->Q1 x H1):Out EX G H md m Q1:=by
 cases m with
 |ok w=>show λv G' H' e q=>h v G' H' w e q (OutP.move e.gg o)
 |ex e=>show λH' s=>o H' (I.hh.trans s)
 |stuck=>show o
def tStP.toS (h:tStP K EX (nb m) D b H):[ou,m,b]:=by
 show 13 nb
 cases m a with
 |stuck=>show id
 |ex e=>show id
 | ok f=>
  cases f with
  |nx O=>show id
  |bk O=>show λo=>o.elim
  |ct O=>show λo=>o.elim
  |rt w=>show λo=>o.elim
def Nz (h:tStP K EX (aR (nb m) n) D b H):cU (tStP K EX (nb m)) (tStP K EX n) D b H:=by
 show 4 a ?_;unfold aR nb at o
 change OutP K EX H0 G (nbR _) _
 revert o
 cases m a with
 |stuck=>show id
 |ex e=>show id
 | ok f=>
  cases f with
  |nx O=>show λo G' a3 H' s' T=>⟨H0,G',O,T,OutP.move s' o⟩
  |bk O=>show λo=>o.elim
  |ct O=>show λo=>o.elim
  |rt w=>show λo=>o.elim
def zI (a:Addr) (v w:W):R Fl:=match w with
 | .str k=>.ok (.rt (.dst false a [k] [v]))
 |_=>.stuck
def kS (j:Nat) (I me:Xad):Xae:=λb=>match b[j]? with
 |some (.par (.dst false a _ _))=>me b>>=λv=>I b>>=λw=>zI a v w
 |_=>.stuck
def NH (h:tStP K EX (kS j mk me) D b H):rY (z8 j) (tM K EX .B mk) (tM K EX .V me) D b H:=by
 show 5 c;show 10 kS
 .rename_i a ks ws e
  have hi:j<b.length:=by rw[<- I.len];show (qB4.mp e).1
  have es:b[j]?=some b[j]:=Xaf;obtain ⟨v0,ev,r⟩:=I.sl j _ _ e es;obtain ⟨a3,rfl,hj,hk,_⟩:=r.inv;refine ⟨H0,G,c,I,OutP.bind I o [Tz,v,w1,e1]⟩;have T:=I.ext e1;refine ⟨_,by rw[es,ev],H0,G1,c,T,OutP.bind T o1 λy G2 H2 w e2 m2 o2=>?_⟩;have O:=T.ext e2;unfold zI at o2
  split at o2
  .rename_i k
   obtain rfl:=Md.strB m2;obtain ⟨kvs,h0,hl,q⟩:=o2;refine ⟨a,_,rfl,DPut.k (k:=.inr k) (O.hh a _ h0) (qB6 hl Xaa),?_⟩;show q v G2 b H2 O.gh O.hh O.gl (Rep.same e2.gg m1)
  .show o2.elim
 .show o.elim
open Classical in
def pput (f:Addr->R W):Option (Str×W):=if h:∃kw:Str×W,∀p,f p=.ok (.dst false p [kw.1] [kw.2]) then some (Classical.choose h) else none
open Classical in
def pput2 (f:Addr->Addr->R W):Option (Str×W):=if h:∃kw:Str×W,∀q p,f q p=.ok (.dst false p [kw.1] [kw.2]) then some (Classical.choose h) else none
def yz (a b:Option Sl):Option (DW×DW):=match a,b with
 |some (.dos x),some (.dos y)=>some (x,y)
 |_,_=>none
def Dw (h:yz a b=some p):a=some (.dos p.1)/\b=some (.dos p.2):=by
 unfold yz at h
 split at h
 .cases h;show ⟨rfl,rfl⟩
 .cases h
def Ag (h:R5 a=true):R5 (a.set i .un)=true:=by
 unfold R5 at h ⊢;rw[qE0]at h ⊢;intro x I;rcases qR2 I with q|q
 .show h x q
 .rw[q];rfl
def lO (t:TS):TS:=λD a H=>∃p,pT p t D a H
def so (h:PS X st t):PS X st (lO t):=λpins s a H D I O=>by obtain ⟨p,q⟩:=O;show vC p h pins s a H D I q
def yP {a:Rho}(e:[ZI,a,x]) (I:i≠j):((a.set i .un).set j y).set i x=a.set j y:=by
 rw[List.set_comm _ _ I,List.set_set,List.set_comm _ _ I.symm];obtain ⟨h,e⟩:=List.getElem?_eq_some_iff.mp e;rw[<- e,List.set_getElem_self]
def iW {X}{K}{EX}{d}{pos}{i}{x}{pos' I}(O:X.N.Nodup) (hi:[ZI,X.N,x]) (T:Loc X.env.scope x) (hs:[XXa,swapsWith (.Dict [] [] pos) [ZT,[YD,x,pos']] I.line X.env=pure false]) (hf:X.fn x=true\/X.env.scope.names.lookup x=some .local:=by first|show Or.inl rfl|show Or.inr rfl):
  PS X (.Assign [.Name x pos'] (.Dict [] [] pos) I) [Tx,gX i]:=[TD,Z7 O hi T zS hs hf,GW q]
def vt {X}{K}{EX}{k}{pos}{I:Xad}{i}{x}{p}(hu:X.A.units+64<cLine)(O:[ZI,X.N,x])(T:[cz])(hk:[ZR,k,.B,I])(hd:[Z02])(Ub:[Z0V])(hm:[XXa,behindInMarks .In (.Name x p)=false]):PT X (.Compare k [.In] [.Name x p] pos) (tT K EX (nA false i I)):=[TD,vA (Kv ZU hk (x9 O T hd Ub)) hm,NV q]
def vq {X}{K}{EX}{k}{pos}{I:Xad}{i}{x}{p}(hu:X.A.units+64<cLine)(O:[ZI,X.N,x])(T:[cz])(hk:[ZR,k,.B,I])(hd:[Z02])(Ub:[Z0V])(hm:[XXa,behindInMarks .NotIn (.Name x p)=false]):PT X (.Compare k [.NotIn] [.Name x p] pos) (tT K EX (nA true i I)):=[TD,vA (vO ZU hk (x9 O T hd Ub)) hm,xN q]
def xF:C6 X (.builtin "len") (λxs H Q=>∃a kvs,xs = [.ref a]/\Rd H a (.dK kvs)/\Q (.int kvs.length) H):=by
 intro pins s b H xs us Q I r h;obtain ⟨a,kvs,rfl,ha,q⟩:=h;obtain ⟨u,rfl,O⟩:=vals1 r;cases O;show Re I ha λt s' T=>⟨.int _,H,T,⟨t,rfl⟩,q⟩
def mH {X}{K}{EX}{d}{pos}{i}{x}{p p2}(hg:Gl X "len") (hm:X.mg "len" = none) (hN:[ZI,X.N,x]) (T:[cz]) (hd:[Z08]) (Ub:[XXb,(x == ("__classdict__" : Str))=false]) (I:[XXa,[Tm,[.Name x p]]=[SJ,[YD,x,p]]::[Tm,[]]]) (O:[XXa,(backTo pos (starEach [] X.env)).any (·.1)=false]):[ZR,[SY,[YD,"len",p2],[.Name x p]],d,im i]:=
 (mR xF hg hm qB8 (B8 (x9 hN T hd Ub) pa_nil I) Xaa Xaa I O).mono λb H Q q=>by
  obtain ⟨a,kvs,es,ha,h⟩:=NL q;show ⟨_,es,a,kvs,rfl,ha,h⟩
def JY {X:Cx}{K}{EX}{k v}{I mv:Xad}{i}{x}{p apos TU:Pos}(hN:[ZI,X.N,x]) (hv:[cz]) (hk:[ZR,k,.B,I]) (he:[ZR,v,.V,mv]) (T:[XXa,X.K=K]) (hd:[Z08]) (Ub:[XXb,(x == ("__classdict__" : Str))=false]) (TX:[XXa,attributeBase [YD,x,p] "get" X.env [Sy,[YD,x,p]]=eval [YD,x,p] X.env]) (Ul:((backTo TU (starEach [k,v] X.env)).all (λx=>!x.1)&&(backToKw TU (keywordEach [] X.env)).all (λx=>x.1.isSome)
   && [ZL,[ZM,([k,v]:ZX)]+[ZM,([]:List Keyword)]+[Z0j]<30])=true:=by rfl) (O:[Z0X]:=by rfl) (hs:[Tm,[k,v]]=[SJ,k]::[Tm,[v]]:=by rfl) (UC:[Tm,[v]]=[SJ,v]::[Tm,[]]:=by rfl) (Ua:[Z0r,[v],X.env]:=by rfl):
  [ZR,.Call [wr,[YD,x,p],"get"] [k,v] [] TU,.V,lu i I mv]:=by
 subst T;show [TD,dZ qS6 PySem.F.slot_dict_get PySem.F.type_dict_get KY (x9 hN hv hd Ub) (B8 hk (B8 he pa_nil UC) hs) TX Ul O hs Ua,NQ q]
def qi {X:Cx}{K}{EX}{pos}{i}{x}{p p2}(hc:X.calm=true) (hg:Gl X "list") (hm:X.mg "list" = none) (hN:[ZI,X.N,x]) (T:[cz]) (hd:[Z08]) (Ub:[XXb,(x == ("__classdict__" : Str))=false]) (I:[XXa,[Tm,[.Name x p]]=[SJ,[YD,x,p]]::[Tm,[]]]) (O:[XXa,(backTo pos (starEach [] X.env)).any (·.1)=false]):[ZR,[SY,[YD,"list",p2],[.Name x p]],.F,gW i]:=
 (jW (tQ hc) hg hm Hd (B8 (x9 hN T hd Ub) pa_nil I) Xaa Xaa I O).mono λb H Q q=>by
  obtain ⟨a,kvs,es,ha,h⟩:=GT q;show ⟨_,es,a,kvs,rfl,ha,h⟩
def qg {X}{K}{EX}{pos}{i}{x}{p p2 apos TU}(hc:X.calm=true) (I:Gl X "tuple") (YG:X.mg "tuple" = none) (hN:[ZI,X.N,x]) (T:[cz]) (hd:[Z02]) (Ub:[Z0V]) (TX:[XXa,attributeBase [YD,x,p] "values" X.env [Sy,[YD,x,p]]=eval [YD,x,p] X.env]) (O:[XXa,[Z0X]]) (UC:[XXa,[Tm,[.Call [wr,[YD,x,p],"values"] [] [] TU]] = [[SJ,.Call [wr,[YD,x,p],"values"] [] [] TU]]]):[ZR,[SY,[YD,"tuple",p2],[.Call [wr,[YD,x,p],"values"] [] [] TU]],.F,gS i]:=
 [TD,zP hc I YG (x9 hN T hd Ub) TX O UC,GJ q]
def JX {X}{K}{EX}{tg}{lp}{i}{x}{p}(I:[ZI,X.N,x])(O:[cz])(hd:[Z02])(T:[Z0V]):PI X tg [YD,x,p] (tIt K EX lp .U (sZ i)):=(Ko (x9 I O hd T)).mono [SH,NP (.inr rfl) q]
def Ey {X}{K}{EX}{d}{e k}{pos}{I me:Xad}{i}{x}{p p2}(hu:X.A.units+64<cLine)(hN:[ZI,X.N,x])(O:[cz])(hk:[ZR,k,.B,I])(T:[ZR,e,.V,me])(hd:[Z02])(Ub:[Z0V])(hs:[XXa,[Z0N,e,.Subscript [YD,x,p] k p2]=pure false]):PS X (.Assign [.Subscript [YD,x,p] k p2] e pos) [Tx,lq i I me]:=[TD,qo ZU (x9 hN O hd Ub) hk T hs,NG q]
def vj {X}{K}{EX}{e k}{pos}{I me:Xad}{i}{x}{p p2}(hu:X.A.units+64<cLine)(hN:[ZI,X.N,x])(O:[cz])(hk:[ZR,k,.B,I])(T:[ZR,e,.V,me])(hd:[Z02])(Ub:[Z0V])(hs:[XXa,[Z0N,e,.Subscript [YD,x,p] k p2]=pure false]):PS X (.Assign [.Subscript [YD,x,p] k p2] e pos) (tStP K EX (kS i I me)):=[TD,qo ZU (x9 hN O hd Ub) hk T hs,NH q]
def bv {X}{K}{EX}{d}{m n}{st}{I}(T:PS X st [Tx,m])(O:PSs X I (tStP K EX n)):PSs X (st::I) (tStP K EX (aR (nb m) n)):=[TD,R3 (T.mono [SH,tStP.toS q]) O,Nz q]
def qh {X}{K}{EX}{m}{st}(I:PS X st (tStP K EX m)):PSs X [st] (tStP K EX m):=bw I
def J9 {a:Type}:List a->List a
 | []=>[]
 | [x]=>[x]
 |x::_::r=>x::J9 r
def il:∀l:List a,(List.range ((l.length+1)/2)).filterMap (λk=>l[2*k]?)=J9 l
 | []=>by
  have e:([ZM,([]:List a)]+1)/2=0:=Xaf;rw[e];rfl
 | [x]=>by
  have e:([ZM,[x]]+1)/2=1:=Xaf;rw[e];rfl
 | x::y::r=>by
  have e:([ZM,x::y::r]+1)/2=(r.length+1)/2+1:=by simp [qC2];omega
  rw[e,List.range_succ_eq_map,qH7]
  change x::_=x::_;rw[qQ0,<- il];rfl
def km:∀l:List a,[ZM,J9 l]<=l.length
 | []=>qA6 _
 | [x]=>qA6 _
 |x::y::r=>by have:=km r;simp [J9];omega
def ik:∀{xs}{us:ZW},Vals xs us->Vals (J9 xs) (J9 us)
 |_,_,.nil=>.nil
 |_,_,.cons h .nil=>.cons h .nil
 |_,_,.cons h (.cons _ t)=>.cons h (ik t)
def cC:∀{xs}{ws:Xag},Reps K F xs ws->Reps K F (J9 xs) (J9 ws)
 | [],_,h=>by cases h;show .nil
 | [_],_,h=>by
  cases h with
  |cons a t=>cases t;show .cons a .nil
 | _::_::r,_,h=>by
  cases h with
  | cons a t=>cases t with
   |cons b t=>show .cons a (cC t)
def lo2:Option Int->Option Nat
 |none=>some 0
 |some 1=>some 1
 |_=>none
def Qn (its:ZW) (h:lo2 lo=some a):slicePick its.toArray lo none [ZT,2]=(J9 (its.drop a)).toArray:=by
 have O:sliceBounds lo none [ZT,2] its.toArray.size=(((min a its.length:Nat):Int),(its.length:Int),2):=by
  unfold lo2 at h
  split at h
  .cases h;simp [sliceBounds]
  .change _=_;refine Prod.ext ?_ rfl
   change max 0 (min _ (its.length:Int))=_;omega
  .cases h
 unfold slicePick;rw[O];refine congrArg _ ?_;have hr:sliceRange ((min a its.length:Nat)) (its.length) 2=[Tp,([ZM,its.drop a]+1)/2,λk=>a+2*k]:=by
  unfold sliceRange;rw[qF4];by_cases hl:a<its.length
  .have I:((min a its.length:Nat):Int)<(its.length:Int):=ZU;simp only [[SK,(2:Int)>0],qK7,I];have e:(((its.length:Int)-((min a its.length:Nat):Int)+2-1)/2).toNat=(its.length-a+1)/2:=ZU;rw[e];refine qH8 λk _=>?_;omega
  .have I:¬ ((min a its.length:Nat):Int)<(its.length:Int):=ZU;simp only [[SK,(2:Int)>0],qK7,I,qM8];have e:(its.length-a+1)/2=0:=ZU;rw[e];rfl
 rw[hr,qQ0,<- il];refine congrArg (λf=>List.filterMap f _) (funext λk=>?_)
 change its.toArray[a+2*k]?=(its.drop a)[2*k]?;rw[List.getElem?_drop];simp
def Iv (K:Frag)(O:TE)(T tk:TO):TE:=λc H Q=>O c H λx H1=>T c H1 λl H2=>tk c H2 λk I=>k=some 2/\∃a xs b,x=.ref a/\lo2 l=some b/\SqL K I a xs/\∀p,I p=none->Q [ZE,p] (upd I p (.lst (J9 (xs.drop b))))
section
open PySem.W PyProof.Rows
def vK {st}{lo}(he:PE X e te) (hl:PO X lo tl) (hk:PO X [ZT,st] tk):PE X (.Subscript e (.Slice lo none [ZT,st] p2) pos) (Iv X.K te tl tk):=by
 show 7 c;refine Subscript_ (thn [SI,he,c] λv s1 T=>?_);obtain ⟨x,H1,I1,r1,q1⟩:=T;refine wpAny_Slice (thn (hl pins s1 c H1 _ I1 q1) λvl s2 O=>?_);obtain ⟨l,H2,I2,pl,q2⟩:=O;refine qK4 ?_;refine thn (hk pins s2 c H2 _ I2 q2) λvk s3 a3=>?_;obtain ⟨k,H3,I3,pk,Wq,a,xs,b,Yu,a4,hx,q⟩:=a3;subst Yu Wq;cases r1;have I4:[YR,c,H3,[To,s3,s3.heap.push [Z0A,"slice",#[vl,.none,vk]]]]:=I3.kept λb ob q=>qA2 _ q;obtain ⟨its,r,ht,hz⟩:=I4.list hx;have hlen:=r.length;refine tail_any ht.isList.typeIs slot_list_getitem.lookup ?_ (by with_unfolding_all rfl);refine wpAny_getItem_list_slice ht.isList (Heap.IsSliceOf.new ..) pl .none pk Xaa ?_ (by rw[qD6] <;> omega)
 rw[Qn its a4];refine ⟨.ref _,_,I4.laid (o:=_) (λb ob q=>qA2 _ q) (qA6 _) ?_,rfl,q _ (I4.hok.fresh (qA6 _))⟩;show ⟨qC8 (km _) (by rw[qF4];omega),_,0,ik (r.drop b),qB1 _ rfl⟩
end
def st2 (c:Bool) (x:W) (l k:ZV):R W:=if k=some 2 then (match lo2 l with
 |some b=>toR (lstOf x)>>=λws=>chks c (J9 (ws.drop b))
 |none=>.stuck) else .stuck
def yu (c:Bool)(m:Xad)(I O:Rho->R ZV):Xad:=λa=>m a>>=λx=>I a>>=λl=>O a>>=λk=>st2 c x l k
def Rp (h:[Tw,.F,yu c m ml mk,e]):Iv K (tM K EX (cb c) m) (K2 K EX ml) (K2 K EX mk) e H Q:=by
 show 4 d (Out.bind o λx G1 H1 w e1 m1 o1=>⟨H0,G1,d,I.ext e1,Out.bind o1 λl' G2 H2 l T m2 o2=>⟨H0,G2,d,(I.ext e1).ext T,Out.bind o2 λk' G3 H3 k e3 m3 O=>?_⟩⟩);subst m2;subst m3;have I3:=((I.ext e1).ext T).ext e3;unfold st2 at O;by_cases hk:k'=some 2
 .rw [qA3 hk]at O
  cases ql:lo2 l' with
  |none=>rw[ql]at O;show O.elim
  | some b=>
   rw[ql]at O;cases q:lstOf w with
   |none=>rw[q]at O;show O.elim
   | some ws=>
    rw[q]at O;obtain ⟨a,vs,ex,hs,r⟩:=Md.lstOf I3 ((m1.move T).move e3) q;refine ⟨hk,a,vs,b,ex,rfl,hs,Out.chks I3 ((e1.hh.trans T.hh).trans e3.hh) ?_ O⟩;cases c with
    |true=>show cC (r.drop b)
    |false=>show cC (r.drop b)
 .rw[qA9 hk]at O;show O.elim
def Ck {X}{K}{EX}{e}{pos}{ma:Xad}c{lo}{st}{p2}{I O}(T:[ZR,e,cb c,ma]) (hl:PO X lo (K2 K EX I)) (hk:PO X [ZT,st] (K2 K EX O)) (hK:X.K=K:=by rfl):[ZR,.Subscript e (.Slice lo none [ZT,st] p2) pos,.F,yu c ma I O]:=by
 subst hK;show [TD,vK T hl hk,Rp q]
end TP
namespace L2
open PySem PySem.Spec PyProof.Rows
def ui (lo:Int)(n:Nat):It:=⟨λi _=>i<n,λi H x H'=>H'=H/\x=.int (lo+i*2),λi _=>n<=i⟩
def pq {K}it lo n:Turn P w K tg (ui lo n) [it] it (λi h=>IsRangeIter h it (lo+i*2) (n-i) 2) where
 mem:=Xaf
 obj:=λi h st b O=>by
  have e:b=it:=by simpa using O
  subst e;show ⟨_,st,λv z=>by
   have z':=z;cases z'⟩
 keep:=λi h h' st k=>k it Xaf _ st
 item:=by
  show 19;show 20;have W:=Walks.range (prog:=X.prog) (w:=X.w) (I.ok.hd hc) it lo 2 n;refine W.item i s _ _ hg st λv h' tk hv Uo kk=>?_;show 1 t hv;have I1:[YR,a,H,[SS,s,h',tk]]:=[Z0o,kk,[SX,O],T];show [WH,rfl,eM (n := "range_iterator") Uo rfl rfl Xaa ⟨.int _,H,I1,⟨t,rfl⟩,⟨rfl,rfl⟩,Uo,λb O=>(hf b O).1⟩]
 done:=by
  intro X hP hw hK hc i pins s a H E I hf st hg;show 20;show wpAny_pyNext_range_end (I.ok.hd hc) st (by have:n<=i:=hg;omega) λh' eb=>⟨rfl,[Z0o,eb,O,T]⟩
 self:=λ_ _ _ _ _ st h=>wpAny_pyIter_rangeiter st h
def CH (ta:TA):TI:=λa H R=>ta a H λvs H1=>∃i j:Int,vs = [.int i,.int j,.int 2]/\(-1000000<=i/\i<=1000000 /\ -1000000<=j/\j<=1000000)/\R (ui i ((j-i+1)/2).toNat) H1
def Ce:Builtin.Range.rangeSize i j 2=(((j-i+1)/2).toNat):=by
 unfold Builtin.Range.rangeSize
 split <;> omega
def IF (h:-1000000<=i/\i<=1000000 /\ -1000000<=j/\j<=1000000):Builtin.Range.small i j 2=true:=by
 unfold Builtin.Range.small;rw[Ce];simp [Builtin.Range.rangeFitsLong,Bool.or_eq_true,qR1,qK7];omega
def vI {X}{tg}{a b c}{ta}{p pos}(hg:Gl X "range") (hm:X.mg "range" = none) (ha:PA X [a,b,c] ta) (hs:[XXa,[Tm,[a,b,c]] = [[SJ,a],[SJ,b],[SJ,c]]]) (UC:[XXa,[Tm,[b,c]] = [[SJ,b],[SJ,c]]]):
  PI X tg [SY,[YD,"range",p],[a,b,c]] (CH ta):=by
 intro pins s d H R I h;refine Call_ (W2 I hg hm boot_range (qF2 (thn (ha pos pins s d H _ I h) λus s1 O=>?_) (by rw[hs,UC]) (by rw[UC];rfl)));obtain ⟨vs,H1,I1,r1,q1⟩:=O;obtain ⟨i,j,e,hb,q⟩:=q1;subst e;cases r1 with
 | cons r T=>
  cases T with
  | cons r' T=>
   cases T with
   | cons a4 T=>
    cases T;show 1 t r;show 1 t' r';show 1 a3 a4;refine PySem.call_range_3 Xaa ?_ (.inl (PyProof.noPylong_small Xaa));refine wpAny_pyIter_range (IsRange.new ..) (IF hb) ?_;have I2:[YR,d,H1,[SS,s1,s1.heap.push [Z0A,"range",#[.int i t,.int j t',.int 2 a3]],s1.toks]]:=I1.kept λb o e=>qA2 _ e;refine ⟨_,_,_,_,H1,rfl,
     I2.kept λb o e=>qA2 _ e,pq _ i _,?_,λb hb=>?_,q⟩
    .have e1:i+((0:Nat))*2=i:=Xaf;have e2:((((j-i+1)/2).toNat))-((0:Nat))=Builtin.Range.rangeSize i j 2:=by rw[Ce];omega
     rw[e1,e2];show qB1 _ rfl
    .have e:b=(s1.heap.push [Z0A,"range",#[.int i t,.int j t',.int 2 a3]]).objs.size:=by simpa using hb
     subst e;show I2.fpOk (qA6 _) (I2.hok.fresh (qA6 _))
end L2
namespace TP
open PySem L2
noncomputable def mn:List W->R Xag
 | [.int i,.int j,.int k]=>[TJ,k=2 /\ -1000000<=i/\i<=1000000 /\ -1000000<=j/\j<=1000000,.ok ([Tp,((j-i+1)/2).toNat,λk=>W.int (i+(k:Nat)*2)])]
 |_=>.stuck
def wJ (he:e=.V\/e=.U):X3 K e H0 Z G (ui lo n) ([Tp,n,λk=>W.int (lo+(k:Nat)*2)]):=by
 refine ⟨λi H hi _=>by change i<n;simpa using hi,λH _=>by simp [ui],λi H x H' w hw _ O G2 b a I _=>?_⟩;obtain ⟨e1,T⟩:=O;subst e1;subst T;rw[qC6]at hw;cases q:(List.range n)[i]? with
 |none=>rw[q]at hw;cases hw
 | some k=>
  rw[q]at hw;have hk:k=i:=by
   grind
  subst hk;cases hw;refine ⟨G2,Ext.refl I.gh,?_⟩;rcases he with rfl|rfl
  .show .int
  .show .int
def NB (T:e=.V\/e=.U) (h:tIt K EX lp e (bI mn ma) d H Rr):CH (tA K EX .B ma) d H Rr:=by
 refine bT h (λH0 G f G1 H1 xs ws us I O m1 q o=>?_) (λws e z=>?_)
 .unfold mn at q
  split at q
  .rename_i i j k
   split at q
   .rename_i hc
    cases q;cases m1 with
    | cons a t=>cases t with
     | cons b t=>cases t with
      | cons c t=>
       cases t;rw[a.intB,b.intB,c.intB,hc.1];show ⟨i,j,rfl,hc.2,o _ G1 H1 O (wJ T)⟩
   .cases q
  .cases q
 .unfold mn at z
  split at z
  .split at z <;> cases z
  .cases z
def JT {X}{K}{EX}{tg}{lp}{pos}{I:Xal}{a b c}{p}(hg:Gl X "range") (hm:X.mg "range" = none) (ha:PA X [a,b,c] (tA K EX .B I)) (hs:[XXa,[Tm,[a,b,c]] = [[SJ,a],[SJ,b],[SJ,c]]]) (O:[XXa,[Tm,[b,c]] = [[SJ,b],[SJ,c]]]):PI X tg [SY,[YD,"range",p],[a,b,c]] (tIt K EX lp .U (bI mn I)):=
 [TD,vI hg hm ha hs O,NB (.inr rfl) q]
end TP
namespace L2
open PySem PySem.Spec PyProof.Rows Builtin Builtin.Str
end L2
namespace TP
open PySem L2
end TP
namespace L2
open PySem PySem.Spec PyProof.Rows Builtin Builtin.Str
def PEn (X:Cx) (e:Expr) (t:TE):Prop:=
 ∀(pins:ZQ) (s:Shared) (a:L2.St) (H:Hp) (Q:VK),([UE])->t a H Q->[yc,[Sy,e],λu s'=>s'.toks≠0/\EP X pins a Q u s']
def PEk (X:Cx) (e:Expr) (t:TE):Prop:=
 ∀(pins:ZQ) (s:Shared) (a:L2.St) (H:Hp) (Q:VK),([UE])->s.toks≠0->t a H Q->[yc,[Sy,e],λu s'=>s'.toks≠0/\EP X pins a Q u s']
def PAk (X:Cx) (es:ZX) (t:TA):Prop:=
 ∀(pos:Pos) (pins:ZQ) (s:Shared) (a:L2.St) (H:Hp) (Q:[Ts,List V]),([UE])->s.toks≠0->t a H Q->[yc,spliced (backTo pos (starEach es X.env)),AP X pins a Q]
end L2
namespace TP
open PySem L2
def cX (K:Frag) (n:Nat) (f:[TR]):Sp:=λvs H Q E=>vs.length=n/\∃ws,[Th,H]/\match f ws with
 | .ok (.dst false p [k] [w])=>∃kvs,H p=some (.dK kvs)/\kvs.length<1000/\∀v G' H',Same G' H'->Same H H'->(∀a o,H a=some o->isL o=true->G' a=none)->Rep K G' v w->Q .non (upd H' p (.dK (putK kvs (Sum.inr k) v)))
 | .ex e=>∀H',Same H H'->XE1 K E e H'
 |_=>False
def BB (h:cX K n (d9 n Nl.length m) vs H Q E):tStP K (XE1 K E) m { nx:=λ_ H'=>Q .non H',rt:=Q } (L2.start Nl vs) H:=by
 obtain ⟨hl,ws,r,o⟩:=h;have hw:ws.length=n:=by rw[<- r.length];show hl
 unfold d9 at o;rw[qA3 hw]at o;refine ⟨H,_,_,PIv.begin r (by rw[hl]),?_⟩
 revert o
 cases m _ with
 |stuck=>show id
 |ex e=>show λo=>o
 | ok f=>
  cases f with
  |nx a3=>show λo=>o.elim
  |bk _=>show λo=>o.elim
  |ct _=>show λo=>o.elim
  | rt w=>
   intro o;have o':=o
   split at o'
   .rename_i p k w0 e
    cases e;obtain ⟨kvs,O,I,q⟩:=o';show ⟨kvs,O,I,λv G' T H' a b c d=>q v G' H' a b c d⟩
   .rename_i e;cases e
   .show o'.elim
open Classical in
def X7 (f:Addr->R W):R (Str×W):=if h:∃kw:Str×W,∀p,f p=.ok (.dst false p [kw.1] [kw.2]) then .ok (Classical.choose h) else if h:∃e,∀p,f p=.ex e then .ex (Classical.choose h) else .stuck
def sr (h:X7 f=.ok kw) p:f p=.ok (.dst false p [kw.1] [kw.2]):=by
 unfold X7 at h
 split at h
 .grind
 .split at h <;> cases h
def zM (h:X7 f=.ex e) p:f p=.ex e:=by
 unfold X7 at h
 split at h
 .cases h
 .split at h
  all_goals grind
def zL (h:∀p,f p=.ok (.dst false p [k] [w])):X7 f=.ok (k,w):=by
 have I:∃kw:Str×W,∀p,f p=.ok (.dst false p [kw.1] [kw.2]):=⟨(k,w),h⟩;unfold X7;rw[dif_pos]
 have:=qG9 I 0
 rw[h]at this;cases this;rfl
def EG (h:∀p,f p=.ex e):X7 f=.ex e:=by
 have hn:¬ ∃kw:Str×W,∀p,f p=.ok (.dst false p [kw.1] [kw.2]):=λI=>by
  simp_all
 have O:∃e,∀p,f p=.ex e:=⟨e,h⟩;unfold X7
 have:=qG9 O 0
 grind
open Classical in
def S0 (f:Addr->Addr->R W):R (Str×W):=if h:∃kw:Str×W,∀q p,f q p=.ok (.dst false p [kw.1] [kw.2]) then .ok (Classical.choose h) else if h:∃e,∀q p,f q p=.ex e then .ex (Classical.choose h) else .stuck
def pz (h:S0 f=.ok kw) q p:f q p=.ok (.dst false p [kw.1] [kw.2]):=by
 unfold S0 at h
 split at h
 .grind
 .split at h <;> cases h
def vE (h:S0 f=.ex e) q p:f q p=.ex e:=by
 unfold S0 at h
 split at h
 .cases h
 .split at h
  all_goals grind
def vD (h:∀q p,f q p=.ok (.dst false p [k] [w])):S0 f=.ok (k,w):=by
 have I:∃kw:Str×W,∀q p,f q p=.ok (.dst false p [kw.1] [kw.2]):=⟨(k,w),h⟩;unfold S0;rw[dif_pos]
 have:=qG9 I 0 0
 rw[h]at this;cases this;rfl
def zN (h:∀q p,f q p=.ex e):S0 f=.ex e:=by
 have hn:¬ ∃kw:Str×W,∀q p,f q p=.ok (.dst false p [kw.1] [kw.2]):=λI=>by
  simp_all
 have O:∃e,∀q p,f q p=.ex e:=⟨e,h⟩;unfold S0
 have:=qG9 O 0 0
 grind
def kX (i:Nat) (kw:DW) (a:Rho) (o:R (Str×W)):R Fl:=match o with
 | .ok (k,w)=>[TJ,R5 a=true/\k∉kw.1/\kw.1.length<1000,[Rn,.dos (kw.1 ++ [k],kw.2 ++ [w])]]
 | .ex e=>.ex e
 | .stuck=>.stuck
def cw (i:Nat) (f:[TR]) (m1:Xad):Xae:=λa=>m1 a>>=λI=>match a[i]? with
 |some (.dos kw)=>kX i kw a (X7 λp=>f [I,.dst false p kw.1 kw.2])
 |_=>.stuck
def aD (i j:Nat) (f:[TR]) (m1:Xad):Xae:=λa=>match yz a[i]? a[j]? with
 |some (UT,VH)=>[TJ,i≠j/\R5 a=true,m1 (a.set i .un)>>=λI=>kX j VH a (S0 λq p=>f [I,.dst true q UT.1 UT.2,.dst false p VH.1 VH.2])]
 |none=>.stuck
def xS (h:tSt K (XE1 K E) d (cw i f m1) D b H):gm (X5 (cX K 2 f) [] E (F1 (tM K (XE1 K E) .B m1) (F1 (z8 i) tNil))) D b H:=by
 show 4 c (OutS.bind I o [Tz,x,w1,T]);have O:=I.ext T
 split at o1
 .rename_i kw e
  obtain ⟨a,kvs,es,ha,hg,h0,r⟩:=O.dos_at e;refine [WH,es,?_];unfold kX at o1
  split at o1
  .rename_i k w hp
   split at o1
   .rename_i hc
    refine ⟨rfl,_,.cons (m1.whole O) (.cons (.dst ha r.1 (r.2.same O.gh)) .nil),?_⟩;rw[sr hp a];have hl:=r.len;refine ⟨kvs,ha,ZU,λv G' H' gH sH cl rv=>?_⟩;obtain ⟨Um,ex⟩:=cG O sH gH cl;show o1 _ b _ ex.gg ((O.ext ex).dos_upd e es hc.1 (iX (r.same ex.gg) hc.2.1 (rv.same Um)))
   .show o1.elim
  .rename_i e0 hp
   refine ⟨rfl,_,.cons (m1.whole O) (.cons (.dst ha r.1 (r.2.same O.gh)) .nil),?_⟩;rw[zM hp a];show λH' s=>o1 H' (O.hh.trans s)
  .show o1.elim
 .show o1.elim
def xQ (h:tSt K (XE1 K E) d (aD i j f m1) D b H):lO (gm (X5 (cX K 3 f) [] E (F1 (tM K (XE1 K E) .B m1) (F1 (z8 i) (F1 (z8 j) tNil))))) D b H:=by
 show 5 c;show 10 aD
 .rename_i UT VH tw
  obtain ⟨e1,e2⟩:=Dw tw
  split at o
  .rename_i hc0
   obtain ⟨Vf,one⟩:=hc0;obtain ⟨T,VI,Yg,XY,VV,a4,r1⟩:=I.dos_at e1;refine ⟨T,VI,XY,λob=>?_⟩;have hi:=(qB4.mp e1).1;have I':=I.dos_chg (u:=.frz ob (.dK VI)) (s':=.un) e1 Yg one trivial λ_ z=>by cases z
   refine ⟨H0,G,_,I',OutS.bind I' o [Tz,x,w1,WG]⟩;have O:=I'.ext WG;have Xv:(c.set i .un)[j]?=some (.dos VH):=by grind
   obtain ⟨a2,WT,UK,VB,WD,a7,r2⟩:=O.dos_at Xv;have a3:T≠a2:=λz=>by subst z;show I.nd i j UT VH T Vf e1 e2 Yg UK
   have Wz:=WG.hh _ _ d5;have a5:=WG.keep _ _ d5 rfl VV;refine ⟨_,Yg,_,UK,?_⟩;unfold kX at o1
   split at o1
   .rename_i k w hp
    split at o1
    .rename_i hc
     refine ⟨rfl,_,.cons (m1.whole O) (.cons (.dsz Wz r1.1 ((r1.2.same WG.gg).same O.gh)) (.cons (.dst VB r2.1 (r2.2.same O.gh)) .nil)),?_⟩;rw[pz hp T a2];have hl:=r2.len;refine ⟨WT,VB,ZU,λv G' H' gH sH cl rv=>?_⟩;obtain ⟨Um,ex⟩:=cG O sH gH cl;have I2:=(O.ext ex).dos_upd Xv UK (Ag one) (iX (r2.same ex.gg) hc.2.1 (rv.same Um));have Yt:upd H' a2 (.dK (putK WT (Sum.inr k) v)) T=some (.frz ob (.dK VI)):=[ZO,c0 a3,sH _ _ Wz]
     have a6:both G1 G' T=none:=by
      unfold both;rw[a5];show cl _ _ Wz rfl
     have I3:=I2.dos_in (i:=i) (a:=T) (kvs:=VI) (kw:=UT) (by rw[qD0,qD0];show hi) Yg (λu q=>by grind) a6 a4 ((r1.same WG.gg).same ex.gg);rw[yP e1 Vf]at I3;show ⟨Yt,o1 _ b _ ex.gg I3⟩
    .show o1.elim
   .rename_i e0 hp
    refine ⟨rfl,[w1,.dst true T UT.1 UT.2,.dst false a2 VH.1 VH.2],.cons (m1.whole O) (.cons (.dsz Wz r1.1 ((r1.2.same WG.gg).same O.gh)) (.cons (.dst VB r2.1 (r2.2.same O.gh)) .nil)),?_⟩;rw[vE hp T a2];show λH' s=>o1 H' (O.hh.trans s)
   .show o1.elim
  .show o.elim
 .show o.elim
section
open PyProof.Rows
def vx {P}{w}{K}{mg}{base}{N}{qual}{scope}{I}{cd}{O}{outer:List Env}{s0}{H0}{E}{d}{e}{pos}{i kk}{y}{p1 p2 TU}{f}{fd}{ps}{x}{N'}{m}{ma:Xad}(hN:[ZI,N,y]) (hv:Vis scope y) (F:[Z0l,kk,cX K 2 (d9 2 N' m)]) (hr:Room kk (i4 (CXW P w) P w K mg base N qual scope I cd O outer s0 H0 E).A) (hg:Gl (i4 (CXW P w) P w K mg base N qual scope I cd O outer s0 H0 E) x) (hm:mg x=some [ZE,f]) (hk:PySem.W.keepIn K [ZE,f]=true) (hb:Binds K fd ps []) (h1:PE (i4 (CXW P w) P w K mg base N qual scope I cd O outer s0 H0 E) e (tM K (XE1 K E) .B ma)) (hd:[Z0f,y]) (Ub:[XXb,(y == ("__classdict__" : Str))=false]) (Ue:[Z08]) (T:[XXa,starEach [e,.Name y p2] [SB]=(false,eval e [SB])::starEach [.Name y p2] [SB]]) (YQ:[XXa,starEach [.Name y p2] [SB]=(false,eval [YD,y,p2] [SB])::starEach [] [SB]]) (TY:[XXa,[Z0r,[.Name y p2],[SB]]]) (UM:[XXa,swapsWith (.Call [YD,x,p1] [e,.Name y p2] [] TU) none pos.line [SB]=pure false]):
  PS (i4 (CXW P w) P w K mg base N qual scope I cd O outer s0 H0 E) (.Expr (.Call [YD,x,p1] [e,.Name y p2] [] TU) pos) (tSt K (XE1 K E) d (cw i (d9 2 N' m) ma)):=
 [TD,dY (P1 F hr hg hm hk hb .nil kY (B8 h1 (B8 (x9 hN hv hd Ub) pa_nil YQ) T) Ue T TY) UM,xS q]
def vw {P}{w}{K}{mg}{base}{N}{qual}{scope}{I}{cd}{A0}{outer:List Env}{s0}{H0}{E}{d}{e}{pos}{i j kk}{y z}{p1 p2 O TU}{f}{fd}{ps}{x}{N'}{m}{ma:Xad}(hN:[ZI,N,y]) (hv:Vis scope y) (a5:N[j]?=some z) (Yw:Vis scope z) (F:[Z0l,kk,cX K 3 (d9 3 N' m)]) (hr:Room kk [Z0w].A) (hg:Gl [Z0w] x) (hm:mg x=some [ZE,f]) (hk:PySem.W.keepIn K [ZE,f]=true) (hb:Binds K fd ps []) (h1:PE [Z0w] e (tM K (XE1 K E) .B ma)) (hd:[Z0f,y]) (Ub:[XXb,(y == ("__classdict__" : Str))=false]) (a3:[Z0f,z]) (T:[XXb,(z == ("__classdict__" : Str))=false]) (Ue:[Z08]) (he:[XXa,starEach [e,.Name y p2,.Name z O] [SB]=(false,eval e [SB])::starEach [.Name y p2,.Name z O] [SB]]) (YQ:[XXa,starEach [.Name y p2,.Name z O] [SB]=(false,eval [YD,y,p2] [SB])::starEach [.Name z O] [SB]]) (a4:[XXa,starEach [.Name z O] [SB]=(false,eval [YD,z,O] [SB])::starEach [] [SB]]) (TY:[XXa,[Z0r,[.Name y p2,.Name z O],[SB]]]) (UM:[XXa,swapsWith (.Call [YD,x,p1] [e,.Name y p2,.Name z O] [] TU) none pos.line [SB]=pure false]):
  PS [Z0w] (.Expr (.Call [YD,x,p1] [e,.Name y p2,.Name z O] [] TU) pos) (tSt K (XE1 K E) d (aD i j (d9 3 N' m) ma)):=
 (so (dY (P1 F hr hg hm hk hb .nil kY (B8 h1 (B8 (x9 hN hv hd Ub) (B8 (x9 a5 Yw a3 T) pa_nil a4) YQ) he) Ue he TY) UM)).mono [SH,xQ q]
end
end TP
namespace L2
open PySem PySem.Spec PyProof.Rows
end L2
namespace TP
open PySem L2
end TP
open PySem L2
namespace TP
def mSt {a}:Rho->R a:=λ_=>.stuck
end TP
namespace L2
open PySem PySem.Spec PyProof.Rows
def nO {b:St}{rest}(a5:X.ex = []) (Us:X.stack=X.env::X.outer) (UR:X.env.frame=some X.env.locals) (hN:X.N.Nodup) (hg:Gl X cn) (hm:X.mg cn=some [ZE,C]) (Ue:(cn == ("__debug__"))=false) (hc:cls=.ref Dc) (hx:PySem.W.exmOne X.K [ZE,Dc] [ZE,C]=some true) (hi:X.N[jn]?=some n) (hk:X.env.kindOf n=some .local) (hb:∀e E,PSs (X.marked e E) (b0::Va) tb) (I1:[YR,b,H,s1]) (F:uj X.prog X.w X.stack H s1 a B H' cls od s) (ht:∀o,o.cls=cls->o.dict=od->(∃vs:Array Value,o.data=.fields vs)->tb { nx:=λI H'=>D.nx (I.set jn none) H',rt:=D.rt,bk:=λI H'=>D.bk (I.set jn none) H',ct:=λI H'=>D.ct (I.set jn none) H' }
   (b.set jn [Wb,a]) (upd H' a (.ext λh=>h.get? a=some o))) (f2:B.FlyingW (X.env::X.outer) a cls a0 h2) (g2:Here X pins b H' a B cls od [SS,s,h2,tk]):
  wpAny [Ty] X.A (handleBy [ZE,a] X.env (.ExceptHandler [ZT,[YD,cn,np]] [ZT,n] (b0::Va) Vx::rest)) (SP X pins D) X.xe [SS,s,h2,tk]:=by
 have Ba:=f2.2.1;refine wpAny_handleBy_cons (codeAny_handlers_test ?_) (by simp [byPass]);have obj:∀{h:Heap},B.FlyingW (X.env::X.outer) a cls a0 h->∃o vs,h.get? a=some o/\o.cls=cls/\o.data=_:=λf=>by
  obtain ⟨_,_,_,oe,vs,_,_,_,e,⟨c,_⟩,d,_⟩:=f;show ⟨oe,vs,e,c,d⟩
 refine U2 (X:=X.marked _ X.xe) g2.inv.marked hg hm ?_ Ue;have ty:PySem.W.Looks [Ty] h2 (typeOf (.ref a)) [ZE,Dc]:=λA Q E s hh q=>by
  grind[typeOf,PySem.wpAny_bind,PySem.wpAny_loadPart,PySem.wpAny_pure]
 refine PySem.W.exm_one g2.inv.kIn ty hx _ _ _ _ (λ_ _ e=>e) ?_
 change codeAny _ _ (Code.handlers _ _ _) _ _;refine codeAny_handlers_suite_as (KD.post (r:=()) (KD.setFlight _ _) (P:=λh'=>B.FlyingW (X.env::X.outer) a cls a0 h'/\h2.UpToSlots h') (lands_againW f2 λh' f u=>⟨rfl,h',rfl,f,u⟩) λh3 a3 d3=>?_);obtain ⟨f3,u3⟩:=a3;have g3:=Here.step (tk:=tk) a5 Us UR I1 F.inB F.all g2 f2.1 f3.1 u3 d3;obtain ⟨o3,v3,e3,c3,t3⟩:=obj f3;have a6:o3.dict=od:=by
  obtain ⟨o,e,q⟩:=g3.dict;omega
 have a4:a∉frs X.stack:=λz=>by
  have ff:h3.FunFrames B (X.env::X.outer):=f3.2.2.1;rw[Us]at z;obtain ⟨_,o,e,nd⟩:=ff.mem z
  grind
 have XQ:s1.heap.get? a=none:=by
  cases q:s1.heap.get? a with
  |none=>rfl
  | some o=>
   obtain ⟨o',y⟩:=F.all a o q a4;omega
 have XZ:H' a=none:=by
  cases q:H' a with
  |none=>rfl
  | some o=>
   obtain ⟨o',y⟩:=F.inB a o q;omega
 have n0:X.s₀.heap.get? a=none:=by
  cases q:X.s₀.heap.get? a with
  |none=>rfl
  | some o=>
   obtain ⟨o',y⟩:=I1.base.there a o q (by grind);omega
 have np:∀p∈X.pn++pins,p.1≠a:=λp hp z=>by
  have:=(I1.pin p hp).1
  omega
 have It:=Inv.track g3.inv e3 t3 XZ n0 np;refine Z3 (v:=.ref a) It hN hi (.inl hk) rfl (λs4 I4=>?_) (.inr hk);refine thn (hb _ _ pins s4 _ _ _ I4.marked (ht o3 c3 a6 ⟨v3,t3⟩)) λf s5 hf=>?_;cases f with
 | next=>
  obtain ⟨T,H5,I5,q⟩:=hf;show eG (I5.unmarked I1.ok) hN hi hk λs6 O=>⟨_,_,O,q⟩
 | brk=>
  obtain ⟨T,H5,I5,q⟩:=hf;show eG (I5.unmarked I1.ok) hN hi hk λs6 O=>⟨_,_,O,q⟩
 | cont=>
  obtain ⟨T,H5,I5,q⟩:=hf;show eG (I5.unmarked I1.ok) hN hi hk λs6 O=>⟨_,_,O,q⟩
 | ret u=>
  obtain ⟨v,T,H5,I5,r,q⟩:=hf;show eG (I5.unmarked I1.ok) hN hi hk λs6 O=>⟨v,_,_,O,r,q⟩
def wR {s:Shared}{rest}(hg:Gl X cn) (hm:X.mg cn=some [ZE,C]) (T:(cn == ("__debug__"))=false) (hc:cls=.ref Dc) (hx:PySem.W.exmOne X.K [ZE,Dc] [ZE,C]=some false) (f2:B.FlyingW (X.env::X.outer) a cls a0 h2) (I:Here X pins b H' a B cls od [SS,s,h2,tk]) (hr:wpAny [Ty] X.A (handleBy [ZE,a] X.env rest) (SP X pins D) X.xe [SS,s,h2,tk]):
  wpAny [Ty] X.A (handleBy [ZE,a] X.env (.ExceptHandler [ZT,[YD,cn,np]] n body Vx::rest)) (SP X pins D) X.xe [SS,s,h2,tk]:=by
 refine wpAny_handleBy_cons (codeAny_handlers_test ?_) (by simp [byPass]);obtain ⟨_,_,_,oe,vs,_,_,_,O,⟨c2,_⟩,_⟩:=f2;refine U2 (X:=X.marked _ X.xe) I.inv.marked hg hm ?_ T;have ty:PySem.W.Looks [Ty] h2 (typeOf (.ref a)) [ZE,Dc]:=λA Q E s hh q=>by
  unfold typeOf;show qA0 (qM1 (hh _ _ O) (qK4 (by rw[c2,hc];show q)))
 show PySem.W.exm_one I.inv.kIn ty hx _ _ _ _ (λ_ _ e=>e) hr
def pV (X:Cx) (C1 C2:Addr) (O T:Nat) (VG VF:TS) (D:Ends) (b:St):XK:=λcls od H'=>∃Dc,cls=.ref Dc/\((PySem.W.exmOne X.K [ZE,Dc] [ZE,C1]=some true /\ 
 ∀ (a:Addr) (o:Obj),H' a=none->o.cls=cls->o.dict=od->(∃vs:Array Value,o.data=.fields vs) ->
  VG { nx:=λI H'=>D.nx (I.set O none) H',rt:=D.rt,bk:=λI H'=>D.bk (I.set O none) H',ct:=λI H'=>D.ct (I.set O none) H' } (b.set O [Wb,a]) (upd H' a (.ext λh=>h.get? a=some o))) \/
 (PySem.W.exmOne X.K [ZE,Dc] [ZE,C1]=some false/\PySem.W.exmOne X.K [ZE,Dc] [ZE,C2]=some true /\ 
 ∀ (a:Addr) (o:Obj),H' a=none->o.cls=cls->o.dict=od->(∃vs:Array Value,o.data=.fields vs) ->
  VF { nx:=λI H'=>D.nx (I.set T none) H',rt:=D.rt,bk:=λI H'=>D.bk (I.set T none) H',ct:=λI H'=>D.ct (I.set T none) H' } (b.set T [Wb,a]) (upd H' a (.ext λh=>h.get? a=some o))))
def xD {g:St}(O:X.ex = []) (Us:X.stack=X.env::X.outer) (UR:X.env.frame=some X.env.locals) (hN:X.N.Nodup) (VV:Gl X Vh) (VM:X.mg Vh=some [ZE,C1]) (VW:(Vh == ("__debug__" : Str))=false) (WD:Gl X Vg) (Wo:X.mg Vg=some [ZE,C2]) (a5:(Vg == ("__debug__" : Str))=false) (Xi:X.N[j1]?=some n1) (Wq:X.env.kindOf n1=some .local) (Xh:X.N[j2]?=some n2) (Vz:X.env.kindOf n2=some .local) (Xp:∀e E,PSs (X.marked e E) (b1::VP) VG) (Wv:∀e E,PSs (X.marked e E) (b2::VO) VF) (I1:[YR,g,H,s1]) (F:uj X.prog X.w X.stack H s1 a B H' cls od s) (ht:pV X C1 C2 j1 j2 VG VF D g cls od H'):
  wpAny [Ty] X.A (noteFrame [ZE,a] X.env) (λ_ s2=>wpAny [Ty] X.A (setFlight [ZE,a] none) (λ_ s3=>wpAny [Ty] X.A
   (handleBy [ZE,a] X.env [.ExceptHandler [ZT,[YD,Vh,WQ]] [ZT,n1] (b1::VP) Xb,.ExceptHandler [ZT,[YD,Vg,WP]] [ZT,n2] (b2::VO) Xa]) (SP X pins D) X.xe s3) X.xe s2) X.xe s:=by
 have I:=I1.call' F.os F.un F.hok F.bare (λb z=>absurd z Xaf);obtain ⟨a0,fl⟩:=F.fl;have h0:Here X pins g H' a B cls od s:=⟨I,F.dict⟩;have a4:=Us ▸ I.ok.frames;rw[Us]at fl;have XZ:H' a=none:=by
  cases q:H' a with
  |none=>rfl
  | some o=>
   obtain ⟨o',y⟩:=F.inB a o q;rw[fl.2.1]at y;cases y
 refine KD.post (KD.noteFrame ..) (P:=λh'=>_/\_) (wpAny_looks_onW a4 UR fl λh' f u=>⟨rfl,h',rfl,f,u⟩) λh1 T d1=>?_;obtain ⟨f1,u1⟩:=T;have g1:=Here.step (tk:=s.toks) O Us UR I1 F.inB F.all h0 fl.1 f1.1 u1 d1;refine KD.post (KD.setFlight ..) (P:=λh'=>_/\_) (wpAny_landsW f1 λh' f u=>⟨rfl,h',rfl,f,u⟩) λh2 a3 d2=>?_;obtain ⟨f2,u2⟩:=a3;have g2:=Here.step (tk:=s.toks) O Us UR I1 F.inB F.all g1 f1.1 f2.1 u2 d2;obtain ⟨Dc,hc,⟨hx,ht⟩|⟨WA,hx,ht⟩⟩:=ht
 .show nO (s:=s) O Us UR hN VV VM VW hc hx Xi Wq Xp I1 F (λo c d v=>ht a o XZ c d v) f2 g2
 .show wR (tk:=s.toks) VV VM VW hc WA f2 g2 (nO (s:=s) O Us UR hN WD Wo a5 hc hx Xh Vz Wv I1 F (λo c d v=>ht a o XZ c d v) f2 g2)
def tJ {b:St}(he:PE X.nox o ta) (c:Cls X.K C) (hm:bq X.K C m f) (F:[Z0T,CXW X.prog X.w,k,sp]) (hr:Room k X.A) (hb:Binds X.K fd ps []) (ha:PA X.nox [TC] t) (I:[YR,b,H,s]) (h:kO C m sp [] E ta t b H Q) (hE:∀H1 s1 ev s',[YR,b,H1,s1]->CXW X.prog X.w X.stack H1 s1 E ev s'->E' ev s') (Us:[Tm,[TC]]=[SJ,e]::[Tm,es]) (TY:[rd,cp,X.env]) (ht:eval (.Call [wr,o,m] [TC] [] cp) X.env=(do
   let ov <- eval o X.env
   standAt apos.atName
   let (f,first) <- holding [ov] (getMethod ov m pl)
   callWith cp f first (backTo cp (starEach [TC] X.env)) (backToKw cp (keywordEach [] X.env)))):wpAny [Ty] X.A [Sy,.Call [wr,o,m] [TC] [] cp] (EP X pins b Q) E' s:=by
 refine PySem.W.methodCall_KW (pl:=pl) (qK9 (he pins s b H _ (I.wish _) h) (λu s1 T=>?_) λ_ _ z=>False.elim z) ht;obtain ⟨x,H1,J1,rx,a,dx,fs,ex,ea,l,q⟩:=T;subst ex;obtain rfl:u=Value.ref a:=rx;refine ig J1.unwish ea c hm l ?_;refine qI2 (first:=[.ref a]) (h₀:=X.base) I.ok.mod.kin hm.kp (qK9 (ha cp pins s1 b H1 _ J1 q) (λus s2 O=>?_) λ_ _ z=>False.elim z) Us TY;obtain ⟨vs,H2,J2,r,q2⟩:=O;have I2:=J2.unwish;refine ⟨I2.kIn,?_⟩;rw[qD3]at q2;have r2:Vals (V.ref a::vs) (Value.ref a::us):=.cons rfl r;have hl:[ZM,(Value.ref a::us) ++ []]=ps.length:=by rw[qD3,<- r2.length];show F.len _ _ _ _ q2
 have Xo:=hb s2 (Value.ref a::us) I2.kIn hl;rw[qD3]at Xo;refine qL9 (qL6 (F.run X.A X.stack s2 H2 ⟨Value.ref a::us,[]⟩ (Value.ref a::us) (V.ref a::vs) Q E hr I2.env0 Xo r2 q2) λr s' hq=>?_);cases r with
 |error ev=>show hE H2 s2 ev s' I2 hq
 | ok fl=>
  cases fl with
  |ret u=>show I2.after hq
  |next=>show False.elim hq
  |brk=>show False.elim hq
  |cont=>show False.elim hq
def BW (X:Cx)(sp:Sp)(C:Addr)(m:Str)(I C2:Addr)(i O T:Nat)(ta:TE)(t:TA)(VG VF:TS):TS:=λD a H=>kO C m sp [] (pV X I C2 O T VG VF D a) ta t a H (λv H2=>D.nx (a.set i [ZT,v]) H2)
def EE {X:Cx}{k}{f}{fd}{ps}{sp}{y m}{O ap apos yp pos:Pos}{e o}{es:ZX}{ta}{t}{C}{i}{pl:Sem Bool}{Vh T n1 n2}{C1 C2}{j1 j2}{WQ WP Xb Xa}{b1 b2}{VP VO:Wk}{VG VF}(a5:X.ex = []) (Us:X.stack=X.env::X.outer) (UR:X.env.frame=some X.env.locals) (hN:X.N.Nodup) (he:PE X.nox o ta) (c:Cls X.K C) (hm:bq X.K C m f) (F:[Z0T,CXW X.prog X.w,k,sp]) (hr:Room k X.A) (hb:Binds X.K fd ps []) (ha:PA X.nox [TC] t) (hy:[ZI,X.N,y]) (XN:X.env.kindOf y=some .local) (VV:Gl X Vh) (VM:X.mg Vh=some [ZE,C1]) (WD:Gl X T) (Wo:X.mg T=some [ZE,C2]) (Xi:X.N[j1]?=some n1) (Wq:X.env.kindOf n1=some .local) (Xh:X.N[j2]?=some n2) (Vz:X.env.kindOf n2=some .local) (Xp:∀e E,PSs (X.marked e E) (b1::VP) VG) (Wv:∀e E,PSs (X.marked e E) (b2::VO) VF) (VW:[Z0f,Vh]) (a3:[Z0f,T]) (Wl:[Z0O]) (TY:[XXa,[rd,O,X.env]]) (UM:[XXa,swapsWith (.Call [wr,o,m] [TC] [] O) [ZT,[YD,y,yp]] ap.line X.env=Pure.pure false]) (ht:eval (.Call [wr,o,m] [TC] [] O) X.env=(do
   let ov <- eval o X.env
   standAt apos.atName
   let (f,first) <- holding [ov] (getMethod ov m pl)
   callWith O f first (backTo O (starEach [TC] X.env)) (backToKw O (keywordEach [] X.env))):=by rfl):
  PS X (.Try [.Assign [.Name y yp] (.Call [wr,o,m] [TC] [] O) ap] [.ExceptHandler [ZT,[YD,Vh,WQ]] [ZT,n1] (b1::VP) Xb,.ExceptHandler [ZT,[YD,T,WP]] [ZT,n2] (b2::VO) Xa] [] [] pos) (BW X sp C m C1 C2 i j1 j2 ta t VG VF):=by
 intro pins s b H D I h;refine wpAny_Try_except (qR3 (wpAny_Assign_Name (qK9 (tJ he c hm F hr hb ha I h (λH1 s1 ev s' I1 hc=>?_) Wl TY ht) (λv s1 ⟨z,H1,I1,r1,q1⟩=>?_) λ_ _ x=>x) UM))
 .obtain ⟨a,B,H',cls,od,rfl,Fl,a4⟩:=hc;show xD a5 Us UR hN VV VM VW WD Wo a3 Xi Wq Xh Vz Xp Wv I1 Fl a4
 .show Z3 I1 hN hy (.inl XN) r1 (λs2 I2=>qM6 (qM6 ⟨_,H1,I2,q1⟩)) (.inr XN)
end L2
namespace TP
open PySem L2
abbrev KW:=[Ta]×List W
def isI:HO->Bool
 | .ins _ _ _=>true
 |_=>false
def SameN (F I:Hp):Prop:=∀a o,F a=some o->isI o=false->I a=some o
def W8:Sl->Bool
 | .obj .kept _ _=>false
 | .obj _ _ _=>true
 |_=>false
def R4 (a:Rho):Bool:=a.all λs=>!W8 s
theorem SameN.seq (e:SameN F F') (h:SqL K F a xs):SqL K F' a xs:=by
 rcases h with (h|⟨o,h⟩)|h
 .show .inl (.inl (e _ _ h rfl))
 .show .inl (.inr ⟨o,e _ _ h rfl⟩)
 .show .inr h
def XD.sameN (e:SameN F F') (h:XD F od i):XD F' od i:=by
 cases i with
 |none=>show h
 |some _=>obtain ⟨d,O,I⟩:=h;show ⟨d,O,e _ _ I rfl⟩
def Rep.sameN (e:SameN F F') (r:Rep K F v w):Rep K F' v w:=
 @Rep.rec K F _ (λvs ws _=>[Th,F']) .non .bl .int .str .ty (λh _ r=>.tup (e _ _ h rfl) r) (λh _ r=>.lst (e _ _ h rfl) r) (λh _ r=>.scr (SameN.seq e h) r) (λh1 T O h4 h5=>.exc (e _ _ h1 rfl) T O h4 (XD.sameN e h5)) (λh=>.cls h) (λh1 T O=>.dct (e _ _ h1 rfl) T O) (λh I _ r=>.dst (e _ _ h rfl) I r) (λh I _ r=>.dsz (e _ _ h rfl) I r) .nil (λ_ _ a b=>.cons a b) v w r
def Reps.sameN (e:SameN F F') (r:[Th,F]):[Th,F']:=
 Reps.ind .nil (λh _ b=>.cons (h.sameN e) b) r
def FsR.sameN (e:SameN F F'){kw:KW}(r:FsR K F fs kw):FsR K F' fs kw:=⟨r.1,r.2.sameN e⟩
def CF (h:∀b,b≠p->TW b=H0 b) (hp:∀o,H0 p=some o->isI o=true) (I:∀o,TW p=some o->isI o=true) (O:G p=none) (s:Same G G'):SameN (join H0 G) (join TW G'):=λa o e l=>by
 by_cases q:a=p
 .grind[join]
 .have:=B7 s a o e
  grind[join]
def vY (h:G p=none):dv G p=none:=by unfold dv;rw[h]
def Fa {a:Rho}{kw:KW}(h:R4 (a.set i .un)=true) (O:i≠j) (e:a[j]?=some (.obj y C kw)):y=.kept:=by
 have I:(a.set i .un)[j]?=some (.obj y C kw):=[ZO,qA4 O,e]
 have:=qE0.mp h _ (qD9 I)
 cases y with
 |kept=>rfl
 |own=>cases this
 |pin _=>cases this
def PIv.obj_at {i:Nat}{kw:KW}(I:[TM,c,b]) (e:[ZI,c,.obj y C kw]):∃a dx fs,[ZI,b,[Wb,a]]/\H a=some (.ins C dx fs)/\FsR K G fs kw/\ObY H0 G a (.ins C dx fs) y:=by
 have hi:i<b.length:=by rw[<- I.len];show (qB4.mp e).1
 have es:[ZI,b,b[i]]:=Xaf;obtain ⟨a,dx,fs,O,r⟩:=I.sl i _ _ e es;show ⟨a,dx,fs,by rw[es,O],r⟩
def PIv.objUp {kw VD:KW}(I:[TM,d,f]) (e:[ZI,d,.obj y C kw]) (one:R4 (d.set i .un)=true) (es:[ZI,f,[Wb,a]]) (ga:G a=none) (h0:∀o,H0 a=some o->isI o=true) (Ww:∀b,b≠a->TW b=H0 b) (Yc:∀o,TW a=some o->o=.ins C VC UX) (sG:Same G G') (gH:Same G' H') (hH:∀b o,b≠a->[TN,H]->[TN,H']) (ha:H' a=some (.ins C VC UX)) (YV:G' a=none) (cl:∀b o,b≠a->[TN,H]->isL o=true->G b=none->G' b=none) (r:FsR K G' UX VD) (oy:ObY TW G' a (.ins C VC UX) y):PIv K TW G' (d.set i (.obj y C VD)) f H':=by
 have hi:=(qB4.mp e).1;have jn:=CF Ww h0 (λo q=>by rw[Yc o q];rfl) ga sG;have own:∀{b:Addr}{o:HO},H b=_->_=true->isI o=false->G b=none->_=none->b≠a->_=_/\_=none/\TW b=none:=λ{b o} T l _ hg hz ne=>⟨hH b o ne T,cl b o ne T l hg,[ZO,Ww b ne,hz]⟩;have far:∀{b:Addr}{o:HO},[TN,H]->isI o=false->b≠a:=λ{b o} T hn z=>by
  obtain ⟨a2,Wc,VZ,UK,h2,_⟩:=I.obj_at e;rw[es]at UK;cases UK;subst z;rw[h2]at T;cases T;cases hn
 refine ⟨λb o q l=>?_,λb o q l=>?_,gH,λb o q=>?_,[ZO,qD0,I.len],λj x o h1 h2=>?_,λx1 x2 u1 u2 c Ui h1 h2 h3 h4=>?_,λx1 x2 u1 u2 c Ui h1 h2 h3 h4=>?_⟩
 .by_cases z:b=a
  .subst z;rw[Yc o q]at l;cases l
  .rw[Ww b z]at q;show sG b o (I.g0 b o q l)
 .by_cases z:b=a
  .subst z;show YV
  .rw[Ww b z]at q;show cl b o z (I.hh b o q) l (I.gl b o q l)
 .by_cases z:b=a
  .subst z;rw[Yc o q];show ha
  .rw[Ww b z]at q;show hH b o z (I.hh b o q)
 .by_cases q:i=j
  .subst q;rw[qE4 hi]at h1;cases h1;rw[es]at h2;cases h2;show ⟨a,VC,UX,rfl,ha,r,oy⟩
  .rw [qA4 q]at h1
   have O:=I.sl j x o h1 h2;cases x with
   |un=>trivial
   |val w=>obtain ⟨v,ev,r⟩:=O;show ⟨v,ev,r.same sG⟩
   |par w=>obtain ⟨v,ev,r⟩:=O;show ⟨v,ev,r.sameN jn⟩
   |own ws=>obtain ⟨b,vs,eb,T,hg,hz,rb⟩:=O;obtain ⟨k1,k2,k3⟩:=own T rfl rfl hg hz (far T rfl);show ⟨b,vs,eb,k1,k2,k3,rb.same sG⟩
   |dic ks=>obtain ⟨b,vs,eb,T,hg,hz,rb⟩:=O;obtain ⟨k1,k2,k3⟩:=own T rfl rfl hg hz (far T rfl);show ⟨b,vs,eb,k1,k2,k3,rb⟩
   |dik ks=>obtain ⟨b,vs,eb,T,hg,hz,rb⟩:=O;obtain ⟨k1,k2,k3⟩:=own T rfl rfl hg hz (far T rfl);show ⟨b,vs,eb,k1,k2,k3,rb⟩
   |dos ks=>obtain ⟨b,vs,eb,T,hg,hz,rb⟩:=O;obtain ⟨k1,k2,k3⟩:=own T rfl rfl hg hz (far T rfl);show ⟨b,vs,eb,k1,k2,k3,rb.same sG⟩
   |iop q us=>obtain ⟨ev,vs,hq,rq⟩:=O;show ⟨ev,vs,[ZO,Ww q (far (I.hh q _ hq) rfl),hq],rq.same sG⟩
   |hz w=>obtain ⟨v,ev,r⟩:=O;show ⟨v,ev,r.sameN (CF Ww h0 (λo q=>by rw[Yc o q];rfl) (vY ga) (aB sG))⟩
   | obj y2 C2 VH=>
    cases Fa one q h1;obtain ⟨b,Wc,VZ,eb,T,rb,XG⟩:=O;have XG:G b=some (.ins C2 Wc VZ):=XG;show ⟨b,Wc,VZ,eb,gH b _ (sG b _ XG),rb.same sG,sG b _ XG⟩
 .have a3:∀{k:Nat}{u:Xag},(d.set i (.obj y C VD))[k]?=some (.own u)->d[k]?=some (.own u):=λ{k u} hk=>by
   by_cases q:i=k
   .subst q;rw[qE4 hi]at hk;cases hk
   .rw[qA4 q]at hk;show hk
  show I.ne x1 x2 u1 u2 c Ui (a3 h1) (a3 h2) h3 h4
 .have a3:∀{k:Nat}{u:[Ta]×List W},(d.set i (.obj y C VD))[k]?=some (.dos u)->d[k]?=some (.dos u):=λ{k u} hk=>by
   by_cases q:i=k
   .subst q;rw[qE4 hi]at hk;cases hk
   .rw[qA4 q]at hk;show hk
  show I.nd x1 x2 u1 u2 c Ui (a3 h1) (a3 h2) h3 h4
instance:DecidableEq Oy:=λa b=>match a,b with
 | .own,.own=>isTrue rfl
 | .kept,.kept=>isTrue rfl
 | .pin p,.pin q=>if h:p=q then isTrue (by rw[h]) else isFalse λz=>h (Oy.pin.inj z)
 | .own,.kept=>isFalse λz=>nomatch z
 | .own,.pin _=>isFalse λz=>nomatch z
 | .kept,.own=>isFalse λz=>nomatch z
 | .kept,.pin _=>isFalse λz=>nomatch z
 | .pin _,.own=>isFalse λz=>nomatch z
 | .pin _,.kept=>isFalse λz=>nomatch z
def Q2 (f:Str):([Ta])->Option Nat
 | []=>none
 |n::ns=>if n=f then some 0 else (Q2 f ns).map (·+1)
def kg:∀{fs:List (Str×V)}{j},Q2 f (fs.map (·.1))=some j->fs.lookup f=(fs.map (·.2))[j]?
 | [],_,h=>by cases h
 | (n,v)::fs,j,h=>by
  unfold Q2 at h;rw[qD2]at h;dsimp at h;by_cases q:n=f
  .grind
  .rw [qA9 q]at h
   show 3 k hk (qF0.mp h);have I:=qM5.mpr (Ne.symm q);simp only [List.lookup,I];show kg hk
def ji:∀{fs:List (Str×V)},Q2 f (fs.map (·.1))=none->fs.lookup f=none
 | [],_=>rfl
 | (n,v)::fs,h=>by
  unfold Q2 at h;rw[qD2]at h;dsimp at h;by_cases q:n=f
  .omega
  .rw [qA9 q]at h
   have I:=qM5.mpr (Ne.symm q);simp only [List.lookup,I];show ji (Option.map_eq_none_iff.mp h)
def nI:∀{fs:List (Str×V)}{j},Q2 f (fs.map (·.1))=some j->(Q0 f y fs).map (·.1)=fs.map (·.1)/\(Q0 f y fs).map (·.2)=(fs.map (·.2)).set j y
 | [],_,h=>by cases h
 | (n,v)::fs,j,h=>by
  unfold Q2 at h;rw[qD2]at h;dsimp at h;unfold Q0;by_cases q:n=f
  .rw [qA3 q]at h ⊢;cases h
   show ⟨rfl,rfl⟩
  .rw [qA9 q]at h ⊢
   show 3 k hk (qF0.mp h);obtain ⟨a,b⟩:=nI (y:=y) hk
   grind
def fL (i:Nat) (C:Addr) (ns:ZK) (j:Nat):Xad:=λa=>match a[i]? with
 |some (.obj _ C' kw)=>[TJ,C'=C/\kw.1=ns,toR kw.2[j]?]
 |_=>.stuck
def RG (hc:Cls K C) (hn:NoAttr K C f) (T:Q2 f ns=some j) (h:[Tw,.V,fL i C ns j,b]):IB K (z8 i) f b H Q:=by
 show 5 c;show 10 fL
 .rename_i y C' kw e
  split at o
  .rename_i hk
   show 1 rfl hk;obtain ⟨a,dx,fs,es,ha,r,_⟩:=I.obj_at e;cases q:kw.2[j]? with
   |none=>rw[q]at o;show 2
   | some w=>
    rw[q]at o;obtain ⟨v,O,rv⟩:=r.2.get q;refine ⟨_,es,a,_,dx,fs,v,rfl,ha,hc,hn,?_,[Z04,rv]⟩;rw[kg ([ZO,r.1,T])];show O
  .show o.elim
 .show o.elim
abbrev RO:=W×KW×Bool
def rtD:W->Option RO
 | .tup [w,.dst z _ ks ws]=>some (w,(ks,ws),z)
 |_=>none
def oE:W->W
 | .tup [w,.dst _ a ks ws]=>.tup [w,.dst false a ks ws]
 |w=>w
def DZ:rtD (oE u)=(rtD u).map λr=>(r.1,r.2.1,false):=by
 unfold oE
 grind[rtD]
def Zr (z:Bool)(p:Addr)(H0 I:Hp):Prop:=∀b,(z=true\/b≠p)->I b=H0 b
def Zr.refl:Zr z p H0 H0:=λ_ _=>rfl
def OutO (K:Frag) (EX:EXT) (p C:Addr) (H0 G:Hp) (r:R Fl) (D:Ends):Prop:=match r with
 | .ok (.nx c)=>∀G' I H',Same G G'->PIv K H0 G' c I H'->D.nx I H'
 | .ok (.ct c)=>∀O G' I H',(∀b,b≠p->O b=H0 b)->Same G G'->PIv K O G' c I H'->D.nx I H'
 | .ok (.rt u)=>match rtD u with
  |some (w,kw,z)=>∀v O G' H' dx fs,Zr z p H0 O->O p=some (.ins C dx fs)->FsR K G' fs kw->Same G G'->Same G' H'->Same O H'->(∀a o,O a=some o->isL o=true->G' a=none)->Rep K G' v w->D.rt v H'
  |none=>False
 | .ex e=>∀H',Same H0 H'->Same G H'->EX e H'
 |_=>False
def tStO (K:Frag)(EX:EXT)(p C:Addr)(m:Xae):TS:=λD b H=>∃H0 G a,[TM,a,b]/\OutO K EX p C H0 G (m a) D
def OutO.move (s:Same G G1) (o:OutO K EX p C H0 G r D):OutO K EX p C H0 G1 r D:=by
 cases r with
 |stuck=>show o
 |ex e=>show λH' h g=>o H' h (s.trans g)
 | ok f=>
  cases f with
  |nx O=>show λG' I H' s' I'=>o G' I H' (s.trans s') I'
  |bk O=>show o
  |ct O=>show λT G' I H' h s' I'=>o T G' I H' h (s.trans s') I'
  | rt u=>
   unfold OutO at o ⊢;dsimp at o ⊢;cases q:rtD u with
   |none=>rw[q]at o;show o
   | some z=>
    rw[q]at o;show λv T G' H' dx fs a b c s' e f g h=>o v T G' H' dx fs a b c (s.trans s') e f g h
def OutO.bind {md:b->c->[Ts,Hp]}(I:[TM,d,a]) (o:OutO K EX p C H0 G (m>>=k) D) (h:∀x G1 H1 w,Ext G H G1 H1->md w x G1 H1->OutO K EX p C H0 G1 (k w) D->Q1 x H1):Out EX G H md m Q1:=by
 cases m with
 |ok w=>show λv G' H' e q=>h v G' H' w e q (OutO.move e.gg o)
 |ex e=>show λH' s=>o H' (I.hh.trans s) (I.gh.trans s)
 |stuck=>show o
def nxR:R Fl->R Fl
 | .ok (.nx a)=>.ok (.nx a)
 |_=>.stuck
def nxO (m:Xae):Xae:=λa=>nxR (m a)
def tStO.toS (h:tStO K EX p C (nxO m) D b H):[ou,m,b]:=by
 show 13 nxO
 cases m a with
 |stuck=>show id
 |ex e=>show λo=>o.elim
 | ok f=>
  cases f with
  |nx O=>show id
  |bk O=>show λo=>o.elim
  |ct O=>show λo=>o.elim
  |rt w=>show λo=>o.elim
def dI:R Fl->R Fl
 | .ok (.nx a)=>.ok (.ct a)
 | .ok (.rt u)=>.ok (.rt (oE u))
 | .ok f=>.ok f
 |_=>.stuck
def lm (m n:Xae):Xae:=λa=>m a>>=λf=>match f with
 | .nx I=>n I
 | .ct I=>dI (n I)
 | .rt w=>.ok (.rt w)
 | .bk _=>.stuck
def OutO.chg (h:∀b,b≠p->TW b=H0 b) (o:OutO K EX p C H0 G (dI r) D):OutO K EX p C TW G r D:=by
 cases r with
 |stuck=>show o
 |ex e=>show 2
 | ok f=>
  cases f with
  |nx O=>show λG' I H' s' T=>o TW G' I H' h s' T
  |bk O=>show o
  |ct O=>show λA G' I H' h' s' T=>o A G' I H' (λb q=>(h' b q).trans (h b q)) s' T
  | rt u=>
   unfold OutO at o ⊢;unfold dI at o;dsimp at o ⊢;rw[DZ]at o;cases q:rtD u with
   |none=>rw[q]at o;show o
   | some z=>
    rw[q]at o;show λv A G' H' dx fs a b c s' e f g i=>o v A G' H' dx fs (λb q=>(a b (.inr (q.elim [SN] id))).trans (h b (q.elim [SN] id))) b c s' e f g i
def NA (h:tStO K EX p C (lm m n) D b H):cU [Z00,m] [Z00,n] D b H:=by
 show 13 lm
 cases m a with
 |stuck=>show id
 |ex e=>show id
 | ok f=>
  cases f with
  |nx O=>show λo G' a3 H' s' T=>⟨H0,G',O,T,OutO.move s' o⟩
  |ct O=>show λo TW G' a3 H' h s' T=>⟨TW,G',O,T,OutO.chg h (OutO.move s' o)⟩
  |bk O=>show λo=>o.elim
  |rt u=>show id
def RC (h:tStO K EX p C (mIf c m n) D b H):rN (tT K EX c) [Z00,m] [Z00,n] D b H:=by
 show 4 a (OutO.bind I o [Tz,x,w,O]);cases m1;cases x with
 |true=>show ⟨H0,G1,a,I.ext O,o1⟩
 |false=>show ⟨H0,G1,a,I.ext O,o1⟩
def GQ (h:tStO K EX p C (λb=>.ok (.nx b)) D a H):tNext D a H:=by
 show 5 b;show o G a H (Same.refl G) I
noncomputable def rtO (z:Bool) (p C:Addr) (i:Nat) (a:Rho) (w:W):R Fl:=match a[i]? with
 |some (.obj y C' kw)=>[TJ,y=.pin p/\C'=C,.ok (.rt (.tup [w,.dst z 0 kw.1 kw.2]))]
 |_=>.stuck
def CU (h:Zr z p H0 TW) (I:PIv K TW G b c H) (r:Rep K G v w) (o:OutO K EX p C H0 G (rtO z p C i b w) D):D.rt v H:=by
 show 10 rtO
 .rename_i y C' kw e
  split at o
  .rename_i hk
   show 1 rfl hk;obtain ⟨a,dx,fs,es,ha,O,rfl,h0⟩:=I.obj_at e;show o v TW G H dx fs h h0 O (Same.refl _) I.gh I.hh I.gl r
  .show o.elim
 .show o.elim
def rT (p C:Addr)(i:Nat)(m:Xad):Xae:=λa=>m a>>=rtO true p C i a
def NE (h:tStO K EX p C (rT p C i m) D a H):iL (tM K EX .V m) D a H:=by
 show 5 b;show ⟨H0,G,b,I,OutO.bind I o λx G1 H1 w O m1 o1=>CU Zr.refl (I.ext O) m1 o1⟩
def kT (p C:Addr) (i:Nat) (ns:ZK) (j:Nat) (m:Xad):Xae:=λa=>match a[i]? with
 |some (.obj y C' kw)=>[TJ,y=.pin p/\C'=C/\kw.1=ns/\R4 (a.set i .un)=true,m a>>=λw=>.ok (.ct (a.set i (.obj (.pin p) C (ns,kw.2.set j w))))]
 |_=>.stuck
def NS (hc:Cls K C) (hn:NoAttr K C f) (hj:Q2 f ns=some j) (hl:ns.length<1000) (h:tStO K EX p C (kT p C i ns j m) D c H):fw K (z8 i) (tM K EX .V m) f D c H:=by
 show 5 d;show 10 kT
 .rename_i y C' kw e
  split at o
  .rename_i hk
   obtain ⟨rfl,rfl,rfl,one⟩:=hk;refine ⟨H0,G,d,I,OutO.bind I o [Tz,x,w,e1]⟩;have T:=I.ext e1;obtain ⟨a,dx,fs,es,ha,O,rfl,h0⟩:=T.obj_at e;have a3:Q2 f (fs.map (·.1))=some j:=[ZO,O.1,hj]
   obtain ⟨n1,n2⟩:=nI a3;have ga:=T.gl a _ h0 rfl;refine ⟨_,es,a,_,dx,fs,rfl,ha,hc,hn,?_,o1 (upd H0 a (.ins C' dx (Q0 f x fs))) G1 c _ (λb q=>c0 q) (Same.refl _) ?_⟩
   .have:=congrArg List.length O.1
    rw[qA1]at this;rw[this];show hl
   .refine T.objUp e one es ga (λo q=>by rw[h0]at q;cases q;rfl) (λb q=>c0 q) (λo q=>by rw[d5]at q;cases q;rfl) (Same.refl _) (λb o q=>[ZO,c0 (j6 q ga),T.gh b o q]) (λb o q hb=>[ZO,c0 q,hb]) d5 ga (λb o _ _ _ g=>g) ⟨[ZO,n1,O.1],[ZO,n2,Reps.set m1 j O.2]⟩ ⟨rfl,d5⟩
  .show o.elim
 .show o.elim
open Classical in
def jF {a:Type}(g:Addr->R a):R a:=if h:∃r,∀p,g p=r then Classical.choose h else .stuck
def Hq {g:Addr->R a}(h:∀p,g p=r):jF g=r:=by
 have I:∃r,∀p,g p=r:=⟨r,h⟩;unfold jF
 have:=qG9 I 0
 grind
def rA {g:Addr->R a}(h:jF g≠.stuck) p:g p=jF g:=by
 unfold jF at h ⊢;by_cases I:∃r,∀p,g p=r
 .grind
 simp_all
def oj:R Fl->R RO
 | .ok (.rt u)=>toR (rtD u)
 | .ex e=>.ex e
 |_=>.stuck
def mf (k n N:Nat)(C:Addr)(m:[p5])(p:Addr)(ul I:Xag)(kw:KW):R RO:=[TJ,ul.length=k/\k+1+I.length=n,oj (m p (ul.map Sl.par++Sl.obj (.pin p) C kw::(I.map Sl.par++[Sx,N,n])))]
def t7 (k n N:Nat)(C:Addr)(m:[p5])(ul I:Xag)(kw:KW):R RO:=jF λp=>mf k n N C m p ul I kw
def spO (K:Frag) (XF:XK->EXT) (C:Addr) (k n:Nat) (f:[Z05]):Sp:=λvs H Q E=>vs.length=n/\∃O p vr ul ur dx fs kw I,vs=O++.ref p::vr/\O.length=k/\Reps K H O ul/\Reps K H vr ur/\H p=some (.ins C dx fs)/\Same I H/\I p=none/\FsR K I fs kw/\match f ul ur kw with
 | .ok r=>∀v G' H' VC T,(∀a o,(r.2.2=true\/a≠p)->H a=some o->H' a=some o)->H' p=some (.ins C VC T)->Same G' H'->(∀a o,H a=some o->isL o=true->I a=none->G' a=none)->FsR K G' T r.2.1->Rep K G' v r.1->Q v H'
 | .ex e=>∀H',Same H H'->XF E e H'
 | .stuck=>False
def bgG (H I:Hp):Hp:=λa=>match H a with
 |some o=>if isL o then I a else some o
 |none=>none
def bgH (H I:Hp):Hp:=λa=>match H a with
 |some o=>if isL o&&(I a).isSome then none else some o
 |none=>none
def Hg (s:Same Gc H):join (bgH H Gc) (bgG H Gc)=H:=by
 funext a
 unfold join bgH bgG;cases q:H a with
 |none=>rfl
 | some o=>
  dsimp;cases hl:isL o
  .simp [hl]
  .cases hg:Gc a with
   |none=>simp [hl]
   |some u=>have:=s a u hg;rw[q]at this;simp [this]
def oO (s:Same Gc H):Same Gc (bgG H Gc):=λa o e=>by
 have:=s a o e
 grind[bgG]
theorem oP (h:bgH H Gc a=some o):H a=some o/\(isL o=true->Gc a=none):=by
 unfold bgH at h;cases q:H a <;> simp_all
theorem bM (h:H a=some o) (g:isL o=true->Gc a=none):bgH H Gc a=some o:=by
 grind[bgH]
def PIv.beginO {kw:KW}(rl:Reps K H vl ul) (rr:Reps K H vr ur) (hp:H p=some (.ins C dx fs)) (s:Same Gc H) (gp:Gc p=none) (r:FsR K Gc fs kw) (hk:k=k'):
  PIv K (bgH H Gc) (bgG H Gc) (ul.map Sl.par++Sl.obj (.pin p) C kw::(ur.map Sl.par++List.replicate k Sl.un)) ((vl++.ref p::vr).map some++List.replicate k' none) H:=by
 subst hk;have hl:=rl.length;have hr:=rr.length;have T:∀(i:Nat) (us:_),(ul.map Sl.par++Sl.obj (.pin p) C kw::(ur.map Sl.par++List.replicate k Sl.un))[i]?≠some (.own us):=λi us q=>by
  have:=qD9 q
  simp at this
 have O:∀(i:Nat) (us:_×_),(ul.map Sl.par++Sl.obj (.pin p) C kw::(ur.map Sl.par++List.replicate k Sl.un))[i]?≠some (.dos us):=λi us q=>by
  have:=qD9 q
  simp at this
 refine ⟨λa o e l=>?_,λa o e l=>?_,λa o e=>?_,λa o e=>(oP e).1,by simp [hl,hr],λi x o I h2=>?_,λi j us xs a Vf I _ _ _=>absurd I (T i us),λi j us xs a Vf I _ _ _=>absurd I (O i us)⟩
 .grind[oP,bgG]
 .grind[oP,bgG]
 .unfold bgG at e;cases q:H a with
  |none=>rw[q]at e;cases e
  | some u=>
   rw[q]at e;dsimp only at e;cases hl:isL u
   .rw[hl]at e;show e
   .rw[hl]at e;rw[<- q];show s a o e
 .by_cases q:i=ul.length
  .subst q;rw[qE8 Xaf]at I;rw[<- hl]at h2;simp at I h2;subst I;subst h2;show ⟨p,dx,fs,rfl,hp,r.same (oO s),rfl,bM hp λ_=>gp⟩
  .have e1:[ZI,((ul++.non::ur).map Sl.par)++List.replicate k Sl.un,x]:=by
    rw[<- I];simp only [qC0,qD2,qG2,qJ2];rw[qJ3,qJ3]
    split
    .rfl
    .rw [qA1,qJ8,qJ8]
     rename_i Ug
     rw[qA1]at Ug;rw[qA9 ZU,qA9 ZU]
   have e2:[ZI,(vl++.non::vr).map some++List.replicate k none,o]:=by
    rw[<- h2];simp only [qC0,qD2,qG2,qJ2];rw[qJ3,qJ3]
    split
    .rfl
    .rw [qA1,qJ8,qJ8]
     rename_i Ug
     rw[qA1]at Ug;rw[qA9 ZU,qA9 ZU]
   rcases Reps.slots (rl.append (.cons .non rr)) e1 e2 with rfl|⟨v,w,rfl,rfl,q⟩
   .trivial
   .show ⟨v,rfl,[ZO,Hg s,q]⟩
def qZ (h:spO K XF C k n (t7 k n Nl.length C m) vs H Q E):∃p,tStO K (XF E) p C (m p) { nx:=λ_ H'=>Q .non H',rt:=Q } (L2.start Nl vs) H:=by
 obtain ⟨hl,vl,p,vr,ul,ur,dx,fs,kw,Gc,rfl,hk,rl,rr,hp,O,gp,r,o⟩:=h;have UJ:t7 k n _ C m ul ur kw≠.stuck:=λz=>by rw[z]at o;show o
 have WY:=rA UJ p;have I:=λz=>UJ (WY.symm.trans z);rw[show t7 k n _ C m ul ur kw=_ from WY.symm]at o;refine ⟨p,bgH H Gc,bgG H Gc,ul.map Sl.par++Sl.obj (.pin p) C kw::(ur.map Sl.par++[Sx,Nl.length,n]),?_,?_⟩
 .have:=PIv.beginO (k':=Nl.length-n) rl rr hp O gp r rfl
  unfold L2.start;rw[hl];show this
 .by_cases hc:ul.length=k/\k+1+ur.length=n
  .unfold mf at o I;rw[qA3 hc]at o I
   revert o I
   cases m p _ with
   |stuck=>show λo=>o.elim
   | ex e=>
    refine λo _ H' s g=>o H' λa u q=>?_;cases l:isL u
    .show s a u (bM q λz=>ZU)
    .cases hg:Gc a with
     |none=>show s a u (bM q λ_=>hg)
     | some w=>
      have e:=O a w hg;rw[q]at e;cases e;show g a _ (oO O a _ hg)
   | ok f=>
    cases f with
    |nx a3=>show λ_ z=>absurd rfl z
    |bk _=>show λ_ z=>absurd rfl z
    |ct _=>show λ_ z=>absurd rfl z
    | rt u=>
     intro o I;unfold OutO oj at *;dsimp at o ⊢;cases q:rtD u with
     |none=>rw[q]at o;show o
     | some z=>
      rw[q]at o;intro v TW G' H' VC UX h0 T rf sG gH hH gl rv;refine o v G' H' VC UX (λa u ha hu=>?_) (hH p _ T) gH (λa u hu l g=>?_) rf rv
      .cases hl:isL u
       .show hH a u (by rw[h0 a ha];grind[bM])
       .cases g:Gc a with
        |none=>show hH a u ([ZO,h0 a ha,bM hu λ_=>g])
        | some w=>
         have e:=O a w g;rw[hu]at e;cases e;show gH a _ (sG a _ (oO O a _ g))
      .by_cases ha:a=p
       .subst ha;show gl a _ T rfl
       .show gl a u ([ZO,h0 a (.inr ha),bM hu λ_=>g]) l
  .show absurd (by unfold mf;rw[qA9 hc]) I
def R.assoc (m:R a)(f:a->R b)(g:b->R c):m>>=f>>=g=m>>=λx=>f x>>=g:=[Z03,m]
def RlY (z:Bool):Oy->Hp->Hp->Prop
 | .pin p=>Zr z p
 |_=>λA B=>B=A
abbrev RX:=W×Rho×Bool
def OutX (K:Frag) (EX:EXT) (y:Oy) (a:St) (H0 G:Hp) (r:R RX) (Q:VK):Prop:=match r with
 | .ok z=>∀v I G' H',RlY z.2.2 y H0 I->Same G G'->PIv K I G' z.2.1 a H'->Rep K G' v z.1->Q v H'
 | .ex e=>∀H',Same H0 H'->Same G H'->EX e H'
 | .stuck=>False
def tMX (K:Frag)(EX:EXT)(y:Oy)(m:Rho->R RX):TE:=λa H Q=>∃H0 G b,[TM,b,a]/\OutX K EX y a H0 G (m b) Q
def OutX.move (s:Same G G1) (o:OutX K EX y d H0 G r Q):OutX K EX y d H0 G1 r Q:=by
 cases r with
 |stuck=>show o
 |ex e=>show λH' h g=>o H' h (s.trans g)
 |ok z=>show λv I G' H' a b c e=>o v I G' H' a (s.trans b) c e
def OutX.bind {md:b->c->[Ts,Hp]}(I:[TM,d,a]) (o:OutX K EX y a H0 G (m>>=k) Q) (h:∀x G1 H1 w,Ext G H G1 H1->md w x G1 H1->OutX K EX y a H0 G1 (k w) Q->Q1 x H1):Out EX G H md m Q1:=by
 cases m with
 |ok w=>show λv G' H' e q=>h v G' H' w e q (OutX.move e.gg o)
 |ex e=>show λH' s=>o H' (I.hh.trans s) (I.gh.trans s)
 |stuck=>show o
def tLs (K:Frag) (EX:EXT):List Xad->TA->TA
 | [],t=>t
 |m::ms,t=>F1 (tM K EX .B m) (tLs K EX ms t)
def mLs:List Xad->Rho->R Xag
 | [],_=>.ok []
 |m::ms,a=>m a>>=λw=>mLs ms a>>=λws=>.ok (w::ws)
def jB:∀ ms{g:List W->List W->R RX}{G H}{QA},[TM,b,c]->[ZI,c,[Wb,a]]->OutX K EX y c H0 G (mLs ms b>>=λul=>mr b>>=λO=>g ul O) Q ->
  (∀G' H' xl xr ul O,Ext G H G' H'->Reps K H' xl ul->Reps K H' xr O->OutX K EX y c H0 G' (g ul O) Q->QA (xl++.ref a::xr) H')->tLs K EX ms (F1 (z8 i) (tA K EX .B mr)) c H QA
 | [],g,G,H,QA,I,es,o,h=>⟨_,es,H0,G,b,I,OutX.bind I o λxs G1 H1 ws T m1 o1=>h G1 H1 [] xs [] ws T .nil (MdA.whole (I.ext T) m1) o1⟩
 | m::ms,g,G,H,QA,I,es,o,h=>by
  have o':OutX K EX y c H0 G (m b>>=λw=>mLs ms b>>=λul=>mr b>>=λO=>g (w::ul) O) Q:=by
   simp_all[mLs,R.assoc]
  refine ⟨H0,G,b,I,OutX.bind I o' [Tz,x,w,T]⟩;show jB ms (I.ext T) es o1 λG' H' xl xr ul O e2 rl rr o2=>h G' H' _ xr _ O (T.trans e2) (.cons ((m1.move e2).whole ((I.ext T).ext e2)) rl) rr o2
def kz {kw:KW}(hf:ul.length=k/\k+1+ur.length=n) (I:[TM,c,d]) (e:[ZI,c,.obj y C kw]) (one:R4 (c.set i .un)=true) (hy:y≠.kept) (es:[ZI,d,[Wb,a]]) (ha:H a=some (.ins C dx fs)) (rf:FsR K G fs kw) (O:ObY H0 G a (.ins C dx fs) y) (rl:Reps K H xl ul) (rr:Reps K H xr ur) (UJ:f ul ur kw≠.stuck) (hx:∀e,f ul ur kw=.ex e->∀H',Same H H'->XF E e H') (o:∀r,f ul ur kw=.ok r->∀v TW G' H',RlY r.2.2 y H0 TW->Same G G'->PIv K TW G' (c.set i (.obj y C r.2.1)) d H'->Rep K G' v r.1->Q v H'):spO K XF C k n f (xl++.ref a::xr) H Q E:=by
 obtain ⟨h1,h2⟩:=hf;have ga:G a=none:=by
  cases y with
  |own=>show O.1
  |pin p=>show I.gl a _ O.2 rfl
  |kept=>omega
 refine ⟨by rw[qC4,qC2,rl.length,rr.length];omega,xl,a,xr,ul,ur,dx,fs,kw,G,rfl,[ZO,rl.length,h1],rl,rr,ha,I.gh,ga,rf,?_⟩
 revert o hx UJ
 cases f ul ur kw with
 |stuck=>show λz=>absurd rfl z
 |ex e=>show λ_ hx _=>hx e rfl
 | ok r=>
  intro _ _ o;replace o:=o r rfl
  intro v G' H' VC UX hH hp gH cl Yp rv;have YV:=cl a _ ha rfl ga;have hk:=λb u q=>hH b u (.inr (j6 q ga)) (I.gh b u q);have sB:Same G (both G G'):=λb o q=>by unfold both;rw[q]
  have Um:Same G' (both G G'):=λb u q=>by
   unfold both;cases q1:G b with
   |none=>show q
   | some w=>
    have a1:=hk b w q1;rw[gH b u q]at a1;show a1.symm
  have VQ:Same (both G G') H':=λb u q=>by
   unfold both at q;cases q1:G b with
   |none=>rw[q1]at q;show gH b u q
   |some w=>grind
  have gB:both G G' a=none:=by unfold both;rw[ga];show YV
  have T:∀b u,b≠a->H b=_->_=true->G b=none->both G G' b=none:=λb u _ hb l g=>by unfold both;rw[g];show cl b u hb l g
  have a3:=λb u z=>hH b u (.inr z);cases y with
  |kept=>omega
  |own=>show o v H0 _ H' rfl sB (I.objUp e one es ga (λu q=>by rw[O.2]at q;cases q) (λ_ _=>rfl) (λu q=>by rw[O.2]at q;cases q) sB VQ a3 hp gB T (Yp.same Um) ⟨gB,O.2⟩) (rv.same Um)
  | pin p=>
   obtain ⟨rfl,O⟩:=O;refine o v (upd H0 a (.ins C VC UX)) _ H' (λb q=>?_) sB (I.objUp e one es ga (λu q=>by rw[O]at q;cases q;rfl) (λb q=>c0 q) (λu q=>by rw[d5]at q;cases q;rfl) sB VQ a3 hp gB T (Yp.same Um) ⟨rfl,d5⟩) (rv.same Um)
   grind[d5,c0]
def gY (y:Oy) (C i:Nat) (f:[Z05]) (ms:List Xad) (O:Xal):Rho->R RX:=λa=>match a[i]? with
 |some (.obj y' C' kw)=>[TJ,y'=y/\C'=C/\R4 (a.set i .un)=true,mLs ms a>>=λul=>O a>>=λI=>f ul I kw>>=λr=>.ok (r.1,a.set i (.obj y C r.2.1),r.2.2)]
 |_=>.stuck
def iz {f:[Z05]}(hE:∀e H,EX e H->XF E e H) (hf:f ul ur kw≠.stuck->ul.length=k/\k+1+ur.length=n) (I:[TM,b,c]) (e:[ZI,b,.obj y C kw]) (one:R4 (b.set i .un)=true) (hy:y≠.kept) (es:[ZI,c,[Wb,a]]) (ha:H a=some (.ins C dx fs)) (rf:FsR K G fs kw) (oy:ObY H0 G a (.ins C dx fs) y) (rl:Reps K H xl ul) (T:Reps K H xr ur) (o:OutX K EX y c H0 G (f ul ur kw>>=λr=>.ok (r.1,b.set i (.obj y C r.2.1),r.2.2)) Q):spO K XF C k n f (xl++.ref a::xr) H Q E:=by
 have O:f ul ur kw≠.stuck:=λz=>by rw[z]at o;show o
 show kz (hf O) I e one hy es ha rf oy rl T O (λx q H' s=>hE x H' (by rw[q]at o;show o H' (I.hh.trans s) (I.gh.trans s))) λr q=>by rw[q]at o;show o
def Bz {C:Addr}(hy:y≠.kept) (hE:∀e H,EX e H->XF E e H) (hf:∀ul O kw,f ul O kw≠.stuck->ul.length=k/\k+1+O.length=n) (h:tMX K EX y (gY y C i f ms mr) b H Q):
  X5 (spO K XF C k n f) [] E (tLs K EX ms (F1 (z8 i) (tA K EX .B mr))) b H Q:=by
 show 5 c;show 10 gY
 .rename_i y' C' kw e
  split at o
  .rename_i hk
   obtain ⟨rfl,rfl,one⟩:=hk;obtain ⟨a,dx,fs,es,ha,rf,oy⟩:=I.obj_at e;refine jB ms I es o λG' H' xl xr ul O x rl rr o1=>?_;obtain ⟨a2,Wc,VZ,T,VB,Wg,Wh⟩:=(I.ext x).obj_at e;rw[es]at T;cases T;rw[qD3];show iz hE (hf ul O kw) (I.ext x) e one hy es VB Wg Wh rl rr o1
  .show o.elim
 .show o.elim
def gU (y:Oy) (C i:Nat) (ns:ZK) (f:[Z05]) (O:Xal):Rho->R RX:=λa=>match a[i]? with
 |some (.obj y' C' kw)=>[TJ,y'=y/\C'=C/\R4 (a.set i .un)=true/\kw.1=ns,O a>>=λI=>f [] I kw>>=λr=>.ok (r.1,a.set i (.obj y C r.2.1),r.2.2)]
 |_=>.stuck
def GS {C:Addr}(hy:y≠.kept) (hx:Q2 x ns=none) (hE:∀e H,EX e H->XF E e H) (hf:∀ul ur kw,f ul ur kw≠.stuck->ul.length=0/\0+1+ur.length=n) (h:tMX K EX y (gU y C i ns f mr) b H Q):kO C x (spO K XF C 0 n f) [] E (z8 i) (tA K EX .B mr) b H Q:=by
 show 5 c;show 10 gU
 .rename_i y' C' kw e
  split at o
  .rename_i hk
   obtain ⟨rfl,rfl,one,rfl⟩:=hk;obtain ⟨a,dx,fs,es,ha,rf,oy⟩:=I.obj_at e;refine ⟨_,es,a,dx,fs,rfl,ha,ji ([ZO,rf.1,hx]),H0,G,c,I,OutX.bind I o [Tz,xs,ws,O]⟩;obtain ⟨a2,Wc,VZ,T,VB,Wg,Wh⟩:=(I.ext O).obj_at e;rw[es]at T;cases T;rw[qD3];show iz (ul:=[]) hE (hf [] ws kw) (I.ext O) e one hy es VB Wg Wh .nil (MdA.whole (I.ext O) m1) o1
  .show o.elim
 .show o.elim
def gZ (C i:Nat) (f:[Z05]) (ms:List Xad) (O:Xal):Rho->R RX:=λa=>match a[i]? with
 |some (.obj y' C' kw)=>[TJ,y'=.kept/\C'=C,mLs ms a>>=λul=>O a>>=λI=>f ul I kw>>=λr=>[TJ,r.2.2=true,.ok (r.1,a,true)]]
 |_=>.stuck
def GY {C:Addr}(hE:∀e H,EX e H->XF E e H) (hf:∀ul T kw,f ul T kw≠.stuck->ul.length=k/\k+1+T.length=n) (h:tMX K EX .kept (gZ C i f ms mr) c H Q):
  X5 (spO K XF C k n f) [] E (tLs K EX ms (F1 (z8 i) (tA K EX .B mr))) c H Q:=by
 show 5 d;show 10 gZ
 .rename_i y' C' kw e
  split at o
  .rename_i hk
   show 1 rfl hk;obtain ⟨a,dx,fs,es,ha,rf,oy⟩:=I.obj_at e;refine jB ms I es o λG1 H1 xl xr ul T x rl rr o1=>?_;have O:=I.ext x;obtain ⟨a2,Wc,VZ,UK,VB,Wg,Wh⟩:=O.obj_at e;rw[es]at UK;cases UK;rw[qD3];have UJ:f ul T kw≠.stuck:=λz=>by rw[z]at o1;show o1
   obtain ⟨h1,h2⟩:=hf ul T kw UJ;have sN:SameN G1 (λb=>if b=a then none else G1 b):=λb u q l=>by
    have:b≠a:=by rintro rfl;rw[Wh]at q;cases q;cases l
    omega
   refine ⟨by rw[qC4,qC2,rl.length,rr.length];omega,xl,a,xr,ul,T,Wc,VZ,kw,(λb=>if b=a then none else _),rfl,[ZO,rl.length,h1],rl,rr,VB,λb u q=>?_,qA3 rfl,Wg.sameN sN,?_⟩
   .dsimp at q
    split at q
    .cases q
    .show O.gh b u q
   revert o1
   cases f ul T kw with
   |stuck=>show id
   |ex e=>show λo1 H' s=>hE e H' (o1 H' (O.hh.trans s) (O.gh.trans s))
   | ok r=>
    intro o1 v G' H' VC UX hH hp gH cl Yp rv;by_cases hz:r.2.2=true
    .have o1:OutX K EX .kept c H0 G1 [YL,r.2.2=true,.ok (r.1,d,true),.stuck] Q:=o1;rw[qA3 hz]at o1;have sH:Same H1 H':=λb u q=>hH b u (.inl hz) q;have sB:Same G1 (both G1 G'):=λb o q=>by unfold both;rw[q]
     have Um:Same G' (both G1 G'):=λb u q=>by
      unfold both;cases q1:G1 b with
      |none=>show q
      | some w=>
       have a1:=sH b w (O.gh b w q1);rw[gH b u q]at a1;show a1.symm
     have VQ:Same (both G1 G') H':=λb u q=>by
      unfold both at q;cases q1:G1 b with
      |none=>rw[q1]at q;show gH b u q
      |some w=>rw[q1]at q;cases q;show sH b _ (O.gh b _ q1)
     show o1 v H0 _ H' rfl sB (O.ext ⟨sB,sH,VQ,λb u q l g=>by
      grind[both]⟩) (rv.same Um)
    simp_all[OutX]
  .show o.elim
 .show o.elim
def aw (h:t7 k n N C m ul ur kw≠.stuck):ul.length=k/\k+1+ur.length=n:=by
 have:=rA h 0
 grind[t7,mf]
def noE {b}:R b->R b
 | .ok a=>.ok a
 |_=>.stuck
def OutX.then_ {md:b->c->[Ts,Hp]}(o:OutX K EX y a H0 G (noE m>>=k) Q) (h:∀x G1 H1 w,Ext G' H' G1 H1->md w x G1 H1->OutX K EX y a H0 G (k w) Q->Q1 x H1):Out EX G' H' md m Q1:=by
 cases m with
 |ok w=>show λv G' H' e q=>h v G' H' w e q o
 |ex e=>show 2
 |stuck=>show o
def lE (f:W->W->R W)(m1:Rho->R RX)(O:Xad):Rho->R RX:=λa=>m1 a>>=λz=>noE (O z.2.1)>>=λI=>noE (f z.1 I)>>=λw=>.ok (w,z.2)
def xP (hr:Op2 K .B .V r f) (h:tMX K EX y (lE f m1 m2) a H Q):tOp r (tMX K EX y m1) (tM K EX .B m2) a H Q:=by
 show 4 b ?_;unfold lE at o
 revert o
 cases m1 b with
 |stuck=>show id
 |ex e=>show id
 | ok z=>
  intro o v T G' H' YC sG I' rv;refine ⟨T,G',_,I',OutX.then_ o [Tz,x,w2,O]⟩;have I1:=I'.ext O;refine hr EX T H1 G1 H1 _ a H1 H1 v x z.1 w2 Q I1 (Same.refl _) (.inl ((rv.same O.gg).same I1.G_join)) (by
   rcases m1 with m1|m1
   .show .inl m1
   .show .inr m1) (OutX.then_ o1 λx2 G2 H2 w e2 m2 o2=>?_)
  show o2 x2 T G2 H2 YC (sG.trans (O.gg.trans e2.gg)) (I1.ext e2) m2
def kK (m1:Rho->R RX)(O:Xad):Rho->R RX:=λa=>m1 a>>=λz=>noE (O z.2.1)>>=λI=>.ok (.tup [z.1,I],z.2)
def GK (h:tMX K EX y (kK m1 m2) c H Q):rK (F1 (tMX K EX y m1) (F1 (tM K EX .V m2) tNil)) c H Q:=by
 show 13 kK
 cases m1 a with
 |stuck=>show id
 |ex e=>show id
 | ok z=>
  intro o v TW G' H' YC sG I' rv;refine ⟨TW,G',_,I',OutX.then_ o [Tz,x,w2,O]⟩;have T:=I'.ext O;refine ⟨[SK,[Te,2]],λq hq=>?_⟩;have gq:=T.gh.free hq;have s1:Same G1 (upd G1 q (.tup [v,x])):=λb u z=>[Tr,c0]
  refine o1 _ TW _ _ YC (sG.trans (O.gg.trans s1)) (T.ext ⟨s1,λb u z=>[Tr,c0],λb u z=>?_,λb u z l g=>[Tr,c0]⟩) (.tup d5 (.cons ((rv.same O.gg).same s1) (.cons (Rep.same s1 m1) .nil)));by_cases hb:b=q
  .grind[d5]
  .rw[c0 hb]at z ⊢;show T.gh b u z
def kQ (p C:Addr)(i:Nat)(m:Rho->R RX):Xae:=λa=>m a>>=λz=>rtO z.2.2 p C i z.2.1 z.1
def ND (h:tStO K EX p C (kQ p C i m) D b H):iL (tMX K EX (.pin p) m) D b H:=by
 show 13 kQ
 cases m a with
 |stuck=>show id
 |ex e=>show id
 |ok z=>show λo v T G' H' hr sG O rv=>CU hr O rv (OutO.move sG o)
def kU (j:Nat)(m:Rho->R RX):Xae:=λa=>m a>>=λz=>.ok (if z.2.2 then .nx (z.2.1.set j (.val z.1)) else .ct (z.2.1.set j (.val z.1)))
def Ob (h:tStO K EX p C (kU j m) D c H):T4 (tMX K EX (.pin p) m) (L6 j) D c H:=by
 show 13 kU
 cases m a with
 |stuck=>show id
 |ex e=>show id
 | ok z=>
  intro o v O G' H' hr sG T rv;rw[R.ok_bind]at o;cases q:z.2.2 with
  | true=>
   rw[q]at o hr
   have:O=H0:=by funext b;show hr b (.inl rfl)
   subst this;show o G' _ H' sG (T.setV rv)
  | false=>
   rw[q]at o hr;show o O G' _ H' (λb hb=>hr b (.inr hb)) sG (T.setV rv)
def kW (mg:Xan)(m:Rho->R RX):Xae:=λa=>m a>>=λz=>toR (mg z.1 z.2.1)>>=λI=>.ok (.nx I)
def Oc (hg:Gt K .V g mg) (h:[ou,kW mg m,a]):T4 (tMX K EX .own m) g D a H:=by
 show 4 b ?_;unfold kW at o
 revert o
 cases m b with
 |stuck=>show id
 |ex e=>show λo H' s _=>o H' s
 | ok z=>
  intro o v TW G' H' hr sG I' rv;rw[R.ok_bind]at o;subst hr;cases q:mg z.1 _ with
  |none=>rw[q]at o;show 2
  |some T=>rw[q]at o;show hg TW H' G' _ a H' v _ T _ I' rv q λO I2=>OutS.move sG o G' O H' (Same.refl _) I2
def kR (m:Rho->R RX):Xae:=λa=>m a>>=λz=>[TJ,noL z.1=true,.ok (.rt z.1)]
def NF (hy:y=.kept\/y=.own) (hd:d=.F\/d=.V) (h:[ou,kR m,b]):iL (tMX K EX y m) D b H:=by
 show 13 kR
 cases m a with
 |stuck=>show id
 |ex e=>show λo H' s _=>o H' s
 | ok z=>
  intro o v T G' H' hr sG O rv;rw[R.ok_bind]at o;have hr:T=H0:=by rcases hy with rfl|rfl <;> show hr
  subst hr;by_cases hn:noL z.1=true
  .rw [qA3 hn]at o
   refine o v G' H' sG O.gh O.hh O.gl ?_;rcases hd with rfl|rfl
   .show lj hn rv
   .show rv
  show 12 hn
def OutXT (K:Frag) (EX:EXT) (a:St) (H0 G:Hp) (r:R (Bool×Rho)) (Q:[Ts,Bool]):Prop:=match r with
 | .ok z=>∀G' H',Same G G'->PIv K H0 G' z.2 a H'->Q z.1 H'
 | .ex e=>∀H',Same H0 H'->EX e H'
 | .stuck=>False
def tTX (K:Frag)(EX:EXT)(m:Rho->R (Bool×Rho)):TT:=λa H Q=>∃H0 G b,[TM,b,a]/\OutXT K EX a H0 G (m b) Q
def kL (m:Rho->R RX):Rho->R (Bool×Rho):=λa=>m a>>=λz=>match z.1 with
 | .bl b=>.ok (b,z.2.1)
 |_=>.stuck
def GL (h:tTX K EX (kL m) c H QT):kN (tMX K EX .own m) c H QT:=by
 show 13 kL
 cases m a with
 |stuck=>show id
 |ex e=>show λo H' s _=>o H' s
 | ok z=>
  intro o v T G' H' hr sG O rv;rw[R.ok_bind]at o;subst hr
  split at o
  .rename_i b e
   rw[e]at rv;show ⟨b,rv.inv,o G' H' sG O⟩
  .show o.elim
def rD (ta:Xam)(tb:Rho->R (Bool×Rho)):Rho->R (Bool×Rho):=λa=>ta a>>=λb=>if b then tb a else .ok (false,a)
def OutXT.move (s:Same G G1) (o:OutXT K EX c H0 G r QT):OutXT K EX c H0 G1 r QT:=by
 cases r with
 |stuck=>show o
 |ex e=>show o
 |ok z=>show λG' H' a b=>o G' H' (s.trans a) b
def Od (h:tTX K EX (rD ta tb) d H QT):yH (tT K EX ta) (tTX K EX tb) d H QT:=by
 show 13 rD
 cases ta a with
 |stuck=>show id
 |ex e=>show λo H' s=>o H' (I.hh.trans s)
 | ok b=>
  intro o c G' H' e q;cases q;rw[R.ok_bind]at o;cases b with
  | true=>
   show ⟨H0,G',a,I.ext e,OutXT.move e.gg o⟩
  | false=>
   show o G' H' e.gg (I.ext e)
def rX (c:Rho->R (Bool×Rho))(m n:Xae):Xae:=λa=>c a>>=λz=>if z.1 then m z.2 else n z.2
def RA (h:[ou,rX c m n,b]):rN (tTX K EX c) [Tx,m] [Tx,n] D b H:=by
 show 13 rX
 cases c a with
 |stuck=>show id
 |ex e=>show id
 | ok z=>
  intro o G' H' sG O;rw[R.ok_bind]at o;cases q:z.1 with
  | true=>
   rw[q]at o;show ⟨H0,G',_,O,OutS.move sG o⟩
  | false=>
   rw[q]at o;show ⟨H0,G',_,O,OutS.move sG o⟩
def xM (hc:[Z0C,c,Cc]) (h:tStO K (XE1 K E) p C (Y6 c mr) D a H):ft Cc E (tA K (XE1 K E) .B mr) D a H:=by
 show 4 b (OutO.bind I o [Tz,xs,ws,T]);have O:=I.ext T;by_cases hl:ws.length<=1000
 .rw [qA3 hl]at o1
  show ⟨[ZO,[ZM,MdA.whole O m1],hl],o1 _ O.hh O.gh Cc none hc rfl⟩
 .rw[qA9 hl]at o1;show o1.elim
def rS (i:Nat)(m:Xad):Xae:=λa=>m a>>=λw=>[Rn,.val w]
def Ny (h:tStO K EX p C (rS i m) D a H):T4 (tM K EX .V m) (L6 i) D a H:=by
 show 5 b;show ⟨H0,G,b,I,OutO.bind I o λx G1 H1 w O m1 o1=>o1 G1 _ H1 (Same.refl _) ((I.ext O).setV m1)⟩
open Classical in
def xf {e:XW}(hc:PySem.W.nsIn K mainGlobals e.cls=some (some (.ref C1))) (I1:PIv K H0 G1 d c H1) (sH:Same H1 H') (T:XD H' od e.at_) (ha:H' a=none) (Uz:ob.cls=.ref C1) (Xd:ob.dict=od) (Wj:∃vs:Array Value,ob.data=.fields vs):
  ∃G',Same G1 G'/\PIv K H0 G' (d.set j (.val (.exc e.cls e.at_))) (c.set j (some (.ref a))) (upd H' a (.ext λh=>h.get? a=some ob)):=by
 obtain ⟨vs,Wj⟩:=Wj
 let G':Hp:=λb=>if b=a then some (.ext λh=>h.get? a=some ob) else if od=some b then H' b else G1 b
 have ga:G1 a=none:=by
  cases q:G1 a with
  |none=>rfl
  |some u=>have:=sH a u (I1.gh a u q);rw[ha]at this;cases this
 have hG:∀b,b≠a->od≠some b->G' b=G1 b:=λb I O=>by
  change (if b=a then _ else if od=some b then _ else _)=_;rw[qA9 I,qA9 O]
 have a3:G' a=some (.ext λh=>h.get? a=some ob):=qA3 rfl;have a4:∀b,od=some b->∃fs,H' b=some (.xd fs):=λb hb=>by
  cases q:e.at_ with
  |none=>rw[q]at T;rw[show od=none from T]at hb;cases hb
  |some i=>rw[q]at T;obtain ⟨dd,I,O⟩:=T;rw[I]at hb;cases hb;show ⟨_,O⟩
 have YU:∀b,b≠a->od=some b->G' b=H' b:=λb I O=>by
  change (if b=a then _ else if od=some b then _ else _)=_;rw[qA9 I,qA3 O]
 have gg:Same G1 G':=λb u q=>by
  have I:b≠a:=by rintro rfl;rw[ga]at q;cases q
  by_cases O:od=some b
  .rw[YU b I O];show sH b u (I1.gh b u q)
  .rw[hG b I O];show q
 have x:Ext G1 H1 G' (upd H' a (.ext λh=>h.get? a=some ob)):=by
  refine ⟨gg,λb u q=>?_,λb u q=>?_,λb u q l g=>?_⟩
  .have q':=sH b u q;rw[c0 (j6 q' ha)];show q'
  .by_cases I:b=a
   .subst I;rw[a3]at q;rw[d5];show q
   .rw [c0 I]
    by_cases O:od=some b
    .rw[YU b I O]at q;show q
    .rw[hG b I O]at q;show sH b u (I1.gh b u q)
  .have q':=sH b u q;have I:b≠a:=j6 q' ha;have O:od≠some b:=λz=>by
    obtain ⟨fs,z⟩:=a4 b z;rw[q']at z;cases z;cases l
   rw[hG b I O];show g
 refine ⟨G',gg,(I1.ext x).setV (i:=j) (v:=.ref a) (w:=.exc e.cls e.at_) ?_⟩;refine .exc a3 Uz Wj hc ?_;rw[Xd];cases q:e.at_ with
 |none=>rw[q]at T;show T
 | some i=>
  rw[q]at T;obtain ⟨dd,I,O⟩:=T;refine ⟨dd,I,?_⟩;rw[YU dd (by rintro rfl;rw[ha]at O;cases O) I];show O
def sY (c1:Str) (O:Nat) (T:Xae) (cs:ZK) (I:Nat) (Ut:Xae) (e:XW) (a:Rho):R Fl:=
 if e.cls=c1 then nxR (T (a.set O (.val (.exc e.cls e.at_))))>>=nS O else [TJ,e.cls∈cs,nxR (Ut (a.set I (.val (.exc e.cls e.at_))))>>=nS I]
def kP (p C:Addr) (i:Nat) (ns:ZK) (I:Nat) (f:[Z05]) (mr:Xal) (c1:Str) (j1:Nat) (T:Xae) (cs:ZK) (j2:Nat) (Ut:Xae):Xae:=λa=>match a[i]? with
 | some (.obj y' C' kw)=>if y'=.pin p/\C'=C/\R4 (a.set i .un)=true/\kw.1=ns then mr a>>=λO=>match f [] O kw with
  | .ok r=>.ok (if r.2.2 then .nx ((a.set i (.obj (.pin p) C r.2.1)).set I (.val r.1)) else .ct ((a.set i (.obj (.pin p) C r.2.1)).set I (.val r.1)))
  | .ex e=>sY c1 j1 T cs j2 Ut e a
  | .stuck=>.stuck else .stuck
 |_=>.stuck
def lQ (I:PIv K H0 G' ρ1 σ1 H') (s:Same G1 G') (o:OutO K EX p C H0 G1 (nxR (mb ρ1)>>=nS j) D):
  tSt K EX d mb { nx:=λO H'=>D.nx (O.set j none) H',rt:=D.rt,bk:=λO H'=>D.bk (O.set j none) H',ct:=λO H'=>D.ct (O.set j none) H' } σ1 H':=by
 refine ⟨H0,G',ρ1,I,?_⟩;have o2:=OutO.move s o
 revert o2
 cases mb ρ1 with
 |stuck=>show id
 |ex y=>show λo=>o.elim
 | ok f=>
  cases f with
  |nx T=>show λo2 G3 a3 H3 s3 I3=>o2 G3 _ H3 s3 I3.setN
  |bk T=>show λo=>o.elim
  |ct T=>show λo=>o.elim
  |rt w=>show λo=>o.elim
def Nu (hK:X.K=K) (hx:Q2 x ns=none) (hf:∀ul ur kw,f ul ur kw≠.stuck->ul.length=0/\0+1+ur.length=n) (YS:[Z0C,c1,D1]) (VM:PySem.W.exmOne K [ZE,D1] [ZE,C1]=some true) (VX:∀c,c∈cs->∃Dc,[Z0C,c,Dc]/\PySem.W.exmOne K [ZE,Dc] [ZE,C1]=some false/\PySem.W.exmOne K [ZE,Dc] [ZE,C2]=some true) (h:tStO K EX p C (kP p C i ns iy f mr c1 j1 Uu cs j2 Ut) D k H):BW X (spO K (XE1 K) C 0 n f) C x C1 C2 iy j1 j2 (z8 i) (tA K EX .B mr) [Tx,Uu] [Tx,Ut] D k H:=by
 show 5 g;show 10 kP
 .rename_i y' C' kw e
  split at o
  .rename_i hk
   obtain ⟨rfl,rfl,one,rfl⟩:=hk;obtain ⟨a,dx,fs,es,ha,rf,oy⟩:=I.obj_at e;refine ⟨_,es,a,dx,fs,rfl,ha,ji ([ZO,rf.1,hx]),H0,G,g,I,OutO.bind I o [Tz,xs,ws,e1]⟩;have T:=I.ext e1;obtain ⟨a2,Wc,VZ,UK,VB,Wg,Wh⟩:=T.obj_at e;rw[es]at UK;cases UK;rw[qD3];have UJ:f [] ws kw≠.stuck:=λz=>by rw[z]at o1;show o1
   refine kz (ul:=[]) (hf [] ws kw UJ) T e one [SN] es VB Wg Wh .nil (MdA.whole T m1) UJ (λxe q H' sH=>?_) (λr q v TW G' H' hr sG O rv=>?_)
   .rw [q]at o1
    intro C' od UD Vu;have o1:OutO K EX p _ H0 G1 (sY c1 j1 Uu cs j2 Ut xe g) D:=o1;unfold sY at o1;by_cases h1:xe.cls=c1
    .rw [qA3 h1]at o1
     have hc:[Z0C,xe.cls,D1]:=[ZO,h1,YS]
     rw[hc]at UD;cases UD;refine ⟨D1,rfl,.inl ⟨[ZO,hK,VM],λa ob ha Uz Xd Wj=>?_⟩⟩;obtain ⟨G',s,O⟩:=xf (j:=j1) hc T sH Vu ha Uz Xd Wj;show lQ O s o1
    .rw [qA9 h1]at o1
     by_cases h2:xe.cls∈cs
     .rw [qA3 h2]at o1
      obtain ⟨Dc,hc,e1,e2⟩:=VX _ h2;rw[hc]at UD;cases UD;refine [WH,rfl,.inr ⟨[ZO,hK,e1],[ZO,hK,e2],λa ob ha Uz Xd Wj=>?_⟩];obtain ⟨G',s,O⟩:=xf (j:=j2) hc T sH Vu ha Uz Xd Wj;show lQ O s o1
     .rw[qA9 h2]at o1;show o1.elim
   .rw [q]at o1
    have hr:Zr r.2.2 p H0 TW:=hr;cases z:r.2.2 with
    | true=>
     rw[z]at hr
     have:TW=H0:=by funext b;show hr b (.inl rfl)
     subst this;have o1:OutO K EX p _ TW G1 (.ok [YL,r.2.2,.nx _,.ct _]) D:=o1;rw[z]at o1;show o1 G' _ H' sG (O.setV rv)
    | false=>
     rw[z]at hr;have o1:OutO K EX p _ H0 G1 (.ok [YL,r.2.2,.nx _,.ct _]) D:=o1;rw[z]at o1;show o1 TW G' _ H' (λb hb=>hr b (.inr hb)) sG (O.setV rv)
  .show o.elim
 .show o.elim
noncomputable def xtL (tb:List (Str×Bool)) (c:Str):R W:=match tb.lookup c with
 |some b=>.ok (.bl b)
 |none=>.stuck
def fXT (tb:List (Str×Bool)) (k:W):[TR]
 | [.exc c _,k']=>match k,k' with
  | .cls n,.cls n'=>[TJ,n'=n,xtL tb c]
  | .ty n,.ty n'=>[TJ,n'=n,xtL tb c]
  |_,_=>.stuck
 |_=>.stuck
def XT (K:Frag)(u:Value)(tb:List (Str×Bool)):Prop:=∀c b,tb.lookup c=some b->∃C,[Z0C,c,C]/\XIs K C/\PySem.W.kitOne K [ZE,C] u=some b
def rXT (K:Frag)(u:Value)(cv:V):List V->Hp->VK->Prop:=λxs H Q=>∃C b,XIs K C/\PySem.W.kitOne K [ZE,C] u=some b/\JG C cv b xs H Q
def qW (O:∀x,RelV cv x->x=u) (T:X.K=K):C6 X (.builtin "isinstance") (rXT K u cv):=by
 subst T;intro pins s a H xs us Q I rv h;obtain ⟨C,b,g,e,h⟩:=h;show Bv O g e pins s a H xs us Q I rv h
def uo {Q:VK}(hT:XT K u tb) (m1:Rep K H v1 (.exc c i)) (I:[TM,f,a]) (o:[SO,mdW K d H0 Hs,xtL tb c]):rXT K u cv [v1,cv] H Q:=by
 unfold xtL at o;cases q:tb.lookup c with
 |none=>rw[q]at o;show 2
 | some b=>
  rw[q]at o;obtain ⟨C,hc,g,e⟩:=hT c b q;cases m1 with
  |dct T O h3=>grind
  | exc T O h3 h4 h5=>
   rw[hc]at h4;cases h4;refine ⟨C,b,g,e,_,_,_,rfl,T,O,h3,λdd XV=>?_,[re,[SZ,.bl]]⟩;cases i with
   |none=>rw[h5]at XV;cases XV
   |some i=>obtain ⟨d1,e2,e3⟩:=h5;grind
def dJ (hT:XT K [ZE,D0] tb) (hn:[Z0C,n,D0]):Cal K .B d (rXT K [ZE,D0] [ZE,D0]) (fXT tb (.cls n)):=by
 intro EX H0 Hs G H c b Ha vs ws Q I s m o;show 10 fXT
 .split at o
  .rename_i n1 n' e1
   cases e1;by_cases h:n'=n
   .rw [qA3 h]at o
    subst h;cases m with
    | cons a t=>
     cases t with
     | cons T t=>
      cases t;have m1:=Bj I a
      rename_i v1 v2
      have m2:Rep K (join H0 G) v2 (.cls n'):=by
       rcases T with T|⟨_,_,_,_,z,_⟩
       all_goals omega
      cases m2 with
      | cls O=>
       rw[hn]at O;cases O;show uo hT m1 I o
   show 12 h
  .omega
  .show o.elim
 .show o.elim
def CZ (T:XT K (.type n) tb):Cal K .B d (rXT K (.type n) (.ty n)) (fXT tb (.ty n)):=by
 intro EX H0 Hs G H c b Ha vs ws Q I s m o;show 10 fXT
 .split at o
  .omega
  .rename_i n1 n' e1
   cases e1;by_cases h:n'=n
   .rw [qA3 h]at o
    subst h;cases m with
    | cons a t=>
     cases t with
     | cons O t=>
      cases t;have m1:=Bj I a;cases O.tyB;show uo T m1 I o
   show 12 h
  .show o.elim
 .show o.elim
noncomputable def dNs:[Ta]:=["moor","places","moves","here","bound"]
def dFs (O I:Addr) (b:Int):List (Str×V):=[("moor",.non),("places",.ref O),("moves",.ref I),("here",.non),("bound",.int b)]
def dVs (b:Int):Xag:=[.non,.lst [],.lst [],.non,.int b]
def gw (C:Addr) (b:Int):Sp:=λvs H Q _=>vs.length=1/\∃x dx,vs = [.ref x]/\H x=some (.ins C dx [])/\∀H' I O,(∀a o,a≠x->H a=some o->H' a=some o)->H I=none->H O=none->H' I=some [YM,[]]->H' O=some [YM,[]]->H' x=some (.ins C dx (dFs I O b))->Q .non H'
def GU (hc:Cls K C) (n1:NoAttr K C "moor") (n2:NoAttr K C "places") (n3:NoAttr K C "moves") (n4:NoAttr K C "here") (n5:NoAttr K C "bound") (h:gw C b vs H Q E):
  cU (fw K (z8 0) (tC .non) "moor") (cU (fw K (z8 0) (rM tNil) "places") (cU (fw K (z8 0) (rM tNil) "moves") (cU (fw K (z8 0) (tC .non) "here") (fw K (z8 0) (tC (.int b)) "bound")))) { nx:=λ_ H'=>Q .non H',rt:=Q } (L2.start ["self"] vs) H:=by
 obtain ⟨_,x,dx,rfl,hx,h⟩:=h;refine ⟨_,rfl,x,C,dx,[],rfl,hx,hc,n1,Xaa,?_⟩;refine ⟨Xaa,λO h1=>⟨_,rfl,x,C,dx,[("moor",.non)],rfl,?_,hc,n2,Xaa,?_⟩⟩
 .rw[c0 (λz=>[Tr,d5]),d5];rfl
 have x1:O≠x:=λz=>[Tr,d5]
 have Xs:H O=none:=by rw[c0 x1]at h1;show h1
 refine ⟨Xaa,λT I=>⟨_,rfl,x,C,dx,[("moor",.non),("places",.ref O)],rfl,?_,hc,n3,[SK,2<1000],?_⟩⟩
 .rw[c0 (λz=>by subst z;rw[d5]at I;cases I),d5];rfl
 have x2:T≠x:=λz=>by subst z;rw[d5]at I;cases I
 have a4:T≠O:=λz=>by subst z;rw[c0 x2,d5]at I;cases I
 have a3:H T=none:=by rw[c0 x2,c0 a4,c0 x2]at I;show I
 refine ⟨_,rfl,x,C,dx,[("moor",.non),("places",.ref O),("moves",.ref T)],rfl,?_,hc,n4,[SK,3<1000],?_⟩
 .rw[d5];rfl
 refine ⟨_,rfl,x,C,dx,[("moor",.non),("places",.ref O),("moves",.ref T),("here",.non)],rfl,?_,hc,n5,[SK,4<1000],?_⟩
 .rw[d5];rfl
 refine h _ O T (λa o ha hb=>?_) Xs a3 ?_ ?_ ?_
 .grind[c0]
 .rw[c0 x1,c0 x1,c0 x1,c0 (Ne.symm a4),c0 x1,d5]
 .rw[c0 x2,c0 x2,c0 x2,d5]
 .rw[d5];rfl
def rW (i:Nat)(y:Oy)(C:Addr) (b:Int):Xae:=λa=>[Rn,.obj y C (dNs,dVs b)]
def NK (hy:y=.own\/y=.kept) (h:[ou,rW i y C b,a]):T4 (BY C (gw C b) [] E tNil) (L6 i) D a H:=by
 show 5 c;intro x dx hx hd hn;refine ⟨rfl,x,dx,rfl,d5,λH' T O hH h1 h2 k1 k2 kx=>⟨rfl,?_⟩⟩;have m2:O≠x:=λz=>ZU;have d2:O≠dx:=λz=>by grind[c0,d5]
 have e1:H T=none:=[Tr,c0]
 have e2:H O=none:=[Tr,c0]
 have sH:Same H H':=λb u q=>hH b u (j6 q hx) (by grind[c0]);have g1:=I.gh.free e1;have g2:=I.gh.free e2;have gx:=I.gh.free hx;have sG:Same G (upd (upd G T [YM,[]]) O [YM,[]]):=λb u q=>[Tr,c0]
 have a4:upd (upd G T [YM,[]]) O [YM,[]] T=some [YM,[]]:=by
  grind[d5,c0]
 have gh:Same (upd (upd G T [YM,[]]) O [YM,[]]) H':=λb u q=>by
  by_cases z2:b=O
  .grind[d5]
  .rw [c0 z2]at q
   by_cases z1:b=T
   .grind[d5]
   .rw[c0 z1]at q;show sH b u (I.gh b u q)
 have a3:upd (upd G T [YM,[]]) O [YM,[]] x=none:=[Tr,c0]
 have r:Reps K (upd (upd G T [YM,[]]) O [YM,[]]) [.non,.ref T,.ref O,.non,.int b] (dVs b):=.cons .non (.cons (.lst a4 .nil) (.cons (.lst d5 .nil) (.cons .non (.cons .int .nil))));have I1:=I.ext ⟨sG,sH,gh,λb u q l g=>[Tr,c0]⟩;rcases hy with rfl|rfl
 .show o _ _ H' sG (I1.put (s:=.obj .own C (dNs,dVs b)) ⟨x,dx,_,rfl,kx,⟨rfl,r⟩,a3,I.hh.free hx⟩ (λ_ z=>nomatch z))
 .have sX:Same (upd (upd G T [YM,[]]) O [YM,[]]) (upd (upd (upd G T [YM,[]]) O [YM,[]]) x (.ins C dx (dFs T O b))):=λb u q=>[Tr,c0]
  have I2:=I.ext (G':=upd (upd (upd G T [YM,[]]) O [YM,[]]) x (.ins C dx (dFs T O b))) (H':=H') ⟨sG.trans sX,sH,λb u q=>by
   by_cases z:b=x
   .grind[d5]
   .rw[c0 z]at q;show gh b u q,λb u q l g=>[Tr,c0]⟩
  show o _ _ H' (sG.trans sX) (I2.put (s:=.obj .kept C (dNs,dVs b)) ⟨x,dx,_,rfl,kx,⟨rfl,r.same sX⟩,d5⟩ (λ_ z=>nomatch z))
end TP
namespace TP
open PySem L2
open PyProof.Rows (envOfC)
def F9 {X}{K}{EX}{pos}{C}{ns:ZK}{i j}{x f}{p1}(hN:[ZI,X.N,x]) (T:[cz]) (hc:Cls K C) (hn:NoAttr K C f) (hj:[XXb,Q2 f ns=some j]) (O:[XXa,X.K=K]) (hd:[Z02]) (Ub:[Z0V]) (I:[XXa,attributeBase [YD,x,p1] f X.env [Sy,[YD,x,p1]]=eval [YD,x,p1] X.env]):[ZR,.Attribute [YD,x,p1] f pos,.V,fL i C ns j]:=by
 subst O;show [TD,Kt (x9 hN T hd Ub) I,RG hc hn hj q]
def Z6 {X}{K}{EX}{e}{pos}{ma:Xad}{p C}{ns:ZK}{i j}{x f}{p1 p2}(hN:[ZI,X.N,x]) (O:[cz]) (hc:Cls K C) (hn:NoAttr K C f) (T:[ZR,e,.V,ma]) (hj:[XXb,Q2 f ns=some j]) (hl:[XXb,ns.length<1000]) (I:[XXa,X.K=K]) (hd:[Z02]) (Ub:[Z0V]) (hs:[XXa,[Z0N,e,.Attribute [YD,x,p1] f p2]=pure false]):PS X (.Assign [.Attribute [YD,x,p1] f p2] e pos) [Z00,kT p C i ns j ma]:=by
 subst I;show [TD,bx (x9 hN O hd Ub) T hs,NS hc hn hj hl q]
def q_o {X}{K}{EX}{d}{m}{st}{p C}(h:PS X st [Tx,m]):PS X st [Z00,nxO m]:=h.mono [SH,tStO.toS q]
def d7 {X}{K}{EX}{m n}{st}{I}{p C}(T:PS X st [Z00,m])(O:PSs X I [Z00,n]):PSs X (st::I) [Z00,lm m n]:=[TD,R3 T O,NA q]
def k7 {X}{K}{EX}{m}{st}{p C}(I:PS X st [Z00,m]):PSs X [st] [Z00,m]:=bw I
def o5 {X}{K}{EX}{p C}:PSs X [] [Z00,sNx]:=pss_nil.mono [SH,GQ q]
def v7 {X}{K}{EX}{pos}{m n}{ta:Xam}{p C}{c}{x y}(hc:PT X c (tT K EX ta))(ha:PSs X x [Z00,m])(I:PSs X y [Z00,n]):PS X (.If c x y pos) [Z00,mIf ta m n]:=[TD,sm hc ha I,RC q]
def F7 {X}{K}{EX}{e}{pos}{ma:Xad}{p C}i(I:[ZR,e,.V,ma]):PS X (.Return [ZT,e] pos) [Z00,rT p C i ma]:=(dg I).mono [SH,NE q]
def vi {X}{K}{EX}{e}{pos}{ma:Xad}{p C}{i}{x}{pos'}(T:X.N.Nodup) (hi:[ZI,X.N,x]) (I:Loc X.env.scope x) (O:[ZR,e,.V,ma]) (hs:[XXa,[Z0N,e,[YD,x,pos']]=pure false]) (hf:[Z0c]):
  PS X (.Assign [.Name x pos'] e pos) [Z00,rS i ma]:=[TD,Z7 T hi I O hs hf,Ny q]
def fE {X}{K}{EX}{e}{es}{ma:Xad}{ms}{t}(ha:[ZR,e,.B,ma])(hr:PA X es (tLs K EX ms t))(hs:[Z0O]):PA X [TC] (tLs K EX (ma::ms) t):=B8 ha hr hs
def O0 {X}{K}{EX}{es}{I:Xal}{i}{x}{p1}(O:[ZI,X.N,x]) (T:[cz]) (hr:PA X es (tA K EX .B I)) (hd:[Z02]) (Ub:[Z0V]) (hs:[XXa,[Tm,.Name x p1::es]=[SJ,[YD,x,p1]]::[Tm,es]]):
  PA X (.Name x p1::es) (tLs K EX [] (F1 (z8 i) (tA K EX .B I))):=B8 (x9 O T hd Ub) hr hs
def B5 {X}{K}{e}{es:ZX}{pos}{I:Xal}{C}{y}{ms:List Xad}{i k kk n N}{x}{p1}{f}{fd}{ps}{m:[p5]}(hy:y≠.kept) (F:[Z0T,CX0,kk,spO K XE C k n (t7 k n N C m)]) (hr:Room kk X.A) (hg:Gl X x) (hm:X.mg x=some [ZE,f]) (hk:PySem.W.keepIn X.K [ZE,f]=true) (T:Binds X.K fd ps []) (ha:PA X [TC] (tLs K (λ_ _=>False) ms (F1 (z8 i) (tA K (λ_ _=>False) .B I)))) (Ue:[Z08]) (he:[Z0O]) (O:[XXa,[rd,pos,X.env]]):
  PE X [SY,[YD,x,p1],[TC]] (tMX K (λ_ _=>False) y (gY y C i (t7 k n N C m) ms I)):=
 [TD,P1 F hr hg hm hk T .nil ee ha Ue he O,Bz hy (λ_ _ z=>z) (λ_ _ _ h=>aw h) q]
def EA {X}{K}{e}{es:ZX}{pos}{I:Xal}{C}{ms:List Xad}{i k kk n N}{x}{p1}{f}{fd}{ps}{m:[p5]}(F:[Z0T,CX0,kk,spO K XE C k n (t7 k n N C m)]) (hr:Room kk X.A) (hg:Gl X x) (hm:X.mg x=some [ZE,f]) (hk:PySem.W.keepIn X.K [ZE,f]=true) (T:Binds X.K fd ps []) (ha:PA X [TC] (tLs K (λ_ _=>False) ms (F1 (z8 i) (tA K (λ_ _=>False) .B I)))) (Ue:[Z08]) (he:[Z0O]) (O:[XXa,[rd,pos,X.env]]):
  PE X [SY,[YD,x,p1],[TC]] (tMX K (λ_ _=>False) .kept (gZ C i (t7 k n N C m) ms I)):=
 [TD,P1 F hr hg hm hk T .nil ee ha Ue he O,GY (λ_ _ z=>z) (λ_ _ _ h=>aw h) q]
def W0 {X}{K}{EX}{pos}{mb:Xad}{y}{O}{a c}{I}{r}{f}(ho:[tr,I,r]) (hr:Op2 K .B .V r f) (ha:PE X a (tMX K EX y O)) (T:[ZR,c,.B,mb]) (hm:[XXf,behindInMarks I c=false]):PE X (.Compare a [I] [c] pos) (tMX K EX y (lE f O mb)):=
 [TD,qq ho ha T hm,xP hr q]
def T8 {X}{K}{EX}{pos}{mb:Xad}{y}{I}{a c}{x1}(ha:PE X a (tMX K EX y I)) (O:[ZR,c,.V,mb]) (h1:[XXa,[Tm,[a,c]]=[SJ,a]::[Tm,[c]]]) (T:[XXa,[Tm,[c]]=[SJ,c]::[Tm,[]]]):PE X (.Tuple [a,c] x1 pos) (tMX K EX y (kK I mb)):=
 (mP (B8 ha (B8 O pa_nil T) h1)).mono [SH,GK q]
def K3 {X}{K}{EX}{e}{pos}{p C}{I}i(O:PE X e (tMX K EX (.pin p) I)):PS X (.Return [ZT,e] pos) [Z00,kQ p C i I]:=(dg O).mono [SH,ND q]
def vy {X}{K}{EX}{e}{pos}{p C}{I}{i}{x}{pos'}(hN:X.N.Nodup) (hi:[ZI,X.N,x]) (O:Loc X.env.scope x) (T:PE X e (tMX K EX (.pin p) I)) (hs:[XXa,[Z0N,e,[YD,x,pos']]=pure false]) (hf:[Z0c]):
  PS X (.Assign [.Name x pos'] e pos) [Z00,kU i I]:=[TD,Z7 hN hi O T hs hf,Ob q]
def Kc {X}{K}{EX}{d}{e}{pos:Pos}{I:Rho->R RX}{tg}{g}{mg}(O:PE X e (tMX K EX .own I)) (hg:PG X tg g) (UW:Gt K .V g mg) (hs:[XXa,swapsWithSole [tg] e pos.line X.env=pure false]) (hw:[XXa,swappedStores [tg] e X.env=pure none]) (T:[XXa,(assignEach [tg] X.env).map (·.2) = [assign tg X.env]]):
  PS X (.Assign [tg] e pos) [Tx,kW mg I]:=[TD,mK O hg hs hw T,Oc UW q]
def JU {X}{K}{EX}{d}{e}{pos}{y}{I}(T:y=.kept\/y=.own)(hd:d=.F\/d=.V)(O:PE X e (tMX K EX y I)):PS X (.Return [ZT,e] pos) [Tx,kR I]:=(dg O).mono [SH,NF T hd q]
def iT {X}{K}{EX}{pos}{mb:Xad}{O}{a c}{I}{r}{f}(ho:[tr,I,r]) (hr:Op2 K .B .V r f) (ha:PE X a (tMX K EX .own O)) (T:[ZR,c,.B,mb]) (hm:[XXf,behindInMarks I c=false]):PT X (.Compare a [I] [c] pos) (tTX K EX (kL (lE f O mb))):=
 (iY ho ha T hm).mono λb H Q q=>xP hr (GL q)
def Eu {X}{K}{EX}{pos}{ta:Xam}{a b}{tb:Rho->R (Bool×Rho)}(ha:PT X a (tT K EX ta))(I:PT X b (tTX K EX tb)):PT X (.BoolOp .And [a,b] pos) (tTX K EX (rD ta tb)):=(PW.pt (vz ha (qm I))).mono [SH,Od q]
def sj {X}{K}{EX}{d}{pos}{m n}{c}{x y}{I:Rho->R (Bool×Rho)}(hc:PT X c (tTX K EX I))(ha:PSs X x [Tx,m])(O:PSs X y [Tx,n]):PS X (.If c x y pos) [Tx,rX I m n]:=[TD,sm hc ha O,RA q]
def vm {X}{K}{EX}{d}{pos}{C}{y}{k i}{b}{x I}{f}{fd}{ps}{p1 pos' TU}(hy:y=.own\/y=.kept) (hN:X.N.Nodup) (hi:[ZI,X.N,x]) (hx:Loc X.env.scope x) (M:Mk X.K C f) (F:[Z0T,CX0,k,gw C b]) (hr:Room (k+1) X.A) (hg:Gl X I) (hm:X.mg I=some [ZE,C]) (O:Binds X.K fd ps []) (T:[XXb,(I == ("__debug__"))=false]) (hs:[XXa,[Z0N,.Call [YD,I,p1] [] [] TU,[YD,x,pos']]=pure false]) (hf:[Z0c]):
  PS X (.Assign [.Name x pos'] (.Call [YD,I,p1] [] [] TU) pos) [Tx,rW i y C b]:=[TD,Z7 hN hi hx (zQ M F hr hg hm O .nil ee T) hs hf,NK hy q]
def JR {X:Cx}{K}{EX}{d}{e}{es:ZX}{pos}{mr:Xal}{p C}{ns:ZK}{pl:Sem Bool}{Vh T n1 n2 c1 x yv O}{cs}{C1 C2 D1 f}{k i iy j1 j2 n N}{fd}{ps}{m:[p5]}{p1 yp I ap apos WQ WP Xb Xa:Pos}{b1 b2}{VP VO:Wk}{Uu Ut}(hN:X.N.Nodup) (hi:[ZI,X.N,x]) (hv:[cz]) (hc:Cls X.K C) (Vy:bq X.K C O f) (F:[Z0T,CXW X.prog X.w,k,spO K (XE1 K) C 0 n (t7 0 n N C m)]) (hr:Room k X.A) (hb:Binds X.K fd ps []) (ha:PA X.nox [TC] (tA K EX .B mr)) (hy:X.N[iy]?=some yv) (VV:Gl X Vh) (VM:X.mg Vh=some [ZE,C1]) (WD:Gl X T) (Wo:X.mg T=some [ZE,C2]) (Xi:X.N[j1]?=some n1) (Xh:X.N[j2]?=some n2) (YS:[Z0C,c1,D1]) (WA:PySem.W.exmOne K [ZE,D1] [ZE,C1]=some true) (VX:∀c,c∈cs->∃Dc,[Z0C,c,Dc]/\PySem.W.exmOne K [ZE,Dc] [ZE,C1]=some false/\PySem.W.exmOne K [ZE,Dc] [ZE,C2]=some true) (XQ:∀e E,PSs (X.marked e E) (b1::VP) [Tx,Uu]) (UC:∀e E,PSs (X.marked e E) (b2::VO) [Tx,Ut]) (UJ:[XXb,Q2 O ns=none]) (XN:[XXa,X.env.kindOf yv=some .local]) (Wq:[XXa,X.env.kindOf n1=some .local]) (Vz:[XXa,X.env.kindOf n2=some .local]) (a4:[XXa,X.ex = []]) (Us:[XXa,X.stack=X.env::X.outer]) (UR:[XXa,X.env.frame=some X.env.locals]) (hK:[XXa,X.K=K]) (hd:[Z08]) (Ub:[XXb,(x == ("__classdict__" : Str))=false]) (VW:[Z0f,Vh]) (a3:[Z0f,T]) (Wl:[Z0O]) (TY:[XXa,[rd,I,X.env]]) (UM:[XXa,swapsWith (.Call [wr,[YD,x,p1],O] [TC] [] I) [ZT,[YD,yv,yp]] ap.line X.env=Pure.pure false]) (ht:eval (.Call [wr,[YD,x,p1],O] [TC] [] I) X.env=(do
   let ov <- eval [YD,x,p1] X.env
   standAt apos.atName
   let (f,first) <- holding [ov] (getMethod ov O pl)
   callWith I f first (backTo I (starEach [TC] X.env)) (backToKw I (keywordEach [] X.env))):=by rfl):
  PS X (.Try [.Assign [.Name yv yp] (.Call [wr,[YD,x,p1],O] [TC] [] I) ap] [.ExceptHandler [ZT,[YD,Vh,WQ]] [ZT,n1] (b1::VP) Xb,.ExceptHandler [ZT,[YD,T,WP]] [ZT,n2] (b2::VO) Xa] [] [] pos)
   [Z00,kP p C i ns iy (t7 0 n N C m) mr c1 j1 Uu cs j2 Ut]:=
 [TD,EE a4 Us UR hN (x9 hi hv hd Ub) hc Vy F hr hb ha hy XN VV VM WD Wo Xi Wq Xh Vz XQ UC VW a3 Wl TY UM ht,Nu hK UJ (λ_ _ _ h=>aw h) YS WA VX q]
def de {P}{w}{K}{mg}{base}{N}{qual}{scope}{I}{cd}{A0}{outer:List Env}{s0}{H0}{E}{e}{es:ZX}{pos}{mr:Xal}{p C}{T}{O}{np cp}(M:aW K T) (hg:Gl [Z0w] O) (hm:mg O=some [ZE,T]) (hc:[Z0C,O,T]) (ha:PA [Z0w] [TC] (tA K (XE1 K E) .B mr)) (Ue:[Z0f,O]) (he:[XXa,starEach [TC] [SB]=(false,eval e [SB])::starEach es [SB]]) (TY:[XXa,[rd,cp,[SB]]]):
  PS [Z0w] (.Raise [ZT,.Call [YD,O,np] [TC] [] cp] none pos) (tStO K (XE1 K E) p C (Y6 O mr)):=
 [TD,gI M hg hm ha Ue he TY,xM hc q]
def iV {P}{w}{K}{mg}{base}{N}{qual}{scope}{I}{cd}{T}{outer:List Env}{s0}{H0}{E}{e}{es:ZX}{pos}{mr:Xal}{C}{y}{ns:ZK}{pl:Sem Bool}{i kk n N'}{x O}{p1 apos}{f}{fd}{ps}{m:[p5]}(hN:[ZI,N,x]) (hv:Vis scope x) (hy:y≠.kept) (hc:Cls K C) (Vy:bq K C O f) (F:[Z0l,kk,spO K (XE1 K) C 0 n (t7 0 n N' C m)]) (hr:Room kk (i4 (CXW P w) P w K mg base N qual scope I cd T outer s0 H0 E).A) (hb:Binds K fd ps []) (ha:PA (i4 (CXW P w) P w K mg base N qual scope I cd T outer s0 H0 E) [TC] (tA K (XE1 K E) .B mr)) (UJ:[XXb,Q2 O ns=none]) (hd:[Z08]) (Ub:[XXb,(x == ("__classdict__" : Str))=false]) (Us:[XXa,starEach [TC] [SB]=(false,eval e [SB])::starEach es [SB]]) (TY:[XXa,[rd,pos,[SB]]]) (ht:eval [SY,[wr,[YD,x,p1],O],[TC]] [SB]=(do
   let ov <- eval [YD,x,p1] [SB]
   standAt apos.atName
   let (f,first) <- holding [ov] (getMethod ov O pl)
   callWith pos f first (backTo pos (starEach [TC] [SB])) (backToKw pos (keywordEach [] [SB]))):=by rfl):
  PE (i4 (CXW P w) P w K mg base N qual scope I cd T outer s0 H0 E) [SY,[wr,[YD,x,p1],O],[TC]] (tMX K (XE1 K E) y (gU y C i ns (t7 0 n N' C m) mr)):=
 [TD,EN (x9 hN hv hd Ub) hc Vy F hr hb .nil kY ha Us TY ht,GS hy UJ (λ_ _ z=>z) (λ_ _ _ h=>aw h) q]
end TP
namespace L2
open PySem PySem.Spec PyProof.Rows Builtin Builtin.Str
def rSw:V->List V->Hp->VK->Prop:=λx xs H Q=>∃a b,x=.str a/\xs = [.str b]/\Q (.bl (Txt.startswith a b)) H
def QE:MtR X "str.startswith" rSw:=by
 intro pins s c H x xs v us Q I O rs h;obtain ⟨a,b,rfl,rfl,q⟩:=h;show 1 t O;obtain ⟨u,rfl,t',rfl⟩:=vals1 rs;show SC.startswith ⟨.bl _,H,I,rfl,q⟩
def rPart:V->List V->Hp->VK->Prop:=λx xs H Q=>∃a b,x=.str a/\xs = [.str b]/\(b.length == 0)=false/\a.length<=sizeLine/\[Z0d,.tup [.str (Txt.partition a b).1,.str (Txt.partition a b).2.1,.str (Txt.partition a b).2.2]]
def qy {a:St}(I:[UE]) (r:Vals ys its) (hz:[Te,ys.length]) (q:[Z0d,.tup ys]):
  EP X pins a Q [ZE,s.heap.objs.size] { s with toks:=k,heap:=s.heap.push [Z09,its.toArray] }:=
 ⟨.ref _,_,I.laid (o:=.tup ys) (λb ob e=>qA2 _ e) (qA6 _) ⟨hz,its,r,IsTup.new _ _⟩,rfl,q _ (I.hok.fresh (qA6 _))⟩
def Fe:MtR X "str.partition" rPart:=by
 intro pins s c H x xs v us Q I T rs h;obtain ⟨a,b,rfl,rfl,O,ha,q⟩:=h;show 1 t T;obtain ⟨u,rfl,t',rfl⟩:=vals1 rs;refine qM2 F.slot_str_partition (qN4 ..) F.entry_str_partition (F.args_str_partition_2 ..) (meets_str_partition a b t t' O ha) ?_;unfold Txt.partition at q
 revert q
 cases occurrences a b 0 _ 1 with
 |nil=>intro q;show qy (ys:=[.str a,.str _,.str _]) I (.cons [Tq] (.cons [Tq] (.cons [Tq] .nil))) ([SK,[Te,3]]) q
 |cons i r=>intro q;show qy (ys:=[.str _,.str b,.str _]) I (.cons [Tq] (.cons [Tq] (.cons [Tq] .nil))) ([SK,[Te,3]]) q
end L2
namespace TP
open PySem L2
def sw1 (a:Str) (y:W):R W:=match y with
 | .str b=>.ok (.bl (Txt.startswith a b))
 |_=>.stuck
def Rsw (x y:R W):R W:=x>>=λx=>(match x with
 | .str a=>y>>=λy=>sw1 a y
 |_=>.stuck)
def mSw (mo me:Xad):Xad:=λa=>Rsw (mo a) (me a)
def c_sw (h:[Tw,d,mSw mo me,e]):tBM K "str" rSw (tM K EX .B mo) (tA K EX .B (aC me aN)) e H Q:=by
 show 4 c (Out.bind o [Tz,x,w,e1]);have O:=I.ext e1;cases w <;> first|show o1.elim|skip
 rename_i a
 obtain rfl:=m1.strB;refine ⟨rfl,H0,G1,c,O,ef (Out.bind o1 λy G2 H2 u T m2 o2=>?_)⟩;unfold sw1 at o2
 split at o2
 .rename_i b
  obtain rfl:=m2.strB;show ⟨a,b,rfl,rfl,o2 _ G2 H2 (Ext.refl (O.ext T).gh) [SZ,.bl]⟩
 .show o2.elim
noncomputable def mU (a:Str) (y:W):R W:=match y with
 | .str b=>[TJ,(b.length == 0)=false/\a.length<=100000,.ok (.tup [.str (Txt.partition a b).1,.str (Txt.partition a b).2.1,.str (Txt.partition a b).2.2])]
 |_=>.stuck
def BO (x y:R W):R W:=x>>=λx=>(match x with
 | .str a=>y>>=λy=>mU a y
 |_=>.stuck)
def sW (mo me:Xad):Xad:=λa=>BO (mo a) (me a)
def GP (h:[Tw,.V,sW mo me,d]):tBM K "str" rPart (tM K EX .B mo) (tA K EX .B (aC me aN)) d H Q:=by
 show 4 c (Out.bind o [Tz,x,w,e1]);have O:=I.ext e1;cases w <;> first|show o1.elim|skip
 rename_i a
 obtain rfl:=m1.strB;refine ⟨rfl,H0,G1,c,O,ef (Out.bind o1 λy G2 H2 u T m2 o2=>?_)⟩;unfold mU at o2
 split at o2
 .rename_i b
  obtain rfl:=m2.strB
  split at o2
  .rename_i hc
   show ⟨a,b,rfl,rfl,hc.1,szl hc.2,λl hl=>Out.newT (O.ext T) (.cons .str (.cons .str (.cons .str .nil))) hl o2⟩
  .show o2.elim
 .show o2.elim
def ud (K:Frag)(mg:ZZ)(c:Str)(ss:ZK):Prop:=∃q o its n,mg c=some [ZE,q]/\K.lookup q=some o/\o.cls=.type "tuple" /\ o.data=.seq its n/\[Te,its.size]/\Vals (ss.map V.str) its.toList
def inC (ss:ZK) (w:W):R W:=match w with
 | .str x=>.ok (.bl (ss.any λy=>y == x))
 |_=>.stuck
def Az (ss:ZK)(m:Xad):Xad:=λa=>m a>>=inC ss
def nJ:∀ss:[Ta],inV (.str x) (ss.map V.str)=ss.any λy=>y == x
 | []=>rfl
 | y::ss=>by
  have:=nJ (x:=x) ss
  unfold inV at this ⊢;rw[qD2,qI0,qI0,this];rfl
def wT (ss:ZK):(ss.map V.str).all Y3=true:=by
 rw[List.all_map,qE0];intro x _;rfl
def Rz (T:∀H,SqT K H q (ss.map V.str)) (h:[Tw,d,Az ss m,a]):tOp (L2.rIn K false) (tM K EX .B m) (tC (.ref q)) a H Q:=by
 show 4 b (Out.bind o [Tz,x,w,O]);unfold inC at o1
 split at o1
 .obtain rfl:=m1.strB;refine ⟨q,_,rfl,.inr (T H1),rfl,wT ss,?_⟩;rw[qA9 qC1,nJ];show o1 _ G1 H1 (Ext.refl (I.ext O).gh) [SZ,.bl]
 .show o1.elim
def q_sw {X}{K}{EX}{d}{e o}{apos TU:Pos}{mo me:Xad}(ho:[ZR,o,.B,mo]) (he:[ZR,e,.B,me]) (O:[XXa,X.K=K]) (TX:[XXa,attributeBase o "startswith" X.env [Sy,o]=eval o X.env]) (T:([Z0v]
   && [ZL,[ZM,([e]:ZX)]+[ZM,([]:List Keyword)]+[Z0j]<30])=true:=by rfl) (I:[Z0X]:=by rfl) (hs:[Tm,[e]]=[SJ,e]::[Tm,[]]:=by rfl) (Ua:[Z0r,[],X.env]:=by rfl):
  [ZR,.Call [wr,o,"startswith"] [e] [] TU,d,mSw mo me]:=by
 subst O;show [TD,dZ qI6 PySem.F.slot_str_startswith PySem.F.type_str_startswith QE ho (b6 he b7 hs) TX T I hs Ua,c_sw q]
def zF {X}{K}{EX}{e o}{apos TU:Pos}{mo me:Xad}(ho:[ZR,o,.B,mo]) (he:[ZR,e,.B,me]) (O:[XXa,X.K=K]) (TX:[XXa,attributeBase o "partition" X.env [Sy,o]=eval o X.env]) (T:([Z0v]
   && [ZL,[ZM,([e]:ZX)]+[ZM,([]:List Keyword)]+[Z0j]<30])=true:=by rfl) (I:[Z0X]:=by rfl) (hs:[Tm,[e]]=[SJ,e]::[Tm,[]]:=by rfl) (Ua:[Z0r,[],X.env]:=by rfl):
  [ZR,.Call [wr,o,"partition"] [e] [] TU,.V,sW mo me]:=by
 subst O;show [TD,dZ qI6 PySem.F.slot_str_partition PySem.F.type_str_partition Fe ho (b6 he b7 hs) TX T I hs Ua,GP q]
def ay {X}{K}{EX}{p C}{s}:PSs X s [Z00,mSt]:=λ_ _ _ _ _ _ q=>by obtain ⟨_,_,_,_,o⟩:=q;show o.elim
def bNo (I:Xal):Xad:=λa=>I a>>=λ_=>.stuck
abbrev Vb:[Ta]:=["self","words"]
abbrev Vo:[Ta]:=["words"]
noncomputable abbrev Vw:[Ta]:=["_law_script","_law_at","_law_times","_law_cell_here","_law_many","_law_begin","_law_moves","_law_k","_law_some","_law_take","_law_put","_law_places","_law_p"]
abbrev VN:[Ta]:=["stand","move"]
noncomputable abbrev Zc:[Ta]:=["_law_script","_law_at","_law_times","_law_cell_here","_law_many","_law_begin","_law_moves","_law_k","_law_some","_law_take","_law_put","_law_places"]
abbrev Zd:[Ta]:=["_law_land_here","_law_here","_law_row_here","_law_at","_law_take","_law_put","_law_lacks","_law_p"]
noncomputable abbrev Ze:[Ta]:=["_law_cell_here","_law_land_here","_law_here","_law_desk","_law_size","_law_row_here","_law_words","_law_strange_here","_law_answer","_law_due","_law_found","_law_k"]
abbrev Zf:[Ta]:=["cover","reached"]
abbrev Zg:[Ta]:=["move","take","put"]
abbrev Zh:[Ta]:=["stand","move","number","step"]
abbrev Zi:[Ta]:=["moor","stand","row"]
abbrev Zj:[Ta]:=["word","signs"]
abbrev Zk:[Ta]:=["words","begin"]
abbrev Zl:[Ta]:=["counts","places"]
abbrev Zm:[Ta]:=["counts","places","name","count"]
abbrev Zn:[Ta]:=["moor","places","moves","parts","#name","move","words","name","count"]
abbrev Zo:[Ta]:=["_law_land_here","_law_here","_law_row_here","_law_at","_law_take","_law_put","_law_lacks"]
noncomputable abbrev Zp:[Ta]:=["_law_cell_here","_law_land_here","_law_here","_law_desk","_law_size","_law_row_here","_law_words","_law_strange_here","_law_answer","_law_due","_law_found"]
abbrev Zq:[Ta]:=["now","home","show","bounded","end","balances","dry","wet"]
abbrev Zs:[Ta]:=["words","begin","counts","number","name"]
abbrev Zt:[Ta]:=["words","begin","counts","number","#name","name"]
abbrev Zu:[Ta]:=["moor","places","moves","parts","name","move","words"]
abbrev Zv:[Ta]:=["_law_land_here","_law_turn","_law_begin","_law_moves","_law_places","_law_names_here","_law_parts","_law_k","_law_takes","_law_puts"]
noncomputable abbrev Zw:[Ta]:=["_law_land_here","_law_turn","_law_begin","_law_moves","_law_places","_law_names_here","_law_parts","_law_k","_law_takes","_law_puts","_law_p"]
abbrev Zx:[Ta]:=["_law_desk","_law_row_here","_law_answer","_law_marks","_law_base","_law_at","e","_law_kinds"]
abbrev Zy:[Ta]:=["_law_desk","_law_row_here","_law_answer","_law_marks","_law_base","_law_at","e","_law_kinds","_law_k"]
abbrev Zz:[Ta]:=["_law_here","_law_count"]
def ZA {K}{d}:=(i7 (K:=K) (d:=d) (C:=y4) (g:=y0) (λ_ _=>rfl) (λ_ _ _=>.int))
def ZB {K}{d}:=(i7 (K:=K) (d:=d) (C:=CMulB) (g:=L7) (λ_ _=>rfl) (λ_ _ _=>.int))
def ZC {K}{d}:=(i7 (K:=K) (d:=d) (C:=D7) (g:=G7) (λ_ _=>rfl) (λ_ _ _=>.int))
def ZD {K}{d}:=(i7 (K:=K) (d:=d) (C:=fZ) (g:=tx) (λ_ _=>rfl) (λ_ _ _=>.int))
def KL:FnOk P w K mg base CX 0 f fd ps [Tb,False]:=⟨λ_ _ _ _ z=>z.elim,λ_ _ _ _ _ _ _ _ _ _ _ _ _ z=>z.elim⟩
def BA (h:[Tw,d,bNo mr,a]):X5 [Tb,False] [] E (tA K EX .B mr) a H Q:=by
 show 5 b;show ⟨H0,G,b,I,Out.bind o λ_ _ _ _ _ _ o1=>o1.elim⟩
def mJ {X}{K}{EX}{d}{e}{es:ZX}{pos}{I:Xal}{x}{f}{fd}{ps}{p1}(hr:Room 0 X.A) (hg:Gl X x) (hm:X.mg x=some [ZE,f]) (hk:PySem.W.keepIn X.K [ZE,f]=true) (T:Binds X.K fd ps []) (ha:PA X [TC] (tA K EX .B I)) (Ue:[Z08]) (he:[Z0O]) (O:[XXa,[rd,pos,X.env]]):[ZR,[SY,[YD,x,p1],[TC]],d,bNo I]:=
 [TD,P1 (E:=E0) KL hr hg hm hk T .nil ee ha Ue he O,BA q]
end TP
namespace L2
open PySem PySem.Spec PyProof.Rows
def io (Ud:t≠it):∀ n i (s:Shared) Q,s.heap.IsListIter it t i->s.heap.IsList t items->i+n<=items.size ->
  (∀h',h'.IsListIter it t (i+n)->Heap.SameBut it s.heap h'->Q ((items.toList.drop i).take n) [To,s,h'])->[ST,draw [ZE,it] n]
 | 0,i,s,Q,hit,_,_,hQ=>by
  change wpAny _ _ (pure []) Q E s;simp_all[qK4,Heap.SameBut.refl]
 | n+1,i,s,Q,hit,ht,hle,hQ=>by
  have Ug:i<items.size:=ZU;refine qA0 (wpAny_pyNext_list_item hit ht (x:=items[i]) (by simp [Ug]) λT Wr WX=>?_);have a4:T.IsList t items:=by
   obtain ⟨o,e,r⟩:=ht;show ⟨o,(WX.2 t Ud).trans e,r⟩
  refine qA0 (qK6 (io Ud n _ _ _ Wr a4 ZU λO a3 I=>qK4 ?_));have hd:items.toList.drop i=items[i]::items.toList.drop (i+1):=by simp [qH3,Ug]
  have:=hQ O ZU (WX.trans I)
  grind
def eT (hh:A.handled=none) (ht:s.heap.IsList t items) (hQ:∀h',Heap.ExtBut s.heap.objs.size s.heap h'->Q items.toList [To,s,h']):[ST,unpackItems [ZE,t] items.size none]:=by
 have Ug:t≠s.heap.objs.size:=by obtain ⟨o,ho,_⟩:=ht;show qD5 (qB2 ho)
 have push:∀ob,(s.heap.push ob).IsList t items:=λob=>by
  obtain ⟨o,ho,r⟩:=ht;show ⟨o,qA2 _ ho,r⟩
 refine qA0 ?_
 .refine qA0 (wpAny_specialOf ht.typeIs slot_list_iter.lookup ?_);refine qK4 ?_;refine qA0 (qK6 (qN6 ht ?_));refine qA0 (qK6 (io Ug _ 0 _ _ ⟨_,qB1 _ rfl,rfl,rfl⟩ (push _) ZU λa3 Wr WX=>?_));have Ur:List.take items.size (List.drop 0 items.toList)=items.toList:=by
   show qD8 Xaf
  rw[Ur,qA9 Xaf];have I:a3.IsList t items:=by
   obtain ⟨o,ho,r⟩:=push _;show ⟨o,(WX.2 t Ug).trans ho,r⟩
  refine qA0 (qK6 (wpAny_pyNext_list_end hh Wr I Xaf λT O=>?_));refine qK4 (hQ T λb o hb e=>O b o hb (WX.extBut b o hb (qA2 _ e)))
def lK (hh:A.handled=none) (O:s.heap.IsList t items) (hn:targets.length=items.size) (I:targets.findIdx? (·.1)=none) (h:∀h',Heap.ExtBut s.heap.objs.size s.heap h'->wpAny (model prog w) A (assignInOrder (targets.map (·.2)) items.toList) Q E [To,s,h']):
  [ST,unpack [ZE,t] targets]:=by
 unfold unpack;rw[I,hn];show qA0 (qK6 (eT hh O h))
def Mf (K:Frag)(n:Nat)(t:TGs):TG:=λv b H Q=>∃a xs,v=.ref a/\SqL K H a xs/\xs.length=n/\t xs b H Q
def EM {X:Cx}K{es}{pos}{k}{t}n (hc:X.calm=true) (h:PGs X es t) (T:X.K=K:=by rfl) (hn:[ZM,assignEach es X.env]=n:=by rfl) (Us:(assignEach es X.env).findIdx? (·.1)=none:=by rfl):PG X (.Tuple es k pos) (Mf K n t):=by
 subst T;intro pins s c H v u Q I r hw;obtain ⟨a,xs,O,hq,hl,hw⟩:=hw;subst O;cases r;obtain ⟨its,rv,ht,hz⟩:=I.list hq;refine qA0 (qL8 (lK (I.ok.hd hc) ht.isList (by simp [hn,<- hl,rv.length]) Us λh' hx=>?_));have I1:=I.kept (t':=s.toks) λb o e=>hx b o (qD5 (qB2 e)) e;show h pins _ c H xs _ Q I1 ZU hw
end L2
namespace TP
open PySem L2
def gTL (n:Nat) (g:List W->Rho->Option Rho):W->Rho->Option Rho
 | .lst ws,a=>if ws.length=n then g ws a else none
 |_,_=>none
def Ma {K}{e}{n}{u}{g}(he:e=.V\/e=.U) (h:Gts K e u g):Gt K e (Mf K n u) (gTL n g):=λH0 Hs G c b H v w T Q I m q k=>by
 cases w <;> first|cases q|skip
 rename_i ws
 have O:[YL,ws.length=n,_,none]=_:=q;by_cases hn:ws.length=n
 .rw [qA3 hn]at O
  rcases he with rfl|rfl
  .obtain ⟨a,vs,e,s,r⟩:=Rep.inv m;show ⟨a,vs,e,SqL.of (I.gh _ _ s),[ZO,r.length,hn],h H0 G c b H _ ws T Q I (by show r) O k⟩
  .obtain ⟨a,vs,e,s,r⟩:=Rep.inv m;show ⟨a,vs,e,SqL.of (I.join_H _ _ s),[ZO,r.length,hn],h H0 G c b H _ ws T Q I ZU O k⟩
 .rw[qA9 hn]at O;cases O
def O5 (I:X.K=K):C6 X (.builtin "isinstance") (rXT K [ZE,D0] [ZE,D0]):=qW (λ_ z=>z) I
def oI (I:X.K=K):C6 X (.builtin "isinstance") (rXT K (.type n) (.ty n)):=qW (λ_ z=>z) I
def mE {X}{K}{EX}{a}{pos}{ma:Xad}{c}{ss}{p1}(hg:Gl X c) (hT:ud K X.mg c ss) (ha:[ZR,a,.B,ma]) (hK:[XXa,X.K=K]) (hd:[XXb,(c == ("__debug__"))=false]) (hm:[XXa,behindInMarks .In (.Name c p1)=false]):PT X (.Compare a [.In] [.Name c p1] pos) (tT K EX (V8 (Az ss ma))):=by
 subst hK;obtain ⟨q,o,its,n,T,O,h3,h4,h5,h6⟩:=hT;show (iY vT ha (bB (v:=.ref q) hg T rfl hd) hm).mono λ_ _ _ z=>by
  obtain ⟨H0,G,b,I,o⟩:=z;show Rz (λH=>.inr ⟨_,its,n,O,h3,h4,h5,h6⟩) (iA ⟨H0,G,b,I,o⟩)
noncomputable abbrev tI (ns:Xaj):W:=.tup (ns.map W.int)
abbrev lI (ns:Xaj):W:=.lst (ns.map W.int)
def R6 (ns:Xaj):A3 (ns.map W.int)=true:=by
 induction ns with
 |nil=>rfl
 |cons n ns I=>rw[qD2];simp [A3,noL,I]
def Gk n i j:[TH,S6 n (.int i) (.int j),[YL,n,! [ZL,i=j],[ZL,i=j]]]:=by
 change R.ok _=_;simp_all
def Gm n i j:[TH,S6 n (.bl i) (.bl j),[YL,n,! [ZL,i=j],[ZL,i=j]]]:=by
 change R.ok _=_;simp_all
def ju n i j:[TH,S6 n (.str i) (.str j),[YL,n,! [ZL,i=j],[ZL,i=j]]]:=by
 change R.ok _=_;simp_all
def Gh n:[TH,S6 n .non .non,!n]:=[Z03,n]
def Gi n i:[TH,S6 n .non (.int i),n]:=[Z03,n]
def Gj n i:[TH,S6 n (.int i) .non,n]:=[Z03,n]
def atW {ns:Xaj}{i:Int}(h0:0<=i) (I:i<ns.length):L2.atI (ns.map W.int) i=some (.int (ns.getD i.toNat 0)):=by
 unfold L2.atI;rw[qA1,Y9 h0 I]
 change _[i.toNat]?=_;rw[qC6,cY ZU];rfl
def P6 {ns:Xaj}(I:k<ns.length):L2.atI (ns.map W.int) k=some (.int (ns.getD k 0)):=by
 have:=atW (ns:=ns) (i:=k) ZU ZU
 show this
def andThen (r:R Fl) (n:Xae):R Fl:=r>>=λf=>match f with
 | .nx I=>n I
 | .rt w=>.ok (.rt w)
 | .bk I=>.ok (.bk I)
 | .ct I=>.ok (.ct I)
def Fv m n a:aR m n a=andThen (m a) n:=rfl
def tX a n:andThen (.ok (.nx a)) n=n a:=rfl
def tW w n:andThen (.ok (.rt w)) n=.ok (.rt w):=rfl
def ua a n:andThen (.ok (.bk a)) n=.ok (.bk a):=rfl
def tZ a n:andThen (.ok (.ct a)) n=.ok (.ct a):=rfl
def QF w a:mC w a=.ok w:=rfl
def RT f ma a:b1 f ma a=ma a>>=f:=rfl
def R2b (a b:R W)(f:W->W->R W):R W:=a>>=λx=>b>>=λy=>f x y
def RS f ma mb a:b2 f ma mb a=R2b (ma a) (mb a) f:=rfl
def Pz x y f:R2b (.ok x) (.ok y) f=f x y:=rfl
def RR f ma a:bA f ma a=ma a>>=f:=rfl
def RQ f ma a:bI f ma a=ma a>>=f:=rfl
def RP ma a:bS ma a=ma a>>=seqW:=rfl
def Sa a:aN a=.ok []:=rfl
def aH (a:R W)(b:R Xag):R Xag:=a>>=λx=>b>>=λxs=>.ok (x::xs)
def Sb ma I a:aC ma I a=aH (ma a) (I a):=rfl
def BS x xs:aH (.ok x) (.ok xs)=.ok (x::xs):=rfl
def Hm ma a:BG ma a=ma a>>=chk:=rfl
def BF ma a:V8 ma a=ma a>>=toB:=rfl
def DE a b c:rO a b c=iS (a c) (b c):=rfl
def Iw a b c:Ix a b c=rOr (a c) (b c):=rfl
def DD a b:rL a b=se (a b):=rfl
def Es x y:iS (.ok x) (.ok y)=.ok (x&&y):=[Z03,x]
def Et r:iS (.ok false) r=.ok false:=rfl
def Er r:iS (.ok true) r=r:=rfl
def JL x y:rOr (.ok x) (.ok y)=.ok (x||y):=[Z03,x]
def JK r:rOr (.ok true) r=.ok true:=rfl
def JM r:rOr (.ok false) r=r:=rfl
def El x:se (.ok x)=.ok (!x):=rfl
def Dv a b c:Ic a b c=dU (a c) (b c):=rfl
def Ia a b c:vOr a b c=mz (a c) (b c):=rfl
def Dt a b:vNot a b=rZ (a b):=rfl
def zB x y:[TH,dU (.ok (.bl x)) (.ok (.bl y)),x&&y]:=[Z03,x]
def zC r:[TH,dU (.ok (.bl false)) r,false]:=rfl
def zA r:dU (.ok (.bl true)) r=r:=rfl
def Ej x y:[TH,mz (.ok (.bl x)) (.ok (.bl y)),x||y]:=[Z03,x]
def Ei r:[TH,mz (.ok (.bl true)) r,true]:=rfl
def Ek r:mz (.ok (.bl false)) r=r:=rfl
def zx x:[TH,rZ (.ok (.bl x)),!x]:=rfl
def sf (c:R Bool)(a b:R W):R W:=c>>=λt=>if t then a else b
def Ib c a b d:vIf c a b d=sf (c d) (a d) (b d):=rfl
def Em a b:sf (.ok true) a b=a:=rfl
def Ep a b:sf (.ok false) a b=b:=rfl
def Eo t x y:sf (.ok t) (.ok x) (.ok y)=.ok [YL,t,x,y]:=[Z03,t]
def yi (f I:W->W->R W)(a b c:R W):R W:=a>>=λx=>b>>=λy=>f x y>>=λz=>toB z>>=λt=>if t then c>>=λu=>I y u else .ok (.bl false)
def uC f I ma mb O a:lJ f I ma mb O a=yi f I (ma a) (mb a) (O a):=rfl
def yh (g g':Int->Int->Bool) i j k:[TH,yi (fI0 λi j=>.bl (g i j)) (fI0 λi j=>.bl (g' i j)) (.ok (.int i)) (.ok (.int j)) (.ok (.int k)),g i j&&g' j k]:=by
 change [YL,_=true,_,_]=_;cases h:g i j <;> simp [fI0]
def mkTup (ws:Xag):R W:=lim ws.length (.tup ws)
def mkLst (ws:Xag):R W:=lim ws.length (.lst ws)
def Dp ma a:yt ma a=ma a>>=mkTup:=rfl
def Du ma a:rF ma a=ma a>>=mkLst:=rfl
def Qt a:pN a=.ok none:=rfl
def Qs m a:pS m a=m a>>=partW:=rfl
def vP i:partW (.int i)=.ok (some i):=rfl
def Rsl (c:Bool)(x:R W)(l u:R ZV):R W:=x>>=λx=>l>>=λl=>u>>=λu=>toR (lstOf x)>>=λws=>chks c (C4 ws l u)
def HZ c m I O a:vSl c m I O a=Rsl c (m a) (I a) (O a):=rfl
def HA c(ws:Xag)l u:Rsl c (.ok (.lst ws)) (.ok l) (.ok u)=chks c (C4 ws l u):=rfl
def Hz c(ws:Xag)l u:Rsl c (.ok (.scr ws)) (.ok l) (.ok u)=chks c (C4 ws l u):=rfl
def Db (r:R Xag)(n:Nat)(mg:Xan)(I:Xam)(me:Xad)(a:Rho):R W:=r>>=λws=>E1 n mg I me ws a
def yy n I mg O me a:ge n I mg O me a=Db (I a) n mg O me a:=rfl
def BT ws n mg I me a:Db (.ok ws) n mg I me a=E1 n mg I me ws a:=rfl
def IS a:sNx a=.ok (.nx a):=rfl
def Jb a:sBk a=.ok (.bk a):=rfl
def IY a:sCt a=.ok (.ct a):=rfl
def ug (r:R W)(a:Rho):R Fl:=r>>=λ_=>.ok (.nx a)
def ze m a:Cg m a=ug (m a) a:=rfl
def BQ w a:ug (.ok w) a=.ok (.nx a):=rfl
def retK (w:W):R Fl:=.ok (.rt w)
def DT m a:IR m a=m a>>=retK:=rfl
def Ed w:retK w=.ok (.rt w):=rfl
def yY a:PX a=.ok (.rt .non):=rfl
def fX (r:R W)(f:W->Sl)(i:Nat)(a:Rho):R Fl:=r>>=λw=>[Rn,f w]
def PU i m a:sV i m a=fX (m a) Sl.val i a:=rfl
def PV i m a:sU i m a=fX (m a) Sl.par i a:=rfl
def PZ i m a:sF i m a=fX (m a) N3 i a:=rfl
def HC w f i a:fX (.ok w) f i a=.ok (.nx (a.set i (f w))):=rfl
def uQ (ws:Xag):N3 (.lst ws)=.own ws:=rfl
def uO (ws:Xag):N3 (.tup ws)=.val (.tup ws):=rfl
def uR i:N3 (.int i)=.val (.int i):=rfl
def yM i:N3 (.bl i)=.val (.bl i):=rfl
def uP:N3 .non=.val .non:=rfl
def jR i:N3 (.str i)=.val (.str i):=rfl
def Il:Option Rho->R Fl
 |some a=>.ok (.nx a)
 |none=>.stuck
def Px (r:R W)(mg:Xan)(a:Rho):R Fl:=r>>=λw=>toR (mg w a)>>=λI=>.ok (.nx I)
def PY mg m a:sG mg m a=Px (m a) mg a:=rfl
def HR w mg a:Px (.ok w) mg a=Il (mg w a):=by
 change toR _>>=_=_;cases mg w a <;> rfl
def uJ a:Il (some a)=.ok (.nx a):=rfl
def Pm (r:R Xag)(mg:Xan)(mb:Xae)(a:Rho):R Fl:=r>>=λws=>M9 mg mb ws a
def DX I mg mb a:IW I mg mb a=Pm (I a) mg mb a:=rfl
def HI ws mg mb a:Pm (.ok ws) mg mb a=M9 mg mb ws a:=rfl
def DV i m a:IV i m a=m (frz i a):=rfl
def jm:Option Sl->Nat->Rho->Rho
 |some (.own ws),i,a=>a.set i (.val (.lst ws))
 |_,_,a=>a
def Mm i a:frz i a=jm (a[i]?) i a:=by
 unfold frz jm;rcases h:a[i]? with _|s
 .rfl
 .cases s <;> rfl
def AX ws i a:jm (some (.own ws)) i a=a.set i (.val (.lst ws)):=rfl
def AV w i a:jm (some (.val w)) i a=a:=rfl
def AW w i a:jm (some (.par w)) i a=a:=rfl
def FW i a:jm [ZT,.un] i a=a:=rfl
def rdS (d:Mode):Option Sl->R W
 |some (.val w)=>(match d with | .F=>chk w|_=>.ok w)
 |some (.par w)=>(match d with | .F=>chk w | .V=>chk w | .C=>chk w|_=>.ok w)
 |some (.own ws)=>(match d with | .C=>.ok (.lst ws) | .B=>.ok (.lst ws)|_=>.stuck)
 |some (.iop _ ws)=>(match d with | .B=>.ok (.lst ws) | .U=>.ok (.lst ws)|_=>.stuck)
 |some (.hz w)=>(match d with | .B=>.ok w | .U=>.ok w|_=>.stuck)
 |_=>.stuck
def qD d i a:B3 d i a=rdS d (a[i]?):=by
 rfl
def Jw w:rdS .F (some (.val w))=chk w:=rfl
def Ju w:rdS .V (some (.val w))=.ok w:=rfl
def Jv w:rdS .U (some (.val w))=.ok w:=rfl
def Jx w:rdS .C (some (.val w))=.ok w:=rfl
def Jy w:rdS .B (some (.val w))=.ok w:=rfl
def JB w:rdS .F (some (.par w))=chk w:=rfl
def Jz w:rdS .V (some (.par w))=chk w:=rfl
def JA w:rdS .U (some (.par w))=.ok w:=rfl
def JC w:rdS .C (some (.par w))=chk w:=rfl
def JD w:rdS .B (some (.par w))=.ok w:=rfl
def JE ws:rdS .C (some (.own ws))=.ok (.lst ws):=rfl
def JF ws:rdS .B (some (.own ws))=.ok (.lst ws):=rfl
def retS (d:Mode):Option Sl->R Fl
 |some (.own ws)=>.ok (.rt (.lst ws))
 |o=>rdS d o>>=retK
def sT d i a:bE d i a=retS d (a[i]?):=by
 unfold bE retS;rw[qD];rcases h:a[i]? with _|s
 .rfl
 .cases s <;> rfl
def zt d ws:retS d (some (.own ws))=.ok (.rt (.lst ws)):=rfl
def zq d w:retS d (some (.val w))=rdS d (some (.val w))>>=retK:=rfl
def zr d w:retS d (some (.par w))=rdS d (some (.par w))>>=retK:=rfl
def BH (o:Option Sl) (r:R W) (i:Nat) (a:Rho):R Fl:=match o with
 |some (.own ws)=>r>>=λw=>[TJ,ws.length<1000,[Rn,.own (ws ++ [w])]]
 |_=>.stuck
def FH i m a:nD i m a=BH (a[i]?) (m a) i a:=rfl
def Ho ws w i a:BH (some (.own ws)) (.ok w) i a=[TJ,ws.length<1000,[Rn,.own (ws ++ [w])]]:=rfl
def IK (o:Option Sl) (a b:R W) (i:Nat) (c:Rho):R Fl:=match o with
 | some (.own ws)=>b>>=λw=>a>>=λk=>(match k with
  | .int k=>(match ixN ws.length k with
   |some j=>.ok (.nx (c.set i (.own (ws.set j w))))
   |none=>.stuck)
  |_=>.stuck)
 |_=>.stuck
def Fu i I me a:sS i I me a=IK (a[i]?) (I a) (me a) i a:=rfl
def IL (o:Option Nat) (ws:Xag) (w:W) (i:Nat) (a:Rho):R Fl:=match o with
 |some j=>[Rn,.own (ws.set j w)]
 |none=>.stuck
def DM ws w k i a:IK (some (.own ws)) (.ok (.int k)) (.ok w) i a=IL (ixN ws.length k) ws w i a:=rfl
def uV j ws w i a:IL [ZT,j] ws w i a=.ok (.nx (a.set i (.own (ws.set j w)))):=rfl
def Os (f:Int->Int->Int) (a b:R W) (i:Nat) (c:Rho):R Fl:=a>>=λx=>b>>=λy=>match x,y with
 | .int a,.int b=>.ok (.nx (c.set i (.val (.int (f a b)))))
 |_,_=>.stuck
def FG i f m a:mAug i f m a=Os f (rdS .B (a[i]?)) (m a) i a:=by
 rfl
def Hn f a b i c:Os f (.ok (.int a)) (.ok (.int b)) i c=.ok (.nx (c.set i (.val (.int (f a b))))):=rfl
def ifS (c:R Bool)(m n:Xae)(a:Rho):R Fl:=c>>=λb=>if b then m a else n a
def Lf c m n a:mIf c m n a=ifS (c a) m n a:=rfl
def LT m n a:ifS (.ok true) m n a=m a:=rfl
def LU m n a:ifS (.ok false) m n a=n a:=rfl
def U4 (r:R Fl):R W:=r>>=λf=>match f with
 | .rt w=>.ok w
 | .nx _=>.ok .non
 |_=>.stuck
def br (h:ws.length=n):d9 n N m ws=U4 (m (ws.map Sl.par++[Sx,N,n])):=by unfold d9;rw[qA3 h];rfl
def Jj {N}{m}a:d9 1 N m [a]=U4 (m (Sl.par a::[Sx,N,1])):=br rfl
def Ji {N}{m}a b:d9 2 N m [a,b]=U4 (m (Sl.par a::Sl.par b::[Sx,N,2])):=br rfl
def Jh {N}{m}a b c:d9 3 N m [a,b,c]=U4 (m (Sl.par a::Sl.par b::Sl.par c::[Sx,N,3])):=br rfl
def Jg {N}{m}a b c d:d9 4 N m [a,b,c,d]=U4 (m (Sl.par a::Sl.par b::Sl.par c::Sl.par d::[Sx,N,4])):=br rfl
def Jf {N}{m}a b c d e:d9 5 N m [a,b,c,d,e]=U4 (m (Sl.par a::Sl.par b::Sl.par c::Sl.par d::Sl.par e::[Sx,N,5])):=br rfl
def Gv w:U4 (.ok (.rt w))=.ok w:=rfl
def Gw a:U4 (.ok (.nx a))=.ok .non:=rfl
def MC g i j:fI0 g (.int i) (.int j)=.ok (g i j):=rfl
def fU_i g i:fU g (.int i)=.ok (g i):=rfl
def QW (ws:Xag) i:fIx [YM,ws] (.int i)=toR (L2.atI ws i):=rfl
def QU (ws:Xag) i:fIx (.tup ws) (.int i)=toR (L2.atI ws i):=rfl
def QV (ws:Xag) i:fIx (.scr ws) (.int i)=toR (L2.atI ws i):=rfl
def yD {b}(a:b):toR (some a)=.ok a:=rfl
def Im b:toB (.bl b)=.ok b:=rfl
def Mx (ws:Xag):fLen [.lst ws]=.ok (.int ws.length):=rfl
def Mu (ws:Xag):fLen [.tup ws]=.ok (.int ws.length):=rfl
def Mw (ws:Xag):fLen [.scr ws]=.ok (.int ws.length):=rfl
def Ge c(ws:Xag):CO c [.lst ws]=chks c ws:=rfl
def Gb c(ws:Xag):CO c [.tup ws]=chks c ws:=rfl
def wY c(ws:Xag):nZ c [.lst ws]=ag c ws:=rfl
def Mq c(ws:Xag):nZ c [.tup ws]=ag c ws:=rfl
def Nb ws:chks true ws=.ok (.lst ws):=rfl
def Nj ws:ag true ws=.ok (.tup ws):=rfl
def Z0 (h:A3 ws=true):chks c ws=.ok (.lst ws):=[Tr,chks]
def jw (h:A3 ws=true):ag c ws=.ok (.tup ws):=[Tr,ag]
def Nf c(ns:Xaj):chks c (ns.map W.int)=.ok (.lst (ns.map W.int)):=Z0 (R6 ns)
def xB c(ns:Xaj):ag c (ns.map W.int)=.ok (.tup (ns.map W.int)):=jw (R6 ns)
def iw (h:noL w=true):chk w=.ok w:=[Tr,chk]
def GC i:chk (.int i)=.ok (.int i):=rfl
def Ni i:[TH,chk (.bl i),i]:=rfl
def GA i:chk (.str i)=.ok (.str i):=rfl
def GB:chk .non=.ok .non:=rfl
def Ng (ns:Xaj):chk (.tup (ns.map W.int))=.ok (.tup (ns.map W.int)):=iw (R6 ns)
def Ra g i j:f2 g [.int i,.int j]=.ok (.int (g i j)):=rfl
def IO (ws:Xag):seqW (.lst ws)=.ok ws:=rfl
def IM (ws:Xag):seqW (.tup ws)=.ok ws:=rfl
def IN (ws:Xag):seqW (.scr ws)=.ok ws:=rfl
def Jp j:zo [.int j]=T6 0 j:=rfl
def Jo i j:rng2 [.int i,.int j]=T6 i j:=rfl
def gN_U i w a:gN .U i w a=some (a.set i (.par w)):=rfl
def gN_V i w a:gN .V i w a=some (a.set i (.val w)):=rfl
def gT_t n g(ws:Xag)a:gT n g (.tup ws) a=if ws.length=n then g ws a else none:=rfl
def AN f g w(ws:Xag)a:ib f g (w::ws) a=(f w a).bind (g ws):=rfl
def FR a:gsNil [] a=some a:=rfl
def Am ws:mkTup ws=[TJ,ws.length<=1000,.ok (.tup ws)]:=rfl
def An ws:mkLst ws=[TJ,ws.length<=1000,.ok (.lst ws)]:=rfl
def Gf x T:fIsi [x,.ty T]=toR ((tyW x).bind λA=>D3 A T)>>=λb=>.ok (.bl b):=rfl
def Lx:D3 "NoneType" "tuple" = some false:=Xaa
def Ly:D3 "NoneType" "list" = some false:=Xaa
def LB:D3 "list" "tuple" = some false:=Xaa
def Lq:D3 "tuple" "list" = some false:=Xaa
def My n u:[TH,Bg n u .non,[YL,n,!isN u,isN u]]:=rfl
def nC (P:Nat->Rho->Prop):∀(ws:Xag) k a,P k a ->
  (∀ i w a,[ZI,ws,w]->P (k+i) a->∃I,mg w a=some I/\∃T,mb I=.ok (.nx T)/\P (k+i+1) T)->∃O,M9 mg mb ws a=.ok (.nx O)/\P (k+ws.length) O
 | [],k,a,h,_=>⟨a,rfl,h⟩
 | w::ws,k,a,h,st=>by
  obtain ⟨I,e1,T,e2,h2⟩:=st 0 w a rfl h;obtain ⟨O,e3,h3⟩:=nC P ws _ T h2 λi w a hw hp=>by
   have:=st (i+1) w a [SX,hw] ([ZO,[TQ,k+_=k+1+i],hp])
   rw[[TQ,k+_+1=k+1+i+1]]at this;omega
  refine ⟨O,?_,by rw[qC2,[TQ,k+_=k+1+ws.length]];show h3⟩;unfold M9;rw[e1]
  change mb I>>=_=_;rw[e2];show e3
def Aq {b:Type}(g:b->W) (s:b->W):∀(as:List b),(∀a∈as,f (s a)=.ok (some (g a)))->mapR f (as.map s)=.ok (as.map g):=by
 intro as
 induction as <;> grind[mapR]
def pE {b:Type}(g:b->W) (s:b->W) (c:b->Bool):∀(as:List b),(∀a∈as,f (s a)=.ok [YL,c a,some (g a),none])->mapR f (as.map s)=.ok ((as.filter c).map g):=by
 intro as
 induction as <;> grind[mapR]
def x5 {b:Type}(g:b->W) (s:b->W) (as:List b) c (hl:as.length<=1000) (h:∀a∈as,∃I,mg (s a) (c++[Sx,N',c.length])=some I/\me I=.ok (g a)):E1 N' mg yes me (as.map s) c=.ok (.lst (as.map g)):=by
 unfold E1;rw[qA1,qA3 hl,Aq];intro a ha;obtain ⟨I,e1,O⟩:=h a ha;unfold elR;rw[e1];have T:yes I=.ok true:=rfl;dsimp;rw[T];rw[O]
def Z9 {b:Type}(g:b->W) (s:b->W) (c:b->Bool) (as:List b) d (hl:as.length<=1000) (h:∀a∈as,∃I,mg (s a) (d++[Sx,N',d.length])=some I/\mc I=.ok (c a)/\(c a=true->me I=.ok (g a))):E1 N' mg mc me (as.map s) d=.ok (.lst ((as.filter c).map g)):=by
 unfold E1;rw[qA1,qA3 hl,pE];intro a ha;obtain ⟨I,e1,T,O⟩:=h a ha;unfold elR;rw[e1];dsimp;rw[T];cases hc:c a with
 |false=>rfl
 |true=>rw[O hc];rfl
def zm (h0:-1000000<=z) (h:z<=1000000):T6 0 z=.ok ([Tp,z.toNat,λk=>W.int (k:Nat)]):=by
 unfold T6;rw[qA3 ZU];simp
def bu (h:[ZI,[Tp,n,λk=>W.int (k:Nat)],w]):i<n/\w=.int i:=by
 rw[qC6]at h;show 3 k e (qF0.mp h);obtain ⟨hk,e⟩:=List.getElem?_eq_some_iff.mp e;rw[qI4]at e;cases e;rw[List.length_range]at hk;show ⟨hk,rfl⟩
def MY (xs:Xaj)(lo hi:ZV):List Int:=[Z14]
def MW ns lo hi:C4 (ns.map W.int) lo hi=(MY ns lo hi).map W.int:=by
 unfold C4 MY;rw[qA1,<- List.map_drop,<- List.map_take]
def IJ (ns:Xaj)j z:(ns.map W.int).set j (.int z)=(ns.set j z).map W.int:=by simp_all
def Ov (ns:Xaj) z:ns.map W.int ++ [.int z]=(ns ++ [z]).map W.int:=by rw[qC0];rfl
def Jt k z:(List.replicate k [W.int z]).flatten=(List.replicate k z).map W.int:=by
 simp_all
def Lc {b:Type}(as:List b)(f:b->Int):(as.map λa=>W.int (f a))=(as.map f).map W.int:=by rw[qC5];rfl
def yr {f:Nat->Int}(h:k<n):([Tp,n,f]).getD k 0=f k:=by
 simp [h]
def iH {a b:Xaj}(h:b.length=a.length):(iI [a.map W.int,b.map W.int]).map W.tup=[Tp,a.length,λk=>W.tup [.int (a.getD k 0),.int (b.getD k 0)]]:=by
 apply qK0;intro i;simp [iI,qG8];by_cases hi:i<a.length
 .rw[cY hi,cY ZU];simp [hi]
 .simp [hi]
def Z2 x y xs ys (I:seqW x=.ok xs) (O:seqW y=.ok ys):W6 [x,y]=.ok ((iI [xs,ys]).map W.tup):=by
 unfold W6;simp [qI3,bV,I,O,true_or]
def QC {i j}(h:-18446744073709551616<i/\i<18446744073709551616):fI CMul L7 (.int i) (.int j)=.ok (.int (i*j)):=by
 change [YL,_,_,_]=_;rw[qA3 (.inl [SX,h])]
def QB {i j}(h:-18446744073709551616<j/\j<18446744073709551616):fI CMul L7 (.int i) (.int j)=.ok (.int (i*j)):=by
 change [YL,_,_,_]=_;rw[qA3 (.inr [SX,h])]
def La {i j}(h:0<j):fI y4 y0 (.int i) (.int j)=.ok (.int (i%j)):=by
 change [YL,_,_,_]=_;rw[qA3 h]
def div_ii {i j}(h:0<j/\j<1073741824):fI D7 G7 (.int i) (.int j)=.ok (.int (i/j)):=by
 change [YL,_,_,_]=_;rw[qA3 (show D7 i j from h)]
def Kj {i j}(h:0<=j/\j<=1000000 /\ -18446744073709551616<i/\i<18446744073709551616):fI fZ tx (.int i) (.int j)=.ok (.int (i^j.toNat)):=by
 change [YL,_,_,_]=_;rw[qA3 ⟨h.1,h.2.1,ZU⟩]
def Ow {ws}{w}{i}{a}(h:ws.length<1000):BH (some (.own ws)) (.ok w) i a=.ok (.nx (a.set i (.own (ws ++ [w])))):=by rw[Ho,qA3 h]
def Fo {ws}(h:ws.length<=1000):mkTup ws=.ok (.tup ws):=by rw[Am,qA3 h]
def Fp {ws}(h:ws.length<=1000):mkLst ws=.ok (.lst ws):=by rw[An,qA3 h]
def MJ {c}{us vs:Xag}(h:us.length+vs.length<=1000):MK c [YM,us] (.lst vs)=chks c (us++vs):=by
 change [YL,us.length+vs.length<=1000,_,_]=_;rw[qA3 h]
def wZ {c}{z}{k}(h:0<=k/\k<=1000):jt c [YM,[z]] (.int k)=chks c (List.replicate k.toNat [z]).flatten:=by
 change [YL,_*k.toNat<=1000 /\ -1000<=k/\k<=1000,_,_]=_;rw[qA3 ⟨by simp [qI3];omega,ZU,h.2⟩]
def RU {ns:Xaj}{i:Int}(h:0<=i/\i<ns.length):L2.atI (ns.map W.int) i=some (.int (ns.getD i.toNat 0)):=atW h.1 h.2
def QI {n:Nat}{i:Int}(h:0<=i/\i<n):ixN n i=some i.toNat:=Y9 h.1 h.2
def Jl {z}(h:-1000000<=z/\z<=1000000):T6 0 z=.ok ([Tp,z.toNat,λk=>W.int (k:Nat)]):=zm h.1 h.2
def Ok (r:R W)(P:W->Prop):Prop:=∃w,r=.ok w/\P w
def Po (r:R Fl) (O:Rho->Prop) (I:W->Prop):Prop:=match r with
 | .ok (.nx a)=>O a
 | .ok (.rt w)=>I w
 |_=>False
def O1 (h:Po r (λ_=>P .non) P):Ok (U4 r) P:=by
 cases r with
 |ex _=>show h.elim
 |stuck=>show h.elim
 | ok f=>cases f with
  |nx a=>show [WH,rfl,h]
  |rt w=>show [WH,rfl,h]
  |bk _=>show h.elim
  |ct _=>show h.elim
def gJ (h:Po r (λa=>Po (n a) Jn Jr) Jr):Po (andThen r n) Jn Jr:=by
 cases r with
 |ex _=>show h.elim
 |stuck=>show h.elim
 | ok f=>cases f with
  |nx a=>show h
  |rt w=>show h
  |bk _=>show h.elim
  |ct _=>show h.elim
def Ql {a}{I}{O}:Po (.ok (.nx a)) I O=I a:=rfl
def Qk {w}{O}{I}:Po (.ok (.rt w)) O I=I w:=rfl
def sv (I:b=true->Po (m a) Jn Jr) (O:b=false->Po (n a) Jn Jr):Po (ifS (.ok b) m n a) Jn Jr:=by
 cases b with
 |true=>show I rfl
 |false=>show O rfl
def Po.mono (h:Po r Jn Jr) (O:∀a,Jn a->Jn' a) (I:∀w,Jr w->Jr' w):Po r Jn' Jr':=by
 cases r with
 |ex _=>show h
 |stuck=>show h
 | ok f=>cases f with
  |nx a=>show O a h
  |rt w=>show I w h
  |bk _=>show h
  |ct _=>show h
def vG (I:Nat->Rho->Prop):∀(ws:Xag) k a,I k a ->
  (∀ i w a,[ZI,ws,w]->I (k+i) a->∃O,mg w a=some O/\Po (mb O) (I (k+i+1)) Jr)->Po (M9 mg mb ws a) (I (k+ws.length)) Jr:=by
 intro ws
 induction ws with
 |nil=>show λk a h _=>h
 | cons w ws ih=>
  intro k a h st;obtain ⟨O,e1,p⟩:=st 0 w a rfl h;unfold M9;rw[e1]
  change Po (mb O>>=_) ..
  revert p
  cases mb O with
  |ex _=>show λp=>p.elim
  |stuck=>show λp=>p.elim
  | ok f=>cases f with
   |bk _=>show λp=>p.elim
   |ct _=>show λp=>p.elim
   |rt w=>show λp=>p
   | nx T=>
    intro p
    have:=ih _ T p λi w a hw hp=>by
     have:=st _ w a hw (by rw[<- qN2];show hp)
     rw[<- qN2 k i]at this;show this
    rw[qC2,<- qN2];show this
def Kl (I:Nat->Rho->Prop) (h0:I 0 a) (st:∀ i w a,[ZI,ws,w]->I i a->∃O,mg w a=some O/\Po (mb O) (I (i+1)) Jr) (hn:∀a,I ws.length a->Jn a):Po (M9 mg mb ws a) Jn Jr:=by
 have:=vG (mb:=mb) I ws 0 a h0 λi w a hw hp=>by rw[qH5]at hp ⊢;show st i w a hw hp
 rw[qH5]at this;show this.mono hn λ_ h=>h
def F4 (I:Nat->Rho->Prop)(h0:I 0 a)(st:∀ i w a,[ZI,ws,w]->I i a->∃O,mg w a=some O/\Po (mb O) (I (i+1)) Jr)(hn:∀a,I ws.length a->Po (n a) Jn Jr):Po (andThen (M9 mg mb ws a) n) Jn Jr:=gJ (Kl I h0 st hn)
def qB (s:c->W) (p:c->Int->Prop):∀(as:List c),(∀a∈as,∃z,f (s a)=.ok (some (.int z))/\p a z)->∃zs:List Int,mapR f (as.map s)=.ok (zs.map W.int)/\Paired p as zs
 | [],_=>⟨[],rfl,.nil⟩
 | a::as,h=>by
  obtain ⟨z,e,hz⟩:=h a Xaf;obtain ⟨zs,I,hp⟩:=qB s p as λb O=>h b (by simp [O]);refine ⟨z::zs,?_,.cons hz hp⟩;rw[qD2,mapR,e,I];rfl
def tf (p:c->Int->Prop) (hl:as.length<=1000) (h:∀a∈as,∃I,mg (s a) (b++[Sx,N',b.length])=some I/\Ok (me I) λw=>∃z,w=.int z/\p a z):∃zs:List Int,E1 N' mg yes me (as.map s) b=.ok (lI zs)/\Paired p as zs:=by
 obtain ⟨zs,e,hp⟩:=qB (f:=elR mg yes me (b++[Sx,N',b.length])) s p as λa ha=>by
  obtain ⟨I,T,w,O,z,rfl,hz⟩:=h a ha
  grind[elR,yes]
 refine ⟨zs,?_,hp⟩;unfold E1;rw[qA1,qA3 hl,e]
def mV {p:Nat->Int->Prop}(h:Paired p (List.range n) zs):zs.length=n/\∀k,k<n->p k (zs.getD k 0):=by
 have hl:=Paired.length h;rw[qB7]at hl;refine ⟨hl.symm,λk hk=>?_⟩;have I:∀(l:_) (zs:_) (k:Nat) (a:Nat),Paired p l zs->l[k]?=some a->p a (zs.getD k 0):=by
  intro l
  induction l with
  |nil=>intro zs k a _ e;simp at e
  | cons b l ih=>
   intro zs k a q e;cases q with
   | cons O T=>
    cases k with
    |zero=>simp at e;subst e;show O
    |succ k=>simpa using ih _ k a T e
 show I _ zs k k h (by simp [hk])
def OkL (r:R Xag)(P:List W->Prop):Prop:=∃w,r=.ok w/\P w
def Kk (h:Ok r λw=>Jn (a.set i (f w))):Po (fX r f i a) Jn Jr:=by
 obtain ⟨w,rfl,q⟩:=h;show q
def iZ (h:Ok r λw=>Po (n (a.set i (f w))) Jn Jr):Po (andThen (fX r f i a) n) Jn Jr:=gJ (Kk h)
def zY (h:OkL r λw=>Ok (f w) P):Ok (r>>=f) P:=by
 obtain ⟨w,rfl,q⟩:=h;show q
def Qw (h:Ok a λx=>P (x::xs)):OkL (aH a (.ok xs)) P:=by
 obtain ⟨w,rfl,q⟩:=h;show [WH,rfl,q]
def ER (p:c->Int->Prop) (hl:as.length<=1000) (h:∀a∈as,∃I,mg (s a) (b++[Sx,N',b.length])=some I/\Ok (me I) λw=>∃z,w=.int z/\p a z) (hp:∀zs,Paired p as zs->P (lI zs)):Ok (E1 N' mg yes me (as.map s) b) P:=by
 obtain ⟨zs,e,q⟩:=tf (me:=me) (N':=N') p hl h;show [WH,e,hp zs q]
def zX (p:d->Int->Prop) (hl:as.length<=1000) (h:∀a∈as,∃I,mg (s a) (b++[Sx,N',b.length])=some I/\Ok (me I) λw=>∃z,w=.int z/\p a z) (hp:∀zs,Paired p as zs->P (tI zs)):Ok (aH (E1 N' mg yes me (as.map s) b) (.ok [])>>=nZ c) P:=
 zY (Qw (ER p hl h λzs q=>[WH,by rw[wY,xB],hp zs q]))
def dj (p:Nat->Int->Prop) (hl:n<=1000) (h:∀k,k<n->∃I,mg (.int k) (d++[Sx,N',d.length])=some I/\Ok (me I) λw=>∃z,w=.int z/\p k z) (hp:∀zs,zs.length=n->(∀k,k<n->p k (zs.getD k 0))->P (tI zs)):Ok (aH (E1 N' mg yes me ([Tp,n,λk=>W.int (k:Nat)]) d) (.ok [])>>=nZ c) P:=
 zX p [SX,hl] (λa ha=>h a [SX,ha]) λzs q=>let ⟨a,b⟩:=mV q;hp zs a b
def pL {zs:Xaj}{P:Int->Prop}(h:∀k,k<zs.length->P (zs.getD k 0)):∀x∈zs,P x:=λx I=>by
 obtain ⟨i,hi,e⟩:=List.mem_iff_getElem.mp I
 grind
def AT i j:gMax i j=max i j:=ZU
def AS i j:Mc i j=min i j:=ZU
def oW:Option Int->W
 |none=>.non
 |some i=>.int i
def oW_n:oW none=.non:=rfl
def oW_s i:oW (some i)=.int i:=rfl
def gO (o:ZV):noL (oW o)=true:=[Z03,o]
def Nh (o:ZV):chk (oW o)=.ok (oW o):=iw (gO o)
def U1 {b:Type}(f:b->W) (h:∀a,noL (f a)=true) (as:List b):A3 (as.map f)=true:=by
 induction as <;> grind[A3]
def jc (cs:ZJ):A3 (cs.map oW)=true:=U1 oW gO cs
def Nd c(cs:ZJ):chks c (cs.map oW)=.ok (.lst (cs.map oW)):=Z0 (jc cs)
def Nn c(cs:ZJ):ag c (cs.map oW)=.ok (.tup (cs.map oW)):=jw (jc cs)
def LK (o:ZV):isN (oW o)=o.isNone:=[Z03,o]
def yL (o:ZV):N3 (oW o)=.val (oW o):=[Z03,o]
theorem iD {a:Type}(f:a->W){as:List a}{d:a}{i:Int}(h:0<=i/\i<as.length):L2.atI (as.map f) i=some (f (as.getD i.toNat d)):=by
 unfold L2.atI;rw[qA1,Y9 h.1 h.2]
 change _[i.toNat]?=_;have hi:i.toNat<as.length:=ZU;simp [hi]
def RW {cs:ZJ}{i:Int}(h:0<=i/\i<cs.length):L2.atI (cs.map oW) i=some (oW (cs.getD i.toNat none)):=iD oW h
def appO (cs:ZJ)(o:ZV):cs.map oW ++ [oW o]=(cs ++ [o]).map oW:=by rw[qC0];rfl
def iG {c I:Type}(f:c->W) (g:I->W){a:List c}{b:List I}(h:b.length=a.length) (x:c) (y:I):(iI [a.map f,b.map g]).map W.tup=[Tp,a.length,λk=>W.tup [f (a.getD k x),g (b.getD k y)]]:=by
 apply qK0;intro i;simp [iI,qG8];by_cases hi:i<a.length
 .have O:i<b.length:=ZU;simp [hi,O]
 .simp [hi]
def zv {f:Nat->W}(h:[ZI,[Tp,n,f],w]):i<n/\w=f i:=by
 rw[qC6]at h;show 3 k e (qF0.mp h);obtain ⟨hk,e⟩:=List.getElem?_eq_some_iff.mp e;rw[qI4]at e;cases e;rw[List.length_range]at hk;show ⟨hk,rfl⟩
def KO ns:noL (tI ns)=true:=R6 ns
def nj (ss:Xao):A3 (ss.map tI)=true:=U1 tI KO ss
def Nc c(ss:Xao):chks c (ss.map tI)=.ok (.lst (ss.map tI)):=Z0 (nj ss)
def Nk c(ss:Xao):ag c (ss.map tI)=.ok (.tup (ss.map tI)):=jw (nj ss)
def RV {ss:Xao}{i:Int}(h:0<=i/\i<ss.length):L2.atI (ss.map tI) i=some (tI (ss.getD i.toNat [])):=iD tI h
def Ou (ss:Xao)s:ss.map tI ++ [tI s]=(ss ++ [s]).map tI:=by rw[qC0];rfl
def Q3 {a:Type}(xs:List a)(lo hi:ZV):List a:=[Z14]
def E8 (f:a->W) (as:List a) lo hi:C4 (as.map f) lo hi=(Q3 as lo hi).map f:=by
 unfold C4 Q3;rw[qA1,<- List.map_drop,<- List.map_take]
def MV (ss:Xao)lo hi:C4 (ss.map tI) lo hi=(Q3 ss lo hi).map tI:=E8 tI ss lo hi
def Nq (ss ts:Xao):ss.map tI++ts.map tI=(ss++ts).map tI:=by grind
def Nr (ss ts:Xaj):ss.map W.int++ts.map W.int=(ss++ts).map W.int:=by grind
def Jm {lo hi}(h:-1000000<=lo/\lo<=1000000 /\ -1000000<=hi/\hi<=1000000):T6 lo hi=.ok ([Tp,(hi-lo).toNat,λk=>W.int (lo+(k:Nat))]):=by
 unfold T6;rw[qA3 h]
def eqv_refl:∀w,PyData.eqv (pd w) (pd w)=true:=by
 intro w;refine W.rec (motive_2:=λws=>PyData.eqvAll (pds ws) (pds ws)=true) ?_ ?_ ?_ ?_ ?_ ?_ ?_ ?_ ?_ ?_ ?_ ?_ ?_ w
 .rfl
 .omega
 .intro b;show qM3 b
 .intro b;show qM3 b
 .intro b;rfl
 .show λws h=>h
 .show λws h=>h
 .show λws h=>h
 .intro b c;rfl
 .intro b;rfl
 .intro b c d e _;rfl
 .rfl
 .intro w ws I O;show (qE6 ..).mpr ⟨I,O⟩
def Bk w:eqW w w=true:=eqv_refl w
def fu {b:Type}(f:b->W) n (h:∀a,shp n (f a)=true) (as:List b):W7 n (as.map f)=true:=by
 induction as <;> grind[W7]
def qd n i:shp n (.int i)=true:=[Z03,n]
def shp_bl n b:shp n (.bl b)=true:=[Z03,n]
def lX n ns:shp (n+1) (tI ns)=true:=fu W.int n (qd n) ns
def uU n ns:shp (n+1) (lI ns)=true:=fu W.int n (qd n) ns
def uT n(ss:Xao):shp (n+2) (.lst (ss.map tI))=true:=fu tI _ (lX n) ss
def C0 (h:shp 8 w=true):[TH,fEq neg w w,!neg]:=by
 unfold fEq;rw[h,Bk];cases neg <;> rfl
def eqI:∀(a b:Xaj),PyData.eqvAll (pds (a.map W.int)) (pds (b.map W.int))=decide (a=b)
 | [],[]=>ZU
 | [],_::_=>by simp [pds,PyData.eqvAll]
 |_::_,[]=>by simp [pds,PyData.eqvAll]
 | x::a,y::b=>by
  simp [pds,pd,PyData.eqvAll,PyData.eqv,eqI];by_cases h:x=y <;> by_cases h':a=b <;> simp [h]
def MD neg a b:[TH,fEq neg (tI a) (tI b),[YL,neg,! [ZL,a=b],[ZL,a=b]]]:=by
 unfold fEq;rw[lX,lX]
 have:eqW (tI a) (tI b)=_:=eqI a b
 rw[this];rfl
def xa neg a b:[TH,fEq neg (lI a) (lI b),[YL,neg,! [ZL,a=b],[ZL,a=b]]]:=by
 unfold fEq;rw[uU,uU]
 have:eqW (lI a) (lI b)=_:=eqI a b
 rw[this];rfl
def MO:∀(a b:Xao),PyData.eqvAll (pds (a.map tI)) (pds (b.map tI))=decide (a=b)
 | [],[]=>ZU
 | [],_::_=>by simp [pds,PyData.eqvAll]
 |_::_,[]=>by simp [pds,PyData.eqvAll]
 | x::a,y::b=>by
  simp only [qD2,pds,pd,PyData.eqvAll,PyData.eqv,MO,eqI];by_cases h:x=y <;> by_cases h':a=b <;> simp [h']
def MG neg (a b:Xao):[TH,fEq neg (.lst (a.map tI)) (.lst (b.map tI)),[YL,neg,! [ZL,a=b],[ZL,a=b]]]:=by
 unfold fEq;rw[uT,uT]
 have:eqW [YM,_] (.lst _)=_:=MO a b
 rw[this];rfl
def xb neg i j:[TH,fEq neg (.int i) (.int j),[YL,neg,! [ZL,i=j],[ZL,i=j]]]:=by
 unfold fEq
 have:eqW (.int i) (.int j)=decide (i=j):=by
  by_cases h:i=j <;> simp [eqW,pd,PyData.eqv,h]
 rfl
def MI neg i j:[TH,fEq neg (.bl i) (.bl j),[YL,neg,! [ZL,i=j],[ZL,i=j]]]:=by
 unfold fEq
 have:eqW (.bl i) (.bl j)=decide (i=j):=by cases i <;> cases j <;> rfl
 rfl
def MF neg j:[TH,fEq neg .non (.int j),neg]:=[Z03,neg]
def MH neg j:[TH,fEq neg (.int j) .non,neg]:=[Z03,neg]
def ME neg:[TH,fEq neg .non .non,!neg]:=[Z03,neg]
def og g bs:xc g [.lst (bs.map W.bl)]=.ok (.bl (g bs)):=by
 change _>>=_=_;rw[Hf];rfl
def Gg g (ns:Xaj):QX g [.lst (ns.map W.int)]=.ok (.int (g ns)):=by
 change _>>=_=_;rw[ints_map];rfl
def MA i:fInt [.int i]=.ok (.int i):=rfl
def MB b:fInt [.bl b]=.ok (.int [YL,b,1,0]):=rfl
def ML i:fAbs [.int i]=.ok (.int [YL,i<0,-i,i]):=rfl
def MN (o:Option Sl) (r:R W) (c:Bool) (i:Nat) (a:Rho):R Fl:=match o with
 | some (.own ws)=>r>>=λw=>(match w with
  | .lst us=>[TJ,ws.length+us.length<=1000,[YL,c||A3 us,[Rn,.own (ws++us)],.stuck]]
  |_=>.stuck)
 |_=>.stuck
def FE i c m a:mExt i c m a=MN (a[i]?) (m a) c i a:=rfl
def MM {ws us:Xag}{c}{i}{a}(h:ws.length+us.length<=1000):MN (some (.own ws)) (.ok (.lst us)) c i a=[TJ,c||A3 us,[Rn,.own (ws++us)]]:=by
 change [YL,ws.length+us.length<=1000,_,_]=_;rw[qA3 h]
def Js (o:Option Sl) (i:Nat) (a:Rho):R Fl:=match o with
 |some (.own ws)=>[Rn,.own ws.reverse]
 |_=>.stuck
def Fw i a:mRev i a=Js (a[i]?) i a:=rfl
def Ec ws i a:Js (some (.own ws)) i a=.ok (.nx (a.set i (.own ws.reverse))):=rfl
def mM J(O:Po r J Jr)(I:∀a,J a->Po (n a) Jn Jr):Po (andThen r n) Jn Jr:=gJ (O.mono I λ_ h=>h)
def FV i j:F2 i j=.int (i+j):=rfl
def FT i j:TP.gSub i j=.int (i-j):=rfl
def Me i j:gLt i j=.bl (decide (i<j)):=rfl
def Mh i j:gLe i j=.bl (decide (i<=j)):=rfl
def Mj i j:gGt i j=.bl (decide (j<i)):=rfl
def Ml i j:gGe i j=.bl (decide (j<=i)):=rfl
def FU i:jk i=.int (-i):=rfl
def AU i j:QO i j=i+j:=rfl
def AR i j:QN i j=i-j:=rfl
def Mr {i}(h:0<=i/\i<1000):fStr [.int i]=.ok (.str (toString i)):=by
 change [YL,i.natAbs.log2<1920,_,_]=_;rw[qA3];refine qG6 (Nat.log2_le_self _) ?_;omega
def Mz neg u b:[TH,fIsB neg u (.bl b),[YL,neg,!aS u b,aS u b]]:=rfl
def LQ i b:aS (.int i) b=false:=rfl
def LO b:aS .non b=false:=rfl
def LN x b:aS (.str x) b=false:=rfl
def LM (x:Xag)b:aS (.tup x) b=false:=rfl
def LP (x:Xag)b:aS (.lst x) b=false:=rfl
def LR a b:aS (.bl a) b=(a == b):=rfl
def Rcu (c:Bool)(r:R Xag)(f:[TR])(i:Nat)(a:Rho):R Fl:=[TJ,c,r>>=λws=>f ws>>=λw=>[Rn,.par w]]
def Ja i f ma a:sCU i f ma a=Rcu (noOwn a) (ma a) f i a:=rfl
def Pt (r:R W)(i:Nat)(a:Rho):R Fl:=r>>=λw=>[Rn,.par w]
def Sk ws f i a:Rcu true (.ok ws) f i a=Pt (f ws) i a:=rfl
def HM w i a:Pt (.ok w) i a=.ok (.nx (a.set i (.par w))):=rfl
def vX:noOwn []=true:=rfl
def EW w(a:Rho):noOwn (.val w::a)=noOwn a:=rfl
def EZ w(a:Rho):noOwn (.par w::a)=noOwn a:=rfl
def EY (a:Rho):noOwn (.un::a)=noOwn a:=rfl
def Gn {g}{ns}(h:0<ns.length):CP g [tI ns]=.ok (.int (g ns)):=by
 change toR (Y2 _)>>=_=_;rw[ints_map]
 change [YL,0<ns.length,_,_]=_;rw[qA3 h]
def Go {g}{ns}(h:0<ns.length):CP g [lI ns]=.ok (.int (g ns)):=by
 change toR (Y2 _)>>=_=_;rw[ints_map]
 change [YL,0<ns.length,_,_]=_;rw[qA3 h]
def Jq (ws:Xag):revW [.lst ws]=.ok ws.reverse:=rfl
end TP
namespace K92
def dC:Nat:=732
end K92
set_option maxHeartbeats 4000000
open PySem L2 TP
namespace K92
open PySem.W PyProof.Rows
def p1 {c I:Type}{a b:c×I}(h:a=b):a.1=b.1:=congrArg _ h
def p2 {c I:Type}{a b:c×I}(h:a=b):a.2=b.2:=congrArg _ h
def t2 {A B C:Type}{a b:A×B×C}(h:a=b):a.2.2=b.2.2:=p2 (p2 h)
def t4 {A B C D E:Type}{a b:A×B×C×D×E}(h:a=b):a.2.2.2.2=b.2.2.2.2:=t2 (t2 h)
def t8 {A B C D E F G H I:Type}{a b:A×B×C×D×E×F×G×H×I}(h:a=b):a.2.2.2.2.2.2.2.2=b.2.2.2.2.2.2.2.2:=t4 (t4 h)
def t16 {A B C D E F G H I J K L M N O P Q:Type}{a b:A×B×C×D×E×F×G×H×I×J×K×L×M×N×O×P×Q}(h:a=b):a.2.2.2.2.2.2.2.2.2.2.2.2.2.2.2.2=b.2.2.2.2.2.2.2.2.2.2.2.2.2.2.2.2:=t8 (t8 h)
def En (w:World)(mg:ZZ):Prop:=∃h:Heap,[ZH].In h/\h.Ns mainGlobals mg
noncomputable def ubs:[Ta]:=["ValueError","all","bool","enumerate","int","isinstance","len","list","min","range","str","tuple","zip"]
structure Blt (mg:ZZ):Prop where
 ValueError_:mg "ValueError" = none
 all_:mg "all" = none
 bool_:mg "bool" = none
 enumerate_:mg "enumerate" = none
 int_:mg "int" = none
 isinstance_:mg "isinstance" = none
 len_:mg "len" = none
 list_:mg "list" = none
 min_:mg "min" = none
 range_:mg "range" = none
 str_:mg "str" = none
 tuple_:mg "tuple" = none
 zip_:mg "zip" = none
def bn0 w:ubs.map (nsIn [ZH] mainGlobals)=ubs.map λ_=>some none:=Xak
def bn (Y:En w mg)(h:x∈ubs):mg x=none:=Y.elim λ_ q=>mg_none_of q.1 q.2 (List.map_inj_left.mp (bn0 w) x h)
def bl (Y:En w mg):Blt mg:=by
 constructor <;> show bn Y Xaa
structure Cst (mg:ZZ):Prop where
 GREATEST_COUNT:∃t,mg "GREATEST_COUNT" = some (.int 1000000000 t)
 MOST_PLACES:∃t,mg "MOST_PLACES" = some (.int 6 t)
 MOST_MOVES:∃t,mg "MOST_MOVES" = some (.int 8 t)
 LONGEST_NAME:∃t,mg "LONGEST_NAME" = some (.int 8 t)
 FIRST_BOUND:∃t,mg "FIRST_BOUND" = some (.int 20 t)
 GREATEST_BOUND:∃t,mg "GREATEST_BOUND" = some (.int 30 t)
 FIGURES:∃t,mg "FIGURES" = some (.str "0123456789" t)
 LETTERS:∃t,mg "LETTERS" = some (.str "abcdefghijklmnopqrstuvwxyz" t)
def cs0 w:([p6,"GREATEST_COUNT"],[p6,"MOST_PLACES"],[p6,"MOST_MOVES"],[p6,"LONGEST_NAME"],[p6,"FIRST_BOUND"],[p6,"GREATEST_BOUND"],[p6,"FIGURES"],[p6,"LETTERS"])=(some (some (.int 1000000000 298)),some (some (.int 6 300)),some (some (.int 8 302)),some (some (.int 8 1038)),some (some (.int 20 1129)),some (some (.int 30 1131)),some (some (.str (Str.ofString "0123456789") 1034)),some (some (.str (Str.ofString "abcdefghijklmnopqrstuvwxyz") 1036))):=Xak
def cs (Y:En w mg):Cst mg:=Y.elim λ_ q=>⟨⟨_,mg_of q.1 q.2 (p1 (cs0 w))⟩,⟨_,mg_of q.1 q.2 [Tj,cs0 w]⟩,⟨_,mg_of q.1 q.2 (p1 (t2 (cs0 w)))⟩,⟨_,mg_of q.1 q.2 [Tj,t2 (cs0 w)]⟩,⟨_,mg_of q.1 q.2 (p1 (t4 (cs0 w)))⟩,⟨_,mg_of q.1 q.2 [Tj,t4 (cs0 w)]⟩,⟨_,mg_of q.1 q.2 (p1 (t2 (t4 (cs0 w))))⟩,⟨_,mg_of q.1 q.2 (p2 (t2 (t4 (cs0 w))))⟩⟩
abbrev FD (nm:String)(i:Nat)(pm:Value)(c:Nat):FuncData:=PySem.W.fnOf nm nm (K8 (top i)) (z7 (top i)) (d8 (top i)) .none .none .none pm none [ZE,c] .none
abbrev dL w(nm:String)(f c:Nat):=([p6,nm],[ZH].lookup f,codeIn [ZH] [ZE,c] nm,keepIn [ZH] [ZE,f])
abbrev dR (nm:String)(i f:Nat)(pm:Value)(c:Nat):Option Uj×Option Obj×Bool×Bool:=(some [Wb,f],some (hxG nm i pm c),true,true)
abbrev pm0:Value:=hxS "tokenmoor.moors" 296
abbrev pm1:Value:=hxS "tokenmoor.walks" 440
abbrev pm2:Value:=hxS "tokenmoor.texts" 1032
abbrev pm3:Value:=hxS "tokenmoor.desk" 1127
abbrev pm4:Value:=hxS "law_tokenmoor_k92_the_desk_goes" 1354
abbrev pm5:Value:=hxS "tokenmoor.ends" 930
def dT:List (String×Nat×Nat×Value):=[("covers",11,101,pm0),("able",12,108,pm0),("change",14,118,pm0),("after",13,113,pm0),("stands_of",31,206,pm1),("run",30,199,pm1),("place_of_puts",117,645,pm2),("is_made_of",122,676,pm2),("must_be_new_name",121,671,pm2),("count_of",120,664,pm2),("read_count",119,657,pm2),("read_counts",118,650,pm2),("read_move",116,638,pm2),("read_place",115,631,pm2),("read",114,624,pm2),("shown_counts",124,686,pm2),("shown",123,681,pm2),("is_bound",133,750,pm3),("counts_of",135,762,pm3),("are_counts",134,757,pm3),("is_fitting",136,769,pm3),("is_row",132,743,pm3),("number_of",137,776,pm3),("spaced",138,781,pm3),("_law_cell",151,857,pm4),("_law_names",152,864,pm4),("_law_land",153,869,pm4),("_law_told",154,876,pm4),("_law_text",155,881,pm4),("_law_answered",156,886,pm4),("_law_none",157,893,pm4),("_law_run",158,898,pm4),("_law_counted",160,908,pm4),("_law_go",159,903,pm4),("_law_strange",161,915,pm4),("_law_untold",162,922,pm4),("_law_row",163,929,pm4),("law",164,936,pm4),("told_again",145,824,pm3),("again",102,579,pm5)]
def ds0 w:dT.map (λt=>dL w t.1 t.2.2.1 (t.2.2.1-1))=dT.map (λt=>dR t.1 t.2.1 t.2.2.1 t.2.2.2 (t.2.2.1-1)):=Xak
def us0 {P:List Value->Prop}(h:P []):∀us,us.length=0->P us:=λus e=>by
 rw[List.length_eq_zero_iff.mp e];show h
def us1 {P:List Value->Prop}(h:∀a0,P [a0]):∀us,us.length=1->P us:=λus e=>by
 cases us with
 |nil=>cases e
 |cons a us=>show us0 (P:=λus=>P (a::us)) (h a) us (Nat.succ.inj e)
def us2 {P:List Value->Prop}(h:∀a0 I,P [a0,I]):∀us,us.length=2->P us:=λus e=>by
 cases us with
 |nil=>cases e
 |cons a us=>show us1 (P:=λus=>P (a::us)) (λI=>h a I) us (Nat.succ.inj e)
def us3 {P:List Value->Prop}(h:∀a0 I O,P [a0,I,O]):∀us,us.length=3->P us:=λus e=>by
 cases us with
 |nil=>cases e
 |cons a us=>show us2 (P:=λus=>P (a::us)) (λI O=>h a I O) us (Nat.succ.inj e)
def us4 {P:List Value->Prop}(h:∀a0 I O T,P [a0,I,O,T]):∀us,us.length=4->P us:=λus e=>by
 cases us with
 |nil=>cases e
 |cons a us=>show us3 (P:=λus=>P (a::us)) (λI O T=>h a I O T) us (Nat.succ.inj e)
def dk {w}{mg}(Y:En w mg){nm}{i}{f:Addr}{pm}{ps}(j:Nat) (e:[XXa,dT[j]?=some (nm,i,f,pm)])
  (I:∀ kV doc pm an Uc ct (us:ZW),us.length=ps.length->bindArgs (PySem.W.fnOf nm nm (K8 (top i)) (z7 (top i)) (d8 (top i)) .none kV doc pm an Uc ct) ⟨us,[]⟩=pure (ps.zip us):=by intro _ _ _ _ _ _;first|show us2 λ_ _=>rfl|show us1 λ_=>rfl|show us3 λ_ _ _=>rfl|show us4 λ_ _ _ _=>rfl):Def [ZH] mg nm (top i) ps f (FD nm i pm (f-1)):=by
 obtain ⟨h,X,G⟩:=Y;have e:=List.map_inj_left.mp (ds0 w) _ (qD9 e);have F:=af (st:=top i) [Tj,e] (p1 (t2 (e))) (p2 (t2 (e)));show ⟨F,PySem.W.mg_of X G (p1 e),F.binds I⟩
def aU (Y:En w mg):Def [ZH] mg "told_again" (top 145) ["told","names"] 824 (FD "told_again" 145 pm3 (824-1)):=dk Y 38
def ow (Y:En w mg):Def [ZH] mg "again" (top 102) ["moor","move","most"] 579 (FD "again" 102 pm5 (579-1)):=dk Y 39
abbrev FM (nm q:String)(st:Stmt)(c:Nat):FuncData:=PySem.W.fnOf nm q (K8 st) (z7 st) (d8 st) .none .none .none [Z0R] none [ZE,c] .none
abbrev dm (n:String):Stmt:=N2 (top 131) n
def ms0 w:(([ZH].lookup 703,codeIn [ZH] [ZE,702] "Desk.__init__",keepIn [ZH] [ZE,703]),([ZH].lookup 710,codeIn [ZH] [ZE,709] "Desk.say",keepIn [ZH] [ZE,710]),([ZH].lookup 717,codeIn [ZH] [ZE,716] "Desk.take_up",keepIn [ZH] [ZE,717]),([ZH].lookup 722,codeIn [ZH] [ZE,721] "Desk.walk",keepIn [ZH] [ZE,722]),([ZH].lookup 729,codeIn [ZH] [ZE,728] "Desk.answer",keepIn [ZH] [ZE,729]))=((some (hxO "function" [Z0Q,"__init__","Desk.__init__",dm "__init__",[Z0R],702]),true,true),(some (hxO "function" [Z0Q,"say","Desk.say",dm "say",[Z0R],709]),true,true),(some (hxO "function" [Z0Q,"take_up","Desk.take_up",dm "take_up",[Z0R],716]),true,true),(some (hxO "function" [Z0Q,"walk","Desk.walk",dm "walk",[Z0R],721]),true,true),(some (hxO "function" [Z0Q,"answer","Desk.answer",dm "answer",[Z0R],728]),true,true)):=Xak
def bK w:Fun [ZH] "__init__" "Desk.__init__" (dm "__init__") 703 (FM "__init__" "Desk.__init__" (dm "__init__") 702):=af (p1 (p1 (ms0 w))) [Tj,p1 (ms0 w)] (t2 (p1 (ms0 w)))
def bN w:Binds [ZH] (FM "__init__" "Desk.__init__" (dm "__init__") 702) ["self"] []:=(bK w).binds λ_ _ _ _ _ _=>us1 λ_=>rfl
def gA:K9 ["self"] ["self"] (d8 (dm "__init__")):=⟨rfl,rfl,rfl,Xac,rfl,Xac,Xac⟩
def kn w:Fun [ZH] "say" "Desk.say" (dm "say") 710 (FM "say" "Desk.say" (dm "say") 709):=af (p1 (p1 (p2 (ms0 w)))) [Tj,[Tj,ms0 w]] (t2 (p1 (p2 (ms0 w))))
def xY w:Binds [ZH] (FM "say" "Desk.say" (dm "say") 709) ["self","row"] []:=(kn w).binds λ_ _ _ _ _ _=>us2 λ_ _=>rfl
def cR w:Fun [ZH] "take_up" "Desk.take_up" (dm "take_up") 717 (FM "take_up" "Desk.take_up" (dm "take_up") 716):=af (p1 (p1 (t2 (ms0 w)))) [Tj,p1 (t2 (ms0 w))] (t2 (p1 (p2 (p2 (ms0 w)))))
def kI w:Binds [ZH] (FM "take_up" "Desk.take_up" (dm "take_up") 716) ["self","text"] []:=(cR w).binds λ_ _ _ _ _ _=>us2 λ_ _=>rfl
def ip w:Fun [ZH] "walk" "Desk.walk" (dm "walk") 722 (FM "walk" "Desk.walk" (dm "walk") 721):=af (p1 (p1 (p2 (t2 (ms0 w))))) [Tj,[Tj,t2 (ms0 w)]] (t2 (p1 (p2 (p2 (p2 (ms0 w))))))
def tU w:Binds [ZH] (FM "walk" "Desk.walk" (dm "walk") 721) Vb []:=(ip w).binds λ_ _ _ _ _ _=>us2 λ_ _=>rfl
def dF w:Fun [ZH] "answer" "Desk.answer" (dm "answer") 729 (FM "answer" "Desk.answer" (dm "answer") 728):=af (p1 (t4 (ms0 w))) [Tj,t4 (ms0 w)] (t2 (t4 (ms0 w)))
def oS w:Binds [ZH] (FM "answer" "Desk.answer" (dm "answer") 728) Vb []:=(dF w).binds λ_ _ _ _ _ _=>us2 λ_ _=>rfl
def kl0 w:(plainGet [ZH] 732 Str.empty,hasDictIn [ZH] 732,plainOver [ZH] 732,findIn [ZH] [ZE,732] "__setattr__",makesIn [ZH] 732,keepIn [ZH] [ZE,732],[p6,"Desk"],findIn [ZH] [ZE,732] "moor",findIn [ZH] [ZE,732] "places",findIn [ZH] [ZE,732] "moves",findIn [ZH] [ZE,732] "here",findIn [ZH] [ZE,732] "bound",(findIn [ZH] [ZE,732] "__init__",isFn [ZH] [ZE,703]),(findIn [ZH] [ZE,732] "say",isFn [ZH] [ZE,710]),(findIn [ZH] [ZE,732] "take_up",isFn [ZH] [ZE,717]),(findIn [ZH] [ZE,732] "walk",isFn [ZH] [ZE,722]),(findIn [ZH] [ZE,732] "answer",isFn [ZH] [ZE,729]))=(true,true,true,some [ck,"object.__setattr__"],true,true,some [Wb,732],some none,some none,some none,some none,some none,(some [Wb,703],true),(some [Wb,710],true),(some [Wb,717],true),(some [Wb,722],true),(some [Wb,729],true)):=Xak
def t6 w:Cls [ZH] dC:=⟨(p1 (kl0 w)),[Tj,kl0 w],(p1 (t2 (kl0 w))),[Tj,t2 (kl0 w)]⟩
def G0 w:NoAttr [ZH] dC "moor" := [Tj,t2 (t4 (kl0 w))]
def O3 w:NoAttr [ZH] dC "places" := (p1 (t8 (kl0 w)))
def M7 w:NoAttr [ZH] dC "moves" := [Tj,t8 (kl0 w)]
def L9 w:NoAttr [ZH] dC "here" := (p1 (t2 (t8 (kl0 w))))
def aV w:NoAttr [ZH] dC "bound" := [Tj,t2 (t8 (kl0 w))]
def xq w:bq [ZH] dC "say" 710:=⟨p1 [Tj,t4 (t8 (kl0 w))],p2 [Tj,t4 (t8 (kl0 w))],t2 [Tj,ms0 w]⟩
def kF w:bq [ZH] dC "take_up" 717:=⟨p1 (p1 (t2 (t4 (t8 (kl0 w))))),p2 (p1 (t2 (t4 (t8 (kl0 w))))),t2 [Tj,p2 (ms0 w)]⟩
def tN w:bq [ZH] dC "walk" 722:=⟨p1 [Tj,t2 (t4 (t8 (kl0 w)))],p2 [Tj,t2 (t4 (t8 (kl0 w)))],t2 [Tj,p2 (p2 (ms0 w))]⟩
def oo w:bq [ZH] dC "answer" 729:=⟨p1 (t16 (kl0 w)),p2 (t16 (kl0 w)),t2 (t4 (ms0 w))⟩
def CS w:Mk [ZH] dC 703:=⟨(p1 (t4 (kl0 w))),p1 (p1 (t4 (t8 (kl0 w)))),p2 (p1 (t4 (t8 (kl0 w)))),[Tj,t4 (kl0 w)]⟩
def MU (Y:En w mg):mg "Desk" = some [ZE,dC]:=Y.elim λ_ q=>mg_of q.1 q.2 (p1 (t2 (t4 (kl0 w))))
def tc0 w:(([p6,"BARE_ROWS"],[ZH].lookup 687),([p6,"COUNTED_ROWS"],[ZH].lookup 688),([p6,"NAMED_ROWS"],[ZH].lookup 689))=((some [Wb,687],some (hxO "tuple" (.seq #[hxS "now" 1133,hxS "home" 1134,hxS "show" 1135,hxS "bounded" 1136,hxS "end" 1137,hxS "balances" 1138,hxS "dry" 1139,hxS "wet" 1140] 0))),(some [Wb,688],some (hxO "tuple" (.seq #[hxS "cover" 1142,hxS "reached" 1143] 0))),(some [Wb,689],some (hxO "tuple" (.seq #[hxS "peak" 1145,hxS "again" 1146] 0)))):=Xak
def oz (Y:En w mg):ud [ZH] mg "BARE_ROWS" Zq:=Y.elim λ_ q=>⟨687,_,_,_,mg_of q.1 q.2 (p1 (p1 (tc0 w))),p2 (p1 (tc0 w)),rfl,rfl,[SK,[Te,8]],(.cons [Tq] (.cons [Tq] (.cons [Tq] (.cons [Tq] (.cons [Tq] (.cons [Tq] (.cons [Tq] (.cons [Tq] .nil))))))))⟩
def iq (Y:En w mg):ud [ZH] mg "COUNTED_ROWS" Zf:=Y.elim λ_ q=>⟨688,_,_,_,mg_of q.1 q.2 (p1 (p1 (p2 (tc0 w)))),p2 [Tj,tc0 w],rfl,rfl,[SK,[Te,2]],(.cons [Tq] (.cons [Tq] .nil))⟩
def kG (Y:En w mg):ud [ZH] mg "NAMED_ROWS" ["peak","again"]:=Y.elim λ_ q=>⟨689,_,_,_,mg_of q.1 q.2 (p1 (t2 (tc0 w))),p2 (t2 (tc0 w)),rfl,rfl,[SK,[Te,2]],(.cons [Tq] (.cons [Tq] .nil))⟩
def xn0 w:([p6,"MoorError"],[p6,"NoMoor"],[p6,"Stuck"],[p6,"NoText"],[p6,"NoName"],[p6,"NoRow"])=(some [Wb,24],some [Wb,37],some [Wb,56],some [Wb,68],some [Wb,80],some [Wb,92]):=Xak
def gb w:[p6,"MoorError"] = some [Wb,24]:=(p1 (xn0 w))
def iJ (Y:En w mg):mg "MoorError" = some [ZE,24]:=Y.elim λ_ q=>mg_of q.1 q.2 (gb w)
def v9 w:[p6,"NoMoor"] = some [Wb,37]:=[Tj,xn0 w]
def aK (Y:En w mg):mg "NoMoor" = some [ZE,37]:=Y.elim λ_ q=>mg_of q.1 q.2 (v9 w)
def C5 w:[p6,"Stuck"] = some [Wb,56]:=(p1 (t2 (xn0 w)))
def gd (Y:En w mg):mg "Stuck" = some [ZE,56]:=Y.elim λ_ q=>mg_of q.1 q.2 (C5 w)
def j0 w:[p6,"NoText"] = some [Wb,68]:=[Tj,t2 (xn0 w)]
def y8 (Y:En w mg):mg "NoText" = some [ZE,68]:=Y.elim λ_ q=>mg_of q.1 q.2 (j0 w)
def v8 w:[p6,"NoName"] = some [Wb,80]:=(p1 (t4 (xn0 w)))
def aJ (Y:En w mg):mg "NoName" = some [ZE,80]:=Y.elim λ_ q=>mg_of q.1 q.2 (v8 w)
def w9 w:[p6,"NoRow"] = some [Wb,92]:=(p2 (t4 (xn0 w)))
def X4 (Y:En w mg):mg "NoRow" = some [ZE,92]:=Y.elim λ_ q=>mg_of q.1 q.2 (w9 w)
abbrev xo (nm:String)(C N a s t:Nat):Obj:=excClassObj nm nm C N [.ref 24] (.ref 24::P9) true [] [] false none none [Wb,a] none [ZT,hxS nm s] [ZT,hxS nm t] (some (.bool true)) "ValueError.__new__"
abbrev xL w(C:Nat):=([ZH].lookup C,excIn [ZH] C P9 "ValueError.__new__",typeIn [ZH] [ZE,C],mroIn [ZH] C (.type "BaseException"),keepIn [ZH] [ZE,C],mroIn [ZH] C (.type "object"),findIn [ZH] [ZE,C] (Str.ofString "__getattribute__"),findIn [ZH] [ZE,C] (Str.ofString "__getattr__"),findIn [ZH] [ZE,C] (Str.ofString "__class__"),specialIn [ZH] (.builtin "object.__class__") (Str.ofString "__get__"),takesIn [ZH] (.builtin "object.__class__"),subIn [ZH] [ZE,C] [ZE,C])
noncomputable abbrev xR (o:Obj):Option Obj×Bool×Option Value×Option Bool×Bool×Option Bool×Option Uj×Option Uj×Option Uj×Option Uj×Option Bool×Option Bool:=(some o,true,some (.type "type"),some true,true,some true,some [ck,"BaseException.__getattribute__"],some none,some [ck,"object.__class__"],some [ck,"getset_descriptor.__get__"],some true,some true)
def xk0 w:(xL w 92,xL w 37,xL w 80,xL w 68)=(xR (xo "NoRow" 92 91 83 280 288),xR (xo "NoMoor" 37 36 28 207 215),xR (xo "NoName" 80 79 71 264 272),xR (xo "NoText" 68 67 59 248 256)):=Xak
def xk (e:xL w C=xR (xo nm C N a s t)):aW [ZH] C/\XIs [ZH] C:=Di (p1 e) [Tj,e] (p1 (t2 (e))) [Tj,t2 (e)] (p1 (t4 (e))) [Tj,t4 (e)] (p1 (t2 (t4 (e)))) [Tj,t2 (t4 (e))] (p1 (t8 (e))) [Tj,t8 (e)] (p1 (t2 (t8 (e)))) (p2 (t2 (t8 (e))))
def cS w:aW [ZH] 92:=(xk (p1 (xk0 w))).1
def Q6 w:XIs [ZH] 92:=(xk (p1 (xk0 w))).2
def kB w:aW [ZH] 37:=(xk (p1 (p2 (xk0 w)))).1
def N8 w:XIs [ZH] 37:=(xk (p1 (p2 (xk0 w)))).2
def kA w:aW [ZH] 80:=(xk (p1 (t2 (xk0 w)))).1
def N7 w:XIs [ZH] 80:=(xk (p1 (t2 (xk0 w)))).2
def y6 w:aW [ZH] 68:=(xk (p2 (t2 (xk0 w)))).1
def N6 w:XIs [ZH] 68:=(xk (p2 (t2 (xk0 w)))).2
def sk0 w:(([ZH].lookup 56,typeIn [ZH] [ZE,56],mroIn [ZH] 56 (.type "BaseException"),keepIn [ZH] [ZE,56],mroIn [ZH] 56 (.type "object"),findIn [ZH] [ZE,56] (Str.ofString "__getattribute__"),findIn [ZH] [ZE,56] (Str.ofString "__getattr__"),findIn [ZH] [ZE,56] (Str.ofString "__class__"),specialIn [ZH] (.builtin "object.__class__") (Str.ofString "__get__"),takesIn [ZH] (.builtin "object.__class__"),subIn [ZH] [ZE,56] [ZE,56]),excIn [ZH] 24 P9 "ValueError.__new__",findIn [ZH] [ZE,56] (Str.ofString "__init__"),typeIn [ZH] [ZE,53],mroIn [ZH] 56 [ZE,56],findIn [ZH] [ZE,56] (Str.ofString "__setattr__"),findIn [ZH] [ZE,56] "at",[ZH].lookup 53,codeIn [ZH] [ZE,52] "Stuck.__init__",keepIn [ZH] [ZE,53])=((some (xo "Stuck" 56 55 40 223 231),some (.type "type"),some true,true,some true,some [ck,"BaseException.__getattribute__"],some none,some [ck,"object.__class__"],some [ck,"getset_descriptor.__get__"],some true,some true),true,some [Wb,53],some (.type "function"),some true,some [ck,"object.__setattr__"],some none,some (hxO "function" [Z0Q,"__init__","Stuck.__init__",N2 (top 3) "__init__",hxS "tokenmoor.errors" 187,52]),true,true):=Xak
def kJ w:XOk [ZH] 56 53:=HU (p1 (p1 (sk0 w))) [Tj,sk0 w] [Tj,p1 (sk0 w)] (p1 (t2 (sk0 w))) [Tj,t2 (sk0 w)] (p1 (t4 (sk0 w))) (p1 (t2 (p1 (sk0 w)))) [Tj,t2 (p1 (sk0 w))] [Tj,t4 (sk0 w)] (p1 (t4 (p1 (sk0 w)))) (p1 (t2 (t4 (sk0 w)))) [Tj,t4 (p1 (sk0 w))] (p1 (t2 (t4 (p1 (sk0 w))))) [Tj,t2 (t4 (p1 (sk0 w)))] (p1 (t8 (p1 (sk0 w)))) [Tj,t8 (p1 (sk0 w))] (t2 (t8 (p1 (sk0 w))))
abbrev FI:FuncData:=PySem.W.fnOf "__init__" "Stuck.__init__" (K8 (N2 (top 3) "__init__")) (z7 (N2 (top 3) "__init__")) (d8 (N2 (top 3) "__init__")) .none .none .none (hxS "tokenmoor.errors" 187) none [ZE,52] .none
def HX w:Fun [ZH] "__init__" "Stuck.__init__" (N2 (top 3) "__init__") 53 FI:=af [Tj,t2 (t4 (sk0 w))] (p1 (t8 (sk0 w))) (p2 (t8 (sk0 w)))
def xf_b w:Binds [ZH] FI ["self","at"] []:=(HX w).binds λ_ _ _ _ _ _=>us2 λ_ _=>rfl
def xf_I:FnOk P w [ZH] mg base CX0 1 53 FI ["self","at"] (gy 56):=FQ (HX w) ⟨rfl,rfl,rfl,Xac,rfl,Xac,Xac⟩ (kJ w).cls rfl
def xe0 w:(exmOne [ZH] [ZE,56] [ZE,56],(exmOne [ZH] [ZE,92] [ZE,56],exmOne [ZH] [ZE,92] [ZE,24]),(exmOne [ZH] [ZE,37] [ZE,56],exmOne [ZH] [ZE,37] [ZE,24]),(exmOne [ZH] [ZE,80] [ZE,56],exmOne [ZH] [ZE,80] [ZE,24]),(exmOne [ZH] [ZE,68] [ZE,56],exmOne [ZH] [ZE,68] [ZE,24]),kitOne [ZH] [ZE,56] [ZE,92],kitOne [ZH] [ZE,56] [ZE,37],kitOne [ZH] [ZE,56] [ZE,80],kitOne [ZH] [ZE,56] [ZE,68],kitOne [ZH] [ZE,92] [ZE,92],kitOne [ZH] [ZE,92] [ZE,37],kitOne [ZH] [ZE,92] [ZE,80],kitOne [ZH] [ZE,92] [ZE,68],kitOne [ZH] [ZE,37] [ZE,92],kitOne [ZH] [ZE,37] [ZE,37],kitOne [ZH] [ZE,37] [ZE,80],kitOne [ZH] [ZE,37] [ZE,68],kitOne [ZH] [ZE,80] [ZE,92],kitOne [ZH] [ZE,80] [ZE,37],kitOne [ZH] [ZE,80] [ZE,80],kitOne [ZH] [ZE,80] [ZE,68],kitOne [ZH] [ZE,68] [ZE,92],kitOne [ZH] [ZE,68] [ZE,37],kitOne [ZH] [ZE,68] [ZE,80],kitOne [ZH] [ZE,68] [ZE,68],kitOne [ZH] [ZE,56] (.type "ValueError"),kitOne [ZH] [ZE,92] (.type "ValueError"),kitOne [ZH] [ZE,37] (.type "ValueError"),kitOne [ZH] [ZE,80] (.type "ValueError"),kitOne [ZH] [ZE,68] (.type "ValueError"))=(some true,(some false,some true),(some false,some true),(some false,some true),(some false,some true),some false,some false,some false,some false,some true,some false,some false,some false,some false,some true,some false,some false,some false,some false,some true,some false,some false,some false,some false,some true,some true,some true,some true,some true,some true):=Xak
def ph w:exmOne [ZH] [ZE,56] [ZE,56]=some true:=(p1 (xe0 w))
def PH w:∀c,c∈(["NoRow","NoMoor","NoName","NoText"]:ZK)->∃I,[p6,c]=some [Wb,I]/\exmOne [ZH] [ZE,I] [ZE,56]=some false/\exmOne [ZH] [ZE,I] [ZE,24]=some true:=λc h=>by
 simp only [qB5,qD4,or_false]at h;rcases h with rfl|rfl|rfl|rfl
 .show ⟨92,w9 w,p1 [Tj,xe0 w],p2 [Tj,xe0 w]⟩
 .show ⟨37,v9 w,p1 (p1 (t2 (xe0 w))),p2 (p1 (t2 (xe0 w)))⟩
 .show ⟨80,v8 w,p1 [Tj,t2 (xe0 w)],p2 [Tj,t2 (xe0 w)]⟩
 .show ⟨68,j0 w,p1 (p1 (t4 (xe0 w))),p2 (p1 (t4 (xe0 w)))⟩
def Q4 {K}:XT K u []:=λ_ _ h=>nomatch h
def r9 {K}(h1:nsIn K mainGlobals c=some [Wb,C]) (h2:XIs K C) (O:kitOne K [ZE,C] u=some b) (h:XT K u tb):XT K u ((c,b)::tb):=λI T e=>by
 by_cases q:I=c
 .subst q;rw[List.lookup_cons_self]at e;cases e;show ⟨C,h1,h2,O⟩
 .have hb:(I == c)=false:=qM5.mpr q;simp only [List.lookup,hb]at e;show h I T e
def Q5 w:XIs [ZH] 56:=(kJ w).is
def pj w:XT [ZH] [ZE,92] [("Stuck",false)]:=r9 (C5 w) (Q5 w) [Tj,t4 (xe0 w)] Q4
def pi w:XT [ZH] [ZE,92] [("NoRow",true),("NoMoor",false),("NoName",false),("NoText",false)]:=(r9 (w9 w) (Q6 w) [Tj,t8 (xe0 w)] (r9 (v9 w) (N8 w) [Tj,t4 (t8 (xe0 w))] (r9 (v8 w) (N7 w) [Tj,t16 (xe0 w)] (r9 (j0 w) (N6 w) [Tj,t4 (t16 (xe0 w))] Q4))))
def lD w:XT [ZH] [ZE,37] [("Stuck",false)]:=r9 (C5 w) (Q5 w) (p1 (t2 (t4 (xe0 w)))) Q4
def lA w:XT [ZH] [ZE,37] [("NoRow",false),("NoMoor",true),("NoName",false),("NoText",false)]:=(r9 (w9 w) (Q6 w) (p1 (t2 (t8 (xe0 w)))) (r9 (v9 w) (N8 w) (p1 (t2 (t4 (t8 (xe0 w))))) (r9 (v8 w) (N7 w) (p1 (t2 (t16 (xe0 w)))) (r9 (j0 w) (N6 w) (p1 (t2 (t4 (t16 (xe0 w))))) Q4))))
def lC w:XT [ZH] [ZE,80] [("Stuck",false)]:=r9 (C5 w) (Q5 w) [Tj,t2 (t4 (xe0 w))] Q4
def ly w:XT [ZH] [ZE,80] [("NoRow",false),("NoMoor",false),("NoName",true),("NoText",false)]:=(r9 (w9 w) (Q6 w) [Tj,t2 (t8 (xe0 w))] (r9 (v9 w) (N8 w) [Tj,t2 (t4 (t8 (xe0 w)))] (r9 (v8 w) (N7 w) [Tj,t2 (t16 (xe0 w))] (r9 (j0 w) (N6 w) [Tj,t2 (t4 (t16 (xe0 w)))] Q4))))
def lB w:XT [ZH] [ZE,68] [("Stuck",false)]:=r9 (C5 w) (Q5 w) (p1 (t8 (xe0 w))) Q4
def lx w:XT [ZH] [ZE,68] [("NoRow",false),("NoMoor",false),("NoName",false),("NoText",true)]:=(r9 (w9 w) (Q6 w) (p1 (t4 (t8 (xe0 w)))) (r9 (v9 w) (N8 w) (p1 (t16 (xe0 w))) (r9 (v8 w) (N7 w) (p1 (t4 (t16 (xe0 w)))) (r9 (j0 w) (N6 w) (p1 (t8 (t16 (xe0 w)))) Q4))))
def fm w:XT [ZH] (.type "ValueError") [("Stuck",true)]:=r9 (C5 w) (Q5 w) [Tj,t8 (t16 (xe0 w))] Q4
def fk w:XT [ZH] (.type "ValueError") [("NoRow",true),("NoMoor",true),("NoName",true),("NoText",true)]:=(r9 (w9 w) (Q6 w) (p1 (t2 (t8 (t16 (xe0 w))))) (r9 (v9 w) (N8 w) [Tj,t2 (t8 (t16 (xe0 w)))] (r9 (v8 w) (N7 w) (p1 (t4 (t8 (t16 (xe0 w))))) (r9 (j0 w) (N6 w) (p2 (t4 (t8 (t16 (xe0 w))))) Q4))))
end K92
set_option maxHeartbeats 4000000
open PySem L2 TP
namespace K92
open PySem.W PyProof.Rows
def okF {P}{w}{K}{mg}{base}{x q}{st}{ps}{f}{fd}(D:Fun K x q st f fd){N}{k n l}{d}{m}(b:∀{Uc}{A:Around}{outer:List Env}{s}{H}{E},Room k (A.deeper (PyProof.Rows.envOfC q (d8 st) s.heap.objs.size f Uc))->N.Nodup->PSs (i4 CX0 P w K mg base N q (d8 st) f Uc A outer s H E).nox (z7 st) (tSt K (λ_ _=>False) d m)) (S:[XXe,K9 N ps (d8 st)]) (hd:d=.F\/d=.V:=by first|show .inl rfl|show .inr rfl) (hn:[XXa,ps.length=n]) (hl:[XXa,N.length=l]):FnOk P w K mg base CX0 (k+1) f fd ps (spM K n d (d9 n l m)):=by
 subst hn hl;show D.ok S (λ_ _ _ _ h=>h.1) λUc A outer s H vs Q E hr h=>[WH,b hr S.nd,Oa hd h]
def fH {P}{w}{K}{mg}{base}{x q}{st}{ps}{f}{fd}(D:Fun K x q st f fd){N}{k n l}{d}{m}(b:∀{Uc}{A}{outer}{s}{H}{E},Room k (A.deeper (PyProof.Rows.envOfC q (d8 st) s.heap.objs.size f Uc))->N.Nodup->PSs (i4 (CXW P w) P w K mg base N q (d8 st) f Uc A outer s H E) (z7 st) (tSt K (XE1 K E) d m)) (S:[XXe,K9 N ps (d8 st)]) (hd:d=.F\/d=.V:=by first|show .inl rfl|show .inr rfl) (hn:[XXa,ps.length=n]) (hl:[XXa,N.length=l]):[Z0l,k+1,spR K n d (d9 n l m)]:=by
 subst hn hl;show D.okX S (λ_ _ _ _ h=>h.1) λUc A outer s H vs Q E hr h=>[WH,b hr S.nd,Hc hd h]
def Kx {P}{w}{K}{mg}{base}{x q}{st}{ps}{f}{fd}(D:Fun K x q st f fd){N}{k n l}{m}  (b:∀{Uc}{A}{outer}{s}{H}{E},Room k (A.deeper (PyProof.Rows.envOfC q (d8 st) s.heap.objs.size f Uc))->N.Nodup->PSs (i4 (CXW P w) P w K mg base N q (d8 st) f Uc A outer s H E) (z7 st) (tStP K (XE1 K E) m)) (S:[XXe,K9 N ps (d8 st)]) (hn:[XXa,ps.length=n]) (hl:[XXa,N.length=l]):[Z0l,k+1,cX K n (d9 n l m)]:=by
 subst hn hl;show D.okX S (λ_ _ _ _ h=>h.1) λUc A outer s H vs Q E hr h=>[WH,b hr S.nd,BB h]
def okO {P}{w}{K}{mg}{base}{x q}{st}{ps}{f}{fd}(D:Fun K x q st f fd){N}{k n l}{j}{C}{m:[p5]}  (b:∀ p{Uc}{A:Around}{outer:List Env}{s}{H}{E},Room k (A.deeper (PyProof.Rows.envOfC q (d8 st) s.heap.objs.size f Uc))->N.Nodup->PSs (i4 CX0 P w K mg base N q (d8 st) f Uc A outer s H E).nox (z7 st) (tStO K (λ_ _=>False) p C (m p))) (S:[XXe,K9 N ps (d8 st)]) (hn:[XXa,ps.length=n]) (hl:[XXa,N.length=l]):FnOk P w K mg base CX0 (k+1) f fd ps (spO K XE C j n (t7 j n l C m)):=by
 subst hn hl;show D.ok S (λ_ _ _ _ h=>h.1) λUc A outer s H vs Q E hr h=>(qZ h).elim λp z=>[WH,b p hr S.nd,z]
def okQ {P}{w}{K}{mg}{base}{x q}{st}{ps}{f}{fd}(D:Fun K x q st f fd){N}{k n l}{j}{C}{m}  (b:∀ p{Uc}{A}{outer}{s}{H}{E},Room k (A.deeper (PyProof.Rows.envOfC q (d8 st) s.heap.objs.size f Uc))->N.Nodup->PSs (i4 (CXW P w) P w K mg base N q (d8 st) f Uc A outer s H E) (z7 st) (tStO K (XE1 K E) p C (m p))) (S:[XXe,K9 N ps (d8 st)]) (hn:[XXa,ps.length=n]) (hl:[XXa,N.length=l]):[Z0l,k+1,spO K (XE1 K) C j n (t7 j n l C m)]:=by
 subst hn hl;show D.okX S (λ_ _ _ _ h=>h.1) λUc A outer s H vs Q E hr h=>(qZ h).elim λp z=>[WH,b p hr S.nd,z]
def F3 {X}{K}{EX}{cs}{N'}{n}{tg iter I}{O}{dd}{g}{mg}{T}{ta:Xam}{ma:Xad}{pos}(S:i8 X.env.scope cs X.N N') (hc:X.calm=true) (hi:PI X tg iter (tIt K EX false dd T))
  (hg:[Sz,PG [rj] tg g]) (UW:Gt K dd g mg) (hk:P7 X.N.length g) (ht:[Sz,PIf [rj] O (tT K EX ta)]) (he:[Sz,PE [rj] I (tM K EX .V ma)])
  (hn:N'.length=n:=by rfl) (hs:[Z0h]:=by intro _;rfl):[ZR,[Z0e,I,O],.F,ge n T mg ta ma]:=by
 subst hn;show Kb S hc hi hg UW hk ht he hs
def Y7 {X}{K}{EX}{d}{i n}{y}{py}{cs}{N'}{tg iter I}{O}{dd}{g}{mg}{T}{ta:Xam}{ma:Xad}{TU pos}(S:i8 X.env.scope cs X.N N') (hc:X.calm=true) (hi:PI X tg iter (tIt K EX false dd T))
  (hg:[Sz,PG [rj] tg g]) (UW:Gt K dd g mg) (hk:P7 X.N.length g) (ht:[Sz,PIf [rj] O (tT K EX ta)]) (he:[Sz,PE [rj] I (tM K EX .V ma)])
  (hN:X.N.Nodup) (hy:[ZI,X.N,y]) (hl:Loc X.env.scope y)
  (hn:N'.length=n:=by rfl) (UM:[Z0N,.ListComp I [⟨tg,iter,O,0⟩] cs TU,[YD,y,py]]=pure true:=by rfl) (hf:X.fn y=true\/X.env.scope.names.lookup y=some .local:=by first|show .inl rfl|show .inr rfl|assumption)
  (hs:[Z0h]:=by intro _;rfl):PS X (.Assign [.Name y py] (.ListComp I [⟨tg,iter,O,0⟩] cs TU) pos) [Tx,sF i (ge n T mg ta ma)]:=by
 subst hn;show JS S hc hi hg UW hk ht he hN hy hl UM hf hs
def wD (d:D)(f:D->F):D/\F:=⟨d,f d⟩
abbrev K0 (nm:String)(i f:Nat)(pm:Value)(ps:ZK)(k:Nat)(sp:Frag->Sp):Prop:=∀{w:World}{mg:ZZ},En w mg->Def [ZH] mg nm (top i) ps f (FD nm i pm (f-1))/\∀{P:Program}{base:Heap},FnOk P w [ZH] mg base CX0 k f (FD nm i pm (f-1)) ps (sp (hk w))
abbrev K1 (nm:String)(i f:Nat)(pm:Value)(ps:ZK)(k:Nat)(sp:Frag->Sp):Prop:=∀{w:World}{mg:ZZ},En w mg->Def [ZH] mg nm (top i) ps f (FD nm i pm (f-1))/\∀{P:Program}{base:Heap},FnOk P w [ZH] mg base (CXW P w) k f (FD nm i pm (f-1)) ps (sp (hk w))
def qO (Y:En w mg):FnOk P w [ZH] mg base CX0 1 703 (FM "__init__" "Desk.__init__" (dm "__init__") 702) ["self"] (gw dC 20):=by
 obtain ⟨t,hc⟩:=(cs Y).FIRST_BOUND;refine (bK w).ok gA (λ_ _ _ _ h=>h.1) λUc A outer s H vs Q E hr h=>[WH,R3 (bx (pv 0) pe_non rfl) (R3 (bx (pv 0) (mQ pa_nil) rfl) (R3 (bx (pv 0) (mQ pa_nil) rfl) (R3 (bx (pv 0) pe_non rfl) (bw (bx (pv 0) (bB (v:=.int 20) rfl hc [Tq]) rfl))))),GU (t6 w) (G0 w) (O3 w) (M7 w) (L9 w) (aV w) h]
abbrev fV (m:Xae):Prop:=K0 "covers" 11 101 pm0 ["stand","other"] 1 λK=>spM K 2 .F (d9 2 4 m)
def m_covers:Xae:=Subtype.val (p:=fV) ⟨_,λ{w mg} Y=>by
 show 9 0 ["stand","other","number","wanted"] [TF,@c8,@O8 _ _ _ _ _ _ _ _ _ _ _ _ _ qF5 rfl [Z0x,@mD,[Yd,[ZG,.U,0],[ZG,.U,1]]] [Z0g,[nc,[p7,2],[nc,[p7,3],@K5 _]]] [Z0m] [Tt,[SV,[Ti,kZ,[Z01,gLt],[Tn],[ZG,.B,3]],[SL,@bY _ _ _ _ _ _ _],[SW]]] (by intro _;rfl),[SL,@bY _ _ _ _ _ _ _]]⟩
abbrev nX:[TR]:=d9 2 4 m_covers
def cj:fV m_covers:=[SD,fV]
abbrev pb (m:Xae):Prop:=K0 "able" 12 108 pm0 VN 2 λK=>spM K 2 .F (d9 2 2 m)
def m_able:Xae:=Subtype.val (p:=pb) ⟨_,λ{w mg} Y=>by
 show 9 1 VN [SL,@n9 _ _ _ _ _ _ _ _ _ _ _ _ _ _ _ _ (cj Y).2 [Ws] [UH] WU (cj Y).1.m [TK,cj] (cj Y).1.b [Yd,[Yh],[Tc,[Td],[ZN]]] Xaa WU WU]⟩
abbrev wW:[TR]:=d9 2 2 m_able
def W1:pb m_able:=[SD,pb]
abbrev fW (m:Xae):Prop:=K0 "change" 14 118 pm0 ["move"] 1 λK=>spM K 1 .F (d9 1 1 m)
def m_change:Xae:=Subtype.val (p:=fW) ⟨_,λ{w mg} Y=>by
 show 9 2 ["move"] [SL,@N9 _ _ _ _ _ _ _ _ _ _ _ _ _ _ aI (aG (c:=true)) WU (bl Y).tuple_ M1 [ZP,[SG,F3 [SF,i8 (d8 (top 14)) _ ["move"] Zg,⟨rfl,Xac,Xac,Xac,Xac,Xaa,Xac,Xac⟩] rfl [Z0x,@gE,[Yd,[Tc,[Yh],[ZN]],[Tc,[Yh],[ZN]]]] [Tb,[Z0g,[nc,[kv,1,(Zg:ZK).Nodup,Or.inl rfl,.inr rfl],[nc,[kv,2,(Zg:ZK).Nodup,Or.inl rfl,.inr rfl],@K5 _]]]] [Z0m] (ic (R7 ([SK,1<=1]) (R7 ([SK,1<=2]) ie))) [Tb,@D8 _ _ _] [Tb,[WN,@c7,_,vQ,[i1,gSub],[Tn],[Td]]]]] Xaa Xaa WU WU]⟩
abbrev Be:[TR]:=d9 1 1 m_change
def cq:fW m_change:=[SD,fW]
abbrev jH (m:Xae):Prop:=K0 "after" 13 113 pm0 VN 3 λK=>spM K 2 .F (d9 2 2 m)
def m_after:Xae:=Subtype.val (p:=jH) ⟨_,λ{w mg} Y=>by
 show 9 3 VN [TF,@c8,[SV,[Z0a,[i2,@n9 _ _ _ _ _ _ _ _ _ _ _ _ _ _ _ _ (W1 Y).2 [Ws] [UH] WU (W1 Y).1.m [TK,W1] (W1 Y).1.b [Yd,[Yh],[Td]] Xaa WU WU]],[Tt,@Ew _ _ _ _ _],[SW]],[SL,@N9 _ _ _ _ _ _ _ _ _ _ _ _ _ _ aI (aG (c:=true)) WU (bl Y).tuple_ M1 [ZP,[SG,F3 [SF,i8 (d8 (top 13)) _ VN Zh,⟨rfl,Xac,Xac,Xac,Xac,Xaa,Xac,Xac⟩] rfl [Z0x,@gE,[Yd,[Yh],[i2,@n9 _ _ _ _ _ _ _ _ _ _ _ _ _ _ _ _ (cq Y).2 [Ws] [UH] WU (cq Y).1.m [TK,cq] (cq Y).1.b [ZP,[Td]] Xaa WU WU]]] [Tb,[Z0g,[nc,[kv,2,(Zh:ZK).Nodup,Or.inl rfl,.inr rfl],[nc,[kv,3,(Zh:ZK).Nodup,Or.inl rfl,.inr rfl],@K5 _]]]] [Z0m] (ic (R7 ([SK,2<=2]) (R7 ([SK,2<=3]) ie))) [Tb,@D8 _ _ _] [Tb,[WN,@c7,_,z9,[i1,F2],[Tn],[ZG,.B,3]]]]] Xaa Xaa WU WU]]⟩
abbrev qM:[TR]:=d9 2 2 m_after
def em:jH m_after:=[SD,jH]
abbrev aX (m:Xae):Prop:=K1 "stands_of" 31 206 pm1 Zi 4 λK=>spR K 3 .F (d9 3 7 m)
def m_stands_of:Xae:=Subtype.val (p:=aX) ⟨_,λ{w mg} Y=>by
 show wD (dk Y 4) λD=>fH D.F (N:=["moor","stand","row","stands","at","number","move"]) λhr nd=>[SU,[Tu,3,[SE,[ZP,[ZG,.V,1]]]],@O8 _ _ _ _ _ _ _ _ _ _ _ _ _ fG rfl (@Ka _ _ _ _ _ _ _ _ _ _ WU (bl Y).enumerate_ [ZP,[ZG,.U,2]] WU WU) [Z0g,[nc,[p7,4],[nc,[p7,5],@K5 _]]] [Z0m] [SU,@vh _ _ _ _ _ _ _ 6 _ _ nd rfl Xah (@e9 _ _ _ _ _ _ _ _ [Tc,[Yh],[ZN]] [ZG,.B,5] (by show λ_ _=>rfl) WU) WU Xai,[SV,[Z0a,[i2,@O9 _ _ _ _ _ _ _ _ _ _ _ _ _ _ _ _ _ (W1 Y).2 [Ws] [UH] WU (W1 Y).1.m [TK,W1] (W1 Y).1.b [Yd,[Tc,[ZG,.B,3],@zD _ _ _ _ _ _ _ _ _ _ _ lL (zZ (g:=jk) (λ_=>rfl) (λ_ _=>.int)) [ZN]],[ZG,.B,6]] Xaa WU WU]],[Tt,@Ev _ _ _ _ _ _ _ _ _ _ _ _ _ _ _ _ _ _ _ _ _ _ _ _ _ _ _ _ (kJ w).mak xf_I [UH] WU (gd Y) (C5 w) (xf_b w) [ZP,[ZG,.B,4]] Xaa Xaa WU WU],[SW]],[Tt,[Z0y,3,[SM,@v4,@O9 _ _ _ _ _ _ _ _ _ _ _ _ _ _ _ _ _ (em Y).2 [Ws] [UH] WU (em Y).1.m [TK,em] (em Y).1.b [Yd,[Tc,[ZG,.B,3],@zD _ _ _ _ _ _ _ _ _ _ _ lL (zZ (g:=jk) (λ_=>rfl) (λ_ _=>.int)) [ZN]],[ZG,.B,6]] Xaa WU WU]]]] (by intro _;rfl),[Tt,@db _ _ _ _ _ 3 _ _ [Ws] WU Xab Xaa Xaa]]⟩
abbrev aT:[TR]:=d9 3 7 m_stands_of
def V3:aX m_stands_of:=[SD,aX]
abbrev ue (m:Xae):Prop:=K1 "run" 30 199 pm1 Zi 5 λK=>spR K 3 .F (d9 3 3 m)
def m_run:Xae:=Subtype.val (p:=ue) ⟨_,λ{w mg} Y=>by
 show wD (dk Y 5) λD=>fH D.F (N:=Zi) λhr nd=>[SL,@mI _ _ _ _ _ [SM,@aP,[Z0G,[SM,@h9,@K4 _ _ _ _ _ _ _ _ _ _ _ _ _ _ _ _ _ _ _ _ _ _ _ _ _ _ _ _ _ (V3 Y).2 [Ws] [UH] WU (V3 Y).1.m [TK,V3] (V3 Y).1.b [I0,[Yh],[Yd,[Td],[Tn]]] Xaa WU WU],@zD _ _ _ _ _ _ _ _ _ _ _ lL (zZ (g:=jk) (λ_=>rfl) (λ_ _=>.int)) [ZN]]]]⟩
abbrev CN:[TR]:=d9 3 3 m_run
def lf:ue m_run:=[SD,ue]
abbrev S9 (m:Xae):Prop:=K0 "place_of_puts" 117 645 pm2 Vo 1 λK=>spM K 1 .F (d9 1 2 m)
def m_place_of_puts:Xae:=Subtype.val (p:=S9) ⟨_,λ{w mg} Y=>by
 show 9 6 ["words","at"] [TF,@c8,@O8 _ _ _ _ _ _ _ _ _ _ _ _ _ qF5 rfl (@JT _ _ _ _ _ _ _ _ _ _ _ WU (bl Y).range_ [TF,@x6,_,[I0,@m7 _ _ _ _ _ _ _ _ _ _ _ _ _ _ w8 w6 WU (bl Y).len_ qB8 [ZP,[Yh]] Xaa Xaa WU WU,[TF,@x6,_,@b7 _ _ _ _]]] WU WU) [p7,1] (@p9 _ _) [Tt,[SV,[Ti,o6,k9,[Tc,[Yh],[Td]],[ZS]],[Tt,@db _ _ _ _ _ 1 _ _ [Ws] WU Xab Xaa Xaa],[SW]]] (by intro _;rfl),[SL,@F8 _ _ _ _ _ _]]⟩
abbrev S4:[TR]:=d9 1 2 m_place_of_puts
def N5:S9 m_place_of_puts:=[SD,S9]
abbrev am (m:Xae):Prop:=K0 "is_made_of" 122 676 pm2 Zj 1 λK=>spM K 2 .F (d9 2 2 m)
def m_is_made_of:Xae:=Subtype.val (p:=am) ⟨_,λ{w mg} Y=>by
 show 9 7 Zj [SL,@dX _ _ _ _ _ _ _ _ _ _ [Z0K,V2,[Z01,gGt],@m7 _ _ _ _ _ _ _ _ _ _ _ _ _ _ S8 iB WU (bl Y).len_ qB8 [ZP,[Yh]] Xaa Xaa WU WU,[ZN]] (@gG _ _ _ _ _ _ _ _ (@m7 _ _ _ _ _ _ _ _ _ _ _ _ _ _ (xJ rfl) (Hj (g:=tD)) WU (bl Y).all_ Om [ZP,[Z0H,F3 [SF,i8 (d8 (top 122)) _ Zj ["word","signs","sign"],⟨rfl,Xac,Xac,Xac,Xac,Xaa,Xac,Xac⟩] rfl [Tv,@JW,_,[Yh]] [Tb,[kv,2,(["word","signs","sign"]:ZK).Nodup,Or.inl rfl,.inr rfl]] (@p9 _ _) (B9 ([SK,2<=2])) [Tb,@D8 _ _ _] [Tb,[Z0K,vS,KC,[Tn],[Td]]]]] Xaa Xaa WU WU))]⟩
abbrev O2:[TR]:=d9 2 2 m_is_made_of
def C8:am m_is_made_of:=[SD,am]
abbrev O6 (m:Xae):Prop:=K1 "must_be_new_name" 121 671 pm2 ["word","known"] 2 λK=>spR K 2 .F (d9 2 2 m)
def m_must_be_new_name:Xae:=Subtype.val (p:=O6) ⟨_,λ{w mg} Y=>by
 obtain ⟨T,I⟩:=(cs Y).LONGEST_NAME;obtain ⟨a3,O⟩:=(cs Y).LETTERS;show wD (dk Y 8) λD=>fH D.F (N:=["word","known"]) λhr nd=>[TF,@c8,[SV,[Z0n,[Z0a,[i2,@O9 _ _ _ _ _ _ _ _ _ _ _ _ _ _ _ _ _ (C8 Y).2 [Ws] [UH] WU (C8 Y).1.m [TK,C8] (C8 Y).1.b [Yd,[Yh],@qj _ _ _ _ _ _ _ _ rfl O Xaa] Xaa WU WU]],[Ti,V2,[Z01,gGt],@m7 _ _ _ _ _ _ _ _ _ _ _ _ _ _ S8 iB WU (bl Y).len_ qB8 [ZP,[Yh]] Xaa Xaa WU WU,@U0 _ _ _ _ _ _ _ _ rfl I Xaa]],[Tt,@E6 _ _ _ _ _ _ _ _ _ _ _ _ _ _ _ _ _ _ _ _ _ _ _ _ (y6 w) WU (y8 Y) (j0 w) [ZP,[ZS]] Xaa WU WU],[SW]],[Tt,[SV,@vt _ _ _ _ _ _ 1 _ _ (A7 hr) rfl Xab [Yh] Xaa Xaa WU,[Tt,@E6 _ _ _ _ _ _ _ _ _ _ _ _ _ _ _ _ _ _ _ _ _ _ _ _ (y6 w) WU (y8 Y) (j0 w) [ZP,[ZS]] Xaa WU WU],[SW]]]]⟩
abbrev W4:[TR]:=d9 2 2 m_must_be_new_name
def v5:O6 m_must_be_new_name:=[SD,O6]
abbrev cK (m:Xae):Prop:=K0 "count_of" 120 664 pm2 ["word"] 2 λK=>spM K 1 .F (d9 1 2 m)
def m_count_of:Xae:=Subtype.val (p:=cK) ⟨_,λ{w mg} Y=>by
 obtain ⟨O,Uh⟩:=(cs Y).GREATEST_COUNT;obtain ⟨T,I⟩:=(cs Y).FIGURES;show 9 9 ["word","number"] [SU,[SV,[Z0n,[Ti,V2,[Z01,gGt],@m7 _ _ _ _ _ _ _ _ _ _ _ _ _ _ S8 iB WU (bl Y).len_ qB8 [ZP,[Yh]] Xaa Xaa WU WU,@m7 _ _ _ _ _ _ _ _ _ _ _ _ _ _ S8 iB WU (bl Y).len_ qB8 [ZP,@N9 _ _ _ _ _ _ _ _ _ _ _ _ _ _ E9 cI WU (bl Y).str_ R0 [ZP,@U0 _ _ _ _ _ _ _ _ rfl Uh Xaa] Xaa Xaa WU WU] Xaa Xaa WU WU],[Z0a,[i2,@n9 _ _ _ _ _ _ _ _ _ _ _ _ _ _ _ _ (C8 Y).2 [Ws] [UH] WU (C8 Y).1.m [TK,C8] (C8 Y).1.b [Yd,[Yh],@qj _ _ _ _ _ _ _ _ rfl I Xaa] Xaa WU WU]]],[SL,@F8 _ _ _ _ _ _],[SW]],[Tu,1,@N9 _ _ _ _ _ _ _ _ _ _ _ _ _ _ xG On WU (bl Y).int_ oK [ZP,[Yh]] Xaa Xaa WU WU],[SL,@JV _ _ _ _ _ _ _ _ _ _ _ (PW.pt (@gF _ _ _ _ _ _ _ _ _ [Ti,o6,k9,@N9 _ _ _ _ _ _ _ _ _ _ _ _ _ _ E9 cI WU (bl Y).str_ R0 [ZP,[Td]] Xaa Xaa WU WU,[Yh]] (@dW _ _ _ _ _ _ [Ti,cf,[Z01,gLe],[Td],@U0 _ _ _ _ _ _ _ _ rfl Uh Xaa]))) [ZG,.F,1] (@F8 _ _ _ _ _ _)]]⟩
abbrev S5:[TR]:=d9 1 2 m_count_of
def t9:cK m_count_of:=[SD,cK]
abbrev al (m:Xae):Prop:=K1 "read_count" 119 657 pm2 ["word","fewest"] 3 λK=>spR K 2 .F (d9 2 3 m)
def m_read_count:Xae:=Subtype.val (p:=al) ⟨_,λ{w mg} Y=>by
 show wD (dk Y 10) λD=>fH D.F (N:=["word","fewest","number"]) λhr nd=>[SU,[Tu,2,@O9 _ _ _ _ _ _ _ _ _ _ _ _ _ _ _ _ _ (t9 Y).2 [Ws] [UH] WU (t9 Y).1.m [TK,t9] (t9 Y).1.b [ZP,[Yh]] Xaa WU WU],[SV,[Z0n,[Ti,di,dl,[Tn],@F8 _ _ _ _ _ _],[Ti,kZ,[Z01,gLt],[Tn],[Td]]],[Tt,@E6 _ _ _ _ _ _ _ _ _ _ _ _ _ _ _ _ _ _ _ _ _ _ _ _ (y6 w) WU (y8 Y) (j0 w) [ZP,[ZS]] Xaa WU WU],[SW]],[Tt,@db _ _ _ _ _ 2 _ _ [Ws] WU Xab Xaa Xaa]]⟩
abbrev dA:[TR]:=d9 2 3 m_read_count
def C7:al m_read_count:=[SD,al]
abbrev X0 (m:Xae):Prop:=K1 "read_counts" 118 650 pm2 Zk 4 λK=>spR K 2 .F (d9 2 5 m)
def m_read_counts:Xae:=Subtype.val (p:=X0) ⟨_,λ{w mg} Y=>by
 show wD (dk Y 11) λD=>fH D.F (N:=Zs) λhr nd=>[TF,@c8,[SV,[Ti,o6,k9,[fx,@m7 _ _ _ _ _ _ _ _ _ _ _ _ _ _ w8 w6 WU (bl Y).len_ qB8 [ZP,[Yh]] Xaa Xaa WU WU],[ZN]],[Tt,@E6 _ _ _ _ _ _ _ _ _ _ _ _ _ _ _ _ _ _ _ _ _ _ _ _ (y6 w) WU (y8 Y) (j0 w) [ZP,[ZS]] Xaa WU WU],[SW]],[SU,@iW _ _ _ _ _ 2 _ _ _ nd rfl Xah WU Xah,@O8 _ _ _ _ _ _ _ _ _ _ _ _ _ fG rfl [Z0x,@mD,[Yd,@aP _ _ _ _ _ (@v4 _ _ _ _ _ (@Ck _ _ _ _ _ _ false _ _ _ _ _ [Yh] (@T9 _ _ _) (@L4 _ _ _ _ _ [ZN]) WU)),@aP _ _ _ _ _ (@v4 _ _ _ _ _ (@Ck _ _ _ _ _ _ false _ _ _ _ _ [Yh] (@L4 _ _ _ _ _ [ZN]) (@L4 _ _ _ _ _ [ZN]) WU))]] [Z0g,[nc,[p7,3],[nc,[p7,4],@K5 _]]] [Z0m] [TF,@c8,[SV,[Z0n,@vq _ _ _ _ _ _ 1 _ _ (A7 hr) rfl Xab [ZG,.B,4] Xaa Xaa WU,@vt _ _ _ _ _ _ 2 _ _ (A7 hr) rfl Xab [ZG,.B,4] Xaa Xaa WU],[Tt,@E6 _ _ _ _ _ _ _ _ _ _ _ _ _ _ _ _ _ _ _ _ _ _ _ _ (y6 w) WU (y8 Y) (j0 w) [ZP,[ZS]] Xaa WU WU],[SW]],[Tt,@Ey _ _ _ _ _ _ _ _ _ 2 _ _ _ (A7 hr) rfl Xab [ZG,.B,4] [SM,@v4,@K4 _ _ _ _ _ _ _ _ _ _ _ _ _ _ _ _ _ _ _ _ _ _ _ _ _ _ _ _ _ (C7 Y).2 [Ws] [UH] WU (C7 Y).1.m [TK,C7] (C7 Y).1.b [I0,[ZG,.B,3],[TF,@x6,_,@b7 _ _ _ _]] Xaa WU WU] Xaa Xaa WU]] (by intro _;rfl),[SL,@N9 _ _ _ _ _ _ _ _ _ _ _ _ _ _ aI (aG (c:=true)) WU (bl Y).tuple_ M1 [ZP,[SG,F3 [SF,i8 (d8 (top 118)) _ Zs Zt,⟨rfl,Xac,Xac,Xac,Xac,Xaa,Xac,Xac⟩] rfl (@JX _ _ _ _ _ 1 _ _ rfl Xab Xaa Xaa) [Tb,[kv,5,(Zt:ZK).Nodup,Or.inl rfl,.inr rfl]] (@p9 _ _) (B9 ([SK,5<=5])) [Tb,@D8 _ _ _] [Tb,@JY _ _ _ _ _ _ _ 2 _ _ _ _ rfl Xab [ZG,.B,5] [ZN] WU Xaa Xaa WU WU WU WU WU WU]]] Xaa Xaa WU WU]]]⟩
abbrev cQ:[TR]:=d9 2 5 m_read_counts
def B6:X0 m_read_counts:=[SD,X0]
abbrev aY (m:Xae):Prop:=K1 "read_move" 116 638 pm2 ["words","begin","moves"] 5 λK=>cX K 3 (d9 3 4 m)
def m_read_move:Xae:=Subtype.val (p:=aY) ⟨_,λ{w mg} Y=>by
 show wD (dk Y 12) λD=>Kx D.F (N:=["words","begin","moves","middle"]) λhr nd=>(@bv _ _ _ .F _ _ _ _ [Tu,3,@O9 _ _ _ _ _ _ _ _ _ _ _ _ _ _ _ _ _ (N5 Y).2 [Ws] [UH] WU (N5 Y).1.m [TK,N5] (N5 Y).1.b [ZP,[Yh]] Xaa WU WU] (@bv _ _ _ .F _ _ _ _ [SV,[Z0n,[Ti,dh (A7 hr),A6 (neg:=true),[Z0H,@aO _ _ _ _ _ _ false _ _ _ _ _ [Yh] (@L4 _ _ _ _ _ [ZN]) (@L4 _ _ _ _ _ [ZN]) WU],@j9 _ _ _ _ _ [SG,[SE,[ZP,[ZS]]]]],[Ti,di,dl,[ZG,.B,3],@F8 _ _ _ _ _ _]],[Tt,@E6 _ _ _ _ _ _ _ _ _ _ _ _ _ _ _ _ _ _ _ _ _ _ _ _ (y6 w) WU (y8 Y) (j0 w) [ZP,[ZS]] Xaa WU WU],[SW]] (@bv _ _ _ .F _ _ _ _ [TF,@vp,@K4 _ _ _ _ _ _ _ _ _ _ _ _ _ _ _ _ _ _ _ _ _ _ _ _ _ _ _ _ _ (v5 Y).2 [Ws] [UH] WU (v5 Y).1.m [TK,v5] (v5 Y).1.b [Yd,[Tc,[Yh],[ZN]],[Tn]] Xaa WU WU,WU] [SM,@qh,@vj _ _ _ _ _ _ _ _ 2 _ _ _ (A7 hr) rfl Xab [Tc,[Yh],[ZN]] [Z0W,[Yd,[SM,@v4,@K4 _ _ _ _ _ _ _ _ _ _ _ _ _ _ _ _ _ _ _ _ _ _ _ _ _ _ _ _ _ (B6 Y).2 [Ws] [UH] WU (B6 Y).1.m [TK,B6] (B6 Y).1.b [Yd,[Z0H,@aO _ _ _ _ _ _ false _ _ _ _ _ [Yh] (@L4 _ _ _ _ _ [ZN]) (@L4 _ _ _ _ _ [ZG,.B,3]) WU],[Td]] Xaa WU WU],[SM,@v4,@K4 _ _ _ _ _ _ _ _ _ _ _ _ _ _ _ _ _ _ _ _ _ _ _ _ _ _ _ _ _ (B6 Y).2 [Ws] [UH] WU (B6 Y).1.m [TK,B6] (B6 Y).1.b [Yd,[Z0H,@aO _ _ _ _ _ _ false _ _ _ _ _ [Yh] (@L4 _ _ _ _ _ [WN,@c7,_,z9,[i1,F2],[ZG,.B,3],[ZN]]) (@T9 _ _ _) WU],[Td]] Xaa WU WU]]] Xaa Xaa WU])))⟩
abbrev Q8:[TR]:=d9 3 4 m_read_move
def V4:aY m_read_move:=[SD,aY]
abbrev ak (m:Xae):Prop:=K1 "read_place" 115 631 pm2 Zk 4 λK=>cX K 2 (d9 2 2 m)
def m_read_place:Xae:=Subtype.val (p:=ak) ⟨_,λ{w mg} Y=>by
 show wD (dk Y 13) λD=>Kx D.F (N:=Zk) λhr nd=>(@bv _ _ _ .F _ _ _ _ [SV,[Ti,Cp,vV,@m7 _ _ _ _ _ _ _ _ _ _ _ _ _ _ w8 w6 WU (bl Y).len_ qB8 [ZP,[Yh]] Xaa Xaa WU WU,[ZN]],[Tt,@E6 _ _ _ _ _ _ _ _ _ _ _ _ _ _ _ _ _ _ _ _ _ _ _ _ (y6 w) WU (y8 Y) (j0 w) [ZP,[ZS]] Xaa WU WU],[SW]] (@bv _ _ _ .F _ _ _ _ [TF,@vp,@K4 _ _ _ _ _ _ _ _ _ _ _ _ _ _ _ _ _ _ _ _ _ _ _ _ _ _ _ _ _ (v5 Y).2 [Ws] [UH] WU (v5 Y).1.m [TK,v5] (v5 Y).1.b [Yd,[Tc,[Yh],[ZN]],[Td]] Xaa WU WU,WU] [SM,@qh,@vj _ _ _ _ _ _ _ _ 1 _ _ _ (A7 hr) rfl Xab [Tc,[Yh],[ZN]] [SM,@v4,@K4 _ _ _ _ _ _ _ _ _ _ _ _ _ _ _ _ _ _ _ _ _ _ _ _ _ _ _ _ _ (C7 Y).2 [Ws] [UH] WU (C7 Y).1.m [TK,C7] (C7 Y).1.b [I0,[Tc,[Yh],[ZN]],[TF,@x6,_,@b7 _ _ _ _]] Xaa WU WU] Xaa Xaa WU]))⟩
abbrev D4:[TR]:=d9 2 2 m_read_place
def S1:ak m_read_place:=[SD,ak]
abbrev oZ (m:Xae):Prop:=K1 "read" 114 624 pm2 ["text"] 6 λK=>spR K 1 .V (d9 1 6 m)
def m_read:Xae:=Subtype.val (p:=oZ) ⟨_,λ{w mg} Y=>by
 obtain ⟨O,Uf⟩:=(cs Y).MOST_PLACES;obtain ⟨T,I⟩:=(cs Y).MOST_MOVES;show wD (dk Y 14) λD=>fH D.F (N:=["text","begin","moves","part","words","moor"]) λhr nd=>[TF,@c8,[SV,[Z0a,@m7 _ _ _ _ _ _ _ _ _ _ _ _ _ _ ah iC WU (bl Y).isinstance_ qC3 [Yd,[Yh],@fD _ _ _ _ _ _ _ WU (bl Y).str_ R0 Xaa Xaa] Xaa Xaa WU WU],[Tt,@E6 _ _ _ _ _ _ _ _ _ _ _ _ _ _ _ _ _ _ _ _ _ _ _ _ (y6 w) WU (y8 Y) (j0 w) [ZP,[ZS]] Xaa WU WU],[SW]],[SU,@iW _ _ _ _ _ 1 _ _ _ nd rfl Xah WU Xah,@iW _ _ _ _ _ 2 _ _ _ nd rfl Xah WU Xah,[SU,@O8 _ _ _ _ _ _ _ _ _ _ _ _ _ fG rfl [Tv,@vo,@aP _ _ _ _ _ (@v4 _ _ _ _ _ (@iU _ _ _ _ _ _ _ _ _ [Yh] [ZS] WU WU WU WU WU WU)),WU] [p7,3] (@p9 _ _) [TF,@c8,[Tu,4,@iU _ _ _ _ _ _ _ _ _ [ZG,.B,3] [ZS] WU WU WU WU WU WU],[Tt,[SV,[Ti,o6,k9,[Tc,[ZG,.B,4],[ZN]],[ZS]],[Tt,@vw _ _ _ _ _ _ _ _ _ _ _ _ _ _ _ _ _ _ 1 2 _ _ _ _ _ _ _ _ _ _ _ _ _ _ rfl Xab rfl Xab (V4 Y).2 [UH] WU (V4 Y).1.m [TK,V4] (V4 Y).1.b [ZG,.B,4] Xaa Xaa Xaa Xaa Xaa WU WU WU WU WU],[Tt,[SV,PW.pt (@gF _ _ _ _ _ _ _ _ _ [Ti,o6,k9,[Tc,[ZG,.B,4],[ZN]],[ZS]] (@dW _ _ _ _ _ _ [Ti,o6,k9,@mH _ _ _ _ _ 2 _ _ _ WU (bl Y).len_ rfl Xab Xaa Xaa WU WU,[ZN]])),[Tt,@vx _ _ _ _ _ _ _ _ _ _ _ _ _ _ _ _ _ _ 1 _ _ _ _ _ _ _ _ _ _ _ _ rfl Xab (S1 Y).2 [UH] WU (S1 Y).1.m [TK,S1] (S1 Y).1.b [ZG,.B,4] Xaa Xaa Xaa WU WU WU WU],[Tt,@E6 _ _ _ _ _ _ _ _ _ _ _ _ _ _ _ _ _ _ _ _ _ _ _ _ (y6 w) WU (y8 Y) (j0 w) [ZP,[ZS]] Xaa WU WU]]]]]] (by intro _;rfl),[SV,[Z0n,@M3 _ _ _ _ _ _ (@zE _ _ _ _ _ _ _ _ _ _ _ _ _ _ _ _ _ cf [Z01,gLe] cf [Z01,gLe] [ZN] (@mH _ _ _ _ _ 1 _ _ _ WU (bl Y).len_ rfl Xab Xaa Xaa WU WU) (@U0 _ _ _ _ _ _ _ _ rfl Uf Xaa) (by with_unfolding_all rfl)),[Ti,V2,[Z01,gGt],@mH _ _ _ _ _ 2 _ _ _ WU (bl Y).len_ rfl Xab Xaa Xaa WU WU,@U0 _ _ _ _ _ _ _ _ rfl I Xaa]],[Tt,@E6 _ _ _ _ _ _ _ _ _ _ _ _ _ _ _ _ _ _ _ _ _ _ _ _ (y6 w) WU (y8 Y) (j0 w) [ZP,[ZS]] Xaa WU WU],[SW]],[TF,@c8,[Tu,5,[Tv,@J0,_,[Yd,[SM,@v4,@qg _ _ _ _ 1 _ _ _ _ _ rfl WU (bl Y).tuple_ rfl Xab Xaa Xaa WU WU WU],[SM,@v4,@qg _ _ _ _ 2 _ _ _ _ _ rfl WU (bl Y).tuple_ rfl Xab Xaa Xaa WU WU WU]]]],[SL,[Z0W,[I0,[ZG,.V,5],[Yd,@v4 _ _ _ _ _ (@qi _ _ _ _ 1 _ _ _ rfl WU (bl Y).list_ rfl Xab Xaa Xaa WU WU),@v4 _ _ _ _ _ (@qi _ _ _ _ 2 _ _ _ rfl WU (bl Y).list_ rfl Xab Xaa Xaa WU WU)]]]]]]]]⟩
abbrev W3:[TR]:=d9 1 6 m_read
def gL:oZ m_read:=[SD,oZ]
abbrev U8 (m:Xae):Prop:=K0 "shown_counts" 124 686 pm2 Zl 1 λK=>spM K 2 .F (d9 2 2 m)
def m_shown_counts:Xae:=Subtype.val (p:=U8) ⟨_,λ{w mg} Y=>by
 show 9 15 Zl [SL,F3 [SF,i8 (d8 (top 124)) _ Zl Zm,⟨rfl,Xac,Xac,Xac,Xac,Xaa,Xac,Xac⟩] rfl [Z0x,@gE,[Yd,[Td],[Yh]]] [Tb,[Z0g,[nc,[kv,2,(Zm:ZK).Nodup,Or.inl rfl,.inr rfl],[nc,[kv,3,(Zm:ZK).Nodup,Or.inl rfl,.inr rfl],@K5 _]]]] [Z0m] (ic (R7 ([SK,2<=2]) (R7 ([SK,2<=3]) ie))) [Tb,@mF _ _ _ _ _ [Ti,V2,[Z01,gGt],[ZG,.B,3],[ZN]]] [Tb,[TF,@JZ,_,QPts.val [ZG,.B,3] (QPts.str Xaa (QPts.val [Tn] QPts.nil))]]]⟩
abbrev jp:[TR]:=d9 2 2 m_shown_counts
def A5:U8 m_shown_counts:=[SD,U8]
abbrev jG (m:Xae):Prop:=K0 "shown" 123 681 pm2 ["moor","places","moves"] 2 λK=>spM K 3 .F (d9 3 7 m)
def m_shown:Xae:=Subtype.val (p:=jG) ⟨_,λ{w mg} Y=>by
 show 9 16 Zu [SU,Y7 (i:=3) [SF,i8 (d8 (top 123)) _ Zu Zn,⟨rfl,Xac,Xac,Xac,Xac,Xaa,Xac,Xac⟩] rfl [Z0x,@gE,[Yd,[Td],[Tc,[Yh],[ZN]]]] [Tb,[Z0g,[nc,[kv,7,(Zn:ZK).Nodup,Or.inl rfl,.inr rfl],[nc,[kv,8,(Zn:ZK).Nodup,Or.inl rfl,.inr rfl],@K5 _]]]] [Z0m] (ic (R7 ([SK,7<=7]) (R7 ([SK,7<=8]) ie))) [Tb,@D8 _ _ _] [Tb,[TF,@JZ,_,QPts.str Xaa (QPts.val [ZG,.B,7] (QPts.str Xaa (QPts.val [ZG,.B,8] QPts.nil)))]] nd rfl Xah,@O8 _ _ _ _ _ _ _ _ _ _ _ _ _ qF5 rfl [Z0x,@mD,[Yd,[ZG,.U,2],@e9 _ _ _ _ _ _ _ _ [Yh] [ZN] (by show λ_ _=>rfl) WU]] [Z0g,[nc,[p7,4],[nc,[p7,5],@K5 _]]] [Z0m] [TF,@c8,[Tu,6,[Z06,[SG,[Z06,[SG,[Z06,[SG,[SE,[Tk,[Yd,[ZG,.V,4],[ZS]]]]],[SM,@h9,@n9 _ _ _ _ _ _ _ _ _ _ _ _ _ _ _ _ (A5 Y).2 [Ws] [UH] WU (A5 Y).1.m [TK,A5] (A5 Y).1.b [Yd,[Tc,[ZG,.B,5],[ZN]],[Td]] Xaa WU WU]]],[SG,[SE,[ZP,[ZS]]]]]],[SM,@h9,@n9 _ _ _ _ _ _ _ _ _ _ _ _ _ _ _ _ (A5 Y).2 [Ws] [UH] WU (A5 Y).1.m [TK,A5] (A5 Y).1.b [Yd,[Tc,[ZG,.B,5],[ZN]],[Td]] Xaa WU WU]]],[Tt,[Z0y,3,[Z0I,[ZG,.B,6]]]]] (by intro _;rfl),[SL,[Z0I,[ZG,.B,3]]]]⟩
abbrev qL:[TR]:=d9 3 7 m_shown
def ej:jG m_shown:=[SD,jG]
abbrev cJ (m:Xae):Prop:=K0 "is_bound" 133 750 pm3 ["word"] 3 λK=>spM K 1 .F (d9 1 2 m)
def m_is_bound:Xae:=Subtype.val (p:=cJ) ⟨_,λ{w mg} Y=>by
 obtain ⟨O,I⟩:=(cs Y).GREATEST_BOUND;show 9 17 ["word","number"] [TF,@c8,[Tu,1,@n9 _ _ _ _ _ _ _ _ _ _ _ _ _ _ _ _ (t9 Y).2 [Ws] [UH] WU (t9 Y).1.m [TK,t9] (t9 Y).1.b [ZP,[Yh]] Xaa WU WU],[SL,@dX _ _ _ _ _ _ _ _ _ _ [Z0K,eh,eA,[Td],@F8 _ _ _ _ _ _] (@gG _ _ _ _ _ _ _ _ (@qk _ _ _ _ _ _ _ _ _ _ _ _ _ _ _ _ _ _ cf [Z01,gLe] cf [Z01,gLe] [ZN] [Td] (@U0 _ _ _ _ _ _ _ _ rfl I Xaa) (by with_unfolding_all rfl)))]]⟩
abbrev tH:[TR]:=d9 1 2 m_is_bound
def X8:cJ m_is_bound:=[SD,cJ]
abbrev bc (m:Xae):Prop:=K0 "counts_of" 135 762 pm3 Vo 3 λK=>spM K 1 .F (d9 1 1 m)
def m_counts_of:Xae:=Subtype.val (p:=bc) ⟨_,λ{w mg} Y=>by
 show 9 18 Vo [SL,@N9 _ _ _ _ _ _ _ _ _ _ _ _ _ _ aI (aG (c:=true)) WU (bl Y).tuple_ M1 [ZP,[SG,F3 [SF,i8 (d8 (top 135)) _ Vo ["words","word"],⟨rfl,Xac,Xac,Xac,Xac,Xaa,Xac,Xac⟩] rfl [Tv,@df,[Yh],WU] [Tb,[kv,1,(["words","word"]:ZK).Nodup,Or.inl rfl,.inr rfl]] (@p9 _ _) (B9 ([SK,1<=1])) [Tb,@D8 _ _ _] [Tb,[SM,@v4,@n9 _ _ _ _ _ _ _ _ _ _ _ _ _ _ _ _ (t9 Y).2 [Ws] [UH] WU (t9 Y).1.m [TK,t9] (t9 Y).1.b [ZP,[Td]] Xaa WU WU]]]] Xaa Xaa WU WU]⟩
abbrev pH:[TR]:=d9 1 1 m_counts_of
def V5:bc m_counts_of:=[SD,bc]
abbrev aq (m:Xae):Prop:=K0 "are_counts" 134 757 pm3 Vo 4 λK=>spM K 1 .F (d9 1 1 m)
def m_are_counts:Xae:=Subtype.val (p:=aq) ⟨_,λ{w mg} Y=>by
 show 9 19 Vo [SL,[Z0K,vR (A7 hr),sK (neg:=true),@F8 _ _ _ _ _ _,[i2,@n9 _ _ _ _ _ _ _ _ _ _ _ _ _ _ _ _ (V5 Y).2 [Ws] [UH] WU (V5 Y).1.m [TK,V5] (V5 Y).1.b [ZP,[Yh]] Xaa WU WU]]]⟩
abbrev nY:[TR]:=d9 1 1 m_are_counts
def C9:aq m_are_counts:=[SD,aq]
abbrev ao (m:Xae):Prop:=K0 "is_fitting" 136 769 pm3 ["how_many","many"] 1 λK=>spM K 2 .F (d9 2 2 m)
def m_is_fitting:Xae:=Subtype.val (p:=ao) ⟨_,λ{w mg} Y=>by
 obtain ⟨I,O⟩:=(cs Y).MOST_PLACES;show 9 20 ["how_many","many"] [SL,@JV _ _ _ _ _ _ _ _ _ _ _ [Ti,V2,[Z01,gGt],[Td],[ZN]] [Z0K,E7 (A7 hr),A6 (neg:=false),[Yh],[Td]] (@qk _ _ _ _ _ _ _ _ _ _ _ _ _ _ _ _ _ _ cf [Z01,gLe] cf [Z01,gLe] [ZN] [Yh] (@U0 _ _ _ _ _ _ _ _ rfl O Xaa) (by with_unfolding_all rfl))]⟩
abbrev nW:[TR]:=d9 2 2 m_is_fitting
def S2:ao m_is_fitting:=[SD,ao]
abbrev fT (m:Xae):Prop:=K0 "is_row" 132 743 pm3 ["words","many"] 5 λK=>spM K 2 .F (d9 2 3 m)
def m_is_row:Xae:=Subtype.val (p:=fT) ⟨_,λ{w mg} Y=>by
 show 9 21 ["words","many","rest"] [SU,[Tu,2,@aO _ _ _ _ _ _ false _ _ _ _ _ [Yh] (@L4 _ _ _ _ _ [ZN]) (@T9 _ _ _) WU],[SV,@mE _ _ _ _ _ _ _ _ _ WU (oz Y) [Tc,[Yh],[ZN]] WU Xaa WU,[SL,[Z0K,o6,k9,@m7 _ _ _ _ _ _ _ _ _ _ _ _ _ _ w8 w6 WU (bl Y).len_ qB8 [ZP,[Tn]] Xaa Xaa WU WU,[ZN]]],[SW]],[SU,[SV,@mE _ _ _ _ _ _ _ _ _ WU (kG Y) [Tc,[Yh],[ZN]] WU Xaa WU,[SL,[Z0K,o6,k9,@m7 _ _ _ _ _ _ _ _ _ _ _ _ _ _ w8 w6 WU (bl Y).len_ qB8 [ZP,[Tn]] Xaa Xaa WU WU,[ZN]]],[SW]],[SV,@mE _ _ _ _ _ _ _ _ _ WU (iq Y) [Tc,[Yh],[ZN]] WU Xaa WU,[SL,@dX _ _ _ _ _ _ _ _ _ _ [i2,@n9 _ _ _ _ _ _ _ _ _ _ _ _ _ _ _ _ (C9 Y).2 [Ws] [UH] WU (C9 Y).1.m [TK,C9] (C9 Y).1.b [ZP,[Tn]] Xaa WU WU] (@gG _ _ _ _ _ _ _ _ (@n9 _ _ _ _ _ _ _ _ _ _ _ _ _ _ _ _ (S2 Y).2 [Ws] [UH] WU (S2 Y).1.m [TK,S2] (S2 Y).1.b [Yd,@m7 _ _ _ _ _ _ _ _ _ _ _ _ _ _ w8 w6 WU (bl Y).len_ qB8 [ZP,[Tn]] Xaa Xaa WU WU,[Td]] Xaa WU WU))],[SW]],[SU,[SV,[Ti,o6,k9,[Tc,[Yh],[ZN]],[ZS]],[SL,[Z0K,V2,[Z01,gGt],@m7 _ _ _ _ _ _ _ _ _ _ _ _ _ _ w8 w6 WU (bl Y).len_ qB8 [ZP,[Tn]] Xaa Xaa WU WU,[ZN]]],[SW]],[SV,[Ti,o6,k9,[Tc,[Yh],[ZN]],[ZS]],[SL,@dX _ _ _ _ _ _ _ _ _ _ [Z0K,o6,k9,@m7 _ _ _ _ _ _ _ _ _ _ _ _ _ _ w8 w6 WU (bl Y).len_ qB8 [ZP,[Tn]] Xaa Xaa WU WU,[ZN]] (@gG _ _ _ _ _ _ _ _ (@n9 _ _ _ _ _ _ _ _ _ _ _ _ _ _ _ _ (C9 Y).2 [Ws] [UH] WU (C9 Y).1.m [TK,C9] (C9 Y).1.b [ZP,[Z0H,@aO _ _ _ _ _ _ true _ _ _ _ _ [ZG,.C,2] (@L4 _ _ _ _ _ [ZN]) (@T9 _ _ _) WU]] Xaa WU WU))],[SW]],[SL,@dX _ _ _ _ _ _ _ _ _ _ [Z0K,o6,k9,[Tc,[Yh],[ZN]],[ZS]] (@dX _ _ _ _ _ _ _ _ _ _ [Z0K,o6,k9,@m7 _ _ _ _ _ _ _ _ _ _ _ _ _ _ w8 w6 WU (bl Y).len_ qB8 [ZP,[Tn]] Xaa Xaa WU WU,[ZN]] (@gG _ _ _ _ _ _ _ _ (@n9 _ _ _ _ _ _ _ _ _ _ _ _ _ _ _ _ (X8 Y).2 [Ws] [UH] WU (X8 Y).1.m [TK,X8] (X8 Y).1.b [ZP,[Tc,[Tn],[ZN]]] Xaa WU WU)))]]]]⟩
abbrev L8:[TR]:=d9 2 3 m_is_row
def ci:fT m_is_row:=[SD,fT]
abbrev aZ (m:Xae):Prop:=K1 "number_of" 137 776 pm3 ["name","names"] 1 λK=>spR K 2 .F (d9 2 2 m)
def m_number_of:Xae:=Subtype.val (p:=aZ) ⟨_,λ{w mg} Y=>by
 show wD (dk Y 22) λD=>fH D.F (N:=["name","names"]) λhr nd=>[TF,@c8,[SV,[Ti,vR (A7 hr),sK (neg:=true),[Yh],[Td]],[Tt,@E6 _ _ _ _ _ _ _ _ _ _ _ _ _ _ _ _ _ _ _ _ _ _ _ _ (kA w) WU (aJ Y) (v8 w) [ZP,[ZS]] Xaa WU WU],[SW]],[SL,@Ex _ _ _ _ _ _ _ _ _ _ (A7 hr) [Td] [Yh] WU WU WU WU WU WU]]⟩
abbrev V7:[TR]:=d9 2 2 m_number_of
def y9:aZ m_number_of:=[SD,aZ]
abbrev fS (m:Xae):Prop:=K0 "spaced" 138 781 pm3 ["things"] 1 λK=>spM K 1 .F (d9 1 1 m)
def m_spaced:Xae:=Subtype.val (p:=fS) ⟨_,λ{w mg} Y=>by
 show 9 23 ["things"] [SL,[Z0I,[Z0H,F3 [SF,i8 (d8 (top 138)) _ ["things"] ["things","thing"],⟨rfl,Xac,Xac,Xac,Xac,Xaa,Xac,Xac⟩] rfl [Tv,@df,[Yh],WU] [Tb,[kv,1,(["things","thing"]:ZK).Nodup,Or.inl rfl,.inr rfl]] (@p9 _ _) (B9 ([SK,1<=1])) [Tb,@D8 _ _ _] [Tb,@N9 _ _ _ _ _ _ _ _ _ _ _ _ _ _ E9 cI WU (bl Y).str_ R0 [ZP,[Td]] Xaa Xaa WU WU]]]]⟩
abbrev Bd:[TR]:=d9 1 1 m_spaced
def cg:fS m_spaced:=[SD,fS]
abbrev X2 (m:[p5]):Prop:=∀{P:Program}{w:World}{mg:ZZ}{base:Heap},En w mg->FnOk P w [ZH] mg base (CXW P w) 4 729 (FM "answer" "Desk.answer" (dm "answer") 728) Vb (spO [ZH] (XE1 (hk w)) dC 0 2 (t7 0 2 5 dC m))
def m_Desk_answer:[p5]:=Subtype.val (p:=X2) ⟨λp=>_,λ{P w mg base} Y=>by
 show okQ (dF w) (N:=["self","words","first","moor","place"]) λp=>λhr nd=>[Tf,[gV,@vh _ _ _ _ _ _ _ 2 _ _ nd rfl Xah (@e9 _ _ _ _ _ _ _ _ [Td] [ZN] (by show λ_ _=>rfl) WU) WU Xai],[Tf,[Sv,[Ti,o6,k9,[Tn],[ZS]],[Tv,@k7,_,[TF,@F7,0,[SM,@v4,@O9 _ _ _ _ _ _ _ _ _ _ _ _ _ _ _ _ _ (ej Y).2 [Ws] [UH] WU (ej Y).1.m [TK,ej] (ej Y).1.b [I0,[Z0U,@F9 _ _ _ _ _ dNs 0 0 _ _ _ rfl Xab (t6 w) (G0 w) Xaa WU Xaa Xaa WU],[Yd,[Z0U,@F9 _ _ _ _ _ dNs 0 1 _ _ _ rfl Xab (t6 w) (O3 w) Xaa WU Xaa Xaa WU],[Z0U,@F9 _ _ _ _ _ dNs 0 2 _ _ _ rfl Xab (t6 w) (M7 w) Xaa WU Xaa Xaa WU]]] Xaa WU WU]]]],[Tf,[Sv,[Ti,o6,k9,[Tn],[ZS]],@ay _ _ _ _ _ _],[Tf,[Sv,[Ti,o6,k9,[Tn],[ZS]],@ay _ _ _ _ _ _],[Tf,[Sv,[Ti,o6,k9,[Tn],[ZS]],@ay _ _ _ _ _ _],[Tf,[gV,[Tu,3,[Tv,@J0,_,[Yd,@F9 _ _ _ _ _ dNs 0 3 _ _ _ rfl Xab (t6 w) (L9 w) Xaa WU Xaa Xaa WU,[Z0G,[SM,@M8,@F9 _ _ _ _ _ dNs 0 0 _ _ _ rfl Xab (t6 w) (G0 w) Xaa WU Xaa Xaa WU],[ZN]]]]]],[Tf,[Sv,[Ti,o6,k9,[Tn],[ZS]],@ay _ _ _ _ _ _],[Tf,[Sv,[Ti,o6,k9,[Tn],[ZS]],@ay _ _ _ _ _ _],[Tf,[Sv,[Ti,o6,k9,[Tn],[ZS]],[Tv,@k7,_,[TF,@F7,0,@mJ _ _ _ _ _ _ _ _ _ _ _ _ _ (by show hr.mono (qE1 _)) WU (aU Y).m (aU Y).F.kp (aU Y).b [Yd,@mJ _ _ _ _ _ _ _ _ _ _ _ _ _ (by show hr.mono (qE1 _)) WU (ow Y).m (ow Y).F.kp (ow Y).b [I0,[ZG,.B,3],[Yd,[i2,@K4 _ _ _ _ _ _ _ _ _ _ _ _ _ _ _ _ _ _ _ _ _ _ _ _ _ _ _ _ _ (y9 Y).2 [Ws] [UH] WU (y9 Y).1.m [TK,y9] (y9 Y).1.b [Yd,[Tc,[Td],[ZN]],[Z0U,@F9 _ _ _ _ _ dNs 0 2 _ _ _ rfl Xab (t6 w) (M7 w) Xaa WU Xaa Xaa WU]] Xaa WU WU],[Z0U,@F9 _ _ _ _ _ dNs 0 4 _ _ _ rfl Xab (t6 w) (aV w) Xaa WU Xaa Xaa WU]]] Xaa WU WU,[Z0U,@F9 _ _ _ _ _ dNs 0 2 _ _ _ rfl Xab (t6 w) (M7 w) Xaa WU Xaa Xaa WU]] Xaa WU WU]]],[Tf,[Sv,[Ti,o6,k9,[Tn],[ZS]],@ay _ _ _ _ _ _],[Tf,[Sv,[Ti,o6,k9,[Tn],[ZS]],@ay _ _ _ _ _ _],[Tf,@vi _ _ _ _ _ _ _ _ 4 _ _ nd rfl Xah [SM,@v4,@K4 _ _ _ _ _ _ _ _ _ _ _ _ _ _ _ _ _ _ _ _ _ _ _ _ _ _ _ _ _ (y9 Y).2 [Ws] [UH] WU (y9 Y).1.m [TK,y9] (y9 Y).1.b [Yd,[Tc,[Td],[ZN]],[Z0U,@F9 _ _ _ _ _ dNs 0 1 _ _ _ rfl Xab (t6 w) (O3 w) Xaa WU Xaa Xaa WU]] Xaa WU WU] WU Xai,@ay _ _ _ _ _ _]]]]]]]]]]]]⟩
abbrev M4:[Z05]:=t7 0 2 5 dC m_Desk_answer
def kD:X2 m_Desk_answer:=[SD,X2]
abbrev V1 (m:[p5]):Prop:=∀{P:Program}{w:World}{mg:ZZ}{base:Heap},En w mg->FnOk P w [ZH] mg base (CXW P w) 7 717 (FM "take_up" "Desk.take_up" (dm "take_up") 716) ["self","text"] (spO [ZH] (XE1 (hk w)) dC 0 2 (t7 0 2 3 dC m))
def m_Desk_take_up:[p5]:=Subtype.val (p:=V1) ⟨λp=>_,λ{P w mg base} Y=>by
 show okQ (cR w) (N:=["self","text","told"]) λp=>λhr nd=>[Tf,@vi _ _ _ _ _ _ _ _ 2 _ _ nd rfl Xah (@K4 _ _ _ _ _ _ _ _ _ _ _ _ _ _ _ _ _ _ _ _ _ _ _ _ _ _ _ _ _ (gL Y).2 (.inr rfl) [UH] WU (gL Y).1.m [TK,gL] (gL Y).1.b [ZP,[Td]] Xaa WU WU) WU Xai,[Tf,@Z6 _ _ _ _ _ _ _ _ dNs 0 0 _ _ _ _ rfl Xab (t6 w) (G0 w) ([Z0G,[ZG,.C,2],[ZN]]) Xaa Xaa WU Xaa Xaa WU,[Tf,@Z6 _ _ _ _ _ _ _ _ dNs 0 1 _ _ _ _ rfl Xab (t6 w) (O3 w) ([Z0G,[ZG,.C,2],[ZN]]) Xaa Xaa WU Xaa Xaa WU,[Tf,@Z6 _ _ _ _ _ _ _ _ dNs 0 2 _ _ _ _ rfl Xab (t6 w) (M7 w) ([Z0G,[ZG,.C,2],[ZN]]) Xaa Xaa WU Xaa Xaa WU,[Tf,@Z6 _ _ _ _ _ _ _ _ dNs 0 3 _ _ _ _ rfl Xab (t6 w) (L9 w) ([Z0G,[SM,@M8,@F9 _ _ _ _ _ dNs 0 0 _ _ _ rfl Xab (t6 w) (G0 w) Xaa WU Xaa Xaa WU],[ZN]]) Xaa Xaa WU Xaa Xaa WU,[Tv,@k7,_,[TF,@F7,0,[ZS]]]]]]]]⟩
abbrev P5:[Z05]:=t7 0 2 3 dC m_Desk_take_up
def jb:V1 m_Desk_take_up:=[SD,V1]
abbrev bp (m:[p5]):Prop:=∀{P:Program}{w:World}{mg:ZZ}{base:Heap},En w mg->FnOk P w [ZH] mg base (CXW P w) 6 722 (FM "walk" "Desk.walk" (dm "walk") 721) Vb (spO [ZH] (XE1 (hk w)) dC 0 2 (t7 0 2 2 dC m))
def m_Desk_walk:[p5]:=Subtype.val (p:=bp) ⟨λp=>_,λ{P w mg base} Y=>by
 show okQ (ip w) (N:=Vb) λp=>λhr nd=>[Tf,[Sv,[Ti,o6,k9,[Tc,[Td],[ZN]],[ZS]],[Tv,@k7,_,@Z6 _ _ _ _ _ _ _ _ dNs 0 3 _ _ _ _ rfl Xab (t6 w) (L9 w) ([Z0G,[SM,@M8,@F9 _ _ _ _ _ dNs 0 0 _ _ _ rfl Xab (t6 w) (G0 w) Xaa WU Xaa Xaa WU],[ZN]]) Xaa Xaa WU Xaa Xaa WU]],[Tf,[Sv,[Ti,o6,k9,[Tc,[Td],[ZN]],[ZS]],[Tv,@k7,_,@Z6 _ _ _ _ _ _ _ _ dNs 0 3 _ _ _ _ rfl Xab (t6 w) (L9 w) [SM,@v4,@K4 _ _ _ _ _ _ _ _ _ _ _ _ _ _ _ _ _ _ _ _ _ _ _ _ _ _ _ _ _ (lf Y).2 [Ws] [UH] WU (lf Y).1.m [TK,lf] (lf Y).1.b [I0,[Z0U,@F9 _ _ _ _ _ dNs 0 0 _ _ _ rfl Xab (t6 w) (G0 w) Xaa WU Xaa Xaa WU],[Yd,[Z0U,@F9 _ _ _ _ _ dNs 0 3 _ _ _ rfl Xab (t6 w) (L9 w) Xaa WU Xaa Xaa WU],[i2,@Ez _ _ _ _ _ _ _ _ _ _ _ _ _ _ _ _ _ _ _ _ _ _ _ _ _ _ [SF,i8 (d8 (dm "walk")) _ Vb ["self","words","name"],⟨rfl,Xac,Xac,Xac,Xac,Xaa,Xac,Xac⟩] [Tv,@df,[Z0H,@aO _ _ _ _ _ _ false _ _ _ _ _ [Td] (@L4 _ _ _ _ _ [ZN]) (@T9 _ _ _) WU],WU] [Tb,[kv,2,(["self","words","name"]:ZK).Nodup,Or.inl rfl,.inr rfl]] (@p9 _ _) (B9 ([SK,2<=2])) [Tb,[SM,@v4,@zG _ _ _ _ _ _ _ _ _ _ _ _ _ _ _ _ _ _ _ _ _ _ _ _ _ _ _ _ _ _ _ _ _ _ _ (y9 Y).2 [Ws] [UH] WU (y9 Y).1.m [TK,y9] (y9 Y).1.b [Yd,[Tn],[Z0U,@F9 _ _ _ _ _ dNs 0 2 _ _ _ rfl Xab (t6 w) (M7 w) Xaa WU Xaa Xaa WU]] Xaa WU WU]] (by intro _;rfl)]]] Xaa WU WU] Xaa Xaa WU Xaa Xaa WU]],[Tv,@k7,_,[TF,@F7,0,[SM,@v4,@O9 _ _ _ _ _ _ _ _ _ _ _ _ _ _ _ _ _ (cg Y).2 [Ws] [UH] WU (cg Y).1.m [TK,cg] (cg Y).1.b [ZP,[Z0U,@F9 _ _ _ _ _ dNs 0 3 _ _ _ rfl Xab (t6 w) (L9 w) Xaa WU Xaa Xaa WU]] Xaa WU WU]]]]]⟩
abbrev G8:[Z05]:=t7 0 2 2 dC m_Desk_walk
def pA:bp m_Desk_walk:=[SD,bp]
abbrev cN (m:[p5]):Prop:=∀{P:Program}{w:World}{mg:ZZ}{base:Heap},En w mg->FnOk P w [ZH] mg base (CXW P w) 8 710 (FM "say" "Desk.say" (dm "say") 709) ["self","row"] (spO [ZH] (XE1 (hk w)) dC 0 2 (t7 0 2 3 dC m))
def m_Desk_say:[p5]:=Subtype.val (p:=cN) ⟨λp=>_,λ{P w mg base} Y=>by
 show okQ (kn w) (N:=["self","row","words"]) λp=>λhr nd=>[Tf,[Sv,[Z0a,@m7 _ _ _ _ _ _ _ _ _ _ _ _ _ _ ah iC WU (bl Y).isinstance_ qC3 [Yd,[Td],@fD _ _ _ _ _ _ _ WU (bl Y).str_ R0 Xaa Xaa] Xaa Xaa WU WU],[Tv,@k7,_,@de _ _ _ _ _ _ _ _ _ _ _ _ _ _ _ _ _ _ _ _ _ _ _ _ _ (cS w) WU (X4 Y) (w9 w) [ZP,[ZS]] Xaa WU WU]],[Tf,[Sv,@N4 _ _ _ _ _ (@q_sw _ _ _ _ _ _ _ _ _ _ [Td] [ZS] WU WU WU WU WU WU) (by intro _;rfl),[Tv,@k7,_,[TF,@K3,0,@iV _ _ _ _ _ _ _ _ _ _ _ _ _ _ _ _ _ _ _ _ _ dNs _ 0 _ _ _ _ _ _ _ _ _ _ _ rfl Xab [SN] (t6 w) (kF w) (jb Y) [UH] (kI w) [ZP,[Tc,@j9 _ _ _ _ _ (@M8 _ _ _ _ _ (@zF _ _ _ _ _ _ _ _ _ [Td] [ZS] WU WU WU WU WU WU)),[ZN]]] Xaa Xaa Xaa WU WU WU]]],[Tf,[gV,[Tu,2,@iU _ _ _ _ _ _ _ _ _ [Td] [ZS] WU WU WU WU WU WU]],[Tf,[Sv,[Z0a,[i2,@O9 _ _ _ _ _ _ _ _ _ _ _ _ _ _ _ _ _ (ci Y).2 [Ws] [UH] WU (ci Y).1.m [TK,ci] (ci Y).1.b [Yd,[Tn],@m7 _ _ _ _ _ _ _ _ _ _ _ _ _ _ w8 w6 WU (bl Y).len_ qB8 [ZP,[Z0U,@F9 _ _ _ _ _ dNs 0 1 _ _ _ rfl Xab (t6 w) (O3 w) Xaa WU Xaa Xaa WU]] Xaa Xaa WU WU] Xaa WU WU]],[Tv,@k7,_,@de _ _ _ _ _ _ _ _ _ _ _ _ _ _ _ _ _ _ _ _ _ _ _ _ _ (cS w) WU (X4 Y) (w9 w) [ZP,[ZS]] Xaa WU WU]],[Tf,[Sv,[Ti,o6,k9,[Tc,[Tn],[ZN]],[ZS]],[Tf,@Z6 _ _ _ _ _ _ _ _ dNs 0 4 _ _ _ _ rfl Xab (t6 w) (aV w) [SM,@v4,@O9 _ _ _ _ _ _ _ _ _ _ _ _ _ _ _ _ _ (t9 Y).2 [Ws] [UH] WU (t9 Y).1.m [TK,t9] (t9 Y).1.b [ZP,[Tc,[Tn],[ZN]]] Xaa WU WU] Xaa Xaa WU Xaa Xaa WU,[Tv,@k7,_,[TF,@F7,0,[ZS]]]]],[Tf,[Sv,[Ti,di,dl,[Z0U,@F9 _ _ _ _ _ dNs 0 0 _ _ _ rfl Xab (t6 w) (G0 w) Xaa WU Xaa Xaa WU],@F8 _ _ _ _ _ _],[Tv,@k7,_,@de _ _ _ _ _ _ _ _ _ _ _ _ _ _ _ _ _ _ _ _ _ _ _ _ _ (kB w) WU (aK Y) (v9 w) [ZP,[ZS]] Xaa WU WU]],[Tf,[Sv,[Ti,Qu (A7 hr),sK (neg:=false),[Tc,[Tn],[ZN]],[Z0L,[Tk,[Yd,[ZS],[ZS]]]]],[Tv,@k7,_,[TF,@K3,0,@iV _ _ _ _ _ _ _ _ _ _ _ _ _ _ _ _ _ _ _ _ _ dNs _ 0 _ _ _ _ _ _ _ _ _ _ _ rfl Xab [SN] (t6 w) (tN w) (pA Y) [UH] (tU w) [ZP,[Tn]] Xaa Xaa Xaa WU WU WU]]],[Tv,@k7,_,[TF,@K3,0,@iV _ _ _ _ _ _ _ _ _ _ _ _ _ _ _ _ _ _ _ _ _ dNs _ 0 _ _ _ _ _ _ _ _ _ _ _ rfl Xab [SN] (t6 w) (oo w) (kD Y) [UH] (oS w) [ZP,[Tn]] Xaa Xaa Xaa WU WU WU]]]]]]]]]⟩
abbrev j8:[Z05]:=t7 0 2 3 dC m_Desk_say
def sI:cN m_Desk_say:=[SD,cN]
abbrev bo (m:Xae):Prop:=K0 "_law_cell" 151 857 pm4 ["_law_script","_law_k"] 1 λK=>spM K 2 .F (d9 2 3 m)
def m__law_cell:Xae:=Subtype.val (p:=bo) ⟨_,λ{w mg} Y=>by
 show 9 24 ["_law_script","_law_k","_law_number"] [TF,@c8,[SV,[Ti,kZ,[Z01,gLt],[Td],@m7 _ _ _ _ _ _ _ _ _ _ _ _ _ _ w8 w6 WU (bl Y).len_ qB8 [ZP,[Yh]] Xaa Xaa WU WU],[SL,[SM,@mI,@e9 _ _ _ _ _ _ _ _ [Yh] [Td] (by show λ_ _=>rfl) WU]],[SW]],[SU,[pr,2,[WN,@c7,_,z9,[i1,F2],[WN,@c7,_,D6,ZB,[ZN],[Td]],[ZN]]],[SV,[Ti,V2,[Z01,gGt],@m7 _ _ _ _ _ _ _ _ _ _ _ _ _ _ w8 w6 WU (bl Y).len_ qB8 [ZP,[Yh]] Xaa Xaa WU WU,[ZN]],[Tt,[pr,2,[WN,@c7,_,z9,[i1,F2],[WN,@c7,_,z9,[i1,F2],[WN,@c7,_,D6,ZB,[Tc,[Yh],[WN,@c7,_,l9,ZA,[WN,@c7,_,D6,ZB,[Td],[ZN]],@m7 _ _ _ _ _ _ _ _ _ _ _ _ _ _ w8 w6 WU (bl Y).len_ qB8 [ZP,[Yh]] Xaa Xaa WU WU]],[ZN]],[WN,@c7,_,D6,ZB,[WN,@c7,_,D6,ZB,[Td],[Td]],[ZN]]],[ZN]]]],[SW]],[SL,[fx,[WN,@c7,_,D6,ZB,[Tn],[Tn]]]]]]⟩
abbrev pI:[TR]:=d9 2 3 m__law_cell
def i9:bo m__law_cell:=[SD,bo]
abbrev ar (m:Xae):Prop:=K0 "_law_names" 152 864 pm4 ["_law_cell_here","_law_many","_law_shift"] 1 λK=>spM K 3 .F (d9 3 9 m)
def m__law_names:Xae:=Subtype.val (p:=ar) ⟨_,λ{w mg} Y=>by
 show 9 25 ["_law_cell_here","_law_many","_law_shift","_law_size","_law_base","_law_place","_law_names_here","_law_k","_law_letter"] [TF,@c8,[pr,3,[WN,@c7,_,z9,[i1,F2],[ZN],[fx,[Yh]]]],[SU,[pr,4,@si _ _ _ _ _ _ _ _ _ _ _ _ [ZS] (@T9 _ _ _) (@L4 _ _ _ _ _ [ZG,.B,3])],[pr,5,[WN,@c7,_,l9,ZA,[WN,@c7,_,x8,ZC,[Yh],[ZN]],[ZG,.B,3]]],[SU,[Tu,6,[SE,@b7 _ _ _ _]],@O8 _ _ _ _ _ _ _ _ _ _ _ _ _ qF5 rfl [Z0P,[ZP,[Td]]] [p7,7] (@p9 _ _) [TF,@c8,[pr,8,@Qi _ _ _ _ _ _ _ _ _ [ZS] [fx,[WN,@c7,_,z9,[i1,F2],[WN,@c7,_,z9,[i1,F2],[WN,@c7,_,x8,ZC,[Yh],[ZN]],[WN,@c7,_,D6,ZB,[ZN],[ZG,.B,7]]],[Tn]]] (by show λ_ _=>rfl)],[Tt,[Z0y,6,[Sw,[Sw,@si _ _ _ _ _ _ _ _ _ _ _ _ [ZG,.B,4] (@T9 _ _ _) (@L4 _ _ _ _ _ [ZG,.B,5]),[ZG,.B,8]],@si _ _ _ _ _ _ _ _ _ _ _ _ [ZG,.B,4] (@L4 _ _ _ _ _ [WN,@c7,_,z9,[i1,F2],[ZG,.B,5],[ZN]]) (@T9 _ _ _)]]]] (by intro _;rfl),[Tt,@db _ _ _ _ _ 6 _ _ [Ws] WU Xab Xaa Xaa]]]]⟩
abbrev dB:[TR]:=d9 3 9 m__law_names
def D2:ar m__law_names:=[SD,ar]
abbrev bj (m:Xae):Prop:=K0 "_law_land" 153 869 pm4 ["_law_script","_law_at","_law_times"] 2 λK=>spM K 3 .F (d9 3 12 m)
def m__law_land:Xae:=Subtype.val (p:=bj) ⟨_,λ{w mg} Y=>by
 show 9 26 Zc [TF,@c8,[pr,3,[WN,@c7,_,l9,ZA,[i2,@n9 _ _ _ _ _ _ _ _ _ _ _ _ _ _ _ _ (i9 Y).2 [Ws] [UH] WU (i9 Y).1.m [TK,i9] (i9 Y).1.b [Yd,[Yh],[Td]] Xaa WU WU],[WN,@c7,_,mX,ZD,[ZN],[ZN]]]],[SU,[pr,4,[Z0G,[SM,@h9,@vn _ _ _ _ _ _ _ _ _ _ _ _ _ _ _ _ _ _ _ _ _ _ _ _ _ _ _ _],[fx,[ZG,.B,3]]]],[Tu,5,@N9 _ _ _ _ _ _ _ _ _ _ _ _ _ _ aI (aG (c:=true)) WU (bl Y).tuple_ M1 [ZP,[SG,F3 [SF,i8 (d8 (top 153)) _ Zc Vw,⟨rfl,Xac,Xac,Xac,Xac,Xaa,Xac,Xac⟩] rfl [Z0P,[ZP,[ZG,.B,4]]] [Tb,[kv,12,(Vw:ZK).Nodup,Or.inl rfl,.inr rfl]] (@p9 _ _) (B9 ([SK,12<=12])) [Tb,@D8 _ _ _] [Tb,[WN,@c7,_,D6,ZB,[fx,[WN,@c7,_,x8,ZC,[ZG,.B,3],[Tc,[i2,@mG _ _ _ _ _ _ _ _ _ _ _ _ _ _ _ _ _ _ _ _ _ _],[ZG,.B,12]]]],[Tn]]]]] Xaa Xaa WU WU],[TF,@c8,[Tu,6,[SE,@b7 _ _ _ _]],[SU,@O8 _ _ _ _ _ _ _ _ _ _ _ _ _ qF5 rfl [Z0P,[ZP,[Tc,[i2,@vn _ _ _ _ _ _ _ _ _ _ _ _ _ _ _ _ _ _ _ _ _ _ _ _ _ _ _ _],[fx,[i2,@n9 _ _ _ _ _ _ _ _ _ _ _ _ _ _ _ _ (i9 Y).2 [Ws] [UH] WU (i9 Y).1.m [TK,i9] (i9 Y).1.b [Yd,[Yh],[WN,@c7,_,z9,[i1,F2],[Td],[ZN]]] Xaa WU WU]]]]] [p7,7] (@p9 _ _) [TF,@c8,[pr,8,[WN,@c7,_,x8,ZC,[i2,@n9 _ _ _ _ _ _ _ _ _ _ _ _ _ _ _ _ (i9 Y).2 [Ws] [UH] WU (i9 Y).1.m [TK,i9] (i9 Y).1.b [Yd,[Yh],[WN,@c7,_,z9,[i1,F2],[Td],[ZN]]] Xaa WU WU],[WN,@c7,_,z9,[i1,F2],[ZN],[WN,@c7,_,D6,ZB,[ZN],[ZG,.B,7]]]]],[SU,[Tu,9,@N9 _ _ _ _ _ _ _ _ _ _ _ _ _ _ aI (aG (c:=true)) WU (bl Y).tuple_ M1 [ZP,[SG,F3 [SF,i8 (d8 (top 153)) _ Zc Vw,⟨rfl,Xac,Xac,Xac,Xac,Xaa,Xac,Xac⟩] rfl [Z0P,[ZP,[ZG,.B,4]]] [Tb,[kv,12,(Vw:ZK).Nodup,Or.inl rfl,.inr rfl]] (@p9 _ _) (B9 ([SK,12<=12])) [Tb,@D8 _ _ _] [Tb,[WN,@c7,_,x8,ZC,[fx,[WN,@c7,_,x8,ZC,[ZG,.B,8],[Tc,[i2,@mG _ _ _ _ _ _ _ _ _ _ _ _ _ _ _ _ _ _ _ _ _ _],[ZG,.B,12]]]],[ZN]]]]] Xaa Xaa WU WU],[Tu,10,@N9 _ _ _ _ _ _ _ _ _ _ _ _ _ _ aI (aG (c:=true)) WU (bl Y).tuple_ M1 [ZP,[SG,F3 [SF,i8 (d8 (top 153)) _ Zc Vw,⟨rfl,Xac,Xac,Xac,Xac,Xaa,Xac,Xac⟩] rfl [Z0P,[ZP,[ZG,.B,4]]] [Tb,[kv,12,(Vw:ZK).Nodup,Or.inl rfl,.inr rfl]] (@p9 _ _) (B9 ([SK,12<=12])) [Tb,@D8 _ _ _] [Tb,[WN,@c7,_,D6,ZB,[fx,[WN,@c7,_,x8,ZC,[ZG,.B,8],[Tc,[i2,@mG _ _ _ _ _ _ _ _ _ _ _ _ _ _ _ _ _ _ _ _ _ _],[ZG,.B,12]]]],[Tn]]]]] Xaa Xaa WU WU],[Tt,[Z0y,6,[Z0W,[Yd,[ZG,.V,9],[ZG,.V,10]]]]]]] (by intro _;rfl),[Tu,11,@n9 _ _ _ _ _ _ _ _ _ _ _ _ _ _ _ _ (D2 Y).2 [Ws] [UH] WU (D2 Y).1.m [TK,D2] (D2 Y).1.b [I0,[WN,@c7,_,x8,ZC,[ZG,.B,3],[ZN]],[I0,[ZG,.B,4],[TF,@x6,_,@b7 _ _ _ _]]] Xaa WU WU],[Tt,[Tv,@Cm,11,[Tv,@Cm,6,[Tv,@o0,_,[SE,[I0,[ZG,.V,5],[I0,[ZG,.V,6],[Yd,[ZG,.V,11],[SM,@v4,@n9 _ _ _ _ _ _ _ _ _ _ _ _ _ _ _ _ (D2 Y).2 [Ws] [UH] WU (D2 Y).1.m [TK,D2] (D2 Y).1.b [I0,[WN,@c7,_,x8,ZC,[ZG,.B,3],[ZN]],[I0,@m7 _ _ _ _ _ _ _ _ _ _ _ _ _ _ w8 w6 WU (bl Y).len_ qB8 [ZP,[ZG,.B,6]] Xaa Xaa WU WU,[TF,@x6,_,@b7 _ _ _ _]]] Xaa WU WU]]]]]]]]]]]]]⟩
abbrev fc:[TR]:=d9 3 12 m__law_land
def E4:bj m__law_land:=[SD,bj]
abbrev bf (m:Xae):Prop:=K0 "_law_told" 154 876 pm4 ["_law_counts","_law_places","_law_turn"] 1 λK=>spM K 3 .F (d9 3 6 m)
def m__law_told:Xae:=Subtype.val (p:=bf) ⟨_,λ{w mg} Y=>by
 show 9 27 ["_law_counts","_law_places","_law_turn","_law_words","_law_p","_law_q"] [SU,[Tu,3,[SE,@b7 _ _ _ _]],@O8 _ _ _ _ _ _ _ _ _ _ _ _ _ qF5 rfl [Z0P,[ZP,@m7 _ _ _ _ _ _ _ _ _ _ _ _ _ _ w8 w6 WU (bl Y).len_ qB8 [ZP,[Td]] Xaa Xaa WU WU]] [p7,4] (@p9 _ _) [TF,@c8,[pr,5,[WN,@c7,_,l9,ZA,[WN,@c7,_,z9,[i1,F2],[ZG,.B,4],[Tn]],@m7 _ _ _ _ _ _ _ _ _ _ _ _ _ _ w8 w6 WU (bl Y).len_ qB8 [ZP,[Td]] Xaa Xaa WU WU]],[Tt,[SV,[Ti,V2,[Z01,gGt],[Tc,[Yh],[ZG,.B,5]],[ZN]],[Tt,[Z0y,3,[Sw,[Sw,[Sw,[ZS],@N9 _ _ _ _ _ _ _ _ _ _ _ _ _ _ E9 cI WU (bl Y).str_ R0 [ZP,[Tc,[Yh],[ZG,.B,5]]] Xaa Xaa WU WU],[ZS]],[Tc,[Td],[ZG,.B,5]]]]],[SW]]]] (by intro _;rfl),[SL,[Z0I,[ZG,.B,3]]]]⟩
abbrev eY:[TR]:=d9 3 6 m__law_told
def E2:bf m__law_told:=[SD,bf]
abbrev bg (m:Xae):Prop:=K0 "_law_text" 155 881 pm4 ["_law_land_here","_law_turn"] 2 λK=>spM K 2 .F (d9 2 10 m)
def m__law_text:Xae:=Subtype.val (p:=bg) ⟨_,λ{w mg} Y=>by
 show 9 28 Zv [TF,@c8,@Co _ _ _ _ _ _ _ _ _ _ _ [ZG,.U,0] (@EM _ [ZH] _ _ _ _ 4 rfl [nc,[p7,2],[nc,[p7,3],[nc,[p7,4],[nc,[p7,5],@K5 _]]]] WU WU WU) (@Ma _ _ _ _ _ (.inr rfl) (@n8 _ _ _ _ _ _ (.inr rfl) (@p9 _ _) (@n8 _ _ _ _ _ _ (.inr rfl) (@p9 _ _) (@n8 _ _ _ _ _ _ (.inr rfl) (@p9 _ _) (@n8 _ _ _ _ _ _ (.inr rfl) (@p9 _ _) (@K7 _ _)))))) WU WU WU,[SU,Y7 (i:=6) [SF,i8 (d8 (top 155)) _ Zv Zw,⟨rfl,Xac,Xac,Xac,Xac,Xaa,Xac,Xac⟩] rfl [Z0P,[ZP,@m7 _ _ _ _ _ _ _ _ _ _ _ _ _ _ w8 w6 WU (bl Y).len_ qB8 [ZP,[ZG,.B,4]] Xaa Xaa WU WU]] [Tb,[kv,10,(Zw:ZK).Nodup,Or.inl rfl,.inr rfl]] (@p9 _ _) (B9 ([SK,10<=10])) [Tb,@D8 _ _ _] [Tb,[Sw,[Sw,[Sw,[ZS],[Tc,[ZG,.B,4],[ZG,.B,10]]],[ZS]],@N9 _ _ _ _ _ _ _ _ _ _ _ _ _ _ E9 cI WU (bl Y).str_ R0 [ZP,[Tc,[Tn],[ZG,.B,10]]] Xaa Xaa WU WU]] nd rfl Xah,@O8 _ _ _ _ _ _ _ _ _ _ _ _ _ qF5 rfl [Z0P,[ZP,@m7 _ _ _ _ _ _ _ _ _ _ _ _ _ _ w8 w6 WU (bl Y).len_ qB8 [ZP,[ZG,.B,3]] Xaa Xaa WU WU]] [p7,7] (@p9 _ _) [SU,[Tu,8,@n9 _ _ _ _ _ _ _ _ _ _ _ _ _ _ _ _ (E2 Y).2 [Ws] [UH] WU (E2 Y).1.m [TK,E2] (E2 Y).1.b [I0,[Tc,[Tc,[ZG,.B,3],[ZG,.B,7]],[ZN]],[Yd,[ZG,.B,4],[Td]]] Xaa WU WU],[Tu,9,@n9 _ _ _ _ _ _ _ _ _ _ _ _ _ _ _ _ (E2 Y).2 [Ws] [UH] WU (E2 Y).1.m [TK,E2] (E2 Y).1.b [I0,[Tc,[Tc,[ZG,.B,3],[ZG,.B,7]],[ZN]],[Yd,[ZG,.B,4],[WN,@c7,_,D6,ZB,[ZN],[Td]]]] Xaa WU WU],[Tt,[Z0y,6,[Sw,[Sw,[Sw,[Sw,[Sw,[ZS],[Tc,[ZG,.B,5],[ZG,.B,7]]],[ZS]],[ZG,.B,8]],[ZS]],[ZG,.B,9]]]]] (by intro _;rfl),[SL,[Z0I,[ZG,.B,6]]]]]⟩
abbrev eZ:[TR]:=d9 2 10 m__law_text
def E3:bg m__law_text:=[SD,bg]
abbrev T0 (m:[p5]):Prop:=K0 "_law_answered" 156 886 pm4 ["_law_desk","_law_row_here"] 9 λK=>spO K XE dC 0 2 (t7 0 2 8 dC m)
def m__law_answered:[p5]:=Subtype.val (p:=T0) ⟨λp=>_,λ{w mg} Y=>by
 show wD (dk Y 29) λD=>okO D.F (N:=Zx) λp=>λhr nd=>[Tf,[gV,[pr,2,@F8 _ _ _ _ _ _]],[Tf,[gV,[Tu,3,[SE,@b7 _ _ _ _]]],[Tf,[gV,[pr,4,@bY _ _ _ _ _ _ _]],[Tf,[gV,[pr,5,@F8 _ _ _ _ _ _]],[Tf,@JR _ _ _ .F _ _ _ _ _ _ dNs _ _ _ _ _ _ _ _ _ _ _ _ _ _ _ 0 2 6 6 _ _ _ _ _ _ _ _ _ _ _ _ _ _ _ _ _ _ _ _ nd rfl Xab (t6 w) (xq w) (sI Y) [UH] (xY w) [ZP,[Td]] rfl WU (gd Y) WU (iJ Y) rfl rfl (C5 w) (ph w) (PH w) (λe E=>[SU,[pr,5,@q_at _ _ _ _ _ _ _ _ _ (C5 w) (kJ w).get [ZG,.B,6] WU WU],[Tu,3,[SE,[I0,@m7 _ _ _ _ _ _ _ _ _ _ _ _ _ _ (O5 rfl) (dJ (pj w) (w9 w)) WU (bl Y).isinstance_ qC3 [Yd,[ZG,.B,6],@az _ _ _ _ _ _ WU (X4 Y) (w9 w) Xaa] Xaa Xaa WU WU,[I0,@m7 _ _ _ _ _ _ _ _ _ _ _ _ _ _ (O5 rfl) (dJ (lD w) (v9 w)) WU (bl Y).isinstance_ qC3 [Yd,[ZG,.B,6],@az _ _ _ _ _ _ WU (aK Y) (v9 w) Xaa] Xaa Xaa WU WU,[I0,@m7 _ _ _ _ _ _ _ _ _ _ _ _ _ _ (O5 rfl) (dJ (lC w) (v8 w)) WU (bl Y).isinstance_ qC3 [Yd,[ZG,.B,6],@az _ _ _ _ _ _ WU (aJ Y) (v8 w) Xaa] Xaa Xaa WU WU,[Yd,@m7 _ _ _ _ _ _ _ _ _ _ _ _ _ _ (O5 rfl) (dJ (lB w) (j0 w)) WU (bl Y).isinstance_ qC3 [Yd,[ZG,.B,6],@az _ _ _ _ _ _ WU (y8 Y) (j0 w) Xaa] Xaa Xaa WU WU,@bY _ _ _ _ _ _ _]]]]]],[Tt,[Tu,4,@m7 _ _ _ _ _ _ _ _ _ _ _ _ _ _ (oI rfl) (CZ (fm w)) WU (bl Y).isinstance_ qC3 [Yd,[ZG,.B,6],@fD _ _ _ _ _ _ _ WU (bl Y).ValueError_ PyProof.Rows.Boot.«ValueError» Xaa Xaa] Xaa Xaa WU WU]]]) (λe E=>[TF,@c8,[Tu,3,[SE,[I0,@m7 _ _ _ _ _ _ _ _ _ _ _ _ _ _ (O5 rfl) (dJ (pi w) (w9 w)) WU (bl Y).isinstance_ qC3 [Yd,[ZG,.B,6],@az _ _ _ _ _ _ WU (X4 Y) (w9 w) Xaa] Xaa Xaa WU WU,[I0,@m7 _ _ _ _ _ _ _ _ _ _ _ _ _ _ (O5 rfl) (dJ (lA w) (v9 w)) WU (bl Y).isinstance_ qC3 [Yd,[ZG,.B,6],@az _ _ _ _ _ _ WU (aK Y) (v9 w) Xaa] Xaa Xaa WU WU,[I0,@m7 _ _ _ _ _ _ _ _ _ _ _ _ _ _ (O5 rfl) (dJ (ly w) (v8 w)) WU (bl Y).isinstance_ qC3 [Yd,[ZG,.B,6],@az _ _ _ _ _ _ WU (aJ Y) (v8 w) Xaa] Xaa Xaa WU WU,[Yd,@m7 _ _ _ _ _ _ _ _ _ _ _ _ _ _ (O5 rfl) (dJ (lx w) (j0 w)) WU (bl Y).isinstance_ qC3 [Yd,[ZG,.B,6],@az _ _ _ _ _ _ WU (y8 Y) (j0 w) Xaa] Xaa Xaa WU WU,@bY _ _ _ _ _ _ _]]]]]],[Tt,[Tu,4,@m7 _ _ _ _ _ _ _ _ _ _ _ _ _ _ (oI rfl) (CZ (fk w)) WU (bl Y).isinstance_ qC3 [Yd,[ZG,.B,6],@fD _ _ _ _ _ _ _ WU (bl Y).ValueError_ PyProof.Rows.Boot.«ValueError» Xaa Xaa] Xaa Xaa WU WU]]]) Xaa WU WU WU WU WU WU WU Xaa Xaa Xaa Xaa WU WU WU WU,[Tf,[Sv,[Ti,E7 (A7 hr),A6 (neg:=false),[ZG,.B,3],@j9 _ _ _ _ _ [SG,[SE,@b7 _ _ _ _]]],[Tf,[Sv,[Z0a,@m7 _ _ _ _ _ _ _ _ _ _ _ _ _ _ ah iC WU (bl Y).isinstance_ qC3 [Yd,[Tn],@fD _ _ _ _ _ _ _ WU (bl Y).str_ R0 Xaa Xaa] Xaa Xaa WU WU],[Tv,@k7,_,[TF,@F7,0,[Z0W,[ZP,[ZS]]]]]],[Tv,@k7,_,[TF,@F7,0,[Z0W,[Yd,[ZS],[ZG,.V,2]]]]]]],[Tf,[gV,Y7 (i:=7) [SF,i8 (d8 (top 156)) _ Zx Zy,⟨rfl,Xac,Xac,Xac,Xac,Xaa,Xac,Xac⟩] rfl [Z0P,[TF,@x6,_,@b7 _ _ _ _]] [Tb,[kv,8,(Zy:ZK).Nodup,Or.inl rfl,.inr rfl]] (@p9 _ _) (B9 ([SK,8<=8])) [Tb,@mF _ _ _ _ _ (@N4 _ _ _ _ _ [Tc,[ZG,.B,3],[ZG,.B,8]] (by intro _;rfl))] [Tb,[ZG,.V,8]] nd rfl Xah],[Tf,[Sv,[Z0n,[Ti,Cp,vV,@m7 _ _ _ _ _ _ _ _ _ _ _ _ _ _ w8 w6 WU (bl Y).len_ qB8 [ZP,[ZG,.B,7]] Xaa Xaa WU WU,[ZN]],[Z0a,[ZG,.B,4]]],[Tv,@k7,_,[TF,@F7,0,[Z0W,[ZP,[ZS]]]]]],[Tf,[Sv,[Ti,E7 (A7 hr),A6 (neg:=false),[ZG,.B,7],@j9 _ _ _ _ _ [SG,[SE,[TF,@x6,_,@b7 _ _ _ _]]]],[Tf,[Sv,[Z0n,@N4 _ _ _ _ _ (@m7 _ _ _ _ _ _ _ _ _ _ _ _ _ _ ah iC WU (bl Y).isinstance_ qC3 [Yd,[ZG,.B,5],@fD _ _ _ _ _ _ _ WU (bl Y).bool_ He Xaa Xaa] Xaa Xaa WU WU) (by intro _;rfl),[Z0a,@m7 _ _ _ _ _ _ _ _ _ _ _ _ _ _ ah iC WU (bl Y).isinstance_ qC3 [Yd,[ZG,.B,5],@fD _ _ _ _ _ _ _ WU (bl Y).int_ oK Xaa Xaa] Xaa Xaa WU WU]],[Tv,@k7,_,[TF,@F7,0,[Z0W,[ZP,[ZS]]]]]],[Tv,@k7,_,[TF,@F7,0,[Z0W,[Tk,[Yd,[ZS],[ZG,.V,5]]]]]]]],[Tv,@k7,_,[TF,@F7,0,[Z0W,[Yd,[ZS],[Z0G,[SG,[SE,[Tk,[Tk,[Yd,[ZS],[ZS]]]]]],[SM,@M8,[Z0G,[ZG,.C,7],[ZN]]]]]]]]]]]]]]]]]⟩
abbrev l6:[Z05]:=t7 0 2 8 dC m__law_answered
def c6:T0 m__law_answered:=[SD,T0]
abbrev bh (m:Xae):Prop:=K0 "_law_none" 157 893 pm4 ["_law_cell_here","_law_land_here"] 1 λK=>spM K 2 .F (d9 2 5 m)
def m__law_none:Xae:=Subtype.val (p:=bh) ⟨_,λ{w mg} Y=>by
 show 9 30 ["_law_cell_here","_law_land_here","_law_size","_law_counts","_law_some"] [SU,[pr,2,[ZN]],[SV,[Ti,eh,eA,[Td],@F8 _ _ _ _ _ _],[Tt,[Tu,2,@m7 _ _ _ _ _ _ _ _ _ _ _ _ _ _ w8 w6 WU (bl Y).len_ qB8 [ZP,[Tc,[Td],[ZN]]] Xaa Xaa WU WU]],[SW]],[TF,@c8,[Tu,3,[WN,@c7,_,gK,gM (c:=true),[SG,[SE,[ZP,[ZS]]]],[ZG,.C,2]]],[SU,[Tu,4,[SE,[Tk,[Tk,[Tk,[Tk,[Tk,[Tk,[Tk,[Tk,[Tk,[Tk,[Yd,[ZS],[ZS]]]]]]]]]]]]]],[Tu,4,[Z06,[ZG,.C,4],[SG,[SE,[Tk,[Tk,[Tk,[Tk,[Tk,[Tk,[Tk,[Yd,[ZS],[ZS]]]]]]]]]]]]],[SU,[Tu,4,[Z06,[ZG,.C,4],[SG,[SE,[ZP,[Sw,[ZS],[Z0I,[Z0H,[Z06,[SG,@aO _ _ _ _ _ _ true _ _ _ _ _ [ZG,.C,3] (@L4 _ _ _ _ _ [ZN]) (@T9 _ _ _) WU],[SG,[SE,[ZP,[ZS]]]]]]]]]]]]],[Tu,4,[Z06,[ZG,.C,4],[SG,[SE,[ZP,[Sw,[ZS],[Z0I,[Z0H,[Z06,[SG,@aO _ _ _ _ _ _ true _ _ _ _ _ [ZG,.C,3] (@L4 _ _ _ _ _ [ZN]) (@T9 _ _ _) WU],[SG,[SE,[ZP,[ZS]]]]]]]]]]]]],[SU,[Tu,4,[Z06,[ZG,.C,4],[SG,[SE,[Yd,[Sw,[ZS],[Z0I,[Z0H,[WN,@c7,_,gK,gM (c:=true),[SG,[SE,[ZP,[ZS]]]],[ZN]]]]],[Sw,[ZS],[Z0I,[Z0H,[Z06,[ZG,.C,3],[SG,[SE,[ZP,[ZS]]]]]]]]]]]]],[Tu,4,[Z06,[ZG,.C,4],[SG,[SE,[Tk,[Tk,[Tk,[Tk,[Tk,[Tk,[Yd,[ZS],[ZS]]]]]]]]]]]],[SU,[Tu,4,[Z06,[ZG,.C,4],[SG,[SE,[Tk,[Tk,[Tk,[Tk,[Tk,[Tk,[Yd,[ZS],[ZS]]]]]]]]]]]],[SV,[Ti,eh,eA,[Td],@F8 _ _ _ _ _ _],[TF,@c8,[Tu,4,[Z06,[ZG,.C,4],[SG,[SE,[ZP,[Sw,[ZS],[Z0I,[Z0H,[Z06,[ZG,.C,3],[SG,[SE,[ZP,[ZS]]]]]]]]]]]]],[Tt,[Tu,4,[Z06,[ZG,.C,4],[SG,[WN,@c7,_,gK,gM (c:=true),[SG,[SE,[ZP,[Sw,[ZS],[Z0I,[Z0H,[Z06,[ZG,.C,3],[SG,[SE,[ZP,[ZS]]]]]]]]]]],[ZN]]]]]]],[SW]],[TF,@c8,[SV,[Ti,V2,[Z01,gGt],[Tn],[ZN]],[Tt,[Tu,4,[Z06,[ZG,.C,4],[SG,[WN,@c7,_,gK,gM (c:=true),[SG,[SE,[Yd,[Sw,[ZS],[Z0I,[Z0H,@aO _ _ _ _ _ _ true _ _ _ _ _ [ZG,.C,3] (@L4 _ _ _ _ _ [ZN]) (@T9 _ _ _) WU]]],[Sw,[ZS],[Z0I,[Z0H,@aO _ _ _ _ _ _ true _ _ _ _ _ [ZG,.C,3] (@L4 _ _ _ _ _ [ZN]) (@T9 _ _ _) WU]]]]]],[ZN]]]]]],[SW]],[SL,@mI _ _ _ _ _ [SM,@aP,[Z0G,[ZG,.C,4],[WN,@c7,_,l9,ZA,[Yh],@m7 _ _ _ _ _ _ _ _ _ _ _ _ _ _ w8 w6 WU (bl Y).len_ qB8 [ZP,[ZG,.B,4]] Xaa Xaa WU WU]]]]]]]]]]]⟩
abbrev fb:[TR]:=d9 2 5 m__law_none
def V6:bh m__law_none:=[SD,bh]
abbrev cL (m:Xae):Prop:=K0 "_law_run" 158 898 pm4 ["_law_land_here","_law_here","_law_row_here"] 1 λK=>spM K 3 .F (d9 3 7 m)
def m__law_run:Xae:=Subtype.val (p:=cL) ⟨_,λ{w mg} Y=>by
 show 9 31 Zo [TF,@c8,@O8 _ _ _ _ _ _ _ _ _ _ _ _ _ qF5 rfl [Z0P,[ZP,@m7 _ _ _ _ _ _ _ _ _ _ _ _ _ _ w8 w6 WU (bl Y).len_ qB8 [ZP,[Tn]] Xaa Xaa WU WU]] [p7,3] (@p9 _ _) [TF,@c8,@Co _ _ _ _ _ _ _ _ _ _ _ (@e9 _ _ _ _ _ _ _ _ [Tc,[Yh],[ZN]] [Tc,[Tn],[ZG,.B,3]] (by show λ_ _=>rfl) WU) [Z0g,[nc,[p7,4],[nc,[p7,5],@K5 _]]] [Z0m] WU WU WU,[SU,Y7 (i:=6) [SF,i8 (d8 (top 158)) _ Zo Zd,⟨rfl,Xac,Xac,Xac,Xac,Xaa,Xac,Xac⟩] rfl [Z0P,[ZP,@m7 _ _ _ _ _ _ _ _ _ _ _ _ _ _ w8 w6 WU (bl Y).len_ qB8 [ZP,[Td]] Xaa Xaa WU WU]] [Tb,[kv,7,(Zd:ZK).Nodup,Or.inl rfl,.inr rfl]] (@p9 _ _) (B9 ([SK,7<=7])) [Tb,@mF _ _ _ _ _ [Ti,kZ,[Z01,gLt],[Tc,[Td],[ZG,.B,7]],[Tc,[ZG,.B,4],[ZG,.B,7]]]] [Tb,[ZG,.V,7]] nd rfl Xah,[SV,[Ti,dh (A7 hr),A6 (neg:=true),[ZG,.B,6],@j9 _ _ _ _ _ [SG,[SE,@b7 _ _ _ _]]],[SL,[Tv,@J0,_,[Tk,[Yd,[ZS],[ZG,.V,3]]]]],[SW]],[Tt,[Tu,1,@N9 _ _ _ _ _ _ _ _ _ _ _ _ _ _ aI (aG (c:=true)) WU (bl Y).tuple_ M1 [ZP,[SG,F3 [SF,i8 (d8 (top 158)) _ Zo Zd,⟨rfl,Xac,Xac,Xac,Xac,Xaa,Xac,Xac⟩] rfl [Z0P,[ZP,@m7 _ _ _ _ _ _ _ _ _ _ _ _ _ _ w8 w6 WU (bl Y).len_ qB8 [ZP,[ZG,.B,5]] Xaa Xaa WU WU]] [Tb,[kv,7,(Zd:ZK).Nodup,Or.inl rfl,.inr rfl]] (@p9 _ _) (B9 ([SK,7<=7])) [Tb,@D8 _ _ _] [Tb,[WN,@c7,_,z9,[i1,F2],[WN,@c7,_,vQ,[i1,gSub],[Tc,[Td],[ZG,.B,7]],[Tc,[ZG,.B,4],[ZG,.B,7]]],[Tc,[ZG,.B,5],[ZG,.B,7]]]]]] Xaa Xaa WU WU]]]] (by intro _;rfl),[Tt,@db _ _ _ _ _ 1 _ _ [Ws] WU Xab Xaa Xaa]]⟩
abbrev ij:[TR]:=d9 3 7 m__law_run
def X9:cL m__law_run:=[SD,cL]
abbrev V0 (m:Xae):Prop:=K0 "_law_counted" 160 908 pm4 ["_law_here"] 1 λK=>spM K 1 .F (d9 1 1 m)
def m__law_counted:Xae:=Subtype.val (p:=V0) ⟨_,λ{w mg} Y=>by
 show 9 32 ["_law_here"] [SL,[Z0I,[Z0H,F3 [SF,i8 (d8 (top 160)) _ ["_law_here"] Zz,⟨rfl,Xac,Xac,Xac,Xac,Xaa,Xac,Xac⟩] rfl [Tv,@df,[Yh],WU] [Tb,[kv,1,(Zz:ZK).Nodup,Or.inl rfl,.inr rfl]] (@p9 _ _) (B9 ([SK,1<=1])) [Tb,@D8 _ _ _] [Tb,@N9 _ _ _ _ _ _ _ _ _ _ _ _ _ _ E9 cI WU (bl Y).str_ R0 [ZP,[Td]] Xaa Xaa WU WU]]]]⟩
abbrev jr:[TR]:=d9 1 1 m__law_counted
def t5:V0 m__law_counted:=[SD,V0]
abbrev dO (m:[p5]):Prop:=K0 "_law_go" 159 903 pm4 ["_law_cell_here","_law_land_here","_law_here","_law_desk"] 10 λK=>spO K XE dC 3 4 (t7 3 4 11 dC m)
def m__law_go:[p5]:=Subtype.val (p:=dO) ⟨λp=>_,λ{w mg} Y=>by
 show wD (dk Y 33) λD=>okO D.F (N:=Zp) λp=>λhr nd=>[Tf,[gV,[pr,4,[Z0G,[SG,[SE,[Yd,[WN,@c7,_,z9,[i1,F2],[ZN],[fx,[Yh]]],[WN,@c7,_,z9,[i1,F2],[ZN],[fx,[Yh]]]]]],@N9 _ _ _ _ _ _ _ _ _ _ _ _ _ _ xH RN WU (bl Y).int_ oK [ZP,[Z0K,o6,k9,[fx,[WN,@c7,_,x8,ZC,[Yh],[ZN]]],[ZN]]] Xaa Xaa WU WU]]],[Tf,[gV,Y7 (i:=5) [SF,i8 (d8 (top 159)) _ Zp Ze,⟨rfl,Xac,Xac,Xac,Xac,Xaa,Xac,Xac⟩] rfl [Z0P,[ZP,[ZG,.B,4]]] [Tb,[kv,11,(Ze:ZK).Nodup,Or.inl rfl,.inr rfl]] (@p9 _ _) (B9 ([SK,11<=11])) [Tb,@D8 _ _ _] [Tb,[WN,@c7,_,l9,ZA,[WN,@c7,_,x8,ZC,[Yh],[WN,@c7,_,z9,[i1,F2],[ZN],[WN,@c7,_,D6,ZB,[WN,@c7,_,D6,ZB,[WN,@c7,_,D6,ZB,[ZN],[ZG,.B,11]],[ZG,.B,11]],[ZG,.B,11]]]],@m7 _ _ _ _ _ _ _ _ _ _ _ _ _ _ w8 w6 WU (bl Y).len_ qB8 [ZP,[Tc,[Td],[ZN]]] Xaa Xaa WU WU]] nd rfl Xah],[Tf,[gV,Y7 (i:=6) [SF,i8 (d8 (top 159)) _ Zp Ze,⟨rfl,Xac,Xac,Xac,Xac,Xaa,Xac,Xac⟩] rfl [Tv,@df,[ZG,.B,5],WU] [Tb,[kv,11,(Ze:ZK).Nodup,Or.inl rfl,.inr rfl]] (@p9 _ _) (B9 ([SK,11<=11])) [Tb,@D8 _ _ _] [Tb,[SM,@vv,@e9 _ _ _ _ _ _ _ _ [Tc,[Td],[ZN]] [ZG,.B,11] (by show λ_ _=>rfl) WU]] nd rfl Xah],[Tf,[Sv,[Ti,o6,k9,[fx,[WN,@c7,_,x8,ZC,[Yh],[ZN]]],[ZN]],[Tf,[gV,[Tu,7,[SE,[Tk,[Tk,[Yd,[ZS],[Sw,[Tc,[ZG,.B,6],[ZN]],[ZS]]]]]]]],[Tf,[gV,@Qh _ _ _ _ _ _ _ _ 6 _ _ _ _ rfl Xab [WN,@c7,_,l9,ZA,[WN,@c7,_,x8,ZC,[Yh],[ZN]],@m7 _ _ _ _ _ _ _ _ _ _ _ _ _ _ w8 w6 WU (bl Y).len_ qB8 [ZP,[ZG,.B,6]] Xaa Xaa WU WU] ([Z0G,[ZG,.C,7],[fx,[WN,@c7,_,x8,ZC,[Yh],[ZN]]]]) Xaa Xaa (@Kq _ _ _ _ _ _ _ (@pv _ 6 _ _ WU Xab Xaa Xaa) [WN,@c7,_,l9,ZA,[WN,@c7,_,x8,ZC,[Yh],[ZN]],@m7 _ _ _ _ _ _ _ _ _ _ _ _ _ _ w8 w6 WU (bl Y).len_ qB8 [ZP,[ZG,.B,6]] Xaa Xaa WU WU] set_list (by intro _;rfl)) WU WU],[Tf,@vy _ _ _ _ _ _ _ _ 8 _ _ nd rfl Xah (@B5 _ _ _ _ _ _ _ _ _ 3 _ _ _ _ _ _ _ _ _ _ [SN] (c6 Y).2 [UH] WU (c6 Y).1.m [TK,c6] (c6 Y).1.b [Z0E,3,[ZP,[Sw,[ZS],[Z0I,[ZG,.B,6]]]]] Xaa WU WU) WU Xai,[Tv,@k7,_,[TF,@F7,3,[Z0W,[Yd,[Z0K,E7 (A7 hr),A6 (neg:=false),[ZG,.B,8],[Z0L,[Yd,[ZS],[ZS]]]],[ZG,.V,2]]]]]]]]],[Tf,[gV,[Tu,9,@n9 _ _ _ _ _ _ _ _ _ _ _ _ _ _ _ _ (X9 Y).2 [Ws] [UH] WU (X9 Y).1.m [TK,X9] (X9 Y).1.b [I0,[Td],[Yd,[Tn],[ZG,.B,5]]] Xaa WU WU]],[Tf,@vy _ _ _ _ _ _ _ _ 10 _ _ nd rfl Xah (@B5 _ _ _ _ _ _ _ _ _ 3 _ _ _ _ _ _ _ _ _ _ [SN] (c6 Y).2 [UH] WU (c6 Y).1.m [TK,c6] (c6 Y).1.b [Z0E,3,[ZP,[Sw,[ZS],[Z0I,[ZG,.B,6]]]]] Xaa WU WU) WU Xai,[Tf,[Sv,[Ti,E7 (A7 hr),A6 (neg:=false),[i2,@Qg _ _ _ _ _ _ _ _ _ _ _ [ZG,.B,9] (@T9 _ _ _) (@L4 _ _ _ _ _ [ZN]) WU],[Z0L,[ZP,[ZS]]]],[Tv,@k7,_,[TF,@F7,3,[Z0W,[Yd,[Z0K,E7 (A7 hr),A6 (neg:=false),[ZG,.B,10],[ZG,.B,9]],[ZG,.V,2]]]]]],[Tv,@k7,_,[TF,@F7,3,[Z0W,[Yd,[Z0K,E7 (A7 hr),A6 (neg:=false),[ZG,.B,10],[Z0L,[Yd,[ZS],@aP _ _ _ _ _ [SM,@v4,@n9 _ _ _ _ _ _ _ _ _ _ _ _ _ _ _ _ (t5 Y).2 [Ws] [UH] WU (t5 Y).1.m [TK,t5] (t5 Y).1.b [ZP,[ZG,.B,9]] Xaa WU WU]]]],[ZG,.V,9]]]]]]]]]]]]⟩
abbrev wX:[Z05]:=t7 3 4 11 dC m__law_go
def aA:dO m__law_go:=[SD,dO]
abbrev U9 (m:[p5]):Prop:=K0 "_law_strange" 161 915 pm4 ["_law_cell_here","_law_land_here","_law_desk"] 10 λK=>spO K XE dC 2 3 (t7 2 3 4 dC m)
def m__law_strange:[p5]:=Subtype.val (p:=U9) ⟨λp=>_,λ{w mg} Y=>by
 show wD (dk Y 34) λD=>okO D.F (N:=["_law_cell_here","_law_land_here","_law_desk","_law_some"]) λp=>λhr nd=>[Tf,[gV,[Tu,3,[SE,[Tk,[Tk,[Tk,[Yd,[Sw,[Sw,[ZS],[Tc,[Tc,[Td],[ZN]],[ZN]]],[ZS]],[ZS]]]]]]]],[Tf,[gV,[Tu,3,[Z06,[ZG,.C,3],[SG,[SE,[Yd,[Sw,[Sw,[ZS],[Tc,[Tc,[Td],[ZN]],[ZN]]],[ZS]],[ZS]]]]]]],[Tv,@k7,_,[TF,@K3,2,[WN,@W0,E7 (A7 hr),A6 (neg:=false),@B5 _ _ _ _ _ _ _ _ _ 2 _ _ _ _ _ _ _ _ _ _ [SN] (c6 Y).2 [UH] WU (c6 Y).1.m [TK,c6] (c6 Y).1.b [Z0E,2,[ZP,[Tc,[ZG,.B,3],[WN,@c7,_,l9,ZA,[Yh],@m7 _ _ _ _ _ _ _ _ _ _ _ _ _ _ w8 w6 WU (bl Y).len_ qB8 [ZP,[ZG,.B,3]] Xaa Xaa WU WU]]]] Xaa WU WU,[Z0L,[Yd,[ZS],[ZS]]],by first|show c9 _|rfl]]]]]⟩
abbrev jq:[Z05]:=t7 2 3 4 dC m__law_strange
def P2:U9 m__law_strange:=[SD,U9]
abbrev X1 (m:[p5]):Prop:=K0 "_law_untold" 162 922 pm4 ["_law_cell_here","_law_desk"] 10 λK=>spO K XE dC 1 2 (t7 1 2 3 dC m)
def m__law_untold:[p5]:=Subtype.val (p:=X1) ⟨λp=>_,λ{w mg} Y=>by
 show wD (dk Y 35) λD=>okO D.F (N:=["_law_cell_here","_law_desk","_law_some"]) λp=>λhr nd=>[Tf,[gV,[Tu,2,[SE,[Tk,[Tk,[Tk,[Tk,[Tk,[Tk,[Tk,[Yd,[ZS],[ZS]]]]]]]]]]]],[Tf,[gV,[Tu,2,[Z06,[ZG,.C,2],[SG,[SE,[Tk,[Tk,[Tk,[Tk,[Yd,[ZS],[ZS]]]]]]]]]]],[Tv,@k7,_,[TF,@K3,1,[WN,@W0,E7 (A7 hr),A6 (neg:=false),@B5 _ _ _ _ _ _ _ _ _ 1 _ _ _ _ _ _ _ _ _ _ [SN] (c6 Y).2 [UH] WU (c6 Y).1.m [TK,c6] (c6 Y).1.b [Z0E,1,[ZP,[Tc,[Tn],[WN,@c7,_,l9,ZA,[Yh],@m7 _ _ _ _ _ _ _ _ _ _ _ _ _ _ w8 w6 WU (bl Y).len_ qB8 [ZP,[Tn]] Xaa Xaa WU WU]]]] Xaa WU WU,[Z0L,[Yd,[ZS],[ZS]]],by first|show c9 _|rfl]]]]]⟩
abbrev kE:[Z05]:=t7 1 2 3 dC m__law_untold
def R1:X1 m__law_untold:=[SD,X1]
abbrev cM (m:[p5]):Prop:=K0 "_law_row" 163 929 pm4 ["_law_cell_here","_law_desk","_law_land_here","_law_here"] 11 λK=>spO K XE dC 1 4 (t7 1 4 7 dC m)
def m__law_row:[p5]:=Subtype.val (p:=cM) ⟨λp=>_,λ{w mg} Y=>by
 show wD (dk Y 36) λD=>okO D.F (N:=["_law_cell_here","_law_desk","_law_land_here","_law_here","_law_kind","_law_some","_law_wrong"]) λp=>λhr nd=>[Tf,[gV,[pr,4,[fx,[Yh]]]],[Tf,[gV,[pr,0,[WN,@c7,_,x8,ZC,[Yh],[ZN]]]],[Tf,[Sv,[Ti,o6,k9,[ZG,.B,4],[ZN]],[Tv,@k7,_,[TF,@K3,1,@T8 _ _ _ _ _ _ _ _ _ _ [WN,@W0,E7 (A7 hr),A6 (neg:=false),@B5 _ _ _ _ _ _ _ _ _ 1 _ _ _ _ _ _ _ _ _ _ [SN] (c6 Y).2 [UH] WU (c6 Y).1.m [TK,c6] (c6 Y).1.b [Z0E,1,[ZP,[i2,@n9 _ _ _ _ _ _ _ _ _ _ _ _ _ _ _ _ (V6 Y).2 [Ws] [UH] WU (V6 Y).1.m [TK,V6] (V6 Y).1.b [Yd,[Yh],[Tn]] Xaa WU WU]]] Xaa WU WU,[Z0L,[Yd,[ZS],[ZS]]],by first|show c9 _|rfl] [ZG,.V,3] WU WU]]],[Tf,[Sv,[Ti,o6,k9,[ZG,.B,4],[ZN]],[Tf,[gV,[Tu,5,[SE,[Tk,[Tk,[Tk,[Tk,[Tk,[Yd,[ZS],[ZS]]]]]]]]]],[Tf,[gV,[Z0y,5,[ZS]]],[Tf,[gV,[pr,6,[Z0G,[ZG,.C,5],[fx,[Yh]]]]],[Tv,@k7,_,[TF,@K3,1,@T8 _ _ _ _ _ _ _ _ _ _ [WN,@W0,E7 (A7 hr),A6 (neg:=false),@B5 _ _ _ _ _ _ _ _ _ 1 _ _ _ _ _ _ _ _ _ _ [SN] (c6 Y).2 [UH] WU (c6 Y).1.m [TK,c6] (c6 Y).1.b [Z0E,1,[ZP,[Sw,[ZS],[ZG,.B,6]]]] Xaa WU WU,[Z0L,[Yd,[ZS],[ZS]]],by first|show c9 _|rfl] [ZG,.V,3] WU WU]]]]]],[Tf,[Sv,[Ti,o6,k9,[ZG,.B,4],[ZN]],[Tv,@k7,_,[TF,@K3,1,@T8 _ _ _ _ _ _ _ _ _ _ [WN,@W0,E7 (A7 hr),A6 (neg:=false),@B5 _ _ _ _ _ _ _ _ _ 1 _ _ _ _ _ _ _ _ _ _ [SN] (c6 Y).2 [UH] WU (c6 Y).1.m [TK,c6] (c6 Y).1.b [Z0E,1,[ZP,[Sw,[ZS],@N9 _ _ _ _ _ _ _ _ _ _ _ _ _ _ E9 cI WU (bl Y).str_ R0 [ZP,[WN,@c7,_,z9,[i1,F2],[ZN],[fx,[Yh]]]] Xaa Xaa WU WU]]] Xaa WU WU,[Z0L,[Yd,[ZS],[ZS]]],by first|show c9 _|rfl] [ZG,.V,3] WU WU]]],[Tf,[Sv,[Ti,di,dl,[Tn],@F8 _ _ _ _ _ _],[Tv,@k7,_,[TF,@K3,1,@T8 _ _ _ _ _ _ _ _ _ _ (@B5 _ _ _ _ _ _ _ _ _ 1 _ _ _ _ _ _ _ _ _ _ [SN] (R1 Y).2 [UH] WU (R1 Y).1.m [TK,R1] (R1 Y).1.b (@fE _ _ _ _ _ _ _ _ [Yh] [Z0E,1,@b7 _ _ _ _] WU) Xaa WU WU) [ZG,.V,3] WU WU]]],[Tf,[Sv,[Ti,o6,k9,[ZG,.B,4],[ZN]],[Tv,@k7,_,[TF,@K3,1,@T8 _ _ _ _ _ _ _ _ _ _ (@B5 _ _ _ _ _ _ _ _ _ 1 _ _ _ _ _ _ _ _ _ _ [SN] (P2 Y).2 [UH] WU (P2 Y).1.m [TK,P2] (P2 Y).1.b (@fE _ _ _ _ _ _ _ _ [Yh] (@fE _ _ _ _ _ _ _ _ [Tn] [Z0E,1,@b7 _ _ _ _] WU) WU) Xaa WU WU) [ZG,.V,3] WU WU]]],[Tf,[Sv,[Ti,o6,k9,[ZG,.B,4],[ZN]],[Tv,@k7,_,[TF,@K3,1,@T8 _ _ _ _ _ _ _ _ _ _ [WN,@W0,E7 (A7 hr),A6 (neg:=false),@B5 _ _ _ _ _ _ _ _ _ 1 _ _ _ _ _ _ _ _ _ _ [SN] (c6 Y).2 [UH] WU (c6 Y).1.m [TK,c6] (c6 Y).1.b [Z0E,1,[ZP,[ZS]]] Xaa WU WU,[Z0L,[Yd,[ZS],@aP _ _ _ _ _ [SM,@v4,@n9 _ _ _ _ _ _ _ _ _ _ _ _ _ _ _ _ (E3 Y).2 [Ws] [UH] WU (E3 Y).1.m [TK,E3] (E3 Y).1.b [I0,[Tn],[TF,@x6,_,@b7 _ _ _ _]] Xaa WU WU]]],by first|show c9 _|rfl] [ZG,.V,3] WU WU]]],[Tf,[Sv,PW.pt (@gF _ _ _ _ _ _ _ _ _ [Ti,o6,k9,[ZG,.B,4],[ZN]] (@dW _ _ _ _ _ _ [Ti,o6,k9,[fx,[Yh]],[ZN]])),[Tv,@k7,_,[TF,@K3,1,@T8 _ _ _ _ _ _ _ _ _ _ [WN,@W0,E7 (A7 hr),A6 (neg:=false),@B5 _ _ _ _ _ _ _ _ _ 1 _ _ _ _ _ _ _ _ _ _ [SN] (c6 Y).2 [UH] WU (c6 Y).1.m [TK,c6] (c6 Y).1.b [Z0E,1,[ZP,[ZS]]] Xaa WU WU,[Z0L,[Yd,[ZS],@aP _ _ _ _ _ [SM,@v4,@n9 _ _ _ _ _ _ _ _ _ _ _ _ _ _ _ _ (t5 Y).2 [Ws] [UH] WU (t5 Y).1.m [TK,t5] (t5 Y).1.b [ZP,[Tc,[Tn],[ZN]]] Xaa WU WU]]],by first|show c9 _|rfl] [SM,@vv,@e9 _ _ _ _ _ _ _ _ [Tn] [ZN] (by show λ_ _=>rfl) WU] WU WU]]],[Tv,@k7,_,[TF,@K3,1,@B5 _ _ _ _ _ _ _ _ _ 1 _ _ _ _ _ _ _ _ _ _ [SN] (aA Y).2 [UH] WU (aA Y).1.m [TK,aA] (aA Y).1.b (@fE _ _ _ _ _ _ _ _ [Yh] (@fE _ _ _ _ _ _ _ _ [Tn] (@fE _ _ _ _ _ _ _ _ [ZG,.B,3] [Z0E,1,@b7 _ _ _ _] WU) WU) WU) Xaa WU WU]]]]]]]]]]]⟩
abbrev Y4:[Z05]:=t7 1 4 7 dC m__law_row
def Y0:cM m__law_row:=[SD,cM]
abbrev uf (m:Xae):Prop:=K0 "law" 164 936 pm4 ["_law_script"] 12 λK=>spM K 1 .F (d9 1 11 m)
def m_law:Xae:=Subtype.val (p:=uf) ⟨_,λ{w mg} Y=>by
 show 9 37 ["_law_script","_law_times","_law_lands","_law_desk","_law_other","_law_land_here","_law_here","_law_k","_law_cell_here","_law_right","_law_thing"] [SU,[pr,1,[ZN]],[SV,[Ti,o6,k9,[fx,[i2,@n9 _ _ _ _ _ _ _ _ _ _ _ _ _ _ _ _ (i9 Y).2 [Ws] [UH] WU (i9 Y).1.m [TK,i9] (i9 Y).1.b [I0,[Yh],[TF,@x6,_,@b7 _ _ _ _]] Xaa WU WU]],[ZN]],[Tt,[pr,1,[WN,@c7,_,z9,[i1,F2],[ZN],[WN,@c7,_,l9,ZA,[WN,@c7,_,x8,ZC,[i2,@n9 _ _ _ _ _ _ _ _ _ _ _ _ _ _ _ _ (i9 Y).2 [Ws] [UH] WU (i9 Y).1.m [TK,i9] (i9 Y).1.b [I0,[Yh],[TF,@x6,_,@b7 _ _ _ _]] Xaa WU WU],[ZN]],[WN,@c7,_,mX,ZD,[ZN],[ZN]]]]]],[SW]],[TF,@c8,[Tu,2,[SE,[Yd,[SM,@v4,@n9 _ _ _ _ _ _ _ _ _ _ _ _ _ _ _ _ (E4 Y).2 [Ws] [UH] WU (E4 Y).1.m [TK,E4] (E4 Y).1.b [I0,[Yh],[TF,@x6,_,[ZP,[Td]]]] Xaa WU WU],[SM,@v4,@n9 _ _ _ _ _ _ _ _ _ _ _ _ _ _ _ _ (E4 Y).2 [Ws] [UH] WU (E4 Y).1.m [TK,E4] (E4 Y).1.b [I0,[Yh],[TF,@x6,_,[TF,@x6,_,@b7 _ _ _ _]]] Xaa WU WU]]]],[SU,@vm _ _ _ _ _ _ _ _ 3 _ _ _ _ _ _ _ _ _ [Ws] nd rfl Xah (CS w) (qO Y) [UH] WU (MU Y) (bN w) Xaa WU Xai,@vm _ _ _ _ _ _ _ _ 4 _ _ _ _ _ _ _ _ _ (.inr rfl) nd rfl Xah (CS w) (qO Y) [UH] WU (MU Y) (bN w) Xaa WU Xai,[SU,[pr,5,@F8 _ _ _ _ _ _],[Tu,6,[Tv,@J0,_,@b7 _ _ _ _]],[SU,@O8 _ _ _ _ _ _ _ _ _ _ _ _ _ qF5 rfl [Z0P,[ZP,@m7 _ _ _ _ _ _ _ _ _ _ _ _ _ _ (xE rfl) (b_2 (g:=Mc)) WU (bl Y).min_ Ol [TF,@x6,_,[ZP,[WN,@c7,_,z9,[i1,F2],[ZN],@m7 _ _ _ _ _ _ _ _ _ _ _ _ _ _ w8 w6 WU (bl Y).len_ qB8 [ZP,[Yh]] Xaa Xaa WU WU]]] Xaa Xaa WU WU]] [p7,7] (@p9 _ _) [SU,[pr,8,[WN,@c7,_,l9,ZA,[i2,@n9 _ _ _ _ _ _ _ _ _ _ _ _ _ _ _ _ (i9 Y).2 [Ws] [UH] WU (i9 Y).1.m [TK,i9] (i9 Y).1.b [Yd,[Yh],[WN,@c7,_,z9,[i1,F2],[ZN],[ZG,.B,7]]] Xaa WU WU],[WN,@c7,_,mX,ZD,[ZN],[ZN]]]],[SV,[Z0n,[Ti,o6,k9,[fx,[ZG,.B,8]],[ZN]],PW.pt (@gF _ _ _ _ _ _ _ _ _ [Ti,o6,k9,[ZG,.B,7],[ZN]] (@dW _ _ _ _ _ _ [Ti,di,dl,[ZG,.B,5],@F8 _ _ _ _ _ _]))],[SU,[pr,5,[Z0G,[ZG,.C,2],[fx,[WN,@c7,_,x8,ZC,[ZG,.B,8],[ZN]]]]],[pr,6,[Z0G,[ZG,.C,5],[ZN]]],[Tt,@sj _ _ _ _ _ _ _ _ _ _ _ (@iT _ _ _ _ _ _ _ _ _ _ _ (dh (A7 hr)) (A6 (neg:=true)) (@B5 _ _ _ _ _ _ _ _ _ 3 _ _ _ _ _ _ _ _ _ _ [SN] (c6 Y).2 [UH] WU (c6 Y).1.m [TK,c6] (c6 Y).1.b [Z0E,3,[ZP,[Sw,[ZS],[i2,@n9 _ _ _ _ _ _ _ _ _ _ _ _ _ _ _ _ (E3 Y).2 [Ws] [UH] WU (E3 Y).1.m [TK,E3] (E3 Y).1.b [Yd,[ZG,.B,5],[fx,[WN,@c7,_,x8,ZC,[ZG,.B,8],[ZN]]]] Xaa WU WU]]]] Xaa WU WU) [Z0L,[Yd,[ZS],[ZS]]] (by first|show c9 _|rfl)) [SL,@bY _ _ _ _ _ _ _] [SW]]],[TF,@c8,@Kc _ _ _ _ _ _ _ _ _ _ (@B5 _ _ _ _ _ _ _ _ _ 3 _ _ _ _ _ _ _ _ _ _ [SN] (Y0 Y).2 [UH] WU (Y0 Y).1.m [TK,Y0] (Y0 Y).1.b (@fE _ _ _ _ _ _ _ _ [WN,@c7,_,x8,ZC,[ZG,.B,8],[ZN]] [Z0E,3,[Yd,[ZG,.B,5],[ZG,.B,6]]] WU) Xaa WU WU) [Z0g,[nc,[p7,9],[nc,[p7,6],@K5 _]]] (@Q7 _ _ _ _ _ [Ws] (@n8 _ _ _ _ _ _ [Ws] (@Mb _ _) (@n8 _ _ _ _ _ _ [Ws] (@Mb _ _) (@K7 _ _)))) WU WU WU,[Tt,[SV,[Z0a,[ZG,.B,9]],[SL,@bY _ _ _ _ _ _ _],[SW]]]]],[Tt,@sj _ _ _ _ _ _ _ _ _ _ _ [TF,@Eu,[Ti,eh,eA,[ZG,.B,5],@F8 _ _ _ _ _ _],@iT _ _ _ _ _ _ _ _ _ _ _ (dh (A7 hr)) (A6 (neg:=true)) (@B5 _ _ _ _ _ _ _ _ _ 3 _ _ _ _ _ _ _ _ _ _ [SN] (c6 Y).2 [UH] WU (c6 Y).1.m [TK,c6] (c6 Y).1.b [Z0E,3,[ZP,[ZS]]] Xaa WU WU) [Z0L,[Yd,[ZS],@aP _ _ _ _ _ [SM,@v4,@n9 _ _ _ _ _ _ _ _ _ _ _ _ _ _ _ _ (t5 Y).2 [Ws] [UH] WU (t5 Y).1.m [TK,t5] (t5 Y).1.b [ZP,[ZG,.B,6]] Xaa WU WU]]] (by first|show c9 _|rfl)] [SL,@bY _ _ _ _ _ _ _] [SW]]] (by intro _;rfl),@O8 _ _ _ _ _ _ _ _ _ _ _ _ _ qF5 rfl [Tv,@vo,@aP _ _ _ _ _ (@v4 _ _ _ _ _ [SE,[I0,@F8 _ _ _ _ _ _,[TF,@x6,_,[ZP,@v4 _ _ _ _ _ [SE,[ZP,[ZS]]]]]]]),WU] [p7,10] (@p9 _ _) [Tt,@sj _ _ _ _ _ _ _ _ _ _ _ (@iT _ _ _ _ _ _ _ _ _ _ _ (dh (A7 hr)) (A6 (neg:=true)) (@B5 _ _ _ _ _ _ _ _ _ 3 _ _ _ _ _ _ _ _ _ _ [SN] (c6 Y).2 [UH] WU (c6 Y).1.m [TK,c6] (c6 Y).1.b [Z0E,3,[ZP,[ZG,.B,10]]] Xaa WU WU) [Z0L,[Yd,[ZS],[ZS]]] (by first|show c9 _|rfl)) [SL,@bY _ _ _ _ _ _ _] [SW]] (by intro _;rfl),[Tt,@JU _ _ _ _ _ _ _ _ [Ws] [Ws] [WN,@W0,E7 (A7 hr),A6 (neg:=false),@EA _ _ _ _ _ _ _ _ 4 _ _ _ _ _ _ _ _ _ _ (c6 Y).2 [UH] WU (c6 Y).1.m [TK,c6] (c6 Y).1.b [Z0E,4,[ZP,[ZS]]] Xaa WU WU,[Z0L,[Yd,[ZS],[ZS]]],by first|show c9 _|rfl]]]]]]]⟩
abbrev tG:[TR]:=d9 1 11 m_law
def Cq:uf m_law:=[SD,uf]
end K92
set_option maxHeartbeats 4000000
open PySem L2 TP
namespace K92
def rp15:=Z1 (@Bool.not_true) (Z1 (@Bool.not_false) (Z1 (@Bool.true_or) (Z1 (@Bool.or_true) (Z1 (@Bool.false_or) (Z1 (@Bool.or_false) (Z1 (@Bool.true_and) (Z1 (@Bool.and_true) (Z1 (@qP6) (Z1 (@Bool.and_false) (Z1 (@Int.sub_zero) (Z1 (@Int.zero_add) (Z1 (@qF7) (Z1 (@qJ7) (Z1 (@Bool.true_eq_false) (Z1 (@and_true) (Z1 (@true_and) (Z1 (@or_true) (Z1 (@true_or) (@and_self)))))))))))))))))))
def rp18:=Z1 (@qC2.{0}) (Z1 (@qI3.{0}) (Z1 (@qA1.{0,0}) (Z1 (@qC4.{0}) (Z1 (@qD0.{0}) (@qB7)))))
def rp17:=Z1 (@qD2.{0,0}) (Z1 (@qH6.{0,0}) (Z1 (@List.replicate_succ.{0}) (Z1 (@List.replicate_zero.{0}) (Z1 (@qJ2.{0}) (Z1 (@qT0.{0}) (Z1 (@qD3.{0}) (Z1 (@R.ok_bind) (Z1 (@R.stuck_bind) (@R.ex_bind)))))))))
def rp19:=Z1 (@qM3.{0}) (Z1 (@Option.isNone_none.{0}) (Z1 (@Option.isNone_some.{0}) (Z1 (@Option.bind_some.{0,0}) (Z1 (@qK7.{1}) (Z1 (@qM8.{1}) (Z1 (@decide_true) (@decide_false)))))))
abbrev cl (x:Str):List Nat:=x.cps.toList
noncomputable abbrev num (c:Int):Str:=Str.ofString (toString c)
theorem D5 x y:cl (x++y)=cl x++cl y:=[Tr,Str.cps_append]
theorem B4 x:[ZM,cl x]=x.length:=qG3
theorem iu (h:cl x=cl y):x=y:=Str.ext' (Array.toList_inj.mp h)
def P4 y p q(r:ZK):Str.join y (p::q::r)=p++y++Str.join y (q::r):=rfl
def Tg (y:Str):Str->([Ta])->Prop
 |p,[]=>∀k,¬ cl y <+: (cl p).drop k
 |p,q::r=>(∀k,k<p.length->¬ cl y <+: (cl (Str.join y (p::q::r))).drop k)/\Tg y q r
def xZ (h:StrLaws.At x y x.length k):cl y <+: (cl x).drop k:=by
 have I:=h.2
 grind[PySem.StrLaws.subAt_eq]
def mT (a3:1<=y.length):∀(ps:ZK) p a I f,Tg y p ps->(cl x).drop a=cl (Str.join y (p::ps))->a<=x.length->StrLaws.ChainG x y x.length a I f->(∀k,f<=k->¬ StrLaws.At x y x.length k)->StrLaws.partsFrom x y.length a I=p::ps
 | [],p,a,I,f,hq,hx,ha,hc,hn=>by
  have VT:_=cl p:=hx;have no:∀k,a<=k->¬ StrLaws.At x y _ k:=λk hk T=>by
   have e:=xZ T;rw[show (cl x).drop k=((cl x).drop a).drop _ by rw[qJ0,qP2 hk],VT]at e;show hq _ e
  cases I with
  | nil=>
   change [_] = [p]
   grind[iu,PySem.StrLaws.strSub_toList,B4]
  |cons d I=>show absurd hc.2.1 (no d hc.1)
 | q::ps,p,a,I,f,hq,hx,ha,hc,hn=>by
  have Yu:=hx;rw[P4,D5,D5,qG2]at hx;have hl:=B4 x;have O:[ZM,cl y]=y.length:=B4 y;have a5:x.length-a=[ZM,cl p]+(y.length+[ZM,cl (Str.join y (q::ps))]):=by
   have:=congrArg List.length hx
   rw[qF4,qC4,qC4,hl,O]at this;show this
  have a4:[ZM,cl p]=p.length:=B4 p;have hd:(cl x).drop (a+p.length)=cl y++cl (Str.join y (q::ps)):=by
   rw[<- qJ0,hx,<- a4,qU9]
  have T:StrLaws.At x y x.length (a+p.length):=by
   refine ⟨ZU,?_⟩
   grind[PySem.StrLaws.subAt_eq]
  have no:∀k,a<=k->k<a+p.length->¬ StrLaws.At x y x.length k:=λk hk Vz hB=>by
   have e:=xZ hB;rw[show (cl x).drop k=((cl x).drop a).drop (k-a) by rw[qJ0,qP2 hk],Yu]at e;show hq.1 _ ZU e
  cases I with
  | nil=>
   have e:f=a:=hc;show absurd T (hn _ ZU)
  | cons d I=>
   have VW:d=a+p.length:=by
    by_cases h1:d<a+p.length
    .show absurd hc.2.1 (no d hc.1 h1)
    .by_cases h2:a+p.length<d
     .show absurd T (hc.2.2.1 _ ZU h2)
     .omega
   subst VW
   change Builtin.Str.strSub x a (a+p.length)::StrLaws.partsFrom x y.length (a+p.length+y.length) I=p::q::ps;rw[mT a3 ps q (a+p.length+y.length) I f hq.2 (by rw[<- qJ0,hd,<- O,qU9]) ZU hc.2.2.2 hn];congr 1;apply iu
   change (Builtin.Str.strSub x a (a+p.length)).cps.toList=_;rw[qJ1,show x.cps.toList=cl x from rfl,hx,[TQ,a+p.length-a=[ZM,cl p]],List.take_left]
theorem AZ (T:1<=y.length) (hq:Tg y p ps):Builtin.Str.occurrences (Str.join y (p::ps)) y 0 [ZM,Str.join y (p::ps)] ([ZM,Str.join y (p::ps)]+1) = []/\p::ps = [Str.join y (p::ps)]\/(Builtin.Str.occurrences (Str.join y (p::ps)) y 0 [ZM,Str.join y (p::ps)] ([ZM,Str.join y (p::ps)]+1)).isEmpty=false/\¬ [ZM,Str.join y (p::ps)]<y.length/\Builtin.Str.partsBetween (Str.join y (p::ps)) (Builtin.Str.occurrences (Str.join y (p::ps)) y 0 [ZM,Str.join y (p::ps)] ([ZM,Str.join y (p::ps)]+1)) y.length=p::ps:=by
 generalize hx:Str.join y _=x
 obtain ⟨f,O,hn⟩:=StrLaws.occ_tight x y T;have I:=mT T ps p 0 _ f hq (by grind) (qE1 _) O hn;cases e:Builtin.Str.occurrences x y 0 _ _ with
 | nil=>
  rw[e]at I;refine .inl ⟨rfl,?_⟩;rw[<- I]
  change [_] = [x];rw[StrLaws.sub_whole]
 | cons d l=>
  rw[e]at I O
  have:=O.2.1.1
  show .inr ⟨rfl,ZU,by rw[StrLaws.partsBetween_eq,I]⟩
def yK (I:1<=y.length) (hk:Builtin.Str.strKind y=1) (O:Tg y p ps):Txt.split (Str.join y (p::ps)) y=p::ps:=by
 grind[Builtin.Str.strKind,Txt.split,AZ]
def Dz (I:cl y=c::r) (hp:c∉cl p):Tg y p []:=λk h=>by
 grind[List.mem_cons_self]
def DB (T:cl y=c::s) (hp:c∉cl p) (h:Tg y q r):Tg y p (q::r):=by
 refine ⟨λk hk I=>?_,h⟩;rw[T]at I;obtain ⟨u,e⟩:=I;have O:((cl (Str.join y (p::q::r))).drop k)[0]?=some c:=by rw[<- e];rfl
 rw[List.getElem?_drop,Nat.add_zero,P4,D5,D5,qG2,qD7 (by show hk)]at O;show hp (qD9 O)
def pP (I:cl y=c::s):∀(ps:ZK) p,(∀q∈p::ps,c∉cl q)->Tg y p ps
 | [],p,h=>Dz I (h p (qB3 ..))
 |q::ps,p,h=>DB I (h p (qB3 ..)) (pP I ps q λz hz=>h z (qA5 _ hz))
def gu (I:cl y=c::r) (hk:Builtin.Str.strKind y=1) p (ps:ZK) (O:∀q∈p::ps,c∉cl q):Txt.split (Str.join y (p::ps)) y=p::ps:=
 yK (by rw[<- B4,I];show qS0 (qE1 _)) hk (pP I ps p O)
def cat:([Ta])->Str
 | []=>Str.empty
 |x::r=>x++cat r
def jx:∀a b,cat (a++b)=cat a++cat b
 | [],b=>by change cat b=Str.empty++_;rw[qO0]
 |x::a,b=>by change x++cat (a++b)=x++_++_;rw[jx,qF6]
def cA y:∀(l:ZK) p,Str.join y (p::l)=p++cat (l.map λq=>y++q)
 | [],p=>by change p=p++Str.empty;rw[Str.append_empty]
 | q::l,p=>by
  rw[P4,cA]
  change p++y++_=p++(y++q++_);simp [qF6]
def Ln:∀l,Str.join Str.empty l=cat l
 | []=>rfl
 | p::l=>by
  rw[cA];congr 1;have e:=funext λq=>qO0 q;simp_all
def eB (h0:0<=c)(h:c<10^10):[ZM,num c]<=10:=PySem.W.KT.len_num h0 h
def bD (h0:0<=c):∀x∈cl (num c),48<=x/\x<=57:=by
 intro x I;show 1 m (qH9 h0);rw[show cl _=_ from PySem.W.KIN.signs_num m]at I;obtain ⟨ch,O,e⟩:=qB0.mp I;rw[<- e];show PyProof.Rows.digit_range (Nat.isDigit_of_mem_toDigits Xaa Xaa O)
def ET (h0:0<=c):1<=[ZM,num c]:=by
 grind[Int.eq_ofNat_of_zero_le,B4,PySem.W.KIN.signs_num,PySem.toDigits_len_ge]
def num_reads (h0:0<=c)(h:c<10^10):PySem.intText? (num c)=some c:=PySem.W.KIN.num_reads h0 h
abbrev lS (ts:ZK):W:=.lst (ts.map W.str)
def OP (x:R W)(l u:R ZV):R W:=x>>=λx=>l>>=λl=>u>>=λu=>slS x l u
def OM (c:Bool)(x:R W)(l k:R ZV):R W:=x>>=λx=>l>>=λl=>k>>=λk=>st2 c x l k
def Rin (neg:Bool)(o:Option Sl)(r:R W):R Bool:=r>>=inS neg o
def Rln:Option ([Ta]×List W)->R W
 |some kw=>[TJ,kw.1.length<=1000,.ok (.int kw.1.length)]
 |none=>.stuck
def Rgt (o:Option Sl) (a b:R W):R W:=match o with
 |some (.dos kw)=>a>>=λw=>b>>=λv=>AQ kw w v
 |_=>.stuck
def Rks:Option Sl->R W
 |some (.dos kw)=>.ok (.lst (kw.1.map W.str))
 |_=>.stuck
def Rvs:Option Sl->R W
 |some (.dos kw)=>.ok (.tup kw.2)
 |_=>.stuck
def Rdi:Option Sl->R Xag
 |some (.par (.dst true _ ks _))=>.ok (ks.map W.str)
 |_=>.stuck
def Rpp (o:Option Sl) (a b:R W):R Fl:=match o with
 |some (.par (.dst false a' _ _))=>b>>=λv=>a>>=λw=>zI a' v w
 |_=>.stuck
def Ds m l u a:yx m l u a=OP (m a) (l a) (u a):=rfl
def HB x l u:OP (.ok x) (.ok l) (.ok u)=slS x l u:=rfl
def Dq c m l u a:yu c m l u a=OM c (m a) (l a) (u a):=rfl
def Hw c x l u:OM c (.ok x) (.ok l) (.ok u)=st2 c x l u:=rfl
def Ft m e a:sR m e a=BN (m a) (e a):=rfl
def Hy a y:BN (.ok (.str a)) (.ok y)=L3 a y:=rfl
def Fy m e a:Ay m e a=BP (m a) (e a):=rfl
def HH a y:BP (.ok (.str a)) (.ok y)=ac a y:=rfl
def Lg ms a:mFp ms a=fpR (ms.map λm=>m a) Str.empty:=rfl
def Oo m a:bSs m a=m a>>=seqS:=rfl
def Fz neg i m a:nA neg i m a=Rin neg (a[i]?) (m a):=rfl
def Sj neg kw x:Rin neg (some (.dos kw)) (.ok (.str x))=.ok [YL,neg,! [ZL,x∈kw.1],[ZL,x∈kw.1]]:=rfl
def Si neg z a ks(ws:Xag)x:Rin neg (some (.par (.dst z a ks ws))) (.ok (.str x))=.ok [YL,neg,! [ZL,x∈ks],[ZL,x∈ks]]:=rfl
def Bm i a:im i a=Rln (dSl (a[i]?)):=WU
def Rf kw:dSl (some (.dos kw))=some kw:=rfl
theorem pf kw(h:kw.1.length<=1000):Rln (some kw)=.ok (.int kw.1.length):=qA3 h
def AB i a b c:lu i a b c=Rgt (c[i]?) (a c) (b c):=WU
def Pk kw x v:Rgt (some (.dos kw)) (.ok (.str x)) (.ok v)=.ok ((dAt kw.1 kw.2 x).getD v):=rfl
def wm i a:gW i a=Rks (a[i]?):=WU
def Pg kw:Rks (some (.dos kw))=.ok (.lst (kw.1.map W.str)):=rfl
def wj i a:gS i a=Rvs (a[i]?):=WU
def OF kw:Rvs (some (.dos kw))=.ok (.tup kw.2):=rfl
def FF i a:sZ i a=Rdi (a[i]?):=WU
def Pq a ks(ws:Xag):Rdi (some (.par (.dst true a ks ws)))=.ok (ks.map W.str):=rfl
def wn i a:gX i a=[TJ,i<a.length,[Rn,.dos ([],[])]]:=rfl
def Av i a b c:lq i a b c=dD (c[i]?) (b c) (a c) i c:=rfl
def om kw v w i a:dD (some (.dos kw)) (.ok v) (.ok w) i a=sk kw i w v a:=rfl
def EC {kw:[Ta]×List W}(I:R5 a=true)(T:k∉kw.1)(O:kw.1.length<1000):sk kw i (.str k) v a=.ok (.nx (a.set i (.dos (kw.1 ++ [k],kw.2 ++ [v])))):=qA3 ⟨I,T,O⟩
def za j a b c:kS j a b c=Rpp (c[j]?) (a c) (b c):=WU
def OY a ks(ws:Xag)k v:Rpp (some (.par (.dst false a ks ws))) (.ok (.str k)) (.ok v)=.ok (.rt (.dst false a [k] [v])):=rfl
def Qy m a:nb m a=nbR (m a):=rfl
def KS a:nbR (.ok (.nx a))=.ok (.nx a):=rfl
def Bf {x}(h:x.length<=100000):fLenS [.str x]=.ok (.int x.length):=qA3 h
def Ms x y:[TH,fSS Of Mi (.str x) (.str y),!(Builtin.Str.occurrences y x 0 y.length 1).isEmpty]:=rfl
def Ga {x y}(h:x.length+y.length<=100000):fSS CY CL (.str x) (.str y)=.ok (.str (x++y)):=qA3 (qK5 h)
def ju n x y:[TH,S6 n (.str x) (.str y),[YL,n,! [ZL,x=y],[ZL,x=y]]]:=by
 have e:[ZL,V.str x=V.str y]=decide (x=y):=by
  omega
 change R.ok _=_;rw[e]
def FZ {i}(h:i.natAbs.log2<1920):fStr [.int i]=.ok (.str (num i)):=qA3 h
def Lu:D3 "str" "str" = some true:=Xaa
def PJ x:tyW (.str x)=some "str" := rfl
def a20 (a b:W):[SA,[a,b],0,a]:=rfl
def a21 (a b:W):[SA,[a,b],1,b]:=rfl
def a30 (a b c:W):[SA,[a,b,c],0,a]:=rfl
def a31 (a b c:W):[SA,[a,b,c],1,b]:=rfl
def a32 (a b c:W):[SA,[a,b,c],2,c]:=rfl
def Da (ns:Xaj)l u:Rst (.ok (.tup (ns.map W.int))) (.ok l) (.ok u)=.ok (.tup (C4 (ns.map W.int) l u)):=ye (R6 ns) l u
def Gx e:U4 (.ex e)=.ex e:=rfl
def tY e n:andThen (.ex e) n=.ex e:=rfl
def yg (c:Str):R Xag->R Fl:=λr=>r>>=λws=>match ws with
 | [.int i]=>.ex ⟨c,some i⟩
 |_=>.stuck
def va c I a:gC c I a=yg c (I a):=rfl
def yf c i:yg c (.ok [.int i])=.ex ⟨c,some i⟩:=rfl
def unS (j:Nat):R Fl->R Fl:=λr=>r>>=nS j
def Id j a:unS j (.ok (.nx a))=.ok (.nx (a.set j .un)):=rfl
def pe (i:Nat) (c:Str) (j:Nat) (mb:Xae) (a:Rho):R W->R Fl
 | .ok w=>[Rn,N3 w]
 | .ex e=>dw c j mb e a
 | .stuck=>.stuck
def Rtr (i:Nat)(c:Str)(j:Nat)(f:[TR])(mb:Xae)(a:Rho):R Xag->R Fl:=λr=>r>>=λws=>pe i c j mb a (f ws)
def DS i c j f ma mb a:IQ i c j f ma mb a=Rtr i c j f mb a (ma a):=by
 grind[IQ,Rtr,pe]
def OG i c j f mb a ws:Rtr i c j f mb a (.ok ws)=pe i c j mb a (f ws):=rfl
def Ht i c j mb a w:pe i c j mb a (.ok w)=.ok (.nx (a.set i (N3 w))):=rfl
def Hu i c j mb a (v:ZV):pe i c j mb a (.ex ⟨c,v⟩)=unS j (mb (a.set j (.val (.exc c v)))):=by
 change dw c j mb _ a=_;unfold dw;rw[qA3 rfl];rfl
def iE (c:Str) (j:Nat) (mb:Xae) (a:Rho):R W->R Fl
 | .ok _=>.ok (.nx a)
 | .ex e=>dw c j mb e a
 | .stuck=>.stuck
def BM (c:Str)(j:Nat)(f:[TR])(mb:Xae)(a:Rho):R Xag->R Fl:=λr=>r>>=λws=>iE c j mb a (f ws)
def yT c j f ma mb a:Cf c j f ma mb a=BM c j f mb a (ma a):=by
 grind[Cf,BM,iE]
def Hv c j f mb a ws:BM c j f mb a (.ok ws)=iE c j mb a (f ws):=rfl
def BK c j mb a w:iE c j mb a (.ok w)=.ok (.nx a):=rfl
def BL c j mb a (v:ZV):iE c j mb a (.ex ⟨c,v⟩)=unS j (mb (a.set j (.val (.exc c v)))):=by
 change dw c j mb _ a=_;unfold dw;rw[qA3 rfl];rfl
def QZ c i:fAt c (.exc c [ZT,i])=.ok (.int i):=by
 change [YL,c=c,_,_]=_;omega
def Mo c n b v:[TH,Mp c (.cls n) b [.exc c v,.cls n],b]:=by
 change [YL,c=c/\n=n,_,_]=_;omega
def Mn c n b v:[TH,Mp c (.ty n) b [.exc c v,.ty n],b]:=by
 change [YL,c=c/\n=n,_,_]=_;omega
def Pb (c:Str):R Xag->R W:=λr=>r>>=λws=>match ws with
 | [.int i]=>.ok (.exc c [ZT,i])
 |_=>.stuck
def Hk c I a:bNew c I a=Pb c (I a):=rfl
def HF c i:Pb c (.ok [.int i])=.ok (.exc c [ZT,i]):=rfl
def PB e b f:R2b (.ex e) b f=.ex e:=rfl
def GD c v:chk (.exc c v)=.ok (.exc c v):=rfl
def uS c v:N3 (.exc c v)=.val (.exc c v):=rfl
def FP c v:isN (.exc c v)=false:=rfl
def nQ (I:Nat->Rho->Prop):∀(ws:Xag) n k a,I k a->n<ws.length ->
  (∀ i w a,[ZI,ws,w]->i<n->I (k+i) a->∃O,mg w a=some O/\Po (mb O) (I (k+i+1)) (λ_=>False)) ->
  (∀ w a,ws[n]?=some w->I (k+n) a->∃O,mg w a=some O/\mb O=.ex e)->M9 mg mb ws a=.ex e
 | [],n,k,a,h,hn,_,_=>absurd hn (qO6 _)
 | w::ws,0,k,a,h,hn,st,hx=>by
  obtain ⟨O,T,e2⟩:=hx w a rfl h;unfold M9;rw[T]
  change mb O>>=_=_;rw[e2];rfl
 | w::ws,n+1,k,a,h,hn,st,hx=>by
  obtain ⟨O,T,p⟩:=st 0 w a rfl (Nat.succ_pos n) h;unfold M9;rw[T]
  change mb O>>=_=_
  revert p
  cases mb O with
  |ex _=>show λp=>p.elim
  |stuck=>show λp=>p.elim
  | ok f=>cases f with
   |bk _=>show λp=>p.elim
   |ct _=>show λp=>p.elim
   |rt w=>show λp=>p.elim
   | nx a3=>
    intro p;show nQ I ws n _ a3 p [SX,hn] (λi w a hw hi hp=>by
     have:=st (i+1) w a [SX,hw] ZU ([ZO,[TQ,k+_=k+1+i],hp])
     rw[[TQ,k+_+1=k+1+i+1]]at this;show this) λw a hw hp=>hx w a [SX,hw] ([ZO,[TQ,k+_=k+1+n],hp])
def OT (c:Str):R Xag->R Fl:=λr=>r>>=λws=>[TJ,ws.length<=1000,.ex ⟨c,none⟩]
def Rfs (y:Str):R W->R W:=λr=>r>>=λw=>match w with
 | .str x=>[TJ,x.length<=1000/\y.length<=1000,.ok (.str (Str.empty++x++y))]
 |_=>.stuck
def Ps (c:Str) (a b:R W):R W:=a>>=λw=>b>>=λ_=>match w with
 | .int _=>.ok (.exc c none)
 |_=>.stuck
def Pu (n:Nat)(mg:Xan)(me:Xad)(a:Rho):R Xag->R W:=λr=>r>>=λws=>S3 n mg me ws a
def rV c I a:Y6 c I a=OT c (I a):=rfl
def HD {c}{ws}(h:ws.length<=1000):OT c (.ok ws)=.ex ⟨c,none⟩:=qA3 h
def Oq y ma a:bFs y ma a=Rfs y (ma a):=rfl
def Hl c I mv a:bDct c I mv a=Ps c (I a) (mv a):=rfl
def HL c i w:Ps c (.ok (.int i)) (.ok w)=.ok (.exc c none):=rfl
def uB n I mg me a:lH n I mg me a=Pu n mg me a (I a):=rfl
def HN n mg me a ws:Pu n mg me a (.ok ws)=S3 n mg me ws a:=rfl
def DY (h:ws.length=n):zk n N m ws=U4 (m (ws.map Sl.val++[Sx,N,n])):=by unfold zk;rw[qA3 h];rfl
def Je {N}{m}a b c:zk 3 N m [a,b,c]=U4 (m (Sl.val a::Sl.val b::Sl.val c::[Sx,N,3])):=DY rfl
def HP e b:aH (.ex e) b=.ex e:=rfl
def BR w e:aH (.ok w) (.ex e)=.ex e:=rfl
def HK e a:ug (.ex e) a=.ex e:=rfl
def OS e f i a:fX (.ex e) f i a=.ex e:=rfl
def KU e:nbR (.ex e)=.ex e:=rfl
def OZ a ks(ws:Xag)r e:Rpp (some (.par (.dst false a ks ws))) r (.ex e)=.ex e:=rfl
def Bp kw e r i a:dD (some (.dos kw)) (.ex e) r i a=.ex e:=rfl
def lY (r:R Fl) (n:Xae):R Fl:=r>>=λf=>match f with
 | .nx I=>n I
 | .ct I=>dI (n I)
 | .rt w=>.ok (.rt w)
 | .bk _=>.stuck
def Au m n a:lm m n a=lY (m a) n:=rfl
def DO a n:lY (.ok (.nx a)) n=n a:=rfl
def DQ a n:lY (.ok (.ct a)) n=dI (n a):=rfl
def DN w n:lY (.ok (.rt w)) n=.ok (.rt w):=rfl
def DP e n:lY (.ex e) n=.ex e:=rfl
def KG m a:nxO m a=nxR (m a):=rfl
def KF a:nxR (.ok (.nx a))=.ok (.nx a):=rfl
def GF a:dI (.ok (.nx a))=.ok (.ct a):=rfl
def GG a:dI (.ok (.ct a))=.ok (.ct a):=rfl
def GE w:dI (.ok (.rt w))=.ok (.rt (oE w)):=rfl
def Np w z a ks(ws:Xag):oE (.tup [w,.dst z a ks ws])=.tup [w,.dst false a ks ws]:=rfl
def Gs w z a ks(ws:Xag):oj (.ok (.rt (.tup [w,.dst z a ks ws])))=.ok (w,(ks,ws),z):=rfl
def Gu e:oj (.ex e)=.ex e:=rfl
def Pn (C:Addr) (ns:ZK) (j:Nat):Option Sl->R W
 |some (.obj _ C' kw)=>[TJ,C'=C/\kw.1=ns,toR kw.2[j]?]
 |_=>.stuck
def FC i C ns j a:fL i C ns j a=Pn C ns j (a[i]?):=rfl
def HJ y C ns(vs:Xag)j:Pn C ns j [ZT,.obj y C (ns,vs)]=toR vs[j]?:=qA3 ⟨rfl,rfl⟩
def RrO (z:Bool) (p C:Addr) (o:Option Sl) (r:R W):R Fl:=r>>=λw=>match o with
 |some (.obj y C' kw)=>[TJ,y=.pin p/\C'=C,.ok (.rt (.tup [w,.dst z 0 kw.1 kw.2]))]
 |_=>.stuck
def yX p C i m a:rT p C i m a=RrO true p C (a[i]?) (m a):=rfl
def OW z p C(ks:ZK)(ws:Xag)w:RrO z p C [ZT,.obj (.pin p) C (ks,ws)] (.ok w)=.ok (.rt (.tup [w,.dst z 0 ks ws])):=qA3 ⟨rfl,rfl⟩
def OX z p C o e:RrO z p C o (.ex e)=.ex e:=rfl
def RrX (p C:Addr)(i:Nat)(r:R RX):R Fl:=r>>=λz=>rtO z.2.2 p C i z.2.1 z.1
def yW p C i m a:kQ p C i m a=RrX p C i (m a):=rfl
def OU p C i w a z:RrX p C i (.ok (w,a,z))=RrO z p C (a[i]?) (.ok w):=rfl
def OV p C i e:RrX p C i (.ex e)=.ex e:=rfl
def Ae:R4 []=true:=rfl
def KM s(a:Rho):R4 (s::a)=(!W8 s&&R4 a):=rfl
def FO:W8 .un=false:=rfl
def AI w:W8 (.val w)=false:=rfl
def AJ w:W8 (.par w)=false:=rfl
def AK w:W8 (.own w)=false:=rfl
def LJ C(kw:KW):W8 (.obj .kept C kw)=false:=rfl
def Rme (y:Oy)(C:Addr)(i:Nat)(a:Rho)(r:R RO):R RX:=r>>=λr=>.ok (r.1,a.set i (.obj y C r.2.1),r.2.2)
def Pd y C i a w kw z:Rme y C i a (.ok (w,kw,z))=.ok (w,a.set i (.obj y C kw),z):=rfl
def Pe y C i a e:Rme y C i a (.ex e)=.ex e:=rfl
def Pc (y:Oy) (C:Addr) (i:Nat) (ns:ZK) (f:[Z05]) (a:Rho) (b:Bool) (o:Option Sl) (r:R Xag):R RX:=match o with
 |some (.obj y' C' kw)=>[TJ,y'=y/\C'=C/\b=true/\kw.1=ns,r>>=λI=>Rme y C i a (f [] I kw)]
 |_=>.stuck
def wk y C i ns f I a:gU y C i ns f I a=Pc y C i ns f a (R4 (a.set i .un)) (a[i]?) (I a):=rfl
def HG y C i ns f a(vs I:Xag):Pc y C i ns f a true [ZT,.obj y C (ns,vs)] (.ok I)=Rme y C i a (f [] I (ns,vs)):=qA3 ⟨rfl,rfl,rfl,rfl⟩
def Pv (y:Oy) (C:Addr) (i:Nat) (f:[Z05]) (a:Rho) (b:Bool) (o:Option Sl) (l r:R Xag):R RX:=match o with
 |some (.obj y' C' kw)=>[TJ,y'=y/\C'=C/\b=true,l>>=λul=>r>>=λI=>Rme y C i a (f ul I kw)]
 |_=>.stuck
def wo y C i f ms I a:gY y C i f ms I a=Pv y C i f a (R4 (a.set i .un)) (a[i]?) (mLs ms a) (I a):=rfl
def HQ y C i f a(kw:KW)ul I:Pv y C i f a true [ZT,.obj y C kw] (.ok ul) (.ok I)=Rme y C i a (f ul I kw):=qA3 ⟨rfl,rfl,rfl⟩
def Fx a:mLs [] a=.ok []:=rfl
def Ax m ms a:mLs (m::ms) a=aH (m a) (mLs ms a):=rfl
def Rxe (a:Rho)(z:Bool)(r:R W):R RX:=noE r>>=λw=>.ok (w,a,z)
def Rxd (f:W->W->R W)(w:W)(a:Rho)(z:Bool)(r:R W):R RX:=noE r>>=λI=>Rxe a z (f w I)
def Rxc (f:W->W->R W)(I:Xad)(r:R RX):R RX:=r>>=λx=>Rxd f x.1 x.2.1 x.2.2 (I x.2.1)
def Dl f m1 I a:lE f m1 I a=Rxc f I (m1 a):=rfl
def OD f I w a z:Rxc f I (.ok (w,a,z))=Rxd f w a z (I a):=rfl
def OC f w I a z:Rxd f w a z (.ok I)=Rxe a z (f w I):=rfl
def OB a z w:Rxe a z (.ok w)=.ok (w,a,z):=rfl
def Rxu (w:W)(a:Rho)(z:Bool)(r:R W):R RX:=noE r>>=λI=>.ok (.tup [w,I],a,z)
def Rxt (I:Xad)(r:R RX):R RX:=r>>=λx=>Rxu x.1 x.2.1 x.2.2 (I x.2.1)
def ym m1 I a:kK m1 I a=Rxt I (m1 a):=rfl
def OA I w a z:Rxt I (.ok (w,a,z))=Rxu w a z (I a):=rfl
def Oz w I a z:Rxu w a z (.ok I)=.ok (.tup [w,I],a,z):=rfl
def Ras (j:Nat)(r:R RX):R Fl:=r>>=λz=>.ok (if z.2.2 then .nx (z.2.1.set j (.val z.1)) else .ct (z.2.1.set j (.val z.1)))
def zg j m a:kU j m a=Ras j (m a):=rfl
def So j w a:Ras j (.ok (w,a,true))=.ok (.nx (a.set j (.val w))):=rfl
def Sr j w a:Ras j (.ok (w,a,false))=.ok (.ct (a.set j (.val w))):=rfl
def RaL (mg:Xan)(r:R RX):R Fl:=r>>=λz=>toR (mg z.1 z.2.1)>>=λI=>.ok (.nx I)
def zh mg m a:kW mg m a=RaL mg (m a):=rfl
def Py mg w a z:RaL mg (.ok (w,a,z))=toR (mg w a)>>=λI=>.ok (.nx I):=rfl
def Rkx (r:R RX):R Fl:=r>>=λz=>[TJ,noL z.1=true,.ok (.rt z.1)]
def yZ m a:kR m a=Rkx (m a):=rfl
def Pf b a z:Rkx (.ok (.bl b,a,z))=.ok (.rt (.bl b)):=rfl
def Rkc (C:Addr) (f:[Z05]) (a:Rho) (o:Option Sl) (l r:R Xag):R RX:=match o with
 |some (.obj y' C' kw)=>[TJ,y'=.kept/\C'=C,l>>=λul=>r>>=λI=>f ul I kw>>=λr=>[TJ,r.2.2=true,.ok (r.1,a,true)]]
 |_=>.stuck
def wq C i f ms I a:gZ C i f ms I a=Rkc C f a (a[i]?) (mLs ms a) (I a):=rfl
def Ph {f:[Z05]}(h:f ul ur kw=.ok (w,VD,true)):Rkc C f a [ZT,.obj .kept C kw] (.ok ul) (.ok ur)=.ok (w,a,true):=by
 change [YL,_,_,_]=_;simp_all
def Rxb (r:R RX):R (Bool×Rho):=r>>=λz=>match z.1 with
 | .bl b=>.ok (b,z.2.1)
 |_=>.stuck
def OE b a z:Rxb (.ok (.bl b,a,z))=.ok (b,a):=rfl
def Rix (m n:Xae)(r:R (Bool×Rho)):R Fl:=r>>=λz=>if z.1 then m z.2 else n z.2
def DU (c:Rho->R (Bool×Rho))m n a:rX c m n a=Rix m n (c a):=rfl
def Sg m n a:Rix m n (.ok (true,a))=m a:=rfl
def Sh m n a:Rix m n (.ok (false,a))=n a:=rfl
def Rxa (tb:Rho->R (Bool×Rho))(a:Rho)(r:R Bool):R (Bool×Rho):=r>>=λb=>if b then tb a else .ok (false,a)
def Dm ta(tb:Rho->R (Bool×Rho))a:rD ta tb a=Rxa tb a (ta a):=rfl
def Sc (tb:Rho->R (Bool×Rho))a:Rxa tb a (.ok true)=tb a:=rfl
def Sd (tb:Rho->R (Bool×Rho))a:Rxa tb a (.ok false)=.ok (false,a):=rfl
def Rso (i:Nat)(a:Rho)(r:R W):R Fl:=r>>=λw=>[Rn,.val w]
def yV i m a:rS i m a=Rso i a (m a):=rfl
def OO i a e:Rso i a (.ex e)=.ex e:=rfl
def ON i a w:Rso i a (.ok w)=.ok (.nx (a.set i (.val w))):=rfl
def Rsf (p C:Addr) (i:Nat) (ns:ZK) (j:Nat) (a:Rho) (b:Bool) (o:Option Sl) (r:R W):R Fl:=match o with
 |some (.obj y C' kw)=>[TJ,y=.pin p/\C'=C/\kw.1=ns/\b=true,r>>=λw=>.ok (.ct (a.set i (.obj (.pin p) C (ns,kw.2.set j w))))]
 |_=>.stuck
def zd p C i ns j m a:kT p C i ns j m a=Rsf p C i ns j a (R4 (a.set i .un)) (a[i]?) (m a):=rfl
def OQ p C i ns j a(vs:Xag)w:Rsf p C i ns j a true [ZT,.obj (.pin p) C (ns,vs)] (.ok w)=.ok (.ct (a.set i (.obj (.pin p) C (ns,vs.set j w)))):=qA3 ⟨rfl,rfl,rfl,rfl⟩
def OR p C i ns j a(vs:Xag)e:Rsf p C i ns j a true [ZT,.obj (.pin p) C (ns,vs)] (.ex e)=.ex e:=qA3 ⟨rfl,rfl,rfl,rfl⟩
def Le mo me a:mSw mo me a=Rsw (mo a) (me a):=rfl
def OL a b:[TH,Rsw (.ok (.str a)) (.ok (.str b)),Txt.startswith a b]:=rfl
def Aw mo me a:sW mo me a=BO (mo a) (me a):=rfl
def HE a y:BO (.ok (.str a)) (.ok y)=mU a y:=rfl
def Ric (ss:ZK)(r:R W):R W:=r>>=inC ss
def FA ss m a:Az ss m a=Ric ss (m a):=rfl
def Pj ss x:Ric ss (.ok (.str x))=.ok (.bl (ss.any λy=>y == x)):=rfl
def Rno (r:R Xag):R W:=r>>=λ_=>.stuck
def Op I a:bNo I a=Rno (I a):=rfl
def Pa e:Rno (.ex e)=.ex e:=rfl
def zc i y C b a:rW i y C b a=.ok (.nx (a.set i (.obj y C (dNs,dVs b)))):=rfl
def i5 (I:ul.length=k) (O:k+1+ur.length=n) (h:∀p,oj (m p (ul.map Sl.par++Sl.obj (.pin p) C kw::(ur.map Sl.par++[Sx,N,n])))=r):t7 k n N C m ul ur kw=r:=by
 refine Hq λp=>?_;unfold mf;rw[qA3 ⟨I,O⟩];show h p
def Rt3 (p C:Addr) (i I:Nat) (c1:Str) (j1:Nat) (T:Xae) (cs:ZK) (O:Nat) (Ut:Xae) (a:Rho):R RO->R Fl
 | .ok r=>.ok (if r.2.2 then .nx ((a.set i (.obj (.pin p) C r.2.1)).set I (.val r.1)) else .ct ((a.set i (.obj (.pin p) C r.2.1)).set I (.val r.1)))
 | .ex e=>sY c1 j1 T cs O Ut e a
 | .stuck=>.stuck
def Rt2 (p C:Addr) (i:Nat) (ns:ZK) (iy:Nat) (f:[Z05]) (c1:Str) (j1:Nat) (O:Xae) (cs:ZK) (T:Nat) (Ut:Xae) (a:Rho) (b:Bool) (o:Option Sl) (r:R Xag):R Fl:=match o with
 |some (.obj y' C' kw)=>[TJ,y'=.pin p/\C'=C/\b=true/\kw.1=ns,r>>=λI=>Rt3 p C i iy c1 j1 O cs T Ut a (f [] I kw)]
 |_=>.stuck
def yU p C i ns iy f T c1 j1 I cs O Ut a:kP p C i ns iy f T c1 j1 I cs O Ut a=Rt2 p C i ns iy f c1 j1 I cs O Ut a (R4 (a.set i .un)) (a[i]?) (T a):=rfl
def OJ p C i ns iy f c1 j1 O cs T Ut a(vs I:Xag):Rt2 p C i ns iy f c1 j1 O cs T Ut a true [ZT,.obj (.pin p) C (ns,vs)] (.ok I)=Rt3 p C i iy c1 j1 O cs T Ut a (f [] I (ns,vs)):=qA3 ⟨rfl,rfl,rfl,rfl⟩
def Se p C i I c1 j1 T cs O Ut a w kw:Rt3 p C i I c1 j1 T cs O Ut a (.ok (w,kw,true))=.ok (.nx ((a.set i (.obj (.pin p) C kw)).set I (.val w))):=rfl
def Sf p C i I c1 j1 T cs O Ut a w kw:Rt3 p C i I c1 j1 T cs O Ut a (.ok (w,kw,false))=.ok (.ct ((a.set i (.obj (.pin p) C kw)).set I (.val w))):=rfl
def OI p C i iy O I T cs j2 Ut a(v:ZV):Rt3 p C i iy O I T cs j2 Ut a (.ex ⟨O,v⟩)=unS I (nxR (T (a.set I (.val (.exc O v))))):=qA3 rfl
def OH {cs}(I:c≠c1)(O:c∈cs):Rt3 p C i iy c1 j1 Uu cs j2 Ut a (.ex ⟨c,v⟩)=unS j2 (nxR (Ut (a.set j2 (.val (.exc c v))))):=(qA9 I).trans (qA3 O)
def QS (tb:List (Str×Bool))n c v:fXT tb (.cls n) [.exc c v,.cls n]=xtL tb c:=qA3 rfl
def QR (tb:List (Str×Bool))n c v:fXT tb (.ty n) [.exc c v,.ty n]=xtL tb c:=qA3 rfl
def CK g a b c d e:gTL 4 g [YM,[a,b,c,d]] e=g [a,b,c,d] e:=rfl
def a400 (a b c d:W):[SA,[a,b,c,d],0,a]:=rfl
def a401 (a b c d:W):[SA,[a,b,c,d],1,b]:=rfl
def a402 (a b c d:W):[SA,[a,b,c,d],2,c]:=rfl
def a403 (a b c d:W):[SA,[a,b,c,d],3,d]:=rfl
def a40:=And.intro (@a400) (And.intro (@a401) (And.intro (@a402) (@a403)))
def rpY:=Z1 (@tX) (Z1 (@RS) (Z1 (@Pz) (@DO)))
def rpB:=Z1 (@Jj) (Z1 (@Ji) (Z1 (@Jh) (Z1 (@Jg) (@Jf))))
local macro_rules | `(tactic| exists $[$es],*)=>`(tactic| set_option backward.defeqAttrib.useBackward true in simp (disch:=first | with_reducible assumption | omega | (simp only [rp18]; omega)) only [List.cons_append,List.nil_append,List.length_cons,R.ok_bind,List.getElem?_cons_zero,List.getElem?_cons_succ,List.set_cons_succ,List.set_cons_zero,tyW,isN,simprocAttr,rp19,LI,LH,LG,LF,Lp,LC,Lz,LA,Lv,Lw,LD,L2.LE,Lr,Ls,rp15,Gn,Go,Jq,Ja,Sk,HM,vX,EW,EZ,EY,Mr,Mz,LQ,LO,LN,LM,LP,LR,FV,FT,Me,Mh,Mj,Ml,FU,AU,AR,nj,Nc,Nk,RV,Ou,MV,Nq,Nr,Jm,MD,xa,MG,xb,MI,MF,MH,ME,og,Gg,MA,MB,ML,FE,MM,Fw,Ec,oW_n,oW_s,Nh,jc,Nd,Nn,LK,yL,RW,appO,AT,AS,Ql,Qk,QC,QB,La,div_ii,Kj,Ow,Fo,Fp,MJ,wZ,RU,QI,Jl,MW,IJ,Ov,Jt,Fv,tW,ua,tZ,QF,RT,RR,RQ,RP,Sa,Sb,BS,Hm,BF,DE,Iw,DD,Es,Et,Er,JL,JK,JM,El,Dv,Ia,Dt,zB,zC,zA,Ej,Ei,Ek,zx,Ib,Em,Ep,Eo,uC,yh,Dp,Du,Qt,Qs,vP,HZ,HA,Hz,yy,BT,IS,Jb,IY,ze,BQ,DT,Ed,yY,PU,PV,PZ,HC,uQ,uO,uR,yM,uP,jR,PY,HR,uJ,DX,HI,DV,Mm,AX,AV,AW,FW,qD,Jw,Ju,Jv,Jx,Jy,JB,Jz,JA,JC,JD,JE,JF,sT,zt,zq,zr,FH,Fu,DM,uV,FG,Hn,Lf,TP.LT,LU,Gv,Gw,MC,fU_i,QW,QU,QV,yD,Im,Mx,Mu,Mw,Ge,Gb,wY,Mq,Nb,Nj,Nf,xB,GC,Ni,GA,GB,Ng,Ra,TP.IO,IM,IN,Jp,Jo,gN_U,gN_V,gT_t,AN,FR,Gf,Lx,Ly,LB,Lq,My,R6,Gk,Gm,ju,Gh,Gi,Gj,rp17,rp18,Au,DQ,DN,DP,KG,KF,GF,GG,GE,Np,Gs,Gu,FC,HJ,yX,OW,OX,yW,OU,OV,Ae,KM,FO,AI,AJ,AK,LJ,Pd,Pe,wk,HG,wo,HQ,Fx,Ax,Dl,OD,OC,OB,ym,OA,Oz,zg,So,Sr,zh,Py,ON,yZ,Pf,wq,OE,DU,Sg,Sh,Dm,Sc,Sd,yV,OO,zd,OQ,OR,Le,OL,Aw,HE,FA,Pj,Op,Pa,zc,yU,OJ,Se,Sf,OI,QS,QR,CK,a40,wb,wa,vZ,Ds,HB,Dq,Hw,Ft,Hy,Fy,HH,Lg,Oo,Fz,Sj,Si,Bm,Rf,pf,AB,Pk,wm,Pg,wj,OF,FF,Pq,wn,Av,om,za,OY,Qy,KS,Bf,Ms,Ga,FZ,Lu,PJ,a20,a21,a30,a31,a32,KU,OZ,Bp,pM,Da,Gx,tY,va,yf,Id,DS,OG,Ht,Hu,yT,Hv,BK,BL,QZ,Mo,Mn,Hk,HF,GD,uS,PB,FP,HP,BR,HK,OS,rV,HD,Oq,Hl,HL,uB,HN,Je,IZ,wS,AY,Pw,decide_eq_true_eq,rpY,$[$es:term],*])
def Nm (w:Str):Prop:=1<=w.length/\w.length<=8/\∀c∈cl w,97<=c/\c<=122
def Cn (c:Int):Prop:=0<=c/\c<=1000000000
def Sm (w:Str):Prop:=w.length<=1000/\∀c∈cl w,c<128
def Y8 (h:Sm w):[TH,O2 [.str w,.str s],[ZL,1<=w.length]&&(cl w).all λc=>[ZL,c∈cl s]]:=by
 have hs:seqS (.str w)=.ok ((cl w).map λc=>W.str ⟨#[c]⟩):=by
  refine qA3 ⟨?_,h.1⟩;rw[<- Array.all_toList,qE0];show λc hc=>qK5 (h.2 c hc)
 have hl:=h.1;by_cases I:1<=w.length
 .have e:[ZL,0<(w.length:Int)]=true:=qK5 ZU;exists rpB,m_is_made_of,hs,e;rw[x5 _ _ _ _ (by show hl) ?_]
  .have q:=og tD ((cl w).map λc=>[ZL,c∈cl s]);rw[qC5]at q;exists rp18;rw[show List.map (λc=>W.bl _) _=(cl w).map (W.bl∘_) from rfl,q];have O:tD ((cl w).map λc=>[ZL,c∈cl s])=(cl w).all λc=>[ZL,c∈cl s]:=by
    unfold tD;rw[List.all_map];rfl
   rw[O,qK5 I];exists rp18
  .intro c hc;show 6;exists rp18;rw[StrLaws.found_one]
 .have e:[ZL,0<(w.length:Int)]=false:=qK2 ZU;exists rpB,m_is_made_of,hs,e,qK2 I
def qC (T:1<=w.length) (O:w.length<=1000) (I:∀c∈cl w,c<128/\c∈cl s):[TH,O2 [.str w,.str s],true]:=by
 rw[Y8 ⟨O,λc hc=>(I c hc).1⟩,qK5 T,qE0.mpr λc hc=>qK5 (I c hc).2];rfl
def IU:cl ("abcdefghijklmnopqrstuvwxyz" : Str)=[Tp,26,(·+97)]:=ZU
theorem IX:cl ("0123456789" : Str)=[Tp,10,(·+48)]:=ZU
def sGr:[ZM,num 1000000000]=10:=ZU
def qx (h:Nm w):[TH,O2 [.str w,.str "abcdefghijklmnopqrstuvwxyz"],true]:=
 qC h.1 (by have:=h.2.1;omega) λc hc=>by
  have:=h.2.2 c hc
  refine ⟨ZU,?_⟩;rw[IU];show qB0.mpr ⟨c-97,qC9.mpr ZU,ZU⟩
def Aa (h:Cn c):[TH,O2 [.str (num c),.str "0123456789"],true]:=
 qC (ET h.1) (qC8 (eB h.1 (by have:=h.2;omega)) Xaa) λx I=>by
  have:=bD h.1 x I
  refine ⟨ZU,?_⟩;rw[IX];show qB0.mpr ⟨x-48,qC9.mpr ZU,ZU⟩
def nq (h:Nm w) (hk:w∉ks):W4 [.str w,.dst z a ks ws]=.ok .non:=by
 have e:[ZL,8<(w.length:Int)]=false:=qK2 (by have:=h.2.1;omega);have I:=qK2 hk;exists rpB,m_must_be_new_name,v6 (qx h),e,I
def hJ {c:Int}(h:c.natAbs<2^1000):c.natAbs.log2<1920:=by
 by_cases h0:c.natAbs=0
 .rw[h0];decide
 .show Nat.lt_trans ((Nat.log2_lt h0).mpr h) Xaa
def oA (h:Cn c):S5 [.str (num c)]=.ok (.int c):=by
 have l1:=eB h.1 (show c<10^10 by have:=h.2;omega);have O:=hJ (qG6 (show c.natAbs<=1000000000 by have:=h.1;have:=h.2;omega) ZU);have e:[ZL,10<([ZM,num c]:Int)]=false:=qK2 ZU;have hi:fIntS [.str (num c)]=.ok (.int c):=by
  change [YL,_<=640,_,_]=_;rw[qA3 ZU,num_reads h.1 (show c<10^10 by have:=h.2;omega)]
 have I:=qK5 h.2;exists rpB,m_count_of,sGr,e,Aa h,hi,I
def jV (h:Cn c) (hf:f<=c):dA [.str (num c),.int f]=.ok (.int c):=by
 have e:[ZL,c<f]=false:=qK2 ZU;exists rpB,m_read_count,v6 (oA h),e
def KN (ts:ZK):A3 (ts.map W.str)=true:=U1 W.str (λ_=>rfl) ts
def S7 c ts:chks c (ts.map W.str)=.ok (lS ts):=Z0 (KN ts)
def F0 {ts:ZK}(h0:0<=i) (h:ts[i.toNat]?=some x):[Z07,ts.map,i,x]:=by
 have hl:=(qB4.mp h).1;unfold L2.atI;rw[Y9 h0 (by rw[qA1];omega)]
 change _[i.toNat]?=_;rw[qC6,h];rfl
def jh {ts:ZK}{i:Nat}(h:[ZI,ts.map W.str,w]):∃x,[ZI,ts,x]/\w=.str x:=by
 rw[qC6]at h;obtain ⟨x,O,I⟩:=qF0.mp h;show ⟨x,O,I.symm⟩
def mO (hw:ws = [[ZF,"place"],n,num c]) (hn:Nm n) (hk:n∉ks) (hc:Cn c):D4 [lS ws,.dst false p ks vs]=.ok (.dst false p [n] [.int c]):=by
 have O:[Z07,ws.map,1,n]:=by subst hw;rfl
 have I:L2.atI (ws.map W.str) 2=some (.str (num c)):=by subst hw;rfl
 have hl:(ws.length:Int)=3:=by subst hw;rfl
 exists rpB,m_read_place,hl,O,I,nq hn hk,jV hc hc.1
abbrev Pr:=Int×Str
def fl:List Pr->[Ta]
 | []=>[]
 |p::r=>num p.1::p.2::fl r
def bJ:∀l,[ZM,fl l]=2*l.length
 | []=>rfl
 |p::r=>by change _+1+1=2*(r.length+1);rw[bJ];omega
def qJ:∀ l i,(fl l)[2*i]?=l[i]?.map λp=>num p.1
 | [],i=>by simp [fl]
 |p::r,0=>rfl
 | p::r,i+1=>by
  change (fl r)[2*i]?=_;show qJ r i
def nR:∀l,J9 ((fl l).map W.str)=l.map λp=>W.str (num p.1)
 | []=>rfl
 | p::r=>by
  change _::_=_;rw[nR];rfl
def qI:∀l,J9 (((fl l).map W.str).drop 1)=l.map λp=>W.str p.2
 | []=>rfl
 | [p]=>rfl
 | p::q::r=>by
  change _::J9 (((fl (q::r)).map W.str).drop 1)=_;rw[qI];rfl
def lk:List Pr->Str->Int
 | [],_=>0
 |p::r,k=>if p.2=k then p.1 else lk r k
def xv k:∀l,(dAt (l.map λp=>p.2) (l.map λp=>W.int p.1) k).getD (.int 0)=.int (lk l k)
 | []=>rfl
 | p::r=>by
  change [YL,p.2=k,_,dAt (r.map _) (r.map _) k].getD (.int 0)=.int [YL,p.2=k,p.1,lk r k]
  split
  .rfl
  .show xv k r
def PN c(ws:Xag):st2 c [YM,ws] none [ZT,2]=chks c (J9 ws):=rfl
def PM c(ws:Xag):st2 c [YM,ws] [ZT,1] [ZT,2]=chks c (J9 (ws.drop 1)):=rfl
def Told (ks:ZK)(l:List Pr):Prop:=(∀p∈l,1<=p.1/\Cn p.1/\p.2∈ks)/\(l.map (·.2)).Nodup/\l.length<=100
def ko (h:Told ks l) (hk:ks.length<=1000) (hw:ws=fl l):cQ [lS ws,.dst true q ks vs]=.ok (tI (ks.map (lk l))):=by
 have I:Ok (cQ [lS ws,.dst true q ks vs]) λv=>v=tI (ks.map (lk l)):=by
  have hl:ws.length=2*(l.length:Int):=by rw[hw,bJ];omega
  have hm:[ZL,2*(l.length:Int)%2=1]=false:=qK2 ZU;have z1:st2 false (lS ws) none [ZT,2]=.ok (.lst (l.map λp=>W.str (num p.1))):=by
   rw[PN,hw,nR];show Z0 (U1 (λp:Pr=>W.str (num p.1)) (λ_=>rfl) l)
  have z2:st2 false (lS ws) [ZT,1] [ZT,2]=.ok (.lst (l.map λp=>W.str p.2)):=by
   rw[PM,hw,qI];show Z0 (U1 (λp:Pr=>W.str p.2) (λ_=>rfl) l)
  have T:W6 [.lst (l.map λp=>W.str (num p.1)),.lst (l.map λp=>W.str p.2)]=.ok (l.map λp=>W.tup [.str (num p.1),.str p.2]):=by
   rw[Z2 _ _ _ _ rfl rfl];congr 1
   change (List.zipWith (λx y=>[x,y]) (l.map _) (l.map _)).map W.tup=_;simp_all
  exists rpB,m_read_counts,hl,hm,z1,z2,T;refine O1 (F4 (λi c=>∃a b:Sl,c = [.par (lS ws),.par (.dst true q ks vs),.dos ((l.take i).map (λp=>p.2),(l.take i).map λp=>W.int p.1),a,b]/\R5 [a,b]=true) ⟨_,_,rfl,rfl⟩ ?_ ?_)
  .rintro i w c O ⟨a,b,rfl,Ui⟩;rw[qC6]at O;show 3 p hp (qF0.mp O);have hi:=(qB4.mp hp).1;have hm:=h.1 p (qD9 hp);have d1:[ZL,p.2∈ks]=true:=qK5 hm.2.2;have nn:p.2∉(l.take i).map (λp=>p.2):=by
    intro hx;have a3:=h.2.1
    grind[List.take_append_drop]
   have d2:[ZL,p.2∈(l.take i).map (λp=>p.2)]=false:=qK2 nn;have rc:=jV hm.2.1 hm.1;have tk:l.take (i+1)=l.take i ++ [p]:=by rw[qQ7,hp];rfl
   show 6;exists d1,d2,rc;rw[EC rfl nn (by rw[qA1,qF3];have:=h.2.2;omega)];exists rp18;refine ⟨.par (.str (num p.1)),.par (.str p.2),?_,rfl⟩;rw[tk,qC0,qC0];rfl
  .rintro c ⟨a,b,rfl,_⟩;exists rp18;have tl:l.take l.length=l:=qK1;rw[x5 (λk=>W.int (lk l k)) W.str ks _ hk ?_]
   .exists rp18;rw[show ks.map (λk=>W.int (lk l k))=(ks.map (lk l)).map W.int by rw[qC5];rfl]
   .intro k hk;show 6;exists rp18;rw[tl,xv]
 show 3 v e I;show e
def mg (x n:Str)(A B:ZK):[Ta]:=x::n::[ZF,"takes"] :: (A++[ZF,"puts"] :: B)
def ny x n A B:[ZM,mg x n A B]=4+A.length+B.length:=by
 change _+1+1+1=_;rw[qC4,qC2];omega
abbrev mw (n:Str)(T P:List Pr):[Ta]:=mg "move" n (fl T) (fl P)
def gR n T P:[ZM,mw n T P]=4+2*T.length+2*P.length:=by rw[ny,bJ,bJ]
def KI (h:0<=c) (I:d∈cl x) (hd:57<d):num c≠x:=λe=>by
 rw[<- e]at I
 have:=bD h d I
 omega
def Eb (h:-1000000<=j/\j<=1000000):mn [.int 3,.int j,.int 2]=.ok ([Tp,((j-3+1)/2).toNat,λk=>W.int (3+(k:Nat)*2)]):=qA3 ⟨rfl,Xaa,Xaa,h.1,h.2⟩
def MX {ts:ZK}(I:b<=ts.length) (ha:a<=b):Q3 ts [ZT,a] (some b)=(ts.drop a).take (b-a):=by
 grind[Q3,HT.sIx_nat]
def cD {ts:ZK}(ha:a<=ts.length):Q3 ts [ZT,a] none=ts.drop a:=by
 grind[Q3,HT.sIx_nat,HT.sIx_none,List.length_drop]
def zH (hw:ws=mg x n A B) (hA:A.length=2*t) (hl:ws.length<=900) (ht:∀i,i<t->A[2*i]?≠some (Str.ofString "puts")):S4 [lS ws]=.ok (.int (3+2*t)):=by
 have a4:Ok (S4 [lS ws]) λv=>v=.int (3+2*t):=by
  have hn:=ny x n A B;have r3:=Eb (j:=ws.length) ZU;exists rpB,m_place_of_puts,r3;refine O1 (F4 (λi b=>i<=t/\∃a:Sl,b = [_,a]) ⟨qE1 _,_,rfl⟩ ?_ ?_)
  .rintro i w b hu ⟨hi,a,rfl⟩;rw[qC6]at hu;show 3 k hk (qF0.mp hu);have Vz:k=i:=by
    have e:=(qB4.mp hk).2;rw[qI4]at e;show e.symm
   subst Vz;show 6;by_cases Ug:k<t
   .have O:2*k<A.length:=ZU;have I:ws[3+2*k]?=some A[2*k]:=by
     rw[hw,[TQ,3+2*k=2*k+1+1+1]]
     change (A++[ZF,"puts"] :: B)[2*k]?=_;rw[qD7 O,qD1 O]
    have T:[Z07,ws.map,3+(k:Int)*2,A[2*k]]:=F0 ZU ([ZO,[TQ,(3+(k:Int)*2).toNat=3+2*k],I]);have ne:[ZL,A[2*k]=Str.ofString "puts"]=false:=qK2 (λz=>ht k Ug (by rw[qD1 O,z]));exists T,ne;show ⟨Ug,_,rfl⟩
   .have a3:k=t:=ZU;have I:ws[3+2*t]?=some (Str.ofString "puts"):=by
     rw[hw,[TQ,3+2*t=2*t+1+1+1]]
     change (A++[ZF,"puts"] :: B)[2*t]?=_;rw[qE8 ZU,hA,Nat.sub_self];rfl
    have T:[Z07,ws.map,3+(k:Int)*2,"puts"]:=F0 ZU ([ZO,[TQ,(3+(k:Int)*2).toNat=3+2*t],I]);exists T;rw[a3];congr 1;omega
  .rintro b ⟨hi,_⟩;rw[qA1,qB7]at hi;omega
 show 3 v e a4;show e
def QQ (h:∀p∈l,0<=p.1) i:(fl l)[2*i]?≠some (Str.ofString "puts"):=by
 rw[qJ];cases I:l[i]? with
 |none=>omega
 | some p=>
  intro z;show KI (h p (qD9 I)) (x:=[ZF,"puts"]) (d:=112) ZU Xaa (by injection z)
def EB (hw:ws=mw n T P) (O:∀p∈T,0<=p.1) (hl:T.length<=100) (I:P.length<=100):S4 [lS ws]=.ok (.int (3+2*T.length)):=
 zH hw (bJ T) (by rw[hw,gR];omega) λi _=>QQ O i
def Lb {A:ZK}(O:A.length=2*t):Q3 (mg x n A B) [ZT,3] (some (3+2*t))=A/\Q3 (mg x n A B) [ZT,3+2*t+1] none=B:=by
 have I:(mg x n A B).drop 3=A++_ :: B:=rfl;have hl:=ny x n A B;constructor
 .have:=MX (ts:=mg x n A B) (a:=3) (b:=3+2*t) ZU ZU
  grind
 .have:=cD (ts:=mg x n A B) (a:=4+2*t) ZU
  rw[show Q3 _ _ none=Q3 _ [ZT,(4+2*t:Nat)] none by congr 2;omega,this,[TQ,4+2*t=3+(A.length+1)],<- qJ0,I,<- qJ0,qU9];rfl
def mw_cut:Q3 (mw n T P) [ZT,3] (some (3+2*T.length))=fl T/\Q3 (mw n T P) [ZT,3+2*T.length+1] none=fl P:=Lb (bJ T)
def iQ (h:∀c∈cl x,c<1114112):shp n (.str x)=true:=by
 have e:PyData.strOk x=true:=by
  unfold PyData.strOk;rw[<- Array.all_toList,qE0];show λc hc=>qK5 (h c hc)
 cases n <;> show e
def Fg (hw:ws=mw n T P) (hn:Nm n) (hk:n∉ks2) (I:Told ks T) (hp:Told ks P) (O:ks.length<=1000):Q8 [lS ws,.dst true q ks vs,.dst false p ks2 XA]=.ok (.dst false p [n] [.tup [tI (ks.map (lk T)),tI (ks.map (lk P))]]):=by
 have hl:ws.length=4+2*T.length+2*P.length:=by rw[hw,gR]
 have e1:[Z07,ws.map,1,n]:=F0 Xaa (by rw[hw];rfl);have c4:chks false [W.str "takes"]=.ok (.lst [.str "takes"]):=rfl;have h1:=EB hw (λp hp=>(I.1 p hp).2.1.1) I.2.2 hp.2.2;have c1:C4 (ws.map W.str) [ZT,2] (some 3) = [.str "takes"]:=by
  rw[E8]
  have:=MX (ts:=ws) (a:=2) (b:=3) ZU ZU
  rw[show Q3 ws [ZT,2] (some 3)=Q3 ws [ZT,((2:Nat):Int)] (some ((3:Nat):Int)) from rfl,this,hw];rfl
 have c2:C4 (ws.map W.str) [ZT,3] (some (3+2*(T.length:Int)))=(fl T).map W.str:=by rw[E8,hw,mw_cut.1]
 have c3:C4 (ws.map W.str) [ZT,3+2*(T.length:Int)+1] none=(fl P).map W.str:=by rw[E8,hw,mw_cut.2]
 have e4:[TH,fEq true [YM,[.str "takes"]] (.lst [.str "takes"]),false]:=C0 Xac;have k1:=ko (q:=q) (vs:=vs) I O rfl;have k2:=ko (q:=q) (vs:=vs) hp O rfl;exists rpB,m_read_move,v6 h1,c1,c2,c3,c4,e4,e1,nq hn hk,S7,k1,k2
def Na (I:m1 ρ=.ok w1) (hi:[ZI,ρ,.dos kw]) (hf:∀p,f [w1,.dst false p kw.1 kw.2]=.ok (.dst false p [k] [w])) (hn:R5 ρ=true) (hk:k∉kw.1) (hl:kw.1.length<1000):cw i f m1 ρ=.ok (.nx (ρ.set i (.dos (kw.1 ++ [k],kw.2 ++ [w])))):=by
 unfold cw;rw[I,R.ok_bind,hi];dsimp;rw[zL hf];show qA3 ⟨hn,hk,hl⟩
def MZ (O:m1 (ρ.set i .un)=.ok w1) (hi:[ZI,ρ,.dos UT]) (T:ρ[j]?=some (.dos kw)) (I:i≠j) (hf:∀q p,f [w1,.dst true q UT.1 UT.2,.dst false p kw.1 kw.2]=.ok (.dst false p [k] [w])) (hn:R5 ρ=true) (hk:k∉kw.1) (hl:kw.1.length<1000):aD i j f m1 ρ=.ok (.nx (ρ.set j (.dos (kw.1 ++ [k],kw.2 ++ [w])))):=by
 unfold aD;rw[hi,T]
 change [YL,i≠j/\_=true,_,_]=_;rw[qA3 ⟨I,hn⟩,O,R.ok_bind,vD hf];show qA3 ⟨hn,hk,hl⟩
def ke (O:c∉cl y):∀ws,(∀w∈ws,c∉cl w)->c∉cl (Str.join y ws)
 | [],_=>by intro h;cases h
 | [w],h=>h w (qB3 ..)
 | w::v::r,h=>by
  rw[P4,D5,D5];intro I;rcases qE2.mp I with I|I
  .grind
  .show ke O _ (λz hz=>h z (qA5 _ hz)) I
def U3 y (ws:ZK) (h:∀w∈ws,w.length<=B):[ZM,Str.join y ws]<=ws.length*(B+y.length):=by
 have O:=StrLaws.join_length_le y ws;have I:=StrLaws.sumLen_le ws h;omega
def Wd (w:Str):Prop:=w.length<=10/\32∉cl w/\59∉cl w
theorem P3 (h:Nm w):Wd w:=⟨by have:=h.2.1;omega,λhc=>by have:=h.2.2 _ hc;omega,λhc=>by have:=h.2.2 _ hc;omega⟩
theorem Z8 (h:Cn c):Wd (num c):=⟨eB h.1 (show c<10^10 by have:=h.2;omega),λhc=>by have:=bD h.1 _ hc;omega,λhc=>by have:=bD h.1 _ hc;omega⟩
theorem lF:Wd (Str.ofString "place"):=⟨ZU,ZU,ZU⟩
def Dn:Wd (Str.ofString "move"):=⟨ZU,ZU,ZU⟩
def yn:Wd (Str.ofString "takes"):=⟨ZU,ZU,ZU⟩
def wd_puts:Wd (Str.ofString "puts"):=⟨ZU,ZU,ZU⟩
abbrev B1:Str:=[ZF," "]
abbrev B2:Str:=[ZF,"; "]
def cB1:cl B1=32 :: []:=ZU
def cB2:cl B2=59 :: [32]:=ZU
theorem lB1:B1.length=1:=ZU
def lB2:B2.length=2:=ZU
def split1 (h:∀w∈p::ps,Wd w) (hl:ps.length<=900):L3 (Str.join B1 (p::ps)) (.str B1)=.ok (lS (p::ps)):=by
 have e:=gu cB1 Xac p ps λq I=>(h q I).2.1;have l:=U3 B1 _ λw hw=>(h w hw).1;rw[lB1,qC2]at l
 change [YL,_,_,_]=_;rw[qA3 ⟨WU,ZU,by rw[e,qC2];omega⟩,e]
def tF {ks:ZK}(I:∀k∈ks,Nm k):∀{l},(∀p∈l,1<=p.1/\Cn p.1/\p.2∈ks)->∀w∈fl l,Wd w
 | [],_,w,hw=>by cases hw
 | p::r,h,w,hw=>by
  have hp:=h p (qB3 ..);show 11
  .show Z8 hp.2.1
  .show 11
   .show P3 (I _ hp.2.2)
   .show tF I (λq O=>h q (qA5 _ O)) w hw
def Cw (I:∀k∈ks,Nm k) (hn:Nm n) (O:Told ks T) (hp:Told ks P):∀w∈mw n T P,Wd w:=by
 intro w hw;show 11
 .show Dn
 show 11
 .show P3 hn
 show 11
 .show yn
 rcases qE2.mp hw with hw|hw
 .show tF I O.1 w hw
 show 11
 .show wd_puts
 .show tF I hp.1 w hw
abbrev Pl:=Str×Int
abbrev Mt:=Str×List Pr×List Pr
abbrev pw (p:Pl):[Ta]:=[[ZF,"place"],p.1,num p.2]
abbrev mws (m:Mt):[Ta]:=mw m.1 m.2.1 m.2.2
def mvW (ks:ZK)(m:Mt):W:=.tup [tI (ks.map (lk m.2.1)),tI (ks.map (lk m.2.2))]
def fresh {b:Type}{l:List b}{f:b->Str}{a:b}(h:(l.map f).Nodup) (hi:[ZI,l,a]):f a∉(l.take i).map f:=by
 rw[<- List.take_append_drop i l,qC0]at h;show λq=>(List.nodup_append.mp h).2.2 _ q _ (List.mem_map_of_mem (List.mem_of_getElem? (i:=0) ([ZO,List.getElem?_drop,hi]))) rfl
def take_one {b:Type}{l:List b}{a:b}(hi:[ZI,l,a]):l.take (i+1)=l.take i ++ [a]:=by rw[qQ7,hi];rfl
def Cv:[ZL,[ZF,"place"] = Str.ofString "move"]=false:=ZU
abbrev NX:R W:=.ex ⟨[ZF,"NoText"],none⟩
def KP (h:Sm w) (hn:¬ Nm w):[TH,O2 [.str w,.str "abcdefghijklmnopqrstuvwxyz"],false]\/8<w.length:=by
 by_cases O:8<w.length
 .show .inr O
 .refine .inl ?_;rw[Y8 h];congr 2;rw[Bool.and_eq_false_iff];by_cases I:1<=w.length
  .refine .inr (Bool.eq_false_iff.mpr λha=>hn ⟨I,ZU,λc hc=>?_⟩)
   have:=qL4 (qE0.mp ha c hc)
   rw[IU]at this;obtain ⟨k,hk,e⟩:=qB0.mp this
   have:=qC9.mp hk
   omega
  .show .inl (qK2 I)
def KQ (h:Sm w) (hn:¬ Nm w\/w∈ks):W4 [.str w,.dst z a ks ws]=NX:=by
 have hl:=h.1;by_cases O:Nm w
 .have hk:w∈ks:=by
   omega
  have e:[ZL,8<(w.length:Int)]=false:=qK2 (by have:=O.2.1;omega);have T:=qK5 hk;exists rpB,m_must_be_new_name,v6 (qx O),e,T
 .rcases KP h O with q|q
  .exists rpB,m_must_be_new_name,v6 q
  .have e:[ZL,8<(w.length:Int)]=true:=qK5 ZU;have I:=Y8 (s:=[ZF,"abcdefghijklmnopqrstuvwxyz"]) h;generalize (_&&_)=b at I
   cases b with
   |true=>exists rpB,m_must_be_new_name,v6 I,e
   |false=>exists rpB,m_must_be_new_name,v6 I,e
def NoC (w:Str):Prop:=S5 [.str w]=.ok .non
def ni (h:Sm w) (hm:([ZL,1<=w.length]&&(cl w).all λc=>[ZL,c∈cl "0123456789"])=false):NoC w:=by
 unfold NoC;have hl:=h.1;have g:[ZM,num 1000000000]<=100000:=ZU;have q:=Y8 (s:=[ZF,"0123456789"]) h;rw[hm]at q;by_cases c:10<w.length
 .have e:[ZL,10<(w.length:Int)]=true:=qK5 ZU;exists rpB,m_count_of,sGr,e
 .have e:=qK2 ZU;exists rpB,m_count_of,sGr,e,q
def Ac (h:Sm w) (hm:10<w.length):NoC w:=by
 unfold NoC;have hl:=h.1;have g:[ZM,num 1000000000]<=100000:=ZU;have e:[ZL,10<(w.length:Int)]=true:=qK5 ZU;exists rpB,m_count_of,sGr,e
def EV (h:Sm w) (hl:w.length<=10) (hi:PySem.intText? w=some n) (hm:([ZL,1<=w.length]&&(cl w).all λc=>[ZL,c∈cl "0123456789"])=true) (hg:n.natAbs.log2<1920) (hn:num n≠w\/1000000000<n):NoC w:=by
 unfold NoC;have g:[ZM,num 1000000000]<=100000:=ZU;have q:=Y8 (s:=[ZF,"0123456789"]) h;rw[hm]at q;have e:[ZL,10<(w.length:Int)]=false:=qK2 ZU;have O:fIntS [.str w]=.ok (.int n):=by
  change [YL,w.length<=640,_,_]=_;rw[qA3 ZU,hi]
 have I:([ZL,num n=w]&& [ZL,n<=1000000000])=false:=by
  omega
 exists rpB,m_count_of,sGr,e,q,O,I
def vg (h:NoC w):dA [.str w,.int f]=NX:=by
 have h':=h;exists rpB,m_read_count,v6 h'
instance (w:Str):Decidable (Sm w):=by unfold Sm;infer_instance
def place_len (h:ws.length≠3):D4 [lS ws,.dst false p ks vs]=NX:=by
 have e:[ZL,(ws.length:Int)=3]=false:=qK2 ZU;exists rpB,m_read_place,e
def sC (hw:ws = [x,n,y]) (hs:Sm n) (h:¬ Nm n\/n∈ks):D4 [lS ws,.dst false p ks vs]=NX:=by
 have I:[Z07,ws.map,1,n]:=by subst hw;rfl
 have hl:ws.length=3:=by subst hw;rfl
 exists rpB,m_read_place,hl,I,KQ hs h
def vH (hw:ws = [x,n,y]) (hn:Nm n) (hk:n∉ks) (h:NoC y):D4 [lS ws,.dst false p ks vs]=NX:=by
 have O:[Z07,ws.map,1,n]:=by subst hw;rfl
 have I:[Z07,ws.map,2,y]:=by subst hw;rfl
 have hl:(ws.length:Int)=3:=by subst hw;rfl
 exists rpB,m_read_place,hl,O,I,nq hn hk,vg h
def ai {ts:ZK}{i:Int}(h:0<=i/\i<ts.length):[Z07,ts.map,i,ts.getD i.toNat Str.empty]:=by
 refine F0 h.1 ?_
 have:i.toNat<ts.length:=ZU
 rw[qC7,qD1 this];rfl
def Rh (I:m1 ρ=.ok w1) (hi:[ZI,ρ,.dos kw]) (hf:∀p,f [w1,.dst false p kw.1 kw.2]=.ex e):cw i f m1 ρ=.ex e:=by
 unfold cw;rw[I,R.ok_bind,hi];dsimp;rw[EG hf];rfl
def Rg (O:m1 (ρ.set i .un)=.ok w1) (hi:[ZI,ρ,.dos UT]) (T:ρ[j]?=some (.dos kw)) (I:i≠j) (hf:∀q p,f [w1,.dst true q UT.1 UT.2,.dst false p kw.1 kw.2]=.ex e) (hn:R5 ρ=true):aD i j f m1 ρ=.ex e:=by
 unfold aD;rw[hi,T]
 change [YL,i≠j/\_=true,_,_]=_;rw[qA3 ⟨I,hn⟩,O,R.ok_bind,zN hf];rfl
structure cP (ps:List Pl) (ms:List Mt):Prop where
 l2:ps.length<=20
 l3:ms.length<=20
 np:∀p∈ps,Nm p.1/\Cn p.2
 nm:∀m∈ms,Nm m.1/\Told (ps.map (·.1)) m.2.1/\Told (ps.map (·.1)) m.2.2
 d1:(ps.map (·.1)).Nodup
 d2:(ms.map (·.1)).Nodup
abbrev pts (ps:List Pl)(ms:List Mt):[Ta]:=ps.map (λp=>Str.join B1 (pw p))++ms.map λm=>Str.join B1 (mws m)
def PF (ps:List Pl) (ms:List Mt) (ws:ZK):Prop:=
 (ws[0]?=some (Str.ofString "move")/\∀q p,Q8 [lS ws,.dst true q (ps.map (λp=>p.1)) (ps.map λp=>W.int p.2),.dst false p (ms.map (λm=>m.1)) (ms.map (mvW (ps.map (·.1))))]=NX) \/
 (ws[0]?=some (Str.ofString "place")/\ms = []/\∀p,D4 [lS ws,.dst false p (ps.map (λp=>p.1)) (ps.map λp=>W.int p.2)]=NX) \/
 ∃x,ws[0]?=some x/\x≠[ZF,"move"] /\ (x≠[ZF,"place"] \/ ms ≠ [])
abbrev stR (t:Str)(ps:List Pl)(ms:List Mt)(ks:ZK)(a b:Sl):Rho:=[.par (.str t),.dos (ps.map (λp=>p.1),ps.map λp=>W.int p.2),.dos (ms.map (λm=>m.1),ms.map (mvW ks)),a,b,.un]
abbrev tS : Rho -> R Fl := (aR (sF 4 (sR (B3 .B 3) (mC (.str " "))))
      (mIf (V8 (b2 (S6 false) (b2 fIx (B3 .B 4) (mC (.int 0))) (mC (.str "move")))) (aD 1 2 Q8 (B3 .B 4)) (mIf (rO (V8 (b2 (S6 false) (b2 fIx (B3 .B 4) (mC (.int 0))) (mC (.str "place")))) (V8 (b2 (S6 false) (im 2) (mC (.int 0))))) (cw 1 D4 (B3 .B 4)) (Y6 "NoText" (aC (mC (.str "a part tells no place, and no move behind the places")) aN)))))
def pZ (F:cP ps ms) (T:[ZI,pts ps ms,x]):∃b',tS (stR t (ps.take i) (ms.take (i-ps.length)) (ps.map (·.1)) (.par (.str x)) b)=.ok (.nx (stR t (ps.take (i+1)) (ms.take (i+1-ps.length)) (ps.map (·.1)) (.par (.str x)) b'))/\R5 [b']=true:=by
 have UQ:∀k∈ps.map (·.1),Nm k:=λk hk=>by
  show 3 p hp (qB0.mp hk);show (F.np p hp).1
 have l2:=F.l2;have l3:=F.l3;by_cases hi:i<ps.length
 .rw [qD7 ([ZO,qA1,hi]),qC6]at T
  show 3 p hp (qF0.mp T);have h:=F.np p (qD9 hp);have sp:L3 (Str.join B1 (pw p)) (.str B1)=.ok (lS (pw p)):=split1 (λw hw=>by
   grind[lF,P3,Z8]) (by change 2<=900;decide)
  obtain ⟨ws,I⟩:∃ws,ws=pw p:=[Tq];replace sp:L3 (Str.join B1 (pw p)) (.str B1)=.ok (lS ws):=[ZO,I,sp]
  have e0:[Z07,ws.map,0,"place"]:=by rw[I];rfl
  have z:i-ps.length=0:=ZU;have z2:i+1-ps.length=0:=ZU;have O:=fresh F.d1 hp;have cp:=Na (i:=1) (f:=D4) (m1:=B3 .B 4) (ρ:=[.par (.str t),.dos ((ps.take i).map (λp=>p.1),(ps.take i).map λp=>W.int p.2),.dos ([],[]),.par (.str (Str.join B1 (pw p))),.own (ws.map W.str),.un]) rfl rfl (λq=>mO I h.1 O h.2) rfl O (by change [ZM,(ps.take i).map _]<1000;rw[qA1,qF3];omega);have eL:Rln (some (([]:ZK),([]:Xag)))=.ok (.int 0):=rfl;refine ⟨.own (ws.map W.str),?_,rfl⟩;exists sp,e0,z,Cv,cp,qJ9,eL;rw[take_one hp,z2];unfold stR;rw[qC0,qC0];rfl
 .rw [qE8 (by rw[qA1];omega),qA1,qC6]at T
  show 3 m hm (qF0.mp T);have h:=F.nm m (qD9 hm);have hT:ps.take i=ps:=qD8 ZU;have Xq:ps.take (i+1)=ps:=qD8 ZU;have sp:L3 (Str.join B1 (mws m)) (.str B1)=.ok (lS (mws m)):=split1 (Cw UQ h.1 h.2.1 h.2.2) (by
   have e:=gR m.1 m.2.1 m.2.2
   have:=h.2.1.2.2
   have:=h.2.2.2.2
   change [ZM,m.1::[ZF,"takes"] :: (fl m.2.1++[ZF,"puts"] :: fl m.2.2)]<=900;rw[show [ZM,mw m.1 m.2.1 m.2.2]=[ZM,m.1::[ZF,"takes"] :: (fl m.2.1++[ZF,"puts"] :: fl m.2.2)]+1 from rfl]at e;omega)
  obtain ⟨ws,I⟩:∃ws,ws=mws m:=[Tq];replace sp:L3 (Str.join B1 (mws m)) (.str B1)=.ok (lS ws):=[ZO,I,sp]
  have e0:[Z07,ws.map,0,"move"]:=F0 Xaa (by rw[I];rfl);have O:=fresh F.d2 hm;have cp:=MZ (i:=1) (j:=2) (f:=Q8) (m1:=B3 .B 4) (ρ:=[.par (.str t),.dos (ps.map (λp=>p.1),ps.map λp=>W.int p.2),.dos ((ms.take (i-ps.length)).map (λm=>m.1),(ms.take (i-ps.length)).map (mvW (ps.map (·.1)))),.par (.str (Str.join B1 (mws m))),.own (ws.map W.str),.un]) rfl rfl rfl Xaa (λq p=>Fg I h.1 O h.2.1 h.2.2 (by change [ZM,ps.map _]<=1000;rw[qA1];omega)) rfl O (by change [ZM,(ms.take _).map _]<1000;rw[qA1,qF3];omega);refine ⟨.own (ws.map W.str),?_,rfl⟩;exists sp,e0,cp,hT;rw[[TQ,i+1-ps.length=i-ps.length+1],take_one hm,Xq];unfold stR;rw[qC0,qC0];rfl
def DG (hl:ms.length<=20) (O:L3 x (.str B1)=.ok (lS ws)) (h:PF ps ms ws):tS (stR t ps ms (ps.map (·.1)) (.par (.str x)) b)=.ex ⟨[ZF,"NoText"],none⟩:=by
 have r2:Rln (some (ms.map (λm=>m.1),ms.map (mvW (ps.map (·.1)))))=.ok (.int ms.length):=[Tr,pf]
 rcases h with ⟨h0,h⟩|⟨h0,rfl,h⟩|⟨y,h0,hm,hp⟩
 .have I:=F0 (i:=0) Xaa h0;have T:=Rg (i:=1) (j:=2) (f:=Q8) (m1:=B3 .B 4) (ρ:=[.par (.str t),.dos (ps.map (λp=>p.1),ps.map λp=>W.int p.2),.dos (ms.map (λm=>m.1),ms.map (mvW (ps.map (·.1)))),.par (.str x),.own (ws.map W.str),.un]) rfl rfl rfl Xaa h rfl;exists O,I,T
 .have I:=F0 (i:=0) Xaa h0;have T:=Rh (i:=1) (f:=D4) (m1:=B3 .B 4) (ρ:=[.par (.str t),.dos (ps.map (λp=>p.1),ps.map λp=>W.int p.2),.dos ([],[]),.par (.str x),.own (ws.map W.str),.un]) rfl rfl h;have eL:Rln (some (([]:ZK),([]:Xag)))=.ok (.int 0):=rfl;exists O,I,Cv,T,eL
 .have I:=F0 (i:=0) Xaa h0;have dm:[ZL,y=Str.ofString "move"]=false:=qK2 hm;by_cases hy:y=Str.ofString "place"
  .have Xf:ms ≠ []:=by
    omega
   have d0:[ZL,(ms.length:Int)=0]=false:=qK2 (by
    simp_all)
   exists O,I,dm,qK5 hy,r2,d0
  .exists O,I,dm,qK2 hy
def T7 {rest:ZK}(F:cP ps ms) (hs:L3 t (.str B2)=.ok (lS (pts ps ms++x::rest))) (T:L3 x (.str B1)=.ok (lS ws)) (h:PF ps ms ws):W3 [.str t]=NX:=by
 have hlen:[ZM,pts ps ms]=ps.length+ms.length:=by rw[qC4,qA1,qA1]
 exists rpB,m_read,hs;rw[nQ (e:=⟨[ZF,"NoText"],none⟩) (λi c=>∃a b:Sl,c=stR t (ps.take i) (ms.take (i-ps.length)) (ps.map (·.1)) a b) _ (ps.length+ms.length) 0 _ ⟨.un,.un,by rw[Nat.zero_sub];rfl⟩ (by rw[qA1,qC4,hlen,qC2];omega)]
 .exists rp18
 .rintro i w c O hi ⟨a,b,rfl⟩;show 3 y I (jh O);rw[qD7 ([ZO,hlen,hi])]at I;rw[qH5];obtain ⟨b',e,_⟩:=pZ (b:=b) F I;show 6;refine Eq.mpr (congrArg (λr=>TP.Po r ..) e) ?_;show [WH,_,rfl]
 .rintro w c O ⟨a,b,rfl⟩;show 3 y I (jh O);rw[qE8 (by rw[hlen];show qA6 _),hlen,Nat.sub_self]at I;cases I;rw[qH5,qD8 ([TQ,ps.length<=ps.length+ms.length]),qD8 ([TQ,ms.length<=ps.length+ms.length-ps.length])];show [WH,rfl,DG F.l3 T h]
def jU (F:cP ps ms):∃a b,M9 (gN .U 3) tS ((pts ps ms).map W.str) [.par (.str t),.dos ([],[]),.dos ([],[]),.un,.un,.un]=.ok (.nx (stR t ps ms (ps.map (·.1)) a b))/\Rln (some (ps.map (λp=>p.1),ps.map λp=>W.int p.2))=.ok (.int ps.length)/\Rln (some (ms.map (λm=>m.1),ms.map (mvW (ps.map (·.1)))))=.ok (.int ms.length):=by
 have hlen:[ZM,pts ps ms]=ps.length+ms.length:=by rw[qC4,qA1,qA1]
 have l2:=F.l2;have l3:=F.l3;obtain ⟨T,e,a,b,rfl⟩:=nC (mg:=gN .U 3) (λi c=>∃a b:Sl,c=stR t (ps.take i) (ms.take (i-ps.length)) (ps.map (·.1)) a b) _ 0 [_,_,.dos ([],[]),.un,.un,.un] ⟨.un,.un,by rw[Nat.zero_sub];rfl⟩ (λi w c I hp=>by
  show 3 a b hp;show 3 y O (jh I);rw[qH5];obtain ⟨b',e,_⟩:=pZ (b:=b) F O;show ⟨_,rfl,_,e,_,_,rfl⟩)
 rw[qA1,hlen,qH5,qD8 ([TQ,ps.length<=ps.length+ms.length]),qD8 ([TQ,ms.length<=ps.length+ms.length-ps.length])]at e
 grind[pf]
def vf (F:cP ps ms) (hs:L3 t (.str B2)=.ok (lS (pts ps ms))) (h:ps.length=0\/6<ps.length\/8<ms.length):W3 [.str t]=NX:=by
 have l3:=F.l3;obtain ⟨a,b,e,O,I⟩:=jU F;have c:(!([ZL,1<=(ps.length:Int)]&& [ZL,(ps.length:Int)<=6])||[ZL,8<(ms.length:Int)])=true:=by
  omega
 exists rpB,m_read,hs;rw[e];exists O,I,c
def Eg (F:cP ps ms) (hs:L3 t (.str B2)=.ok (lS (pts ps ms))) (h1:1<=ps.length) (h6:ps.length<=6) (h8:ms.length<=8):W3 [.str t]=.ok (.tup [.tup [tI (ps.map (·.2)),.tup (ms.map (mvW (ps.map (·.1))))],lS (ps.map (·.1)),lS (ms.map (·.1))]):=by
 obtain ⟨a,b,e,r1,O⟩:=jU F;have c1:[ZL,1<=(ps.length:Int)]=true:=qK5 ZU;have T:[ZL,(ps.length:Int)<=6]=true:=qK5 ZU;have I:[ZL,8<(ms.length:Int)]=false:=qK2 ZU;exists rpB,m_read,hs;rw[e];exists r1,O,c1,T,I;simp_all
abbrev Mv:=List Int×List Int
abbrev mW (m:Mv):W:=.tup [tI m.1,tI m.2]
abbrev lT (ss:Xao):W:=.lst (ss.map tI)
abbrev tM_ (ms:List Mv):W:=.tup (ms.map mW)
def nn (xs:Xaj):Prop:=∀x∈xs,0<=x
def okN (n:Nat)(m:Mv):Prop:=m.1.length=n/\[ZM,m.2]=n/\nn m.1/\nn m.2
def atM {ms:List Mv}{r:Int}(h0:0<=r) (I:r<ms.length):L2.atI (ms.map mW) r=some (mW (ms.getD r.toNat ([],[]))):=by
 unfold L2.atI;rw[Y9 h0 ([ZO,qA1,I])]
 change _[r.toNat]?=_;have hi:r.toNat<ms.length:=ZU;simp [hi]
def getM {ms:List Mv}{r:Int}(hm:∀m∈ms,okN n m) (h0:0<=r) (I:r<ms.length):okN n (ms.getD r.toNat ([],[])):=by
 have hi:r.toNat<ms.length:=ZU;refine hm _ ?_;simp [hi]
def memD {ns:Xaj}{P:Int->Prop}(h:∀x∈ns,P x)(hi:i<ns.length):P (ns.getD i 0):=mem_getD h hi
abbrev okR (ms:List Mv)(rs:Xaj):Prop:=∀r∈rs,0<=r/\r<(ms.length:Int)
def M0 (a b:Xaj):Bool:=(List.range a.length).all λk=>[ZL,b.getD k 0<=a.getD k 0]
def Rj (hi:i<a.length) (h:a.getD i 0<b.getD i 0):M0 a b=false:=by
 unfold M0;rw[List.all_eq_false];show ⟨i,by simpa using hi,λh'=>ZU⟩
def Ri (h:∀k,k<a.length->b.getD k 0<=a.getD k 0):M0 a b=true:=by
 grind[M0]
def xw (hl:b.length=a.length):[TH,nX [tI a,tI b],M0 a b]:=by
 have O:Ok (nX [tI a,tI b]) λv=>v=.bl (M0 a b):=by
  have hz:=Z2 (tI a) (tI b) _ _ rfl rfl;rw[iH hl]at hz;exists rpB,m_covers,hz;refine O1 (F4 (λi c=>∃u v,c = [_,_,u,v]/\∀k,k<i->b.getD k 0<=a.getD k 0) ⟨_,_,rfl,λk hk=>absurd hk (qO6 _)⟩ ?_ ?_)
  .rintro i u c T ⟨_,_,rfl,I⟩;show 1 hi (zv T);show 6;refine sv (λh=>?_) (λh=>?_)
   .exists rp18;rw[Rj hi [SX,h]]
   .refine ⟨_,_,rfl,λk hk=>?_⟩;by_cases e:k=i
    .subst e;simpa using h
    .show I k ZU
  .rintro c ⟨_,_,rfl,I⟩;rw[qA1,qB7]at I;exists rp18;rw[Ri I]
 show 3 v e O;show e
def rB (h:m.1.length=s.length):[TH,wW [tI s,mW m],M0 s m.1]:=by
 have a0:_=some (tI m.1):=rfl;have k:=xw (b:=m.1) h;exists rpB,m_able,a0,k
def xC (h6:n<=6) (h:okN n m):Be [mW m]=.ok (tI ([Tp,n,λk=>m.2.getD k 0-m.1.getD k 0])):=by
 have a0:_=some (tI m.1):=rfl;have O:_=some (tI m.2):=rfl;have hz:=Z2 (tI m.1) (tI m.2) _ _ rfl rfl;rw[iH (by rw[h.1,h.2.1]),h.1]at hz;exists rpB,m_change,a0,O,hz;have e:∀N mg me a (h:∀k,k<n->∃I,_=_/\me I=_),E1 N mg yes me ([Tp,n,λk=>W.tup [.int (m.1.getD k 0),.int (m.2.getD k 0)]]) a=.ok (lI ([Tp,n,λk=>m.2.getD k 0-m.1.getD k 0])):=λN mg me a h=>by
  rw[x5 (λk=>.int (m.2.getD k 0-m.1.getD k 0)) _ _ a [SX,(by omega:n<=1000)] (λk hk=>h k [SX,hk]),Lc]
 rw[e]
 .exists rp18
 .intro k hk;show 6;exists rp18
def yd (h6:n<=6) (h:okN n m) (hs:s.length=n) (hc:M0 s m.1=true):qM [tI s,mW m]=.ok (tI ([Tp,n,λk=>s.getD k 0+(m.2.getD k 0-m.1.getD k 0)])):=by
 have k1:=rB (m:=m) (by rw[hs,h.1]);rw[hc]at k1;have k2:=xC h6 h;have hz:=Z2 (tI s) (tI ([Tp,n,λk=>m.2.getD k 0-m.1.getD k 0])) _ _ rfl rfl;rw[iH (by simp [hs]),hs]at hz;exists rpB,m_after,k1,k2,hz;have e:∀N mg me a (h:∀k,k<n->∃I,_=_/\me I=_),E1 N mg yes me ([Tp,n,λk=>W.tup [.int (s.getD k 0),.int (([Tp,n,λk=>m.2.getD k 0-m.1.getD k 0]).getD k 0)]]) a=.ok (lI ([Tp,n,λk=>s.getD k 0+(m.2.getD k 0-m.1.getD k 0)])):=λN mg me a h=>by
  rw[x5 (λk=>.int (s.getD k 0+(m.2.getD k 0-m.1.getD k 0))) _ _ a [SX,(by omega:n<=1000)] (λk hk=>h k [SX,hk]),Lc]
 rw[e]
 .exists rp18
 .intro k hk;show 6;exists rp18;rw[yr hk]
def W9 (s:Xaj)(m:Mv):List Int:=[Tp,s.length,λk=>s.getD k 0+(m.2.getD k 0-m.1.getD k 0)]
def mvA (ms:List Mv) (r:Int):Mv:=ms.getD r.toNat ([],[])
def stn (ms:List Mv)(b rs:Xaj):List Int:=rs.foldl (λs r=>W9 s (mvA ms r)) b
def oQ s m:[ZM,W9 s m]=s.length:=by simp [W9]
def yI ms b rs r:stn ms b (rs ++ [r])=W9 (stn ms b rs) (mvA ms r):=[Tr,stn]
def dQ ms:∀ rs b,[ZM,stn ms b rs]=b.length
 | [],b=>rfl
 | r::rs,b=>by
  change [ZM,stn ms _ rs]=_;rw[dQ,oQ]
def yE {rs:Xaj}(h:i<rs.length):rs.take (i+1)=rs.take i ++ [rs.getD i 0]:=by
 simp_all
def pY {rs:Xaj}(h:i<rs.length):stn ms b (rs.take (i+1))=W9 (stn ms b (rs.take i)) (mvA ms (rs.getD i 0)):=by rw[yE h,yI]
def far (ms:List Mv):List Int->List Int->Nat
 |_,[]=>0
 |s,r::rs=>if M0 s (mvA ms r).1=true then far ms (W9 s (mvA ms r)) rs+1 else 0
def nV ms:∀(rs s:Xaj),far ms s rs<=rs.length
 | [],_=>qA6 _
 | r::rs,s=>by
  unfold far
  have:=nV ms rs (W9 s (mvA ms r))
  split <;> simp <;> omega
def ii ms:∀(rs s:Xaj) i,i<far ms s rs->M0 (stn ms s (rs.take i)) (mvA ms (rs.getD i 0)).1=true
 | [],_,i,h=>absurd h (qO6 _)
 | r::rs,s,i,h=>by
  unfold far at h
  split at h
  .rename_i hc
   cases i with
   |zero=>show hc
   | succ i=>
    show ii ms rs _ i ZU
  omega
def fQ ms:∀(rs s:Xaj),far ms s rs<rs.length->M0 (stn ms s (rs.take (far ms s rs))) (mvA ms (rs.getD (far ms s rs) 0)).1=false
 | [],_,h=>absurd h (qO6 _)
 | r::rs,s,h=>by
  by_cases hc:M0 s (mvA ms r).1=true
  .have e:far ms s (r::rs)=far ms (W9 s (mvA ms r)) rs+1:=by rw[far,qA3 hc]
   rw[e]at h ⊢;show fQ ms rs _ [SX,h]
  .have e:far ms s (r::rs)=0:=by rw[far,qA9 hc]
   rw[e];cases q:M0 s _ with
   |false=>show q
   |true=>show absurd q hc
def oU {l:Xao}(h:0<l.length):L2.atI (l.map tI) (-1)=some (tI (l.getD (l.length-1) [])):=by
 unfold L2.atI L2.ixN;rw[qA1,qA9 ZU,qA3 ZU]
 change _[((l.length:Int) + -1).toNat]?=_
 have:((l.length:Int) + -1).toNat=l.length-1:=ZU
 rw[this,qC6,qC7,qD1 ZU];rfl
def qN {rs:Xaj}(h:[ZI,(rs.map W.int).mapIdx λi x=>W.tup [.int i,x],w]):i<rs.length/\w=.tup [.int i,.int (rs.getD i 0)]:=by
 rw[List.getElem?_mapIdx,qC6]at h;cases e:rs[i]? with
 | none=>rw[e]at h;cases h
 | some x=>rw[e]at h;cases h;show ⟨(List.getElem?_eq_some_iff.mp e).1,by rw[qC7,e];rfl⟩
def L0 (ms:List Mv)(s rs:Xaj)(n:Nat):List Xaj:=[Tp,n+1,λi=>stn ms s (rs.take i)]
section
variable {b s rs:Xaj}{ms:List Mv}(h6:b.length<=6)(hs:s.length=b.length)(hm:∀m∈ms,okN b.length m)(hr:okR ms rs)(hl:rs.length<=200)
abbrev stJ (b s rs:Xaj)(ms:List Mv)(i:Nat)(ρ:Rho):Prop:=∃(T O I:Sl),ρ = [.par (.tup [tI b,tM_ ms]),.par (tI s),.par (lI rs),.own ((L0 ms s rs i).map tI),T,O,I]
abbrev stB : Rho -> R Fl := (aR (sU 6 (b2 fIx (b2 fIx (B3 .B 0) (mC (.int 1))) (B3 .B 5)))
      (aR (mIf (rL (V8 (bA (calm wW) (aC (b2 fIx (B3 .B 3) (b1 (fU jk) (mC (.int 1)))) (aC (B3 .B 6) aN))))) (gC "Stuck" (aC (B3 .B 4) aN)) sNx)
      (nD 3 (bA (calm qM) (aC (b2 fIx (B3 .B 3) (b1 (fU jk) (mC (.int 1)))) (aC (B3 .B 6) aN))))))
include h6 hs hm hr hl
def iM (hw:[ZI,(rs.map W.int).mapIdx λi x=>W.tup [.int (i:Int),x],w]) (J:stJ b s rs ms i a):∃I,gT 2 (ib (gN .U 4) (ib (gN .U 5) gsNil)) w a=some I /\
  (M0 (stn ms s (rs.take i)) (mvA ms (rs.getD i 0)).1=true->Po (stB I) (stJ b s rs ms (i+1)) λ_=>False)/\(M0 (stn ms s (rs.take i)) (mvA ms (rs.getD i 0)).1=false->stB I=.ex ⟨"Stuck",some i⟩):=by
 obtain ⟨a4,a5,a6,rfl⟩:=J;show 1 hi (qN hw);have a1:_=some (tM_ ms):=rfl;obtain ⟨r0,r1⟩:=memD hr hi;have T:_=some (mW (mvA ms _)):=atM r0 r1;have WC:okN _ (mvA ms _):=getM hm r0 r1;have Vl:=pY (ms:=ms) (b:=s) hi;have Vv:[ZM,stn ms s (rs.take i)]=b.length:=by rw[dQ,hs]
 have O:=oU (l:=L0 ms s rs i) (by simp [L0]);have eg:(L0 ms s rs i).getD ([ZM,L0 ms s rs i]-1) []=stn ms s (rs.take i):=by
  unfold L0;simp
 rw[eg]at O;have hS:L0 ms s rs (i+1)=L0 ms s rs i ++ [stn ms s (rs.take (i+1))]:=by
  unfold L0;rw[qT1,qC0];rfl
 have a3:[ZM,L0 ms s rs i]=i+1:=by simp [L0]
 generalize L0 ms s rs i=S at O hS a3
 generalize rs.getD i 0=r at T WC r0 r1 Vl
 generalize mvA ms r=m at T WC Vl
 generalize stn ms s (rs.take i)=t at O Vl Vv
 have k1:=v6 (rB (s:=t) (m:=m) (by rw[Vv,WC.1]));refine ⟨_,rfl,λhc=>?_,λhc=>?_⟩
 .have k2:=v6 (yd h6 WC Vv hc);have k3:[Tp,b.length,λk=>t.getD k 0+(m.2.getD k 0-m.1.getD k 0)]=stn ms s (rs.take (i+1)):=by
   rw[Vl];unfold W9;rw[Vv]
  rw[k3]at k2;rw[hc]at k1;exists a1,T,O,k1,k2;refine ⟨.par (.int (i:Int)),.par (.int r),.par (mW m),?_⟩;rw[hS]
 .rw [hc]at k1
  exists a1,T,O,k1
def uM (hg:far ms s rs=rs.length):aT [.tup [tI b,tM_ ms],tI s,lI rs]=.ok (lT (L0 ms s rs rs.length)):=by
 have I:Ok (aT [.tup [tI b,tM_ ms],tI s,lI rs]) λv=>v=lT (L0 ms s rs rs.length):=by
  have he:jv [lI rs]=_:=rfl;exists rpB,m_stands_of,he,iw _;refine O1 (F4 (λi a=>stJ b s rs ms i a) ⟨_,_,_,rfl⟩ ?_ ?_)
  .intro i u a T J;obtain ⟨O,e1,q1,_⟩:=iM h6 hs hm hr hl T J;refine ⟨O,e1,(q1 (ii ms rs s i ?_)).mono (λ_ h=>h) λ_ h=>h.elim⟩
   have:=(qN T).1
   omega
  .rintro a ⟨a4,a5,a6,rfl⟩;exists rp18
   grind
 show 3 v e I;show e
def uN (hg:far ms s rs<rs.length):aT [.tup [tI b,tM_ ms],tI s,lI rs]=.ex ⟨"Stuck",some (far ms s rs)⟩:=by
 have T:jv [lI rs]=_:=rfl;exists rpB,m_stands_of,T,iw _;refine (congrArg (λr=>U4 (andThen r _)) (nQ (λi a=>stJ b s rs ms i a) _ _ 0 _ ⟨_,_,_,rfl⟩ (by rw[List.length_mapIdx,qA1];show hg) ?_ ?_)).trans rfl
 .intro i w a hw hi J;rw[qH5]at J ⊢;obtain ⟨I,O,q1,_⟩:=iM h6 hs hm hr hl hw J;show ⟨I,O,q1 (ii ms rs s i hi)⟩
 .intro w a hw J;rw[qH5]at J;obtain ⟨I,O,_,q2⟩:=iM h6 hs hm hr hl hw J;show ⟨I,O,q2 (fQ ms rs s hg)⟩
end
section
variable {b s rs:Xaj}{ms:List Mv}(h6:b.length<=6)(hs:s.length=b.length)(hm:∀m∈ms,okN b.length m)(hr:okR ms rs)(hl:rs.length<=200)
include h6 hs hm hr hl
def Jc (hg:far ms s rs=rs.length):CN [.tup [tI b,tM_ ms],tI s,lI rs]=.ok (tI (stn ms s rs)):=by
 have k:=uM h6 hs hm hr hl hg;have I:=oU (l:=L0 ms s rs rs.length) (by simp [L0]);have O:(L0 ms s rs rs.length).getD ([ZM,L0 ms s rs rs.length]-1) []=stn ms s rs:=by
  unfold L0;simp
 rw[O]at I;exists rpB,m_run,k,I
def Jd (hg:far ms s rs<rs.length):CN [.tup [tI b,tM_ ms],tI s,lI rs]=.ex ⟨"Stuck",some (far ms s rs)⟩:=by
 have k:=uN h6 hs hm hr hl hg;exists rpB,m_run,k
end
def gP (h:Nm w):shp n (.str w)=true:=iQ λc hc=>by have:=h.2.2 c hc;omega
theorem iP:∀{ws:ZK},(∀w∈ws,Nm w)->W7 n (ws.map W.str)=true
 | [],_=>rfl
 | w::r,h=>by
  change (_&&_)=true;rw[gP (h w (qB3 ..)),iP λx I=>h x (qA5 _ I)];rfl
def ya w:∀ws:[Ta],((pds (ws.map W.str)).any λy=>PyData.eqv y (pd (.str w)))=decide (w∈ws)
 | []=>by simp [pds]
 | q::r=>by
  have g:=ya w r
  grind[PyData.eqv,pd,pds]
def QY (h:shp 8 (.str w)=true) (hs:∀x∈ws,Nm x):[TH,fIn neg (.str w) (lS ws),[YL,neg,! [ZL,w∈ws],[ZL,w∈ws]]]:=by
 have e:inW _ (lS ws)=_:=congrArg some (ya w ws);unfold fIn;rw[h,show shp 8 (lS ws)=true from iP hs,Bool.and_self,qA3 rfl,e]
def Gr q w:PyData.eqv (pd (.str q)) (pd (.str w))=decide (q=w):=by
 change (q == w)=_;omega
theorem CG w:∀ns:[Ta],w∈ns->fM (.str w) (ns.map W.str)=some (ns.idxOf w)
 | [],h=>by cases h
 | q::r,h=>by
  unfold fM;simp [pds,List.findIdx?_cons,Gr];by_cases e:q=w
  .subst e;simp
  .have hm:=(qB5.mp h).resolve_left λz=>e z.symm;have g:=CG w r hm
   grind[fM]
abbrev NN:XW:=⟨[ZF,"NoName"],none⟩
def dq (hw:shp 8 (.str w)=true) (hs:∀x∈ns,Nm x) (hl:ns.length<=900):V7 [.str w,lS ns]=if w∈ns then .ok (.int (ns.idxOf w)) else .ex NN:=by
 have I:=QY (neg:=true) hw hs;by_cases h:w∈ns
 .rw [qA3 h]
  rw[qK5 h]at I;have O:nN (ns.map W.str) (.str w)=.ok (.int (ns.idxOf w)):=by
   grind[nN,shp,iP,CG]
  exists rpB,m_number_of,I,FB,Pi,O
 .rw [qA9 h]
  rw[qK2 h]at I;exists rpB,m_number_of,I
def bH (h:∀y∈ts,y.length<=B) (I:ts.length*B+ts.length*a.length<=16777216):ac a (lS ts)=.ok (.str (Str.join a ts)):=by
 unfold ac;dsimp;rw[jM];dsimp;rw[qA3 (by unfold JoinOk;rw[StrLaws.joinFits h I];rfl)];unfold Txt.join;rw[StrLaws.glued_eq_join]
def text (ps:List Pl)(ms:List Mt):Str:=Str.join B2 (ps.map (λp=>Str.join B1 (pw p))++ms.map λm=>Str.join B1 (mws m))
structure BU (ps:List Pl) (ms:List Mt):Prop where
 l1:1<=ps.length
 l2:ps.length<=6
 l3:ms.length<=8
 np:∀p∈ps,Nm p.1/\Cn p.2
 nm:∀m∈ms,Nm m.1/\Told (ps.map (·.1)) m.2.1/\Told (ps.map (·.1)) m.2.2
 d1:(ps.map (·.1)).Nodup
 d2:(ms.map (·.1)).Nodup
def wV (F:BU ps ms):∀q∈ps.map (λp=>Str.join B1 (pw p))++ms.map (λm=>Str.join B1 (mws m)),59∉cl q/\q.length<=5000:=by
 have T:∀k∈ps.map (·.1),Nm k:=λk hk=>by
  show 3 p hp (qB0.mp hk);show (F.np p hp).1
 have O:∀ws,(∀w∈ws,Wd w)->ws.length<=450->59∉cl (Str.join B1 ws)/\[ZM,Str.join B1 ws]<=5000:=λws h hl=>by
  refine ⟨ke ZU ws λw hw=>(h w hw).2.2,?_⟩
  have:=U3 B1 ws λw hw=>(h w hw).1
  rw[lB1]at this;omega
 intro q I;rcases qE2.mp I with I|I
 .show 3 p hp (qB0.mp I);have h:=F.np p hp;refine O _ (λw hw=>?_) (by change 3<=450;decide);show 11
  .show lF
  show 11
  .show P3 h.1
  show 11
  .show Z8 h.2
  .cases hw
 .show 3 m hm (qB0.mp I);have h:=F.nm m hm;show O _ (Cw T h.1 h.2.1 h.2.2) (by rw[gR];have:=h.2.1.2.2;have:=h.2.2.2.2;omega)
def IE (F:BU ps ms):L3 (text ps ms) (.str B2)=.ok (lS (ps.map (λp=>Str.join B1 (pw p))++ms.map λm=>Str.join B1 (mws m))):=by
 have I:=wV F;have hlen:[ZM,ps.map (λp=>Str.join B1 (pw p))++ms.map λm=>Str.join B1 (mws m)]<=14:=by
  rw[qC4,qA1,qA1];have:=F.l2;have:=F.l3;omega
 have T:(ps.map (λp=>Str.join B1 (pw p))++ms.map λm=>Str.join B1 (mws m)) ≠ []:=λe=>by
  have h:=congrArg List.length e;rw[qC4,qA1,qA1,qI3]at h
  have:=F.l1
  omega
 unfold text;generalize _++ms.map _=L at *
 cases L with
 |nil=>omega
 | cons p r=>
  have e:=gu cB2 Xac p r λq O=>(I q O).1;have l:=U3 B2 _ λw hw=>(I w hw).2;rw[lB2]at l
  change [YL,_,_,_]=_;rw[qA3 ⟨WU,ZU,ZU⟩,e]
def qs (t:Int)(n i:Nat):List Nat:=[Tp,i,λp=>((((p:Nat):Int)+t)%(n:Int)).toNat]
def tp (c:Xaj)(ps:ZK) (t:Int)(i:Nat):List Pr:=((qs t ps.length i).filter λq=>[ZL,0<c.getD q 0]).map λq=>(c.getD q 0,ps.getD q Str.empty)
def JQ {t:Int}{n:Nat}(hp:p<n) (O:q<n) (h:(((p)+t)%n).toNat=(((q)+t)%n).toNat):p=q:=by
 have I:(n:Int)≠0:=ZU;have e:(p+t)%(n:Int)=(q+t)%n:=by rw[<- Int.toNat_of_nonneg (qG1 (p+t) I),h,Int.toNat_of_nonneg (qG1 (q+t) I)]
 rw[Int.emod_add_cancel_right,Int.emod_eq_of_lt ZU (Int.ofNat_lt.mpr hp),Int.emod_eq_of_lt ZU (Int.ofNat_lt.mpr O)]at e;show Int.ofNat.inj e
def Ci (hn:0<n):∀q∈qs t n i,q<n:=by
 intro q I;obtain ⟨p,_,rfl⟩:=qB0.mp I;simp_all[qF9]
def Qf (hi:i<=n):(qs t n i).Nodup:=by
 refine qN7.mpr ?_;refine qN3 ?_ List.nodup_range;intro p q hp I O e;show O (JQ (by have:=qC9.mp hp;omega) (by have:=qC9.mp I;omega) e)
def JP (hj:j<n):j∈qs t n n:=by
 have I:(n:Int)≠0:=ZU;have O:=qG1 (j-t) I;have T:=qF9 (j-t) ([TQ,(0:Int)<n]);refine qB0.mpr ⟨((j-t)%n).toNat,qC9.mpr ZU,?_⟩;have e:((((j-t)%n).toNat))=(j-t)%n:=ZU;simp_all[Int.emod_eq_of_lt]
def getD_inj {ps:ZK}(h:ps.Nodup) (hi:i<ps.length) (I:j<ps.length) (e:ps.getD i Str.empty=ps.getD j Str.empty):i=j:=by
 have hp:=List.pairwise_iff_getElem.mp h
 grind
def getD_mem {ps:ZK}(hi:i<ps.length):ps.getD i Str.empty∈ps:=by
 grind
def cnt (n:Nat)(c:Xaj):Prop:=c.length=n/\∀x∈c,Cn x
def dH (h:cnt n c) i:Cn (c.getD i 0):=by
 by_cases hi:i<c.length
 .rw[qC7,qD1 hi];show h.2 _ (qH4 hi)
 .rw[qC7,qI9 ZU];show ⟨Xaa,Xaa⟩
def Y5 (h:cnt ps.length c) (hd:ps.Nodup) (h1:1<=ps.length) (h6:ps.length<=6):Told ps (tp c ps t ps.length):=by
 have I:=Ci (t:=t) (i:=ps.length) ([TQ,0<ps.length]);refine ⟨λp hp=>?_,?_,?_⟩
 .show 3 q O (qB0.mp hp);have hf:=qG7.mp O;show ⟨ZU,dH h q,getD_mem (I q hf.1)⟩
 .unfold tp;rw[qC5];refine qN7.mpr ?_;refine qN3 ?_ (List.Pairwise.filter _ (Qf (qA6 _)));intro a b ha hb T e;show T (getD_inj hd (I a (qG7.mp ha).1) (I b (qG7.mp hb).1) e)
 grind[tp,qs]
def CC:∀{l},(c,k)∈l->(∀p∈l,p.2=k->p.1=c)->lk l k=c
 | [],h,_=>by cases h
 | p::r,h,hu=>by
  change [YL,p.2=k,p.1,_]=c;by_cases e:p.2=k
  .grind
  .rw [qA9 e]
   rcases qB5.mp h with h|h
   .omega
   .show CC h λq I=>hu q (qA5 _ I)
def wx:∀{l},(∀p∈l,p.2≠k)->lk l k=0
 | [],_=>rfl
 | p::r,h=>by
  change [YL,p.2=k,p.1,_]=0;rw[qA9 (h p (qB3 ..))];show wx λq I=>h q (qA5 _ I)
def CA {ps:ZK}(h:cnt ps.length c) (hd:ps.Nodup) (h1:1<=ps.length):ps.map (lk (tp c ps t ps.length))=c:=by
 have hq:=Ci (t:=t) (i:=ps.length) ([TQ,0<ps.length]);have T:∀j,j<ps.length->lk (tp c ps t ps.length) (ps.getD j Str.empty)=c.getD j 0:=by
  intro j I;have un:∀p∈tp c ps t ps.length,p.2=ps.getD j Str.empty->p.1=c.getD j 0/\0<c.getD j 0:=by
   intro p hp e;show 3 q O (qB0.mp hp);have hf:=qG7.mp O
   have:=getD_inj hd (hq q hf.1) I e
   subst this;show ⟨rfl,qL4 hf.2⟩
  by_cases h0:0<c.getD j 0
  .refine CC (qB0.mpr ⟨j,qG7.mpr ⟨JP I,qK5 h0⟩,rfl⟩) λp hp e=>(un p hp e).1
  .rw [wx λp hp e=>h0 (un p hp e).2]
   have:=(dH h j).1
   omega
 apply qK3
 .rw[qA1,h.1]
 grind
def pc (p:Pr):Str:=B1++num p.1++B1++p.2
def Dy c ps t i:tp c ps t (i+1)=tp c ps t i++if 0<c.getD ((i+t)%ps.length).toNat 0 then [(c.getD ((i+t)%ps.length).toNat 0,ps.getD ((i+t)%ps.length).toNat Str.empty)] else []:=by
 unfold tp qs;rw[qT1,qC0,List.filter_append,qC0];congr 1
 change List.map _ (List.filter _ [_])=_;by_cases h:0<c.getD ((i+t)%ps.length).toNat 0
 .rw[qA3 h,List.filter_cons_of_pos (by show qK5 h)];rfl
 .rw[qA9 h,List.filter_cons_of_neg (by rw[qK2 h];decide)];rfl
def lN c ps t i:[ZM,tp c ps t i]<=i:=by
 grind[tp,qs]
def xz (h:Cn c):c.natAbs.log2<1920:=hJ (qG6 (show c.natAbs<=1000000000 by have:=h.1;have:=h.2;omega) ZU)
def vN {ks:ZK}(I:∀k∈ks,Nm k) (h:1<=p.1/\Cn p.1/\p.2∈ks):[ZM,pc p]<=20:=by
 unfold pc;rw[qA8,qA8,qA8,lB1]
 have:=(Z8 h.2.1).1
 have:=(I _ h.2.2).2.1
 omega
def pO (h:cnt ps.length c) (hn:∀k∈ps,Nm k) (hd:ps.Nodup) (T:1<=ps.length) (h6:ps.length<=6):eY [tI c,lS ps,.int t]=.ok (.str (cat ((tp c ps t ps.length).map pc))):=by
 have I:Ok (eY [tI c,lS ps,.int t]) λv=>v=.str (cat ((tp c ps t ps.length).map pc)):=by
  have hc:=h.1;exists rpB,m__law_told;refine O1 (F4 (λi d=>∃a b:Sl,d = [_,_,_,.own (((tp c ps t i).map pc).map W.str),a,b]) [WH,_,rfl] ?_ ?_)
  .rintro i w d hu ⟨a,b,rfl⟩;show 1 hi (bu hu);have m0:=qG1 ((i:Int)+t) ([TQ,(ps.length:Int)≠0]);have m1:=qF9 ((i:Int)+t) ([TQ,(0:Int)<ps.length]);have ta:=ai (ts:=ps) ⟨m0,m1⟩;have O:=dH h (((i:Int)+t)%(ps.length:Int)).toNat;have hl:[ZM,((tp c ps t i).map pc).map W.str]<1000:=by rw[qA1,qA1];have:=lN c ps t i;omega
   have sc:=Dy c ps t i;have nk:=(P3 (hn _ (getD_mem (i:=(((i:Int)+t)%(ps.length:Int)).toNat) ZU))).1;show 6;by_cases h0:0<c.getD (((i:Int)+t)%(ps.length:Int)).toNat 0
   .rw [qA3 h0]at sc
    have lg:=xz O;have nl:=(Z8 O).1;have f1:B1.length+[ZM,num (c.getD (((i:Int)+t)%(ps.length:Int)).toNat 0)]<=100000:=by rw[lB1];omega
    have f2:[ZM,B1++num (c.getD (((i:Int)+t)%(ps.length:Int)).toNat 0)]+B1.length<=100000:=by rw[qA8,lB1];omega
    have f3:[ZM,B1++num (c.getD (((i:Int)+t)%(ps.length:Int)).toNat 0)++B1]+[ZM,ps.getD (((i:Int)+t)%(ps.length:Int)).toNat Str.empty]<=100000:=by rw[qA8,qA8,lB1];omega
    exists ta,qK5 h0;refine ⟨.par (.int (i:Nat)),.val (.int (((i:Int)+t)%(ps.length:Int))),?_⟩;rw[sc,qC0,qC0];rfl
   .rw [qA9 h0,qD3]at sc
    exists ta,qK2 h0;refine ⟨.par (.int (i:Nat)),.val (.int (((i:Int)+t)%(ps.length:Int))),?_⟩;rw[sc]
  .rintro d ⟨a,b,rfl⟩;rw[qA1,qB7];have tt:=Y5 (t:=t) h hd T h6;have j:=bH (a:=[ZF,""]) (ts:=(tp c ps t ps.length).map pc) (B:=20) (λy hy=>by
    show 3 p hp (qB0.mp hy);show vN hn (tt.1 p hp)) (by
    have e:[z5,""]=0:=ZU;rw[e,qA1]
    have:=lN c ps t ps.length
    omega)
   exists j;rw[[TQ,[ZF,""] = Str.empty],Ln]
 show 3 v e I;show e
def oH:∀l,cat ((fl l).map λq=>B1++q)=cat (l.map pc)
 | []=>rfl
 | p::r=>by
  change B1++_++(B1++p.2++_)=_++_;rw[oH];unfold pc;simp [qF6]
def jf n T P:Str.join B1 (mw n T P)=[ZF,"move "] ++ n++[ZF," takes"] ++ cat (T.map pc)++[ZF," puts"] ++ cat (P.map pc):=by
 unfold mw mg;rw[cA]
 change _ ++ (B1++n++(B1++_ ++ _))=_;rw[qC0,jx,oH]
 change _ ++ (B1++n++(B1++_ ++ (_++(B1++_ ++ _))))=_;rw[oH,[TQ,[ZF,"move "] = [ZF,"move"] ++ B1],[TQ,[ZF," takes"] = B1++[ZF,"takes"]],[TQ,[ZF," puts"] = B1++[ZF,"puts"]]];simp [qF6]
def ja n c:Str.join B1 (pw (n,c))=[ZF,"place "] ++ n++B1++num c:=by
 change _ ++ B1++(n++B1++num c)=_;rw[[TQ,[ZF,"place "] = [ZF,"place"] ++ B1]];simp [qF6]
def pls (ps:ZK)(b:Xaj):List Pl:=[Tp,ps.length,λi=>(ps.getD i Str.empty,b.getD i 0)]
def mts (ps ns:ZK)(ms:List Mv) (t u:Int):List Mt:=[Tp,ms.length,λk=>(ns.getD k Str.empty,tp (ms.getD k ([],[])).1 ps t ps.length,tp (ms.getD k ([],[])).2 ps u ps.length)]
def qV:∀l,(∀y∈l,y.length<=B)->[ZM,cat l]<=l.length*B
 | [],_=>qE1 _
 | x::r,h=>by
  change [ZM,x++_]<=(r.length+1)*B;rw[qA8,Nat.succ_mul]
  have:=h x (qB3 ..)
  have:=qV r λy I=>h y (qA5 _ I)
  omega
structure Dr (ps ns:ZK) (ms:List Mv):Prop where
 l1:1<=ps.length
 l2:ps.length<=6
 l3:ms.length<=8
 l4:ns.length=ms.length
 np:∀k∈ps,Nm k
 nn:∀k∈ns,Nm k
 dp:ps.Nodup
 dn:ns.Nodup
 mv:∀m∈ms,cnt ps.length m.1/\cnt ps.length m.2
def big (b:Xaj):Prop:=∀x∈b,0<=x/\x<10^41
def oN (h:big b) i:0<=b.getD i 0/\b.getD i 0<10^41:=by
 by_cases hi:i<b.length
 .rw[qC7,qD1 hi];show h _ (qH4 hi)
 .rw[qC7,qI9 ZU];show ⟨Xaa,Xaa⟩
def eP {c:Int}(h:0<=c/\c<10^41):c.natAbs.log2<1920:=by
 have I:=h.1;show hJ (qB6 ([TQ,c.natAbs<10^41]) Xac)
def eQ (h:0<=c/\c<10^41):[ZM,num c]<=41:=PyProof.Rows.toString_length_le h.1 Xaa h.2
def eD (D:Dr ps ns ms) (hk:k<ms.length):cnt ps.length (ms.getD k ([],[])).1/\cnt ps.length (ms.getD k ([],[])).2:=by
 rw[qC7,qD1 hk];show D.mv _ (qH4 hk)
def gj (h:cnt ps.length c) (hn:∀k∈ps,Nm k) (hd:ps.Nodup) (O:1<=ps.length) (h6:ps.length<=6):[ZM,cat ((tp c ps t ps.length).map pc)]<=120:=by
 have:=qV ((tp c ps t _).map pc) (λy I=>by
  show 3 p hp (qB0.mp I);show vN hn ((Y5 h hd O h6).1 p hp))
 rw[qA1]at this
 have:=lN c ps t ps.length
 omega
def lPl:[z5,"place "]=6:=ZU
def lMv:[z5,"move "]=5:=ZU
def lTk:[z5," takes"]=6:=ZU
def lPu:[z5," puts"]=5:=ZU
def jX (D:Dr ps ns ms) (O:big b):∀y∈[Z0s]++(mts ps ns ms t u).map (λm=>Str.join B1 (mws m)),y.length<=1000:=by
 intro y I;have T:∀k,k<ps.length->_<=10:=λk hk=>(P3 (D.np _ (getD_mem hk))).1;rcases qE2.mp I with I|I
 .show 3 p hp (qB0.mp I);show 3 k hk (qB0.mp hp);rw[ja,qA8,qA8,qA8,lPl,lB1]
  have:=eQ (oN O k)
  have:=T k (qC9.mp hk)
  omega
 .show 3 m hm (qB0.mp I);show 3 k hk (qB0.mp hm);have hk:=qC9.mp hk;rw[jf,qA8,qA8,qA8,qA8,qA8,lMv,lTk,lPu]
  have:=(P3 (D.nn _ (getD_mem (i:=k) ([ZO,D.l4,hk])))).1
  have:=gj (t:=t) (eD D hk).1 D.np D.dp D.l1 D.l2
  have:=gj (t:=u) (eD D hk).2 D.np D.dp D.l1 D.l2
  omega
def jK (D:Dr ps ns ms) (I:big b):ac B2 (lS ([Z0s]++(mts ps ns ms t u).map (λm=>Str.join B1 (mws m))))=.ok (.str (text (pls ps b) (mts ps ns ms t u))):=by
 refine bH (jX D I) ?_;have e:[ZM,[Z0s]++(mts ps ns ms t u).map (λm=>Str.join B1 (mws m))]=ps.length+ms.length:=by
  grind[pls,mts]
 rw[e,lB2]
 have:=D.l2
 have:=D.l3
 omega
abbrev lw (b:Xaj)(ms:List Mv)(ps ns:ZK):W:=.lst [tI b,.lst (ms.map mW),lS ps,lS ns]
def nE (D:Dr ps ns ms) (hb:big b) (hl:b.length=ps.length):eZ [lw b ms ps ns,.int t]=.ok (.str (text (pls ps b) (mts ps ns ms t (3*t)))):=by
 have a3:Ok (eZ [lw b ms ps ns,.int t]) λv=>v=.str (text (pls ps b) (mts ps ns ms t (3*t))):=by
  have d1:=D.l1;have d2:=D.l2;have d3:=D.l3;have d4:=D.l4;exists rpB,m__law_text;rw[x5 _ _ _ _ (by rw[qB7];omega) ?_]
  .have e0:[Tp,ps.length,λk=>W.str (Str.join B1 (pw (ps.getD k Str.empty,b.getD k 0)))]=((pls ps b).map (λp=>Str.join B1 (pw p))).map W.str:=by
    unfold pls;rw[qC5,qC5];rfl
   rw[e0];exists rp18;refine O1 (F4 (λi a=>∃x y z:Sl,a = [.par (lw b ms ps ns),.par (.int t),.par (tI b),.par (.lst (ms.map mW)),.par (lS ps),.par (lS ns),.own (([Z0s]++((mts ps ns ms t (3*t)).take i).map (λm=>Str.join B1 (mws m))).map W.str),x,y,z]) ⟨_,_,_,by rw[qJ9,qH6,qD3]⟩ ?_ ?_)
   .rintro i w a hu ⟨x,y,z,rfl⟩;show 1 hi (bu hu);have ha:L2.atI (ms.map mW) (i:Int)=some (mW (ms.getD i ([],[]))):=by
     have:=iD mW (as:=ms) (d:=([],[])) (i:=(i:Int)) ⟨ZU,ZU⟩
     rw[qF7]at this;show this
    have ta:=ai (ts:=ns) (i:=(i:Int)) ⟨ZU,ZU⟩;rw[qF7]at ta;have I:=eD D hi;have hm:[ZI,mts ps ns ms t (3*t),(ns.getD i Str.empty,tp (ms.getD i ([],[])).1 ps t ps.length,tp (ms.getD i ([],[])).2 ps (3*t) ps.length)]:=by
     unfold mts;rw[qC6,qP4 hi];rfl
    have O:=pO (t:=t) I.1 D.np D.dp d1 d2;have a4:=pO (t:=3*t) I.2 D.np D.dp d1 d2;have c1:=gj (t:=t) I.1 D.np D.dp d1 d2;have c2:=gj (t:=3*t) I.2 D.np D.dp d1 d2;have nk:=(P3 (D.nn _ (getD_mem (ps:=ns) (i:=i) ZU))).1;have mt:=jf (ns.getD i Str.empty) (tp (ms.getD i ([],[])).1 ps t ps.length) (tp (ms.getD i ([],[])).2 ps (3*t) ps.length);have ll:[ZM,([Z0s]++((mts ps ns ms t (3*t)).take i).map (λm=>Str.join B1 (mws m))).map W.str]<1000:=by
     rw[qA1,qC4,qA1,qA1,qF3];unfold pls;rw[qA1,qB7];omega
    generalize tp (ms.getD i ([],[])).1 ps t ps.length=T at *
    generalize tp (ms.getD i ([],[])).2 ps (3*t) ps.length=P at *
    generalize ns.getD i Str.empty=n at *
    have f1:[z5,"move "]+n.length<=100000:=by rw[lMv];omega
    have f2:[ZM,[ZF,"move "] ++ n]+[z5," takes"]<=100000:=by rw[qA8,lMv,lTk];omega
    have f3:[ZM,[ZF,"move "] ++ n++[ZF," takes"]]+[ZM,cat (T.map pc)]<=100000:=by rw[qA8,qA8,lMv,lTk];omega
    have f4:[ZM,[ZF,"move "] ++ n++[ZF," takes"] ++ cat (T.map pc)]+[z5," puts"]<=100000:=by rw[qA8,qA8,qA8,lMv,lTk,lPu];omega
    have f5:[ZM,[ZF,"move "] ++ n++[ZF," takes"] ++ cat (T.map pc)++[ZF," puts"]]+[ZM,cat (P.map pc)]<=100000:=by rw[qA8,qA8,qA8,qA8,lMv,lTk,lPu];omega
    show 6;exists ha,O,a4,ta;rw[<- mt];refine ⟨.par (.int (i:Nat)),.val (.str (cat (T.map pc))),.val (.str (cat (P.map pc))),?_⟩;rw[take_one hm];simp only [qC0,qG2];rfl
   .rintro a ⟨x,y,z,rfl⟩;rw[qA1,qB7,show (mts ps ns ms t (3*t)).take ms.length=mts ps ns ms t (3*t) from qD8 (by unfold mts;rw[qA1,qB7];show qA6 _)];exists jK D hb
  .intro k hk;have hk:=qC9.mp hk;have ta:=ai (ts:=ps) (i:=(k:Int)) ⟨ZU,ZU⟩;rw[qF7]at ta;have bk:=oN hb k;have lg:=eP bk;have bl:=eQ bk;have nk:=(P3 (D.np _ (getD_mem hk))).1;have ba:L2.atI (b.map W.int) (k:Int)=some (.int (b.getD k 0)):=P6 ZU;show 6;rw[ja];generalize ps.getD k Str.empty=n at *
   generalize b.getD k 0=c at *
   have f1:[z5,"place "]+n.length<=100000:=by rw[lPl];omega
   have f2:[ZM,[ZF,"place "] ++ n]+B1.length<=100000:=by rw[qA8,lPl,lB1];omega
   have f3:[ZM,[ZF,"place "] ++ n++B1]+[ZM,num c]<=100000:=by rw[qA8,qA8,lPl,lB1];omega
   exists ta,ba
 show 3 v e a3;show e
def sc1 (p:Pr):Str:=num p.1++B1++p.2
def fp4 (h:a.length+x.length+y.length+[ZM,num i]<=100000) (hi:i.natAbs.log2<1920):fpR [.ok (.str a),.ok (.str x),.ok (.str y),.ok (.int i)] Str.empty=.ok (.str (a++x++y++num i)):=by
 have t:∀z,z.length<=100000->fq (.str z)=_:=λz hz=>qA3 hz;have ti:fq (.int i)=_:=qA3 hi;simp only [fpR,R.ok_bind,t a ZU,t x ZU,t y ZU,ti,qO0,qA8];rw[qA3 ZU,qA3 ZU,qA3 ZU,qA3 ZU,qA3 ZU]
def fp3 (h:[ZM,num i]+x.length+y.length<=100000) (hi:i.natAbs.log2<1920):fpR [.ok (.int i),.ok (.str x),.ok (.str y)] Str.empty=.ok (.str (num i++x++y)):=by
 have t:∀z,z.length<=100000->fq (.str z)=_:=λz hz=>qA3 hz;have ti:fq (.int i)=_:=qA3 hi;simp only [fpR,R.ok_bind,t x ZU,t y ZU,ti,qO0,qA8];rw[qA3 ZU,qA3 ZU,qA3 ZU,qA3 ZU]
def Dx c ps:tp c ps 0 ps.length=((List.range ps.length).filter λq=>[ZL,0<c.getD q 0]).map λq=>(c.getD q 0,ps.getD q Str.empty):=by
 have e:qs 0 ps.length ps.length=List.range ps.length:=by
  unfold qs
  have:[Tp,ps.length,λp=>((((p:Nat))+0)%(ps.length:Int)).toNat]=[Tp,ps.length,id]:=by
   refine qH8 λp hp=>?_;simp_all[Int.emod_eq_of_lt]
  rw[this,List.map_id]
 unfold tp;rw[e]
def jS (h:cnt ps.length c) (hn:∀k∈ps,Nm k) (h6:ps.length<=6):jp [tI c,lS ps]=.ok (lS ((tp c ps 0 ps.length).map sc1)):=by
 have hz:W6 [lS ps,tI c]=.ok ([Tp,ps.length,λk=>W.tup [.str (ps.getD k Str.empty),.int (c.getD k 0)]]):=by
  rw[Z2 _ _ _ _ rfl rfl,iG W.str W.int h.1 _ 0]
 exists rpB,m_shown_counts,hz;rw[Z9 (λk=>W.str _) _ _ _ _ (by rw[qB7];omega) ?_]
 .rw [Dx,qC5]
  change _=R.ok (W.lst _);rw[qC5];rfl
 .intro k hk;have hk:=qC9.mp hk;have I:=dH h k;have O:=xz I;have nl:=(Z8 I).1;have T:=(P3 (hn _ (getD_mem hk))).1;refine ⟨_,rfl,?_,λ_=>?_⟩
  .exists rp18
  .exists rp18;rw[fp3 (by rw[lB1];omega) O];rfl
def oG:∀l:List Pr,cat ((l.map sc1).map λq=>B1++q)=cat (l.map pc)
 | []=>rfl
 | p::r=>by
  change B1++_++_=_++_;rw[oG];unfold pc sc1;simp [qF6]
def sw (n:Str)(T P:List Pr):[Ta]:=[ZF,"move"] :: n::[ZF,"takes"] :: (T.map sc1++[ZF,"puts"] :: P.map sc1)
def DF n T P:Str.join B1 (sw n T P)=Str.join B1 (mw n T P):=by
 rw[jf];unfold sw;rw[cA]
 change _ ++ (B1++n++(B1++_ ++ _))=_;rw[qC0,jx,oG]
 change _ ++ (B1++n++(B1++_ ++ (_++(B1++_ ++ _))))=_;rw[oG,[TQ,[ZF,"move "] = [ZF,"move"] ++ B1],[TQ,[ZF," takes"] = B1++[ZF,"takes"]],[TQ,[ZF," puts"] = B1++[ZF,"puts"]]];simp [qF6]
def yN (D:Dr ps ns ms) (hb:big b) (hl:b.length=ps.length):qL [.tup [tI b,.tup (ms.map mW)],lS ps,lS ns]=.ok (.str (text (pls ps b) (mts ps ns ms 0 0))):=by
 have a3:Ok (qL [.tup [tI b,.tup (ms.map mW)],lS ps,lS ns]) λv=>v=.str (text (pls ps b) (mts ps ns ms 0 0)):=by
  have d1:=D.l1;have d2:=D.l2;have d3:=D.l3;have d4:=D.l4;have hz:W6 [lS ps,tI b]=.ok ([Tp,ps.length,λk=>W.tup [.str (ps.getD k Str.empty),.int (b.getD k 0)]]):=by
   rw[Z2 _ _ _ _ rfl rfl,iG W.str W.int hl _ 0]
  have Yt:W6 [lS ns,.tup (ms.map mW)]=.ok ([Tp,ns.length,λk=>W.tup [.str (ns.getD k Str.empty),mW (ms.getD k ([],[]))]]):=by
   rw[Z2 _ _ _ _ rfl rfl,iG W.str mW d4.symm Str.empty ([],[])]
  exists rpB,m_shown,hz;rw[x5 (λk:Nat=>W.str (Str.join B1 (pw (ps.getD k Str.empty,b.getD k 0)))) (λk:Nat=>W.tup [.str (ps.getD k Str.empty),.int (b.getD k 0)]) (List.range ps.length) _ (by rw[qB7];omega) ?_]
  .have e0:[Tp,ps.length,λk:Nat=>W.str (Str.join B1 (pw (ps.getD k Str.empty,b.getD k 0)))]=((pls ps b).map (λp=>Str.join B1 (pw p))).map W.str:=by
    unfold pls;rw[qC5,qC5];rfl
   rw[e0];exists Yt;refine O1 (F4 (λi c=>∃x y z:Sl,c = [.par (.tup [tI b,.tup (ms.map mW)]),.par (lS ps),.par (lS ns),.own (([Z0s]++((mts ps ns ms 0 0).take i).map (λm=>Str.join B1 (mws m))).map W.str),x,y,z]) ⟨_,_,_,by rw[qJ9,qH6,qD3]⟩ ?_ ?_)
   .rintro i w c hu ⟨x,y,z,rfl⟩;rw[qC6]at hu;show 3 k hk (qF0.mp hu);have hi:i<ns.length:=by
     have:=(qB4.mp hk).1
     rw[qB7]at this;show this
    have Vz:k=i:=by
     have:=(qB4.mp hk).2
     rw[qI4]at this;show this.symm
    subst Vz;have mi:=eD D (k:=k) ZU;have hm:(mts ps ns ms 0 0)[k]?=some (ns.getD k Str.empty,tp (ms.getD k ([],[])).1 ps 0 ps.length,tp (ms.getD k ([],[])).2 ps 0 ps.length):=by
     unfold mts;rw[qC6,qP4 ZU];rfl
    have s1:=jS mi.1 D.np d2;have s2:=jS mi.2 D.np d2;have t1:=Y5 (t:=0) mi.1 D.dp d1 d2;have t2:=Y5 (t:=0) mi.2 D.dp d1 d2;have nk:=P3 (D.nn _ (getD_mem (ps:=ns) hi));have ll:[ZM,([Z0s]++((mts ps ns ms 0 0).take k).map (λm=>Str.join B1 (mws m))).map W.str]<1000:=by
     rw[qA1,qC4,qA1,qA1,qF3];unfold pls;rw[qA1,qB7];omega
    generalize tp (ms.getD k ([],[])).1 ps 0 ps.length=T at *
    generalize tp (ms.getD k ([],[])).2 ps 0 ps.length=P at *
    generalize ns.getD k Str.empty=n at *
    have lT:=t1.2.2;have lP:=t2.2.2;have l1:[ZM,(T.map sc1).map W.str]<=100:=by rw[qA1,qA1];show lT
    have l2:[ZM,(P.map sc1).map W.str]<=100:=by rw[qA1,qA1];show lP
    have O:∀{L:List Pr},(∀p∈L,1<=p.1/\Cn p.1/\p.2∈ps)->∀y∈L.map sc1,y.length<=100:=λhL y I=>by
     show 3 p hp (qB0.mp I);unfold sc1;rw[qA8,qA8,lB1]
     have:=(Z8 (hL p hp).2.1).1
     have:=(D.np _ (hL p hp).2.2).2.1
     omega
    have jo:=bH (a:=B1) (ts:=sw n T P) (B:=100) (λy I=>by
     rcases qB5.mp I with rfl|I
     .omega
     rcases qB5.mp I with rfl|I
     .have:=nk.1;omega
     rcases qB5.mp I with rfl|I
     .omega
     rcases qE2.mp I with I|I
     .show O t1.1 y I
     rcases qB5.mp I with rfl|I
     .have:=wd_puts.1;omega
     .show O t2.1 y I) (by
     have e:[ZM,sw n T P]=4+T.length+P.length:=by
      change [ZM,T.map sc1++[ZF,"puts"] :: P.map sc1]+1+1+1=_;rw[qC4,qC2,qA1,qA1];omega
     rw[e,lB1];omega)
    rw[DF]at jo;show 6;have es:[Z0J,"move"]::W.str n::[Z0J,"takes"]::((T.map sc1).map W.str ++ [[Z0J,"puts"]]++(P.map sc1).map W.str)=(sw n T P).map W.str:=by
     unfold sw;rw[qD2,qD2,qD2,qC0,qD2,qG2];rfl
    exists s1,s2;rw[es,show ac (Str.ofString " ") (W.lst ((sw n T P).map W.str))=_ from jo];exists rp18;refine ⟨.par (.str n),.par (mW (ms.getD k ([],[]))),.own ((sw n T P).map W.str),?_⟩;rw[take_one hm];simp only [qC0,qG2];rfl
   .rintro c ⟨x,y,z,rfl⟩;rw[qA1,qB7,d4,show (mts ps ns ms 0 0).take ms.length=mts ps ns ms 0 0 from qD8 (by unfold mts;rw[qA1,qB7];show qA6 _)];exists jK D hb
  .intro k hk;have hk:=qC9.mp hk;have bk:=oN hb k;have lg:=eP bk;have bl:=eQ bk;have nk:=(P3 (D.np _ (getD_mem hk))).1;show 6;exists rp18;rw[fp4 (by rw[lPl,lB1];omega) lg,ja]
 show 3 v e a3;show e
def map_getD (ps:ZK):[Tp,ps.length,λi=>ps.getD i Str.empty]=ps:=by
 apply qK3
 .simp
 .intro i I O;rw[qS3,qI4,qC7,qD1];rfl
def Ap (b:Xaj):[Tp,b.length,λi=>b.getD i 0]=b:=by
 apply qK3
 .simp
 .intro i O I;rw[qS3,qI4,qC7,qD1];rfl
def Ao (ms:List Mv):[Tp,ms.length,λi=>ms.getD i ([],[])]=ms:=by
 apply qK3
 .simp
 .intro i I O;rw[qS3,qI4,qC7,qD1];rfl
def sx ps b:(pls ps b).map (λp=>p.1)=ps:=by
 unfold pls;rw[qC5];show map_getD ps
def Qm (h:b.length=ps.length):(pls ps b).map (λp=>p.2)=b:=by
 unfold pls;rw[qC5,<- h];show Ap b
def Cy (h:ns.length=ms.length):(mts ps ns ms t u).map (λm=>m.1)=ns:=by
 unfold mts;rw[qC5,<- h];show map_getD ns
def QD (D:Dr ps ns ms):(mts ps ns ms t u).map (mvW ps)=ms.map mW:=by
 unfold mts;rw[qC5];have e:[Tp,ms.length,mvW ps∘λk=>(ns.getD k Str.empty,tp (ms.getD k ([],[])).1 ps t ps.length,tp (ms.getD k ([],[])).2 ps u ps.length)]=[Tp,ms.length,mW∘λk=>ms.getD k ([],[])]:=by
  refine qH8 λk hk=>?_;have hm:=eD D (qC9.mp hk)
  change W.tup _=mW _;rw[CA hm.1 D.dp D.l1,CA hm.2 D.dp D.l1]
 rw[e,<- qC5,Ao]
def qK (D:Dr ps ns ms) (O:cnt ps.length b):BU (pls ps b) (mts ps ns ms t u) where
 l1:=by unfold pls;rw[qA1,qB7];show D.l1
 l2:=by unfold pls;rw[qA1,qB7];show D.l2
 l3:=by unfold mts;rw[qA1,qB7];show D.l3
 np:=λp hp=>by
  show 3 k hk (qB0.mp hp);show ⟨D.np _ (getD_mem (qC9.mp hk)),dH O k⟩
 nm:=λm hm=>by
  show 3 k hk (qB0.mp hm);have hk:=qC9.mp hk;have I:=eD D hk;rw[sx];show ⟨D.nn _ (getD_mem ([ZO,D.l4,hk])),Y5 I.1 D.dp D.l1 D.l2,Y5 I.2 D.dp D.l1 D.l2⟩
 d1:=[ZO,sx,D.dp]
 d2:=[ZO,Cy D.l4,D.dn]
def nU (w:Str):Bool:=[ZL,1<=w.length]&&(cl w).all λc=>[ZL,c∈cl "0123456789"]
def cO (w:Str):Option Int:=if 10<w.length\/nU w=false then none else match PySem.intText? w with
 |some n=>if num n=w/\n<=1000000000 then some n else none
 |none=>none
def okI:Option Int->Bool
 |some n=>[ZL,n.natAbs.log2<1920]
 |none=>false
def okW (w:Str):Bool:=decide (Sm w)&&([ZL,10<w.length]||!nU w||okI (PySem.intText? w))
def oW:Option Int->W
 |none=>.non
 |some c=>.int c
def kq (h:okW w=true):S5 [.str w]=.ok (oW (cO w)):=by
 obtain ⟨hs,I⟩:=(qE6 ..).mp h;have hs:=qL4 hs;unfold cO;by_cases hl:10<w.length
 .rw[qA3 (.inl hl)];show Ac hs hl
 .cases hm:nU w with
  |false=>rw[qA3 (.inr rfl)];show ni hs hm
  | true=>
   rw[qA9 ZU];rw[qK2 hl,hm]at I;cases hi:PySem.intText? w with
   |none=>rw[hi]at I;cases I
   | some n=>
    rw[hi]at I;have hg:=qL4 I;dsimp;by_cases hn:num n=w/\n<=1000000000
    .rw [qA3 hn]
     have g:[ZM,num 1000000000]<=100000:=ZU;have q:=Y8 (s:=[ZF,"0123456789"]) hs;rw[show ([ZL,1<=w.length]&&(cl w).all λc=>[ZL,c∈cl (Str.ofString "0123456789")])=true from hm]at q;have e:[ZL,(10:Int)<(w.length:Int)]=false:=qK2 ZU;have T:fIntS [.str w]=.ok (.int n):=by
      change [YL,w.length<=640,_,_]=_;rw[qA3 ZU,hi]
     have O:([ZL,num n=w]&& [ZL,n<=1000000000])=true:=ZU;have a3:w.length<=100000:=ZU;exists rpB,m_count_of,sGr,e,q,T,O;rfl
    .rw [qA9 hn]
     show EV hs ZU hi hm hg (by
      omega)
def gO (o:ZV):noL (oW o)=true:=[Z03,o]
def tO (hl:ws.length<=900) (h:∀w∈ws,okW w=true):pH [lS ws]=.ok (.tup (ws.map λw=>oW (cO w))):=by
 have I:A3 (ws.map λw=>oW (cO w))=true:=U1 _ (λw=>gO _) ws;exists rpB,m_counts_of;rw[x5 (λw=>oW (cO w)) W.str ws _ ZU ?_]
 .first|done | (rfl)|skip
 .intro w hw;show 6;exists kq (h w hw)
def rp:∀ws:[Ta],((pds (ws.map λw=>oW (cO w))).any λy=>PyData.eqv y (pd .non))=ws.any λw=>(cO w).isNone
 | []=>rfl
 | w::r=>by
  have g:=rp r;simp [pds,g];cases cO w <;> rfl
def II (o:ZV):shp n (oW o)=true:=by cases o <;> cases n <;> rfl
theorem qc:∀ws:[Ta],W7 n (ws.map λw=>oW (cO w))=true
 | []=>rfl
 | w::r=>by
  change (_&&_)=true;rw[II,qc];rfl
def rm (hl:ws.length<=900) (h:∀w∈ws,okW w=true):nY [lS ws]=.ok (.bl (ws.all λw=>(cO w).isSome)):=by
 have k:=tO hl h;have e:fIn true .non (.tup (ws.map λw=>oW (cO w)))=.ok (.bl (ws.all λw=>(cO w).isSome)):=by
  have I:inW _ (.tup _)=_:=congrArg some (rp ws)
  grind[fIn,shp,qc]
 exists rpB,m_are_counts,k,e
def Bc (a n:Nat):Bool:=if [ZL,0<(n:Int)] then [ZL,(a:Int)=(n:Int)] else ([ZL,1<=(a:Int)]&& [ZL,(a:Int)<=6])
def FX (a n:Nat):[TH,nW [.int a,.int n],Bc a n]:=by
 unfold Bc;have e:=xb false a n;by_cases h:0<(n:Int)
 .exists rpB,m_is_fitting,qK5 h,e
 .by_cases I:1<=a
  .exists rpB,m_is_fitting,qK2 h,qK5 I
  .exists rpB,m_is_fitting,qK2 h,qK2 I
def BC:Option Int->Bool
 |some c=>[ZL,1<=c]&& [ZL,c<=30]
 |none=>false
def xT (h:okW w=true):tH [.str w]=.ok (.bl (BC (cO w))):=by
 have k:=kq h;cases q:cO w with
 | none=>
  rw[q]at k;have k':=k;exists rpB,m_is_bound,k';rfl
 | some c=>
  rw[q]at k;have k':S5 _=.ok (.int c):=k;unfold BC;by_cases I:1<=c
  .exists rpB,m_is_bound,k',qK5 I
  .exists rpB,m_is_bound,k',qK2 I
def mj (f:Str) (r:ZK) (n:Nat):Bool:=
 if (Zq:ZK).any λy=>y == f then [ZL,(r.length:Int)=0] else
 if (["peak","again"]:ZK).any λy=>y == f then [ZL,(r.length:Int)=1] else
 if (Zf:ZK).any λy=>y == f then (r.all (λw=>(cO w).isSome)&&Bc r.length n) else
 if [ZL,f=Str.ofString "go"] then [ZL,0<(r.length:Int)] else
 if [ZL,f=Str.ofString "climb"] then ([ZL,(r.length:Int)=2]&&(r.drop 1).all λw=>(cO w).isSome) else
 ([ZL,f=Str.ofString "most"]&&([ZL,(r.length:Int)=1]&&BC (cO (r.getD 0 Str.empty))))
theorem dz {n:Nat}(hl:r.length<=900) (h:∀w∈r,okW w=true) (hw:ws=f::r):[TH,L8 [lS ws,.int n],mj f r n]:=by
 have T:L2.atI (ws.map W.str) 0=_:=F0 Xaa (by rw[hw];rfl);have O:C4 (ws.map W.str) [ZT,1] none=r.map W.str:=by
  rw[E8]
  have:=cD (ts:=ws) (a:=1) (by grind)
  grind
 have k0:=S7 false r;have k1:=rm hl h;have k2:=FX r.length n;unfold mj;cases I:(_:ZK).any _ with
 |true=>exists rpB,m_is_row,T,O,k0,I
 | false=>
  cases h2:(_:ZK).any _ with
  |true=>exists rpB,m_is_row,T,O,k0,I,h2
  | false=>
   cases h3:(Zf:ZK).any λy=>y == f with
   | true=>
    cases h4:r.all (λw=>(cO w).isSome) with
    | true=>
     rw[h4]at k1;exists rpB,m_is_row,T,O,k0,I,h2,h3,k1,k2
    | false=>
     rw[h4]at k1;exists rpB,m_is_row,T,O,k0,I,h2,h3,k1,k2
   | false=>
    by_cases g1:f=Str.ofString "go"
    .exists rpB,m_is_row,T,O,k0,I,h2,h3,qK5 g1
    .by_cases g2:f=Str.ofString "climb"
     .by_cases g3:(r.length:Int)=2
      .have c2:C4 (r.map W.str) [ZT,1] none=(r.drop 1).map W.str:=by
        rw[E8]
        have:=cD (ts:=r) (a:=1) ZU
        rw[show [ZT,(1:Int)]=some ((1:Nat):Int) from rfl,this]
       have k3:=S7 true (r.drop 1);have k4:=rm (ws:=r.drop 1) (by rw[qF4];omega) λw hw=>h w (qO7 hw);generalize r.drop 1=r' at *
       exists rpB,m_is_row,T,O,k0,I,h2,h3,qK2 g1,qK5 g2,qK5 g3,c2,k3,k4
      .exists rpB,m_is_row,T,O,k0,I,h2,h3,qK2 g1,qK5 g2,qK2 g3
     .by_cases g3:f=Str.ofString "most"
      .by_cases g4:(r.length:Int)=1
       .have e1:[Z07,r.map,0,r.getD 0 Str.empty]:=ai (i:=0) ⟨Xaa,ZU⟩;have k3:=xT (h (r.getD 0 Str.empty) (getD_mem ZU));generalize r.getD 0 Str.empty=y at *
        exists rpB,m_is_row,T,O,k0,I,h2,h3,qK2 g1,qK2 g2,qK5 g3,qK5 g4,e1,k3
       .exists rpB,m_is_row,T,O,k0,I,h2,h3,qK2 g1,qK2 g2,qK5 g3,qK2 g4
      .exists rpB,m_is_row,T,O,k0,I,h2,h3,qK2 g1,qK2 g2,qK2 g3
def fA (s:Str) (n:Nat) (b:Bool):Bool:=match Txt.split s B1 with
 |f::r=>!Txt.startswith s "moor " && [ZL,r.length<=100]&& [ZL,s.length<=1000]&&r.all okW&&(mj f r n == b)
 | []=>false
def bt (h:fA s n b=true):∃f r,Txt.split s B1=f::r/\Txt.startswith s "moor " = false/\L3 s (.str B1)=.ok (lS (f::r))/\[TH,L8 [lS (f::r),.int n],b]/\r.length<=100:=by
 unfold fA at h
 split at h
 .rename_i f r e
  simp [Bool.not_eq_true',qR1]at h;obtain ⟨⟨⟨⟨O,I⟩,h3⟩,h4⟩,T⟩:=h;refine ⟨f,r,e,O,?_,?_,I⟩
  .change [YL,_,_,_]=_;rw[qA3 ⟨WU,ZU,by rw[e,qC2];omega⟩,e]
  grind[dz]
 .cases h
abbrev kwG (m:W)(ps:ZK)(nw h:W) (bd:Int):KW:=(dNs,[m,lS ps,nw,h,.int bd])
abbrev XR:XW:=⟨[ZF,"NoRow"],none⟩
abbrev XM:XW:=⟨[ZF,"NoMoor"],none⟩
section
variable {s f:Str}{r ps:ZK}{m nw h:W}{bd:Int}
def uX (hw:[TH,fIsi [w,.ty "str"],false]):j8 [] [w] (kwG m ps nw h bd)=.ex XR:=by
 show 8;exists rpB,m_Desk_say,hw
variable (sw:Txt.startswith s "moor " = false)(sp:L3 s (.str B1)=.ok (lS (f::r)))
include sw sp
def uY (hr:[TH,L8 [lS (f::r),.int ps.length],false]):j8 [] [.str s] (kwG m ps nw h bd)=.ex XR:=by
 show 8;generalize f::r=ws at *
 exists rpB,m_Desk_say,sw,sp,v6 hr
def yR (hf:f=Str.ofString "most") (I:r = [y]) (hr:[TH,L8 [lS (f::r),.int ps.length],true]) (hc:S5 [.str y]=.ok (.int c)):j8 [] [.str s] (kwG m ps nw h bd)=.ok ([Tl,"ok"],kwG m ps nw h c,false):=by
 have T:[SA,(f::r).map W.str,0,.str f]:=F0 Xaa rfl;have O:[SA,(f::r).map W.str,1,.str y]:=F0 Xaa (by subst I;rfl);show 8;generalize f::r=ws at *
 exists rpB,m_Desk_say,sw,sp,v6 hr,T,O,qK5 hf,v6 hc
def IP (hf:f≠[ZF,"most"]) (hm:m=.non) (hr:[TH,L8 [lS (f::r),.int ps.length],true]):j8 [] [.str s] (kwG m ps nw h bd)=.ex XM:=by
 subst hm;have I:[SA,(f::r).map W.str,0,.str f]:=F0 Xaa rfl;show 8;generalize f::r=ws at *
 exists rpB,m_Desk_say,sw,sp,v6 hr,I,qK2 hf
variable {ms:Xag}(hr:L8 [lS (f::r),.int (ps.length:Nat)]=.ok (.bl true))(hf:f≠Str.ofString "most")
include hr hf
def fv (hi:[TH,fIn false (.str f) (.tup [[Tl,"now"],[Tl,"go"],[Tl,"home"]]),true]) (hw:G8 [] [lS (f::r)] (kwG (.tup ms) ps nw h bd)=.ok (v,(dNs,ks),z)):j8 [] [.str s] (kwG (.tup ms) ps nw h bd)=.ok (v,(dNs,ks),z):=by
 have I:[SA,(f::r).map W.str,0,.str f]:=F0 Xaa rfl;show 8;generalize f::r=ws at *
 exists rpB,m_Desk_say,sw,sp,v6 hr,I,qK2 hf,hi,hw
def av (hi:[TH,fIn false (.str f) (.tup [[Tl,"now"],[Tl,"go"],[Tl,"home"]]),true]) (hw:G8 [] [lS (f::r)] (kwG (.tup ms) ps nw h bd)=.ex e):j8 [] [.str s] (kwG (.tup ms) ps nw h bd)=.ex e:=by
 have I:[SA,(f::r).map W.str,0,.str f]:=F0 Xaa rfl;show 8;generalize f::r=ws at *
 exists rpB,m_Desk_say,sw,sp,v6 hr,I,qK2 hf,hi,hw
def DR (hi:[TH,fIn false (.str f) (.tup [[Tl,"now"],[Tl,"go"],[Tl,"home"]]),false]) (hw:M4 [] [lS (f::r)] (kwG (.tup ms) ps nw h bd)=.ok (v,(dNs,ks),z)):j8 [] [.str s] (kwG (.tup ms) ps nw h bd)=.ok (v,(dNs,ks),z):=by
 have I:[SA,(f::r).map W.str,0,.str f]:=F0 Xaa rfl;show 8;generalize f::r=ws at *
 exists rpB,m_Desk_say,sw,sp,v6 hr,I,qK2 hf,hi,hw
def Z5 (hi:[TH,fIn false (.str f) (.tup [[Tl,"now"],[Tl,"go"],[Tl,"home"]]),false]) (hw:M4 [] [lS (f::r)] (kwG (.tup ms) ps nw h bd)=.ex e):j8 [] [.str s] (kwG (.tup ms) ps nw h bd)=.ex e:=by
 have I:[SA,(f::r).map W.str,0,.str f]:=F0 Xaa rfl;show 8;generalize f::r=ws at *
 exists rpB,m_Desk_say,sw,sp,v6 hr,I,qK2 hf,hi,hw
end
section
variable {s t:Str}{ps:ZK}{m nw h:W}{bd:Int}
def DC (hr:W3 [.str t]=.ok (.tup [.tup [b,u],lS ns',nss])):P5 [] [.str t] (kwG m ps nw h bd)=.ok ([Tl,"ok"],kwG (.tup [b,u]) ns' nss b bd,false):=by
 show 8;exists rpB,m_Desk_take_up,hr
def Ip (hr:W3 [.str t]=NX):P5 [] [.str t] (kwG m ps nw h bd)=.ex ⟨[ZF,"NoText"],none⟩:=by
 show 8;exists rpB,m_Desk_take_up,hr
variable (sw:Txt.startswith s "moor " = true)(sp:mU s (.str B1)=.ok (.tup [.str "moor",.str B1,.str t]))
include sw sp
def yS (hw:P5 [] [.str t] (kwG m ps nw h bd)=.ok (v,(dNs,ks),z)):j8 [] [.str s] (kwG m ps nw h bd)=.ok (v,(dNs,ks),z):=by
 show 8;exists rpB,m_Desk_say,sw,sp,hw
def uZ (hw:P5 [] [.str t] (kwG m ps nw h bd)=.ex e):j8 [] [.str s] (kwG m ps nw h bd)=.ex e:=by
 show 8;exists rpB,m_Desk_say,sw,sp,hw
end
def CD (i:Nat):Str:=(([[ZF,"row"],[ZF,"moor"],[ZF,"name"],[ZF,"text"]]:ZK)).getD i Str.empty
def Q9 (i:Nat):Str:=(([[ZF,"NoRow"],[ZF,"NoMoor"],[ZF,"NoName"],[ZF,"NoText"]]:ZK)).getD i Str.empty
def eq_nil:[TH,fEq false [YM,[]] (.lst []),true]:=rfl
def we {bs:List Bool}(T:bs.length=5) (I:a.length=8) (O:a[3]?=some (.own (bs.map W.bl))):E1 9 (gN .U 8) (V8 (b2 fIx (B3 .B 3) (B3 .B 8))) (B3 .V 8) ([Tp,5,λk=>W.int (k:Nat)]) a=.ok (.lst (((List.range 5).filter λk=>bs.getD k false).map λk=>W.int (k:Nat))):=by
 match a,I with
 | [a0,a1,a2,a3,a4,a5,a6,a7],_=>
  cases O;rw[Z9 _ _ _ _ _ Xaa ?_];intro k hk;have ha:L2.atI (bs.map W.bl) k=some (.bl (bs.getD k false)):=by
   grind[iD,Int.toNat_natCast]
  refine ⟨_,rfl,?_,λ_=>?_⟩
  .exists ha
  .exists rp18
def bO (hs:j8 [] [w] (dNs,vs)=.ok (.str t,(dNs,ks),z)):l6 [] [w] (dNs,vs)=.ok (.tup [[Tl,"said"],.str t],(dNs,ks),z):=by
 show 8;cases z with
 |true=>exists rpB,m__law_answered,hs,eq_nil
 |false=>exists rpB,m__law_answered,hs,eq_nil
def qz (h:shp 8 (.lst (a::l))=true):[TH,fEq false [YM,a::l] (.lst []),false]:=by
 unfold fEq;rw[h];rfl
def yb (hs:j8 [] [w] (dNs,vs)=.ex ⟨[ZF,"Stuck"],some i⟩):l6 [] [w] (dNs,vs)=.ok (.tup [[nt],[Tl,"stuck"],.int i],(dNs,vs),true):=by
 show 8;have x0:[TH,xtL [([ZF,"Stuck"],false)] (Str.ofString "Stuck"),false]:=Xak;have I:[TH,xtL [([ZF,"Stuck"],true)] (Str.ofString "Stuck"),true]:=Xak;have T:fEq false [YM,[.bl false,.bl false,.bl false,.bl false,.bl true]] _=_:=qz rfl;have O:[TH,fEq false [YM,[.int 4]] (.lst [.int 4]),true]:=C0 rfl;exists rpB,m__law_answered,hs,x0,I,T;rw[we (bs:=[false,false,false,false,true]) rfl rfl rfl];exists show (List.range 5).filter (λk=>[false,false,false,false,true].getD k false) = [4] from rfl,O
def lv (hi:i<4) (hs:j8 [] [w] (dNs,vs)=.ex ⟨Q9 i,none⟩):l6 [] [w] (dNs,vs)=.ok (.tup [[nt],.str (CD i)],(dNs,vs),true):=by
 show 8;have x (j:Nat) (hj:j<4):xtL [([ZF,"NoRow"],[ZL,j=0]),([ZF,"NoMoor"],[ZL,j=1]),([ZF,"NoName"],[ZL,j=2]),([ZF,"NoText"],[ZL,j=3])] (Q9 i)=.ok (.bl (decide (i=j))):=by
  match i,hi,j,hj with
  |0,_,0,_|0,_,1,_|0,_,2,_|0,_,3,_|1,_,0,_|1,_,1,_|1,_,2,_|1,_,3,_|2,_,0,_|2,_,1,_|2,_,2,_|2,_,3,_|3,_,0,_|3,_,1,_|3,_,2,_|3,_,3,_=>kernel_rfl
 have x0:xtL [([ZF,"NoRow"],true),([ZF,"NoMoor"],false),([ZF,"NoName"],false),([ZF,"NoText"],false)] (Q9 i)=.ok (.bl (decide (i=0))):=x 0 Xaa;have O:xtL [([ZF,"NoRow"],false),([ZF,"NoMoor"],true),([ZF,"NoName"],false),([ZF,"NoText"],false)] (Q9 i)=.ok (.bl (decide (i=1))):=x 1 Xaa;have x2:xtL [([ZF,"NoRow"],false),([ZF,"NoMoor"],false),([ZF,"NoName"],true),([ZF,"NoText"],false)] (Q9 i)=.ok (.bl (decide (i=2))):=x 2 Xaa;have x3:xtL [([ZF,"NoRow"],false),([ZF,"NoMoor"],false),([ZF,"NoName"],false),([ZF,"NoText"],true)] (Q9 i)=.ok (.bl (decide (i=3))):=x 3 Xaa;have x4:[TH,xtL [([ZF,"NoRow"],true),([ZF,"NoMoor"],true),([ZF,"NoName"],true),([ZF,"NoText"],true)] (Q9 i),true]:=by
  match i,hi with
  |0,_|1,_|2,_|3,_=>kernel_rfl
 have I:Q9 i≠[ZF,"Stuck"] := by
  match i,hi with
  |0,_|1,_|2,_|3,_=>decide +kernel
 have c2:Q9 i∈([[ZF,"NoRow"],[ZF,"NoMoor"],[ZF,"NoName"],[ZF,"NoText"]]:ZK):=by
  match i,hi with
  |0,_|1,_|2,_|3,_=>decide +kernel
 have kk:[SA,[[Z0J,"row"],[Z0J,"moor"],[Z0J,"name"],[Z0J,"text"]],(i:Int),.str (CD i)]:=by
  match i,hi with
  |0,_|1,_|2,_|3,_=>rfl
 have n1:[TH,fEq false [YM,[.bl (decide (i=0)),.bl (decide (i=1)),.bl (decide (i=2)),.bl (decide (i=3)),.bl false]] (.lst []),false]:=qz rfl;have T:[TH,fEq false [YM,[.int (i:Nat)]] (.lst [.int 4]),false]:=by
  match i,hi with
  |0,_|1,_|2,_|3,_=>kernel_rfl
 have fl:(List.range 5).filter (λk=>[[ZL,i=0],[ZL,i=1],[ZL,i=2],[ZL,i=3],false].getD k false) = [i]:=by
  match i,hi with
  |0,_|1,_|2,_|3,_=>rfl
 generalize Q9 i=c at *
 exists rpB,m__law_answered,hs,OH I c2,x0,O,x2,x3,x4,n1;rw[we (bs:=[[ZL,i=0],[ZL,i=1],[ZL,i=2],[ZL,i=3],false]) rfl rfl rfl,fl];exists T,show [SA,[W.int (i:Nat)],0,.int (i:Nat)] from rfl,kk
abbrev MR:Str:=[ZF,"moor "]
def cMR:cl MR = [109,111,111,114,32]:=ZU
def uL t:Txt.startswith (MR++t) "moor " = true:=by
 change (_&&_)=true
 grind[PySem.StrLaws.subAt_eq,D5,B4]
def Ca (h:cl s=c::r) (hc:c≠109):Txt.startswith s "moor " = false:=by
 change (_&&_)=false;rw[qJ4,show s.cps.toList=c::r from h,show MR.cps.toList = _ from cMR,List.drop_zero,[TQ,MR.length=5],qP5];omega
def jY (ht:t.length<=90000):mU (MR++t) (.str B1)=.ok (.tup [.str "moor",.str B1,.str t]):=by
 have I:cl (MR++t)=109::111::111::114::32::cl t:=by rw[D5,cMR];rfl
 have hlen:[ZM,MR++t]=5+t.length:=by rw[qA8,[TQ,MR.length=5]]
 generalize MR++t=x at *
 have A:∀i,StrLaws.At x B1 x.length i↔[ZI,_,32]:=λi=>by
  unfold StrLaws.At;rw[qJ4,show x.cps.toList=_ from rfl,show B1.cps.toList = _ from cB1,lB1];constructor
  .rintro ⟨h1,h2⟩;have O:=eq_of_beq h2;have hi:i<[ZM,cl x]:=by rw[B4];omega
   rw[qH3 hi,qP5,qJ9]at O;rw[qD1 hi];injection O with O;rw[O]
  .intro h;obtain ⟨hi,hv⟩:=qB4.mp h;rw[qH3 hi,qP5,qJ9,hv];show ⟨by rw[B4]at hi;omega,qM3 _⟩
 have e:∃r,Builtin.Str.occurrences x B1 0 x.length 1=4::r:=by
  rcases StrLaws.occ_head x B1 1 (qA6 _) with ⟨_,h⟩|⟨i,r,h,ha,hm⟩
  .show absurd ((A 4).mpr (by rw[I];rfl)) (h 4)
  .have ha:=(A i).mp ha;have h4:i=4:=by
    by_cases q:4<i
    .show absurd ((A 4).mpr (by rw[I];rfl)) (hm 4 q)
    .rw [I]at ha
     match i,q,ha with
     |0,_,ha=>cases ha
     |1,_,ha=>cases ha
     |2,_,ha=>cases ha
     |3,_,ha=>cases ha
     |4,_,_=>rfl
     |i+5,q,_=>omega
   subst h4;show ⟨r,h⟩
 obtain ⟨r,e⟩:=e;have T:Txt.partition x B1=([ZF,"moor"],B1,t):=by
  unfold Txt.partition;rw[e];dsimp only;have a1:Builtin.Str.strSub x 0 4=Str.ofString "moor" := by
   apply iu
   change (Builtin.Str.strSub x 0 4).cps.toList=_;rw[qJ1,show x.cps.toList=cl x from rfl,I,[TQ,cl (Str.ofString "moor") = [109,111,111,114]]];rfl
  grind[iu,PySem.StrLaws.strSub_toList,lB1,B4]
 change [YL,(B1.length == 0)=false/\x.length<=100000,_,_]=_;rw[qA3 ⟨by rw[lB1];rfl,ZU⟩,T]
def Sn (zs:Xaj):Prop:=zs.length<=6/\big zs
def tells (zs:Xaj):Str:=Str.join B1 (zs.map num)
def pQ (h:Sn zs):ac B1 (.lst (zs.map λz=>W.str (num z)))=.ok (.str (tells zs)):=by
 have:=bH (ts:=_) (λy I=>by
  show 3 z hz (qB0.mp I);show eQ (h.2 z hz)) (by rw[lB1,qA1];have:=h.1;omega)
 rw[show lS _=.lst (zs.map λz=>W.str (num z)) by simp_all]at this;show this
def cW (h:Sn zs):Bd [tI zs]=.ok (.str (tells zs)):=by
 have O:=pQ h;exists rpB,m_spaced;rw[x5 (λz=>W.str (num z)) W.int zs _ (by have:=h.1;omega) ?_]
 .exists O
 .intro z hz;have I:=eP (h.2 z hz);show 6;exists I
def cE (h:Sn zs):jr [tI zs]=.ok (.str (tells zs)):=by
 have O:=pQ h;exists rpB,m__law_counted;rw[x5 (λz=>W.str (num z)) W.int zs _ (by have:=h.1;omega) ?_]
 .exists O
 .intro z hz;have I:=eP (h.2 z hz);show 6;exists I
abbrev kwT (b:Xaj)(ms:List Mv)(ps ns:ZK)(h:Xaj) (bd:Int):KW:=kwG (.tup [tI b,tM_ ms]) ps (lS ns) (tI h) bd
def nh:[ZL,[ZF,"now"] = Str.ofString "home"]=false:=ZU
def ng:[ZL,[ZF,"now"] = Str.ofString "go"]=false:=ZU
def hg:[ZL,[ZF,"home"] = Str.ofString "go"]=false:=ZU
def gh:[ZL,[ZF,"go"] = Str.ofString "home"]=false:=ZU
def MQ {mg:Xan}(h:mg w a=some ρ1):elX mg me a w=me ρ1:=by
 unfold elX;rw[h]
section
variable {b here:Xaj}{ms:List Mv}{ps ns:ZK}{bd:Int}
def yq (h:Sn here):G8 [] [lS [[ZF,"now"]]] [Z0M]=.ok (.str (tells here),kwT b ms ps ns here bd,true):=by
 have I:[SA,[W.str _],0,.str (Str.ofString "now")]:=rfl;show 8;exists rpB,m_Desk_walk,I,nh,ng,v6 (cW h)
def uu (h:Sn b):G8 [] [lS [[ZF,"home"]]] [Z0M]=.ok (.str (tells b),kwT b ms ps ns b bd,false):=by
 have I:[SA,[W.str _],0,.str (Str.ofString "home")]:=rfl;show 8;exists rpB,m_Desk_walk,I,hg,v6 (cW h)
def qA {g:Str->W}:∀ws:[Ta],(∀w∈ws,f (.str w)=if w∈ns then .ok (g w) else .ex e)->(∃w∈ws,w∉ns)->K6 f (ws.map W.str)=.ex e
 | [],_,h=>by grind
 | w::ws,hf,h=>by
  change (_>>=_)=_;rw[hf w qB3];by_cases q:w∈ns
  .rw [qA3 q,R.ok_bind,qA ws (λv I=>hf v (qA5 _ I)) (by
    grind)]
   rfl
  .rw[qA9 q];rfl
def nz:∀ws:[Ta],(∀w∈ws,f (.str w)=.ok (g w))->K6 f (ws.map W.str)=.ok (ws.map g)
 | [],_=>rfl
 | w::ws,h=>by
  change (_>>=_)=_;rw[h w qB3,R.ok_bind,nz ws λv I=>h v (qA5 _ I)];rfl
variable (hn:∀k∈ns,Nm k)(hl:ns.length<=900)
include hn hl
def xi {a:Rho}(I:a = [.obj (.pin p) dC (kwG m ps (lS ns) h bd),.par u]) (hw:shp 8 (.str w)=true):elX (gN .U 2) (bA V7 (aC (B3 .B 2) (aC (fL 0 dC dNs 2) aN))) (a++[Sx,3,a.length]) (.str w)=if w∈ns then .ok (.int (ns.idxOf w)) else .ex NN:=by
 subst I;have k:=dq hw hn hl;rw[MQ rfl,<- k];exists rp18
def KH {ws:ZK}{a:Rho}(I:a = [.obj (.pin p) dC (kwG m ps (lS ns) h bd),.par u]) (hs:∀w∈ws,shp 8 (.str w)=true) (hw:ws.length<=900) (O:∃w∈ws,w∉ns):S3 3 (gN .U 2) (bA V7 (aC (B3 .B 2) (aC (fL 0 dC dNs 2) aN))) (ws.map W.str) a=.ex NN:=by
 unfold S3;rw[qA1,qA3 ZU,qA (ns:=ns) ws (λw h=>xi hn hl I (hs w h)) O];rfl
def vW {ws:ZK}{a:Rho}(I:a = [.obj (.pin p) dC (kwG m ps (lS ns) h bd),.par u]) (O:∀w∈ws,w∈ns) (hw:ws.length<=900) (hi:ws.map (λw=>((ns.idxOf w):Int))=rs):S3 3 (gN .U 2) (bA V7 (aC (B3 .B 2) (aC (fL 0 dC dNs 2) aN))) (ws.map W.str) a=.ok (lI rs):=by
 unfold S3;rw[qA1,qA3 ZU,nz ws (λw h=>(xi hn hl I (gP (hn w (O w h)))).trans (qA3 (O w h)))]
 change _=R.ok (W.lst _);rw[<- hi,qC5];rfl
def cT (hs:∀w∈ws,shp 8 (.str w)=true) (hw:ws.length<=900) (I:∃w∈ws,w∉ns):G8 [] [lS ([ZF,"go"] :: ws)] [Z0M]=.ex NN:=by
 show 8;have O:[SA,([ZF,"go"] :: ws).map W.str,0,.str (Str.ofString "go")]:=F0 Xaa rfl;have T:C4 (([ZF,"go"] :: ws).map W.str) [ZT,1] none=ws.map W.str:=by
  rw[E8]
  have:=cD (ts:=[ZF,"go"] :: ws) (a:=1) (by rw[qC2];omega)
  grind
 have k0:=S7 false ws;have k:=KH (p:=p) (m:=.tup [tI b,tM_ ms]) (ps:=ps) (h:=tI here) (bd:=bd) (u:=lS ([ZF,"go"] :: ws)) hn hl rfl hs hw I;generalize [ZF,"go"] :: ws=L at *
 exists rpB,m_Desk_walk,O,gh,T,k0,k
variable {rs:Xaj}(h6:b.length<=6)(hh:here.length=b.length)(hm:∀m∈ms,okN b.length m)(hr:okR ms rs)(YA:rs.length<=200)
include h6 hh hm hr YA
def Do (O:∀w∈ws,w∈ns) (hi:ws.map (λw=>((ns.idxOf w)))=rs) (hg:far ms here rs=rs.length) (I:Sn (stn ms here rs)):G8 [] [lS ([ZF,"go"] :: ws)] [Z0M]=.ok (.str (tells (stn ms here rs)),kwT b ms ps ns (stn ms here rs) bd,false):=by
 show 8;have wl:ws.length=rs.length:=by grind
 have T:[SA,([ZF,"go"] :: ws).map W.str,0,.str (Str.ofString "go")]:=F0 Xaa rfl;have c1:C4 (([ZF,"go"] :: ws).map W.str) [ZT,1] none=ws.map W.str:=by
  rw[E8]
  have:=cD (ts:=[ZF,"go"] :: ws) (a:=1) (by rw[qC2];omega)
  grind
 have k0:=S7 false ws;have k:=vW (p:=p) (m:=.tup [tI b,tM_ ms]) (ps:=ps) (h:=tI here) (bd:=bd) (u:=lS ([ZF,"go"] :: ws)) hn hl rfl O ZU hi;have kr:=Jc h6 hh hm hr YA hg;generalize [ZF,"go"] :: ws=L at *
 exists rpB,m_Desk_walk,T,gh,c1,k0,k,kr,v6 (cW I)
def rE (I:∀w∈ws,w∈ns) (hi:ws.map (λw=>((ns.idxOf w)))=rs) (hg:far ms here rs<rs.length):G8 [] [lS ([ZF,"go"] :: ws)] [Z0M]=.ex ⟨"Stuck",some (far ms here rs)⟩:=by
 show 8;have wl:ws.length=rs.length:=by grind
 have O:[SA,([ZF,"go"] :: ws).map W.str,0,.str (Str.ofString "go")]:=F0 Xaa rfl;have c1:C4 (([ZF,"go"] :: ws).map W.str) [ZT,1] none=ws.map W.str:=by
  rw[E8]
  have:=cD (ts:=[ZF,"go"] :: ws) (a:=1) (by rw[qC2];omega)
  grind
 have k0:=S7 false ws;have k:=vW (p:=p) (m:=.tup [tI b,tM_ ms]) (ps:=ps) (h:=tI here) (bd:=bd) (u:=lS ([ZF,"go"] :: ws)) hn hl rfl I ZU hi;have T:=Jd h6 hh hm hr YA hg;generalize [ZF,"go"] :: ws=L at *
 exists rpB,m_Desk_walk,O,gh,c1,k0,k,T
end
def pK (D:Dr ps ns ms) (I:big b) (hl:b.length=ps.length):M4 [] [lS [[ZF,"show"]]] [Z0M]=.ok (.str (text (pls ps b) (mts ps ns ms 0 0)),kwT b ms ps ns here bd,true):=by
 have O:[SA,[[Z0J,"show"]],0,.str (Str.ofString "show")]:=rfl;show 8;exists rpB,m_Desk_answer,O,v6 (yN D I hl)
def no8:[Ta]:=[[ZF,"show"],[ZF,"balances"],[ZF,"dry"],[ZF,"wet"],[ZF,"bounded"],[ZF,"end"],[ZF,"cover"],[ZF,"reached"]]
def dN (I:f∉no8) (hf:f=Str.ofString "again") (hw:shp 8 (.str w)=true) (hn:∀k∈ns,Nm k) (hl:ns.length<=900) (hx:w∉ns):M4 [] [lS (f::w::r)] [Z0M]=.ex NN:=by
 have k:=dq hw hn hl;rw[qA9 hx]at k;simp [no8,qD4,not_or]at I;obtain ⟨a1,a2,a3,a4,O,a6,a7,a8⟩:=I;show 8;have e0:[SA,(f::w::r).map W.str,0,.str f]:=F0 Xaa rfl;have T:[SA,(f::w::r).map W.str,1,.str w]:=F0 Xaa rfl;generalize f::w::r=L at *
 exists rpB,m_Desk_answer,e0,T,qK2 a1,qK2 a2,qK2 a3,qK2 a4,qK2 O,qK2 a6,qK2 a7,qK2 a8,qK5 hf,k
def aj (I:f∉no8) (hf:f≠[ZF,"again"]) (hw:shp 8 (.str w)=true) (hn:∀k∈ps,Nm k) (hl:ps.length<=900) (hx:w∉ps):M4 [] [lS (f::w::r)] [Z0M]=.ex NN:=by
 have k:=dq hw hn hl;rw[qA9 hx]at k;simp [no8,qD4,not_or]at I;obtain ⟨a1,a2,a3,a4,O,a6,a7,a8⟩:=I;show 8;have e0:[SA,(f::w::r).map W.str,0,.str f]:=F0 Xaa rfl;have T:[SA,(f::w::r).map W.str,1,.str w]:=F0 Xaa rfl;generalize f::w::r=L at *
 exists rpB,m_Desk_answer,e0,T,qK2 a1,qK2 a2,qK2 a3,qK2 a4,qK2 O,qK2 a6,qK2 a7,qK2 a8,qK2 hf,k
def PP {k:Int}(h0:0<=k)(I:k<=1000):0<=k*k/\k*k<=1000000:=⟨qV3 h0 h0,Int.le_trans (qV4 I I h0 ZU) ZU⟩
def small (h:-18446744073709551616<z/\z<18446744073709551616):Builtin.Int.intBits z<=64:=intBits_le_64 ZU ZU
def bL {ns:Xaj}(I:∀x∈ns,[Z0Z]) (h0:0<=k) (O:k<=1000):∃z:Int,pI [.scr (ns.map W.int),.int k]=.ok (.int z):=by
 have Vz:=PP h0 O;by_cases h:k<ns.length
 .exists rpB,m__law_cell,qK5 h;omega
 .by_cases hl:0<(ns.length:Int)
  .have m0:0<=k*37%ns.length:=qG1 _ ZU;have m1:k*37%_<_:=qF9 _ hl;have hz:=memD I (i:=(k*37%ns.length).toNat) ZU;exists rpB,m__law_cell,qK2 h,qK5 hl;generalize ns.getD (k*37%(ns.length:Int)).toNat 0=z at *
   have b1:=intBits_mul_le hz (small (z:=48271) ZU);have b2:Builtin.Int.intBits (k*k*3011)<=64:=small ZU;have T:=intBits_add_le b1 b2;have b4:=intBits_add_le T (small (z:=29) ZU);have b5:Builtin.Int.intBits (z*48271+k*k*3011+29)+Builtin.Int.intBits (z*48271+k*k*3011+29)<=134217728:=ZU;exists rp18;show [Tq]
  .exists rpB,m__law_cell,qK2 h,qK2 hl;show [Tq]
def Lo (I:cl x=L) (h0:0<=j) (h:L[j.toNat]?=some c) (hl:x.length<=100000):fIxS (.str x) (.int j)=.ok (.str ⟨#[c]⟩):=by
 have e:[SA,x.cps.toList,j,c]:=by
  have O:=(qB4.mp h).1
  change L2.atI (cl x) j=_;rw[I];unfold L2.atI;rw[Y9 h0 ZU];show h
 change [YL,x.length<=100000,_,_]=_;rw[qA3 hl,e]
def Cd {p:Nat}(h:p<=x.length):cl (Txt.slice x none [ZT,p])=(cl x).take p:=by
 have hl:=B4 x
 change cl (StrLaws.sliceText x none _)=_;rw[StrLaws.sliceText_to ⟨ZU,ZU⟩];rw[List.drop_zero,[TQ,((p:Int)-0).toNat=p]]
def DK {p:Nat}(h:p<=x.length):cl (Txt.slice x [ZT,p] none)=(cl x).drop p:=by
 have hl:=B4 x
 change cl (StrLaws.sliceText x _ none)=_;rw[StrLaws.sliceText_from ⟨ZU,ZU⟩];rw[qF7];show qD8 (by rw[qF4];omega)
def Nms (n:Nat)(ws:ZK):Prop:=ws.length=n/\(∀w∈ws,Nm w/\∀c∈cl w,c<=116)/\ws.Nodup
abbrev mS:Str:=[ZF,"mnopqrst"]
abbrev bS_:Str:=[ZF,"bcdefghijkl"]
theorem mS_c:cl mS=[Tp,8,(·+109)]:=ZU
def bS_c:cl bS_=[Tp,11,(·+98)]:=ZU
def nu {n:Nat}(hn:n<=8):∃ws,dB [.int z,.int n,.int s]=.ok (lS ws)/\Nms n ws:=by
 have T:Ok (dB [.int z,.int n,.int s]) λv=>∃ws,v=lS ws/\Nms n ws:=by
  obtain ⟨L,hL⟩:∃L:Nat,1+z%8=(L:Int):=⟨(1+z%8).toNat,ZU⟩;have l8:L<=8:=ZU;have l1:1<=L:=ZU;have mL:mS.length=8:=ZU;have hb:=Cd (x:=mS) (p:=L) ZU;have Vv:∀x:Str,x.length<=8->slS (.str x) none (some (L:Int))=.ok (.str (Txt.slice x none [ZT,(L:Int)])):=λx I=>qA3 ZU;have sb:slS (.str (Str.ofString "mnopqrst")) none (some (L:Int))=.ok (.str (Txt.slice mS none [ZT,(L:Int)])):=Vv _ (qR4 mL);generalize Txt.slice mS none (some (L:Int))=base at *
  have hl:base.length=L:=by rw[<- B4,hb,qF3,B4];omega
  have hC:∀c∈cl base,98<=c/\c<=116:=λc hc=>by
   grind[mS_c]
  have q0:=qG1 (z/8) ([TQ,(L:Int)≠0]);have q1:=qF9 (z/8) ([TQ,(0:Int)<L]);obtain ⟨p,hp⟩:∃p:Nat,z/8%(L:Int)=(p:Int):=⟨(z/8%(L:Int)).toNat,ZU⟩;rw[hp]at q1;have TY:p<base.length:=ZU;have ha:=Cd (x:=base) (p:=p) ZU;have hd:=DK (x:=base) (p:=p+1) ZU;rw[[TQ,((p+1:Nat):Int)=(p:Int)+1]]at hd;have la:[ZM,Txt.slice base none [ZT,(p:Int)]]=p:=by rw[<- B4,ha,qF3,B4];omega
  have ld:[ZM,Txt.slice base [ZT,(p:Int)+1] none]=base.length-(p+1):=by rw[<- B4,hd,qF4,B4]
  have sa:slS (.str base) none (some (p:Int))=.ok (.str (Txt.slice base none [ZT,(p:Int)])):=qA3 ZU;have sd:slS (.str base) [ZT,(p:Int)+1] none=.ok (.str (Txt.slice base [ZT,(p:Int)+1] none)):=qA3 ZU;generalize Txt.slice base none (some (p:Int))=A at *
  generalize Txt.slice base [ZT,(p:Int)+1] none=E at *
  exists rpB,m__law_names,hL,sb,hp
  let c:Nat->Nat:=λk=>((z/64+3*(k:Int)+s)%11).toNat+98
  have cm:∀k,((z/64+3*(k:Int)+s)%11).toNat<11:=λk=>ZU;have cat:∀k:Nat,(cl bS_)[((z/64+3*(k:Int)+s)%11).toNat]?=some (c k):=λk=>by
   rw[bS_c,qC6,qP4 (cm k)];rfl
  let g:Nat->Str:=λk=>A++⟨#[c k]⟩++E
  have O:∀k,cl (g k)=cl A ++ [c k]++cl E:=λk=>by change cl (A++⟨#[c k]⟩++E)=_;rw[D5,D5]
  have gn:∀k,Nm (g k)/\∀x∈cl (g k),x<=116:=λk=>by
   have hlen:[ZM,g k]=base.length:=by
    change [ZM,A++⟨#[c k]⟩++E]=_;rw[qA8,qA8,la,ld]
    change p+1+_=_;omega
   have all:∀x∈cl (g k),98<=x/\x<=116:=λx I=>by
    rw[O]at I;rcases qE2.mp I with I|I
    .rcases qE2.mp I with I|I
     .rw[ha]at I;show hC x (List.mem_of_mem_take I)
     .rw [qE5.mp I]
      have:=cm k
      show ⟨Nat.le_add_left _ _,by change ((z/64+3*(k:Int)+s)%11).toNat+98<=116;omega⟩
    .rw[hd]at I;show hC x (qO7 I)
   show ⟨⟨ZU,ZU,λx I=>⟨by have:=all x I;omega,by have:=all x I;omega⟩⟩,λx I=>(all x I).2⟩
  have gi:∀j k:Nat,j<8->k<8->g j=g k->j=k:=λj k hj hk e=>by
   have e2:cl A ++ [c j]++cl E=cl A ++ [c k]++cl E:=by rw[<- O,<- O,e]
   have e3:c j=c k:=by
    have:=List.append_cancel_right e2
    have:=List.append_cancel_left this
    show List.singleton_inj.mp this
   have e4:((z/64+3*(j:Int)+s)%11).toNat+98=((z/64+3*(k:Int)+s)%11).toNat+98:=e3;omega
  refine O1 (F4 (λi a=>∃x y:Sl,a = [.par (.int z),.par (.int (n:Nat)),.par (.int s),.val (.int (L:Int)),.val (.str base),.val (.int (p:Int)),.own (([Tp,i,g]).map W.str),x,y]) [WH,_,rfl] ?_ ?_)
  .rintro i u a hu ⟨x,y,rfl⟩;show 1 hi (bu hu);have ix:=Lo (x:=bS_) rfl (j:=(z/64+3*(i:Int)+s)%11) ZU (cat i) Xac;have f1:A.length+[ZM,(⟨#[c i]⟩:Str)]<=100000:=by rw[la];change p+1<=_;omega
   have f2:[ZM,(A++⟨#[c i]⟩:Str)]+E.length<=100000:=by rw[qA8,la,ld];change p+1+_<=_;omega
   have ll:[ZM,([Tp,i,g]).map W.str]<1000:=by rw[qA1,qA1,qB7];omega
   show 6;exists ix,sa,sd;refine ⟨.par (.int (i:Nat)),.val (.str ⟨#[c i]⟩),?_⟩;rw[qT1,qC0,qC0];rfl
  .rintro a ⟨x,y,rfl⟩;rw[qA1,qB7];exists rp18;refine ⟨[Tp,n,g],rfl,by rw[qA1,qB7],λw hw=>?_,?_⟩
   .obtain ⟨k,_,rfl⟩:=qB0.mp hw;show gn k
   .refine qN7.mpr ?_;refine qN3 ?_ List.nodup_range;intro j k hj hk Ud e;show Ud (gi j k (by have:=qC9.mp hj;omega) (by have:=qC9.mp hk;omega) e)
 obtain ⟨v,e,ws,rfl,h⟩:=T;show ⟨ws,e,h⟩
structure Ld (b:Xaj) (ms:List Mv) (ps ns:ZK):Prop where
 dr:Dr ps ns ms
 m1:1<=ms.length
 bl:b.length=ps.length
 bb:∀x∈b,0<=x/\x<=200000000
 pp:∀m∈ms,∀x∈m.2,x<=200000000
 zp:∀k∈ps,∀c∈cl k,c<=116
 zn:∀k∈ns,∀c∈cl k,c<=116
def p30:(10:Int)^(30:Int).toNat=1000000000000000000000000000000:=Xaa
def yG {ts:Xaj}(hl:ts.length=6) (hp:∀x∈ts,1<=x/\x<=30000){k:Nat}(hk:k<6):∃d:Int,L2.atI (ts.map W.int) k=some (.int d)/\1<=d/\d<=30000:=
 [WH,P6 ZU,memD hp ZU]
def Iq {ts:Xaj}(hl:ts.length=8) (hp:∀x∈ts,1<=x/\x<=B) z:∃n:Nat,L2.atI (ts.map W.int) (z%8)=some (.int n)/\1<=n/\n<=B:=by
 obtain ⟨j,I⟩:∃j:Nat,z%8=j:=⟨(z%8).toNat,ZU⟩;have h:=memD hp (i:=j) ZU;refine ⟨(ts.getD j 0).toNat,?_,ZU,ZU⟩;rw[I,P6 ZU,[TQ,(((ts.getD j 0).toNat))=ts.getD j 0]]
def ub {P:Int->Prop}{zs:Xaj}(hl:zs.length=n)(h:∀k,k<n->P (zs.getD k 0)):∀x∈zs,P x:=pL λk hk=>h k ZU
def qE {ns:Xaj}(hb:∀x∈ns,[Z0Z]) (h0:0<=a) (h1:a<=100) (t1:1<=t) (t2:t<=100000000):∃b ms ps qs,fc [.scr (ns.map W.int),.int a,.int t]=.ok (lw b ms ps qs)/\Ld b ms ps qs:=by
 have a6:Ok (fc [.scr (ns.map W.int),.int a,.int t]) λv=>∃b ms ps qs,v=lw b ms ps qs/\Ld b ms ps qs:=by
  obtain ⟨z0,e0⟩:=bL hb h0 ZU;obtain ⟨z1,e1⟩:=bL hb (k:=a+1) ZU ZU;obtain ⟨z2,e2⟩:=bL hb (k:=a+2) ZU ZU;obtain ⟨c,hc⟩:∃c:Int,c=z0%1000000000000000000000000000000:=[Tq];obtain ⟨n,en,n1,n6⟩:=Iq (ts:=[1,2,3,4,2,3,5,6]) (B:=6) rfl Xaa c;obtain ⟨K,eK,k1,k8⟩:=Iq (ts:=[1,2,3,4,5,3,6,8]) (B:=8) rfl Xaa z1;have en:[SA,[W.int 1,W.int 2,W.int 3,W.int 4,W.int 2,W.int 3,W.int 5,W.int 6],c%8,.int (n:Nat)]:=en;have eK:[SA,[W.int 1,W.int 2,W.int 3,W.int 4,W.int 5,W.int 3,W.int 6,W.int 8],z1%8,.int (K:Nat)]:=eK;exists rpB,m__law_land,e0,p30,hc.symm,en;refine O1 (iZ (dj (λ_ z=>0<=z/\z<=200000000) ZU ?_ ?_))
  .intro k hk;obtain ⟨d,I,d1,d2⟩:=yG (ts:=[8,40,184,1000,5200,26000]) rfl Xaa (k:=k) ZU;have I:[SA,[W.int 8,W.int 40,W.int 184,W.int 1000,W.int 5200,W.int 26000],(k:Int),.int d]:=I;have q:=qV4 ([TQ,c/d%3<=2]) t2 ZU ZU;have q0:=qV3 ([TQ,0<=c/d%3]) ([TQ,0<=t]);show 6;exists I;show ⟨_,rfl,_,rfl,q0,ZU⟩
  intro b Xp Wv;exists e1,eK;refine F4 (λi f=>∃(ms:List Mv) (x y z u:Sl),f = [.par (.scr (ns.map W.int)),.par (.int a),.par (.int t),.val (.int c),.val (.int (n:Nat)),.val (tI b),.own (ms.map mW),x,y,z,u,.un]/\ms.length=i/\∀m∈ms,(m.1.length=n/\[ZM,m.2]=n)/\(∀x∈m.1,0<=x/\x<=1)/\∀x∈m.2,0<=x/\x<=200000000) ⟨[],_,_,_,_,rfl,rfl,Xaf⟩ ?_ ?_
  .rintro i u f hu ⟨ms,x,y,z,v,rfl,hm,Xf⟩;show 1 hi (bu hu);show 6;exists e2;generalize z2/(1+7*(i:Int))=g
   refine iZ (dj (λ_ z=>0<=z/\z<=1) ZU ?_ ?_)
   .intro k hk;obtain ⟨d,I,d1,d2⟩:=yG (ts:=[1,5,31,211,1009,5003]) rfl Xaa (k:=k) ZU;have I:[SA,[W.int 1,W.int 5,W.int 31,W.int 211,W.int 1009,W.int 5003],(k:Int),.int d]:=I;show 6;exists I;show ⟨_,rfl,_,rfl,ZU,ZU⟩
   intro tk a3 a4;exists rp18;refine iZ (dj (λ_ z=>0<=z/\z<=200000000) ZU ?_ ?_)
   .intro k hk;obtain ⟨d,I,d1,d2⟩:=yG (ts:=[3,17,97,601,2003,7001]) rfl Xaa (k:=k) ZU;have I:[SA,[W.int 3,W.int 17,W.int 97,W.int 601,W.int 2003,W.int 7001],(k:Int),.int d]:=I;have q:=qV4 ([TQ,g/d%3<=2]) t2 ZU ZU;have q0:=qV3 ([TQ,0<=g/d%3]) ([TQ,0<=t]);show 6;exists I;show ⟨_,rfl,_,rfl,q0,ZU⟩
   intro pt T a5;have ll:[ZM,ms.map mW]<1000:=by rw[qA1];omega
   exists rp18;refine ⟨ms ++ [(tk,pt)],_,_,_,_,by rw[qC0];rfl,by rw[qC4,hm];rfl,λm hm=>?_⟩;rcases qE2.mp hm with hm|hm
   .show Xf m hm
   .rw [qE5.mp hm]
    show ⟨⟨a3,T⟩,ub a3 a4,ub T a5⟩
  .rintro f ⟨ms,x,y,z,v,rfl,hm,Xf⟩;rw[qA1,qB7]at hm;subst hm;obtain ⟨ps,ep,hp⟩:=nu (z:=c/5) (s:=0) (n:=n) ZU;obtain ⟨qs,eq,hq⟩:=nu (z:=c/7) (s:=1) (n:=ms.length) ZU;exists ep,eq;refine ⟨b,ms,ps,qs,rfl,?_⟩;have TY:=hp.1;show {
    dr:=⟨ZU,ZU,ZU,hq.1,λk hk=>(hp.2.1 k hk).1,λk hk=>(hq.2.1 k hk).1,hp.2.2,hq.2.2,λm hm=>by
     have h:=Xf m hm;rw[TY];show ⟨⟨h.1.1,λx O=>⟨(h.2.1 x O).1,by have:=(h.2.1 x O).2;omega⟩⟩,h.1.2,λx O=>⟨(h.2.2 x O).1,by have:=(h.2.2 x O).2;omega⟩⟩⟩
    m1:=ZU
    bl:=ZU
    bb:=ub Xp Wv
    pp:=λm hm x O=>((Xf m hm).2.2 x O).2
    zp:=λk hk=>(hp.2.1 k hk).2
    zn:=λk hk=>(hq.2.1 k hk).2 }
 obtain ⟨v,e,b,ms,ps,qs,rfl,h⟩:=a6;show ⟨b,ms,ps,qs,e,h⟩
noncomputable abbrev cv:Str:=[ZF,"cover "]
abbrev rc:Str:=[ZF,"reached "]
def nL (s1 s2 I s4:Str):[Ta]:=[[ZF,""],[ZF,"no"],[ZF,"now "],[ZF," now"],[ZF,"home home"],[ZF,"go"],[ZF,"most"],[ZF,"most 0"],[ZF,"most 31"],[ZF,"most 05"],[ZF,"most 1 1"],[ZF,"most a"],[ZF,"peak"],[ZF,"peak a b"],[ZF,"climb a"],[ZF,"climb a 01"],[ZF,"climb a 1 1"],[ZF,"bounded 1"],[ZF,"cover"],[ZF,"reached"],[ZF,"Now"],cv++s1,rc++s2,cv++I,cv++s4,[ZF,"show 1"],[ZF,"end a"],[ZF,"balances 0"],[ZF,"wet 1"],[ZF,"again a b"],[ZF,"again a "],[ZF,"peak a "],[ZF,"home "],[ZF,"moor"],[ZF,"again"],[ZF,"dry a"],[ZF,"climb a +1"],[ZF,"most 1_0"],[ZF,"most +5"],[ZF,"cover -0"],[ZF,"climb a 1.0"]]
def nT (O I:Str):[Ta]:=[rc++O,cv++I,cv++I,cv++I]
def nM (I:Str):[Ta]:=[cv++I,rc++I,cv++I,rc++I,cv++I,rc++I]
abbrev on:Str:=[ZF,"1"]
def jD (o:ZK)(x:Str):Str:=Str.join B1 (o.drop 1 ++ [x])
def jA (o:ZK)(x:Str):Str:=Str.join B1 (o ++ [x])
def jO (o:ZK):Str:=Str.join B1 (o.drop 1)
def j7:Str:=Str.join B1 (List.replicate 7 on)
def lh (n:Nat) (told:Bool):[Ta]:=let o:=List.replicate n on
 nL (jD o (Str.ofString "x")) (jD o (Str.ofString "1000000001")) j7 (jA o (Str.ofString ""))++([YL,told,nT (jA o (Str.ofString "0")) (jA o (Str.ofString "2")),[]]++[YL,1<n,nM (jO o),[]])
def KJ:(lh 1 false).all (λs=>fA s 0 false)=true:=Xac
def KK:∀n,n<7->1<=n->(lh n true).all (λs=>fA s n false)=true:=Xac
def dM {l:ZK}{i:Int}(h0:0<=i)(I:i<l.length):∃s∈l,[Z07,l.map,i,s]:=[WH,getD_mem (i:=i.toNat) ZU,ai ⟨h0,I⟩]
def tj (h:∀y∈l,y.length<=10) (hl:l.length<=10):ac B1 (lS l)=.ok (.str (Str.join B1 l))/\[ZM,Str.join B1 l]<=200:=by
 have q:=U3 B1 l h;rw[lB1]at q;show ⟨bH h (by rw[lB1];omega),ZU⟩
def lcv:cv.length=6:=ZU
def lrc:rc.length=8:=ZU
def qr:∀y∈List.replicate n on,y.length<=10:=λy I=>by rw[List.eq_of_mem_replicate I];omega
def Ot {x:Str}(h:∀y∈l,y.length<=10)(I:x.length<=10):∀y∈l ++ [x],y.length<=10:=by grind
def ve {n:Nat}(h:n<=10):jt true [YM,[.str on]] (.int n)=.ok (lS (List.replicate n on)):=by
 rw[wZ ZU,qF7];have e:∀n,(List.replicate n [W.str on]).flatten=(List.replicate n on).map W.str:=λn=>by
  simp_all
 rw[e];show S7 ..
def Qd a b:jt true [YM,[.str a,.str b]] (.int 3)=.ok (.lst [.str a,.str b,.str a,.str b,.str a,.str b]):=rfl
def No c (l:ZK) x:chks c (l.map W.str ++ [W.str x])=.ok (.lst (l.map W.str ++ [W.str x])):=by
 have e:l.map W.str ++ [W.str x]=(l ++ [x]).map W.str:=by rw[qC0];rfl
 rw[e];show S7 c _
def nH (h:∀y∈l,y.length<=10) (hl:l.length<=9) (I:x.length<=10):ac B1 (.lst (l.map W.str ++ [W.str x]))=.ok (.str (Str.join B1 (l ++ [x])))/\[ZM,Str.join B1 (l ++ [x])]<=200:=by
 have e:l.map W.str ++ [W.str x]=(l ++ [x]).map W.str:=by rw[qC0];rfl
 rw[e];show tj (Ot h I) (by rw[qC4];change l.length+1<=10;omega)
def qu (hn:n<=6) (h:told=false/\w=.non/\n=1\/told=true/\∃b ms ps ns,w=lw b ms ps ns/\b.length=n/\1<=n):∃s∈lh n told,fb [.int c,w]=.ok (.str s):=by
 have XH:=qr (n:=n);have od:∀y∈(List.replicate n on).drop 1,y.length<=10:=λy hy=>XH y (qO7 hy);have WO:[ZM,List.replicate n on]=n:=qO1;have a3:[ZM,(List.replicate n on).drop 1]<=9:=by rw[qF4,WO];omega
 have T:=ve (n:=n) ZU;have Wu:C4 ((List.replicate n on).map W.str) [ZT,1] none=((List.replicate n on).drop 1).map W.str:=by
  rw[E8]
  have:=cD (ts:=List.replicate n on) (a:=1) (by rw[WO];rcases h with ⟨_,_,h⟩|⟨_,_,_,_,_,_,_,h⟩ <;> omega)
  rw[show [ZT,(1:Int)]=some ((1:Nat):Int) from rfl,this]
 have J1:=nH (x:=[ZF,"x"]) od a3 ZU;have J2:=nH (x:=[ZF,"1000000001"]) od a3 ZU;have J4:=nH (x:=[ZF,""]) XH ZU ZU;have J5:=nH (x:=[ZF,"0"]) XH ZU ZU;have J6:=nH (x:=[ZF,"2"]) XH ZU ZU;have J7:=tj od ZU;have J3:=tj (qr (n:=7)) Xaa;have YB:jt true [YM,[.str on]] (.int 7)=.ok (lS (List.replicate 7 on)):=ve (n:=7) Xaa;have hd:=S7 true ((List.replicate n on).drop 1);have A1:=No true ((List.replicate n on).drop 1);have A2:=No true (List.replicate n on);unfold lh;dsimp only;unfold jD jA jO j7;generalize (List.replicate n on).drop 1=O at *
 generalize List.replicate n on=o_ at *
 generalize List.replicate 7 on=a4 at *
 generalize Str.join B1 (O ++ [[ZF,"x"]])=s1 at *
 generalize Str.join B1 (O ++ [[ZF,"1000000001"]])=s2 at *
 generalize Str.join B1 a4=s3 at *
 generalize Str.join B1 (o_ ++ [[ZF,""]])=s4 at *
 generalize Str.join B1 (o_ ++ [[ZF,"0"]])=s5 at *
 generalize Str.join B1 (o_ ++ [[ZF,"2"]])=s6 at *
 generalize Str.join B1 O=s7 at *
 have f1:cv.length+s1.length<=100000:=by rw[lcv];omega
 have f2:rc.length+s2.length<=100000:=by rw[lrc];omega
 have f3:cv.length+s3.length<=100000:=by rw[lcv];omega
 have f4:cv.length+s4.length<=100000:=by rw[lcv];omega
 have f5:rc.length+s5.length<=100000:=by rw[lrc];omega
 have f6:cv.length+s6.length<=100000:=by rw[lcv];omega
 have f7:cv.length+s7.length<=100000:=by rw[lcv];omega
 have f8:rc.length+s7.length<=100000:=by rw[lrc];omega
 rcases h with ⟨rfl,rfl,rfl⟩|⟨rfl,b,ms,ps,ns,rfl,hb,h1⟩
 .obtain ⟨s,hs,I⟩:=dM (l:=nL s1 s2 s3 s4) (i:=c%41) ZU (by change c%41<41;omega);refine ⟨s,by grind,?_⟩;unfold nL at I;simp only [qD2,qH6]at I;have T:jt true [YM,[.str on]] (.int 1)=.ok (lS o_):=T;exists rpB,m__law_none,T,Wu,hd,A1,A2,J1.1,J2.1,J3.1,J4.1,YB,I
 .have bi:(b.length:Int)=(n:Int):=ZU;by_cases hm:1<n
  .obtain ⟨s,hs,I⟩:=dM (l:=nL s1 s2 s3 s4++(nT s5 s6++nM s7)) (i:=c%51) ZU (by change c%51<51;omega);refine ⟨s,by rw[qA3 rfl,qA3 hm];show hs,?_⟩;unfold nL nT nM at I;simp only [qD2,qH6,qJ2,qT0]at I;exists rpB,m__law_none,bi,T,Wu,hd,A1,A2,J1.1,J2.1,J3.1,J4.1,J5.1,J6.1,J7.1,YB,List.flatten_cons,List.flatten_nil,Qd,qK5 ([TQ,(1:Int)<(n:Int)]),I
  .obtain ⟨s,hs,I⟩:=dM (l:=nL s1 s2 s3 s4++nT s5 s6) (i:=c%45) ZU (by change c%45<45;omega);refine ⟨s,by rw[qA3 rfl,qA9 hm,qD3];show hs,?_⟩;unfold nL nT at I;simp only [qD2,qH6,qJ2,qT0]at I;exists rpB,m__law_none,bi,T,Wu,hd,A1,A2,J1.1,J2.1,J3.1,J4.1,J5.1,J6.1,YB,List.flatten_cons,List.flatten_nil,qK2 ([TQ,¬ (1:Int)<(n:Int)]),I
def oR:[Ta]:=[[ZF,""],[ZF,"place a"],[ZF,"x"],[ZF,"move a takes puts"],[ZF,"place a 1; place a 2"],[ZF,"place a 1;"],[ZF," place a 1"],[ZF,"place a 1 "]]
def dS:cP [] []:=⟨Xaa,Xaa,(λ_ h=>by cases h),(λ_ h=>by cases h),.nil,.nil⟩
def nmA:Nm (Str.ofString "a"):=by unfold Nm;decide +kernel
def BE:∀t∈oR,W3 [.str t]=NX:=by
 intro t I;simp [oR,qD4]at I;rcases I with rfl|rfl|rfl|rfl|rfl|rfl|rfl|rfl
 .show T7 (ms:=[]) (x:=[ZF,""]) (rest:=[]) (ws:=[_]) dS Xak Xak (.inr (.inr ⟨[ZF,""],rfl,ZU,.inl ZU⟩))
 .show T7 (ms:=[]) (x:=[ZF,"place a"]) (rest:=[]) (ws:=[_,[ZF,"a"]]) dS Xak Xak (.inr (.inl ⟨rfl,rfl,λp=>place_len Xaa⟩))
 .show T7 (ps:=[]) (ms:=[]) (x:=[ZF,"x"]) (rest:=[]) (ws:=[[ZF,"x"]]) dS Xak Xak (.inr (.inr ⟨[ZF,"x"],rfl,ZU,.inl ZU⟩))
 .show vf (ps:=[]) (ms:=[([ZF,"a"],[],[])]) ⟨Xaa,Xaa,(λ_ h=>by cases h),(λm hm=>by
   rw[qE5.mp hm];show ⟨nmA,⟨(λ_ h=>by cases h),.nil,qE1 _⟩,⟨(λ_ h=>by cases h),.nil,qE1 _⟩⟩),.nil,Xaf⟩ Xak [Ws]
 .show T7 (ps:=[([ZF,"a"],1)]) (ms:=[]) (x:=[ZF,"place a 2"]) (rest:=[]) (ws:=[[ZF,"place"],[ZF,"a"],[ZF,"2"]]) ⟨Xaa,Xaa,(λp hp=>by
   rw[qE5.mp hp];show ⟨nmA,Xaa,Xaa⟩),(λ_ h=>by cases h),Xaf,.nil⟩ Xak Xak (.inr (.inl ⟨rfl,rfl,λp=>sC rfl ZU (.inr (qE5.mpr rfl))⟩))
 .show T7 (ps:=[]) (ms:=[]) (x:=[ZF,"place a 1;"]) (rest:=[]) (ws:=[[ZF,"place"],[ZF,"a"],[ZF,"1;"]]) dS Xak Xak (.inr (.inl ⟨rfl,rfl,λp=>vH rfl nmA Xaf (ni ZU ZU)⟩))
 .show T7 (ps:=[]) (ms:=[]) (x:=[ZF," place a 1"]) (rest:=[]) (ws:=[[ZF,""],[ZF,"place"],[ZF,"a"],[ZF,"1"]]) dS Xak Xak (.inr (.inr ⟨[ZF,""],rfl,ZU,.inl ZU⟩))
 .show T7 (ps:=[]) (ms:=[]) (x:=[ZF,"place a 1 "]) (rest:=[]) (ws:=[[ZF,"place"],[ZF,"a"],[ZF,"1"],[ZF,""]]) dS Xak Xak (.inr (.inl ⟨rfl,rfl,λp=>place_len Xaa⟩))
def oa xs:[TH,fEq true (.lst (xs.map λk=>W.int (k:Nat))) (.lst []),! [ZL,xs = []]]:=by
 have h:=xa true (xs.map λk:Nat=>k) [];have e:lI (xs.map λk:Nat=>k)=.lst (xs.map λk=>W.int (k:Nat)):=by
  simp_all
 rw[e]at h;refine Eq.trans h ?_;simp_all
def lack_nil:((List.range s.length).filter λk=>[ZL,s.getD k 0<t.getD k 0]) = []↔M0 s t=true:=by
 grind[M0,List.filter_eq_nil_iff]
def FJ (hh:here.length=n) (hn:n<=6) (hm:∀m∈ms,okN n m) (hr:okR ms rs) (hl:rs.length<=200):ij [lw b ms ps ns,tI here,lI rs]=.ok [YL,far ms here rs=rs.length,tI (stn ms here rs),.tup [[nt],[Tl,"stuck"],.int (far ms here rs)]]:=by
 have a8:Ok (ij [lw b ms ps ns,tI here,lI rs]) λv=>v=if far ms here rs=rs.length then tI (stn ms here rs) else .tup [[nt],[Tl,"stuck"],.int (far ms here rs)]:=by
  have a9:=nV ms rs here;exists rpB,m__law_run;refine O1 (F4 (λi a=>i<=far ms here rs/\∃(I a3 a4 T a6:Sl),a = [_,I,_,a3,a4,T,a6]/\(I=.par (tI (stn ms here (rs.take i)))\/I=.val (tI (stn ms here (rs.take i))))) ⟨qE1 _,_,_,_,_,_,rfl,.inl rfl⟩ ?_ ?_)
  .rintro i u a hu ⟨hi,I,a3,a4,T,a6,rfl,ha⟩;show 1 YN (bu hu);obtain ⟨r0,r1⟩:=memD (P:=λr=>0<=r/\r<(ms.length:Int)) hr YN;have er:L2.atI (rs.map W.int) (i:Int)=some (.int (rs.getD i 0)):=P6 YN;have e1:L2.atI (ms.map mW) (rs.getD i 0)=some (mW (mvA ms (rs.getD i 0))):=atM r0 r1;have WC:okN n (mvA ms (rs.getD i 0)):=getM hm r0 r1;have Vl:=pY (ms:=ms) (b:=here) YN;have O:[ZM,stn ms here (rs.take i)]=n:=by rw[dQ,hh]
   have a7:i<far ms here rs->M0 (stn ms here (rs.take i)) (mvA ms (rs.getD i 0)).1=true:=ii ms rs here i;have Us:¬ i<far ms here rs->M0 (stn ms here (rs.take i)) (mvA ms (rs.getD i 0)).1=false:=λq=>by
    have e:far ms here rs=i:=ZU
    have:=fQ ms rs here ZU
    rw[e]at this;show this
   generalize rs.getD i 0=r at *
   generalize mvA ms r=m at *
   generalize stn ms here (rs.take i)=s at *
   obtain ⟨m1,m2,m3,m4⟩:=WC;show 6;rcases ha with rfl|rfl
   all_goals
    exists er,e1,O
    rw [Z9 (λk:Nat=>W.int (k:Nat)) (λk:Nat=>W.int (k:Nat)) (λk=>[ZL,s.getD k 0<m.1.getD k 0]) (List.range n) _ (by rw[qB7];omega) (λk hk=>by
     have hk:=qC9.mp hk;have ea:L2.atI (s.map W.int) (k:Int)=some (.int (s.getD k 0)):=P6 ZU;have eb:[SA,m.1.map W.int,(k:Int),.int (m.1.getD k 0)]:=P6 ZU;refine ⟨_,rfl,?_,λ_=>?_⟩
     .exists ea,eb
     .exists rp18
     )]
    by_cases hc:i<far ms here rs
    .have hd:[ZL,((List.range n).filter λk=>[ZL,s.getD k 0<m.1.getD k 0]) = []]=true:=qK5 (by rw[<- O];show lack_nil.mpr (a7 hc));exists oa,hd,m2
     rw [x5 (λk:Nat=>W.int (s.getD k 0-m.1.getD k 0+m.2.getD k 0)) (λk:Nat=>W.int (k:Nat)) (List.range n) _ (by rw[qB7];omega) (λk hk=>by
      have hk:=qC9.mp hk;have ea:L2.atI (s.map W.int) (k:Int)=some (.int (s.getD k 0)):=P6 ZU;have eb:[SA,m.1.map W.int,(k:Int),.int (m.1.getD k 0)]:=P6 ZU;have ec:[SA,m.2.map W.int,(k:Int),.int (m.2.getD k 0)]:=P6 ZU;show 6;exists ea,eb,ec
      )]
     have e2:[Tp,n,λk:Nat=>W.int (s.getD k 0-m.1.getD k 0+m.2.getD k 0)]=(W9 s m).map W.int:=by
      unfold W9;rw[qC5,O];refine qH8 λk _=>?_
      change W.int _=W.int (s.getD k 0+(m.2.getD k 0-m.1.getD k 0));congr 1;omega
     rw[e2,<- Vl];exists rp18;show ⟨hc,_,_,_,_,_,rfl,.inr rfl⟩
    .have hd:[ZL,((List.range n).filter λk=>[ZL,s.getD k 0<m.1.getD k 0]) = []]=false:=qK2 (λz=>by
      rw[<- O]at z
      have:=lack_nil.mp z
      rw[Us hc]at this;cases this)
     exists oa,hd;rw[qA9 ZU,[TQ,far ms here rs=i]]
  .rintro a ⟨hi,I,a3,a4,T,a6,rfl,ha⟩;rw[qA1,qB7]at hi ha;rw[qK1]at ha;rw[qA3 ZU];rcases ha with rfl|rfl
   .exists rp18
   .exists rp18
 show 3 v e a8;show e
def Cb (hm:∀m∈ms,okN n m/\∀x∈m.2,x<=200000000):∀(rs s:Xaj) B,okR ms rs->s.length=n->(∀x∈s,0<=x/\x<=B)->far ms s rs=rs.length->∀x∈stn ms s rs,0<=x/\x<=B+200000000*rs.length
 | [],s,B,_,_,h,_=>λx I=>by
  have:=h x I
  omega
 | r::rs,s,B,hr,hs,h,hf=>by
  obtain ⟨r0,r1⟩:=hr r (qB3 ..);have O:mvA ms r∈ms:=by
   unfold mvA;rw[qC7,qD1 ([TQ,r.toNat<ms.length])];show qH4 _
  obtain ⟨⟨m1,m2,m3,m4⟩,m5⟩:=hm _ O;unfold far at hf
  split at hf
  .rename_i hc
   have T:∀x∈W9 s (mvA ms r),0<=x/\x<=B+200000000:=λx I=>by
    show 3 k hk (qB0.mp I);have hk:=qC9.mp hk;have q1:=qL4 (qE0.mp hc k (qC9.mpr hk));have q2:=memD h hk;have q3:=memD m3 (i:=k) ZU;have q4:=memD m4 (i:=k) ZU;have q5:=memD m5 (i:=k) ZU;omega
   have:=Cb hm rs _ (B+200000000) (λx I=>hr x (qA5 _ I)) (by rw[oQ,hs]) T (by rw[qC2]at hf;omega)
   intro x I
   have:=this x I
   rw[qC2];omega
  .rw[qC2]at hf;omega
def LV {ns:ZK}(hd:ns.Nodup) (hr:r<ns.length):ns.idxOf (ns.getD r Str.empty)=r:=by
 grind
def qt (hl:w.length<=100) (h:∀c∈cl w,58<=c/\c<128):okW w=true:=by
 have hf:nU w=false:=by
  grind[nU,B4,IX]
 unfold okW;rw[hf,qK5 (⟨ZU,λc hc=>(h c hc).2⟩)];simp
abbrev GO:Str:=[ZF,"go"]
def eJ (I:ws ≠ []):[ZF,"go "] ++ Str.join B1 ws=Str.join B1 (GO::ws):=by
 cases ws with
 |nil=>omega
 |cons w r=>rw[P4,[TQ,[ZF,"go "] = GO++B1]]
def fN (h:∀w∈ws,Wd w/\okW w=true) (I:ws ≠ []) (hl:ws.length<=100) (n:Nat):Txt.startswith (Str.join B1 (GO::ws)) "moor " = false/\L3 (Str.join B1 (GO::ws)) (.str B1)=.ok (lS (GO::ws))/\[TH,L8 [lS (GO::ws),.int n],true]:=by
 refine ⟨?_,?_,?_⟩
 .rw [<- eJ I]
  refine Ca (c:=103) (r:=111::32::cl (Str.join B1 ws)) ?_ Xaa;rw[D5,[TQ,cl _ = [103,111,32]]];rfl
 .refine split1 (λw hw=>?_) ZU;show 11
  .show ⟨ZU,ZU,ZU⟩
  .show (h w hw).1
 .rw [dz (r:=ws) ZU (λw hw=>(h w hw).2) rfl]
  have hp:=List.length_pos_iff.mpr I;unfold mj;rw[qA9 Xac,qA9 ZU,qA9 ZU,qA3 ZU,qK5 ZU]
def nK:[TH,fIn false (.str GO) (.tup [[Tl,"now"],[Tl,"go"],[Tl,"home"]]),true]:=Xak
def nP:GO≠[ZF,"most"] := ZU
def Bs:∀k:Nat,k<24->0<=5*(k:Int)*k*k/\5*(k:Int)*k*k<=70000:=Xaa
def rz (hs:j8 [] [w] (dNs,vs)=.ex XR):l6 [] [w] (dNs,vs)=.ok (.tup [[nt],[Tl,"row"]],(dNs,vs),true):=lv (i:=0) Xaa hs
def oY (hs:j8 [] [w] (dNs,vs)=.ex XM):l6 [] [w] (dNs,vs)=.ok (.tup [[nt],[Tl,"moor"]],(dNs,vs),true):=lv (i:=1) Xaa hs
def oX (hs:j8 [] [w] (dNs,vs)=.ex NN):l6 [] [w] (dNs,vs)=.ok (.tup [[nt],[Tl,"name"]],(dNs,vs),true):=lv (i:=2) Xaa hs
def BI (hs:j8 [] [w] (dNs,vs)=.ex ⟨[ZF,"NoText"],none⟩):l6 [] [w] (dNs,vs)=.ok (.tup [[nt],[Tl,"text"]],(dNs,vs),true):=lv (i:=3) Xaa hs
def FS c:∃N:Nat,[SA,[W.int (1+c%4),W.int (9+c%16)],[YL,c/90%5=1,1,0],.int N]/\1<=N/\N<=24:=by
 by_cases q:c/90%5=1
 .rw [qA3 q]
  refine ⟨(9+c%16).toNat,?_,ZU,ZU⟩
  change some _=_;rw[[TQ,(((9+c%16).toNat))=9+c%16]]
 .rw [qA9 q]
  refine ⟨(1+c%4).toNat,?_,ZU,ZU⟩
  change some _=_;rw[[TQ,(((1+c%4).toNat))=1+c%4]]
structure Odd (ns:ZK) (y:Str):Prop where
 wd:Wd y
 ok:okW y=true
 sh:shp 8 (.str y)=true
 no:y∉ns
def mZ (hz:∀k∈ns,∀c∈cl k,97<=c/\c<=116) (hl:y.length<=10) (hc:∀c∈cl y,60<=c/\c<128) (hd:d∈cl y) (h:d<97\/116<d):Odd ns y where
 wd:=⟨hl,λz=>by have:=hc _ z;omega,λz=>by have:=hc _ z;omega⟩
 ok:=qt ZU λc q=>by have:=hc c q;omega
 sh:=iQ λc q=>by have:=hc c q;omega
 no:=λz=>by have:=hz y z d hd;omega
def sJ (hn:∀k∈ns,Nm k):Odd ns (Str.ofString "") where
 wd:=by unfold Wd;decide +kernel
 ok:=ZU
 sh:=Xac
 no:=λz=>absurd (hn _ z).1 ZU
def mY (hz:∀k∈ns,∀c∈cl k,97<=c/\c<=116):Odd ns (Str.ofString "zz"):=mZ (d:=122) hz ZU ZU ZU Xaa
def Ky (hz:∀k∈ns,∀c∈cl k,97<=c/\c<=116):Odd ns (Str.ofString "Go"):=mZ (d:=71) hz ZU ZU ZU Xaa
def Cr (hz:∀k∈ns,∀c∈cl k,97<=c/\c<=116) (hw:Nm w):Odd ns (w++[ZF,"z"]):=by
 have I:cl (Str.ofString "z") = [122]:=ZU;refine mZ (d:=122) hz ?_ (λc hc=>?_) ?_ Xaa
 .rw [qA8,[TQ,[z5,"z"]=1]]
  have:=hw.2.1
  omega
 .rw [D5,I]at hc
  rcases qE2.mp hc with hc|hc
  .have:=hw.2.2 c hc;omega
  .rw[qE5.mp hc];decide
 grind[D5]
def Ld.lz (L:Ld b ms ps ns):∀k∈ns,∀c∈cl k,97<=c/\c<=116:=λk hk c hc=>⟨((L.dr.nn k hk).2.2 c hc).1,L.zn k hk c hc⟩
def Ld.lzp (L:Ld b ms ps ns):∀k∈ps,∀c∈cl k,97<=c/\c<=116:=λk hk c hc=>⟨((L.dr.np k hk).2.2 c hc).1,L.zp k hk c hc⟩
def Ld.ok (L:Ld b ms ps ns):∀m∈ms,okN b.length m/\∀x∈m.2,x<=200000000:=λm hm=>by
 have h:=L.dr.mv m hm;rw[L.bl];show ⟨⟨h.1.1,h.2.1,λx I=>(h.1.2 x I).1,λx I=>(h.2.2 x I).1⟩,L.pp m hm⟩
def qw (h:Nm w):Wd w/\okW w=true:=⟨P3 h,qt (by have:=h.2.1;omega) λc hc=>by have:=h.2.2 c hc;omega⟩
def bW (h:∀c∈cl t,c<1114112):shp 8 (.tup [[Tl,"said"],.str t])=true:=by
 change (_&&(_&&true))=true;rw[iQ h]
 decide +kernel
def aa {P:Nat->Prop}(I:∀c∈cl y,P c):∀ws,(∀w∈ws,∀c∈cl w,P c)->∀c∈cl (Str.join y ws),P c
 | [],_,c,hc=>by cases hc
 | [w],h,c,hc=>h w (qB3 ..) c hc
 | w::v::r,h,c,hc=>by
  rw[P4,D5,D5]at hc;rcases qE2.mp hc with hc|hc
  .grind
  .show aa I _ (λz hz=>h z (qA5 _ hz)) c hc
def iK (h:Sn zs):∀c∈cl (tells zs),c<1114112:=aa ZU _ λw hw c hc=>by
 show 3 z hz (qB0.mp hw)
 have:=bD (h.2 z hz).1 c hc
 omega
def rQ (hl:zs.length<=6)(h:∀x∈zs,0<=x/\x<=B)(O:B<=10000000000000000):Sn zs:=⟨hl,λx I=>⟨(h x I).1,Int.lt_of_le_of_lt (h x I).2 (Int.lt_of_le_of_lt O Xaa)⟩⟩
def PQ (ws:ZK)j y:(ws.map W.str).set j (.str y)=(ws.set j y).map W.str:=by simp_all
def QM (L:Ld b ms ps ns) (hh:here.length=ps.length) (hB:∀x∈here,0<=x/\x<=B) (Yb:B<=1000000000000000):∃h' z,wX [.int c,lw b ms ps ns,tI here] [] [Z0M]=.ok (.tup [.bl true,tI h'],kwT b ms ps ns h' bd,z)/\h'.length=ps.length/\∀x∈h',0<=x/\x<=B+4800000000:=by
 have d2:=L.dr.l2;have d3:=L.dr.l3;have d4:=L.dr.l4;have m1:=L.m1;have bl:=L.bl;have d1:=L.dr.l1;obtain ⟨N,eN,N1,a9⟩:=FS c;obtain ⟨rs,Yz⟩:∃rs:List Int,rs=[Tp,N,λk:Nat=>c/(1+5*(k:Int)*k*k)%(ms.length:Int)]:=[Tq];have rl:rs.length=N:=by rw[Yz,qA1,qB7]
 have hr:okR ms rs:=λr h=>by
  rw[Yz]at h;obtain ⟨k,_,rfl⟩:=qB0.mp h;show ⟨qG1 _ ZU,qF9 _ ZU⟩
 have c1:[Tp,N,λk:Nat=>W.int (c/(1+5*(k:Int)*k*k)%(ms.length:Int))]=rs.map W.int:=by rw[Yz,qC5];rfl
 obtain ⟨ws,UI⟩:∃ws:List Str,ws=rs.map λr=>ns.getD r.toNat Str.empty:=[Tq];have wl:ws.length=N:=by grind
 have c2:rs.map (λr=>W.str (ns.getD r.toNat Str.empty))=ws.map W.str:=by rw[UI,qC5];rfl
 have O:∀w∈ws,w∈ns:=λw hw=>by
  rw[UI]at hw;show 3 r h (qB0.mp hw)
  have:=hr r h
  show getD_mem ZU
 have a6:ws.map (λw=>((ns.idxOf w:Nat):Int))=rs:=by
  rw[UI,qC5];refine Eq.trans (qH8 λr h=>?_) (List.map_id rs)
  have:=hr r h
  change ((ns.idxOf (ns.getD r.toNat Str.empty):Nat):Int)=r;rw[LV L.dr.dn ZU];omega
 have Yi:∀w∈ws,Wd w/\okW w=true:=λw hw=>qw (L.dr.nn w (O w hw));have YH:∀m∈ms,okN b.length m:=λm hm=>(L.ok m hm).1;have a7:[z5,"go "]=3:=Xac;have WF:∀x∈here,0<=x/\x<=B+4800000000:=λx hx=>⟨(hB x hx).1,by have:=(hB x hx).2;omega⟩;have Yj:ws ≠ []:=λe=>by rw[e]at wl;simp at wl;omega
 have jl:∀{us:ZK},us.length=N->(∀w∈us,Wd w)->ac B1 (lS us)=.ok (.str (Str.join B1 us))/\[z5,"go "]+[ZM,Str.join B1 us]<=100000:=λ{us} hu hw=>by
  have q:=U3 (B:=10) B1 us λw h=>(hw w h).1;rw[lB1]at q;refine ⟨bH (λy hy=>(hw y hy).1) (by rw[lB1];omega),?_⟩;rw[a7];omega
 by_cases q7:c/700%5=2
 .obtain ⟨j,hj⟩:∃j:Nat,c/4%(N:Int)=(j:Int):=⟨(c/4%(N:Int)).toNat,by have:=qG1 (c/4) ([TQ,(N:Int)≠0]);omega⟩;have jN:j<N:=by have:=qF9 (c/4) ([TQ,(0:Int)<N]);omega
  have w0:[Z07,ws.map,0,ws.getD 0 Str.empty]:=ai (i:=0) ⟨Xaa,ZU⟩;have a4:Nm (ws.getD 0 Str.empty):=L.dr.nn _ (O _ (getD_mem ZU));have fz:[ZM,ws.getD 0 Str.empty]+[z5,"z"]<=100000:=by rw[show [z5,"z"]=1 by decide +kernel];have:=a4.2.1;omega
  obtain ⟨y,ey,oy⟩:∃y,[SA,[[Z0J,""],[Z0J,"zz"],[Z0J,"Go"],W.str (ws.getD 0 Str.empty++[ZF,"z"])],c/3500%4,.str y]/\Odd ns y:=by
   have h0:0<=c/3500%4:=ZU;have h4:c/3500%4<4:=ZU;generalize c/3500%4=i at *
   show 1 i (qH9 h0)
   match i,h4 with
   |0,_=>show [WH,rfl,sJ L.dr.nn]
   |1,_=>show [WH,rfl,mY L.lz]
   |2,_=>show [WH,rfl,Ky L.lz]
   |3,_=>show [WH,rfl,Cr L.lz a4]
   |i+4,h=>omega
  have sl:[ZM,ws.set j y]=N:=by rw[qD0,wl]
  have Yn:∀w∈ws.set j y,(Wd w/\okW w=true)/\shp 8 (.str w)=true:=λw hw=>by
   rcases qR2 hw with h|rfl
   .show ⟨Yi w h,gP (L.dr.nn w (O w h))⟩
   .show ⟨⟨oy.wd,oy.ok⟩,oy.sh⟩
  have sy:y∈ws.set j y:=List.mem_set ZU y;have a3:ws.set j y ≠ []:=λe=>by rw[e]at sl;simp at sl;omega
  obtain ⟨g1,g2,g3⟩:=fN (λw hw=>(Yn w hw).1) a3 ZU ps.length;have I:=oX (av (nw:=lS ns) (h:=tI here) (bd:=bd) (ms:=[tI b,tM_ ms]) g1 g2 g3 nP nK (cT (b:=b) (ms:=ms) (here:=here) (ps:=ps) (bd:=bd) L.dr.nn ZU (λw hw=>(Yn w hw).2) ZU ⟨y,sy,oy.no⟩));rw[<- eJ a3]at I;have J:=jl sl λw hw=>(Yn w hw).1.1;have fj:=J.2;have T:[TH,fEq false (.tup [[nt],[Tl,"name"]]) (.tup [[nt],[Tl,"name"]]),true]:=C0 Xac;have a8:(ws.length:Int)=(N:Int):=ZU;refine ⟨here,true,i5 rfl rfl λp=>?_,hh,WF⟩;exists rpB,m__law_go,eN;rw[x5 (λk:Nat=>W.int (c/(1+5*(k:Int)*k*k)%(ms.length:Int))) (λk:Nat=>W.int (k:Nat)) (List.range N) _ (by rw[qB7];omega) ?_,c1]
  .exists rp18;rw[x5 (λr=>W.str (ns.getD r.toNat Str.empty)) W.int rs _ ZU ?_,c2]
   .exists qK5 q7,w0,ey,a8,hj,PQ,J.1,I,T
   .intro r h
    have:=hr r h
    have ea:[Z07,ns.map,r,ns.getD r.toNat Str.empty]:=ai ⟨ZU,ZU⟩;show 6;exists ea
  .intro k hk;have hk:=qC9.mp hk
   have:=Bs k ZU
   show 6;exists rp18
 .obtain ⟨g1,g2,g3⟩:=fN Yi Yj ZU ps.length;have J:=jl wl λw hw=>(Yi w hw).1;have fj:=J.2;have lr:=FJ (b:=b) (ps:=ps) (ns:=ns) (rs:=rs) hh d2 (λm hm=>by have:=YH m hm;rw[bl]at this;show this) hr ZU;have ae:=nV ms rs here;by_cases hf:far ms here rs=rs.length
  .rw [qA3 hf]at lr
   have hb:=Cb L.ok rs here B hr ZU hB hf;have sl:[ZM,stn ms here rs]=ps.length:=by rw[dQ,hh]
   have a5:∀x∈stn ms here rs,0<=x/\x<=B+4800000000:=λx hx=>⟨(hb x hx).1,by have:=(hb x hx).2;omega⟩;have S:=rQ (zs:=stn ms here rs) ZU a5 ZU;have I:=bO (fv (nw:=lS ns) (h:=tI here) (bd:=bd) (ms:=[tI b,tM_ ms]) g1 g2 g3 nP nK (Do (b:=b) (ms:=ms) (here:=here) (ps:=ps) (bd:=bd) L.dr.nn ZU ZU ZU YH hr ZU O a6 hf S));rw[<- eJ Yj]at I;have kc:=cE S;have T:=C0 (neg:=false) (bW (iK S));have cu:C4 ((stn ms here rs).map W.int) none (some 1) = [.int ((stn ms here rs).getD 0 0)]:=by
    cases q:stn ms here rs with
    |nil=>rw[q,qI3]at sl;omega
    | cons x r => 
     rw[E8];unfold Q3;rw[show [ZT,(1:Int)]=some ((1:Nat):Int) from rfl,HT.sIx_nat,HT.sIx_none,Nat.min_eq_left (by rw[qC2];omega)];rfl
   have fr (x:Int):[TH,fEq false (.tup [.int x]) (.tup [[nt]]),false]:=by
    unfold fEq;rw[show shp 8 (.tup [.int x])=true from rfl,show shp 8 (.tup [[nt]])=true by decide +kernel];rfl
   refine ⟨stn ms here rs,false,i5 rfl rfl λp=>?_,sl,a5⟩;generalize stn ms here rs=st at *
   exists rpB,m__law_go,eN;rw[x5 (λk:Nat=>W.int (c/(1+5*(k:Int)*k*k)%(ms.length:Int))) (λk:Nat=>W.int (k:Nat)) (List.range N) _ (by rw[qB7];omega) ?_,c1]
   .exists rp18;rw[x5 (λr=>W.str (ns.getD r.toNat Str.empty)) W.int rs _ ZU ?_,c2]
    .exists qK2 q7,lr,J.1,I,cu,fr,kc,T
    .intro r h
     have:=hr r h
     have ea:[Z07,ns.map,r,ns.getD r.toNat Str.empty]:=ai ⟨ZU,ZU⟩;show 6;exists ea
   .intro k hk;have hk:=qC9.mp hk
    have:=Bs k ZU
    show 6;exists rp18
  .rw [qA9 hf]at lr
   have I:=yb (av (nw:=lS ns) (h:=tI here) (bd:=bd) (ms:=[tI b,tM_ ms]) g1 g2 g3 nP nK (rE (b:=b) (ms:=ms) (here:=here) (ps:=ps) (bd:=bd) L.dr.nn ZU ZU ZU YH hr ZU O a6 ZU));rw[<- eJ Yj]at I;have T:[TH,fEq false (.tup [[nt],[Tl,"stuck"],.int (far ms here rs:Nat)]) (.tup [[nt],[Tl,"stuck"],.int (far ms here rs:Nat)]),true]:=C0 (by
    change (shp 7 (.str (Str.ofString "refused"))&&(shp 7 (.str (Str.ofString "stuck"))&&(true&&true)))=true
    decide +kernel)
   have cu:Rst (.ok (.tup [[nt],[Tl,"stuck"],.int (far ms here rs:Nat)])) (.ok none) (.ok (some 1))=.ok (.tup [[nt]]):=(ye rfl none [ZT,1]).trans rfl;have fr:[TH,fEq false (.tup [[nt]]) (.tup [[nt]]),true]:=C0 Xac;refine ⟨here,true,i5 rfl rfl λp=>?_,hh,WF⟩;generalize far ms here rs=fa at *
   exists rpB,m__law_go,eN;rw[x5 (λk:Nat=>W.int (c/(1+5*(k:Int)*k*k)%(ms.length:Int))) (λk:Nat=>W.int (k:Nat)) (List.range N) _ (by rw[qB7];omega) ?_,c1]
   .exists rp18;rw[x5 (λr=>W.str (ns.getD r.toNat Str.empty)) W.int rs _ ZU ?_,c2]
    .exists qK2 q7,lr,J.1,I,cu,fr,T
    .intro r h
     have:=hr r h
     have ea:[Z07,ns.map,r,ns.getD r.toNat Str.empty]:=ai ⟨ZU,ZU⟩;show 6;exists ea
   .intro k hk;have hk:=qC9.mp hk
    have:=Bs k ZU
    show 6;exists rp18
def f2_ x (h:shp 7 (.str x)=true):[TH,fEq false (.tup [[nt],.str x]) (.tup [[nt],.str x]),true]:=C0 (by
 change (_&&(_&&true))=true;rw[h]
 decide +kernel)
noncomputable def u15:[Ta]:=[[ZF,"now"],[ZF,"home"],[ZF,"show"],[ZF,"go a"],[ZF,"peak a"],[ZF,"climb a 3"],[ZF,"cover 1"],[ZF,"reached 0 0 0 0 0 1000000000"],[ZF,"again a"],[ZF,"bounded"],[ZF,"end"],[ZF,"balances"],[ZF,"dry"],[ZF,"wet"],[ZF,"cover 1 2 3"]]
def Ie:u15.all (λs=>fA s 0 true&& [ZL,(Txt.split s B1).head?≠some (Str.ofString "most")])=true:=Xac
def gf (hs:s∈u15):j8 [] [.str s] (kwG .non [] [YM,[]] .non bd)=.ex XM:=by
 have h:=(qE6 ..).mp (qE0.mp Ie s hs);obtain ⟨f,r,e,T,O,I,_⟩:=bt h.1;have hf:=qL4 h.2;rw[e]at hf;show IP T O (λz=>hf (by rw[z];rfl)) rfl I
def uF:kE [.int c] [] (kwG .non [] [YM,[]] .non bd)=.ok (.bl true,kwG .non [] [YM,[]] .non bd,true):=by
 obtain ⟨s,hs,I⟩:=dM (l:=u15) (i:=c%15) ZU (by change c%15<15;omega);have O:=oY (gf hs (bd:=bd));unfold u15 at I;simp [qH6]at I;show 8;exists rpB,m__law_untold,I,O,f2_ (Str.ofString "moor") Xac
section
variable {b here:Xaj}{ms:List Mv}{ps ns:ZK}{bd:Int}(L:Ld b ms ps ns)
def xx:∀n,n<7->([[ZF,"peak zz"],[ZF,"climb zz 4"],[ZF,"again zz"],[ZF,"go zz"],[ZF,"climb  4"],[ZF,"now"],[ZF,"home"],[ZF,"show"]].all λs=>fA s n true)=true:=Xac
def O4 (h:s ∈ [[ZF,"peak zz"],[ZF,"climb zz 4"],[ZF,"again zz"],[ZF,"go zz"],[ZF,"climb  4"],[ZF,"now"],[ZF,"home"],[ZF,"show"]]) (I:Txt.split s B1=f::r){n:Nat}(hn:n<7):Txt.startswith s "moor " = false/\L3 s (.str B1)=.ok (lS (f::r))/\[TH,L8 [lS (f::r),.int n],true]:=by
 obtain ⟨f',r',e,h1,T,O,_⟩:=bt (qE0.mp (xx n hn) s h);rw[I]at e;cases e;show ⟨h1,T,O⟩
include L
def px:∃s,[SA,[[Z0J,"peak zz"],[Z0J,"climb zz 4"],[Z0J,"again zz"],W.str ([ZF,"again "] ++ ps.getD 0 Str.empty++[ZF,"z"]),[Z0J,"go zz"],W.str ([ZF,"go "] ++ ns.getD 0 Str.empty++[ZF," "]),[Z0J,"climb  4"]],c%7,.str s]/\j8 [] [.str s] [Z0M]=.ex NN:=by
 have d1:=L.dr.l1;have d2:=L.dr.l2;have d3:=L.dr.l3;have d4:=L.dr.l4;have m1:=L.m1;have h0:0<=c%7:=ZU;have h7:c%7<7:=ZU;generalize c%7=i at *
 show 1 i (qH9 h0);have Xy:=mY L.lzp;have Xz:=mY L.lz
 match i,h7 with
 | 0,_=>
  obtain ⟨O,T,g3⟩:=O4 (s:=[ZF,"peak zz"]) Xac (f:=[ZF,"peak"]) (r:=[[ZF,"zz"]]) Xac (n:=ps.length) ZU;show [WH,rfl,Z5 O T g3 Xac Xak (aj (b:=b) (ms:=ms) Xac Xac Xy.sh L.dr.np ZU Xy.no)]
 | 1,_=>
  obtain ⟨O,T,g3⟩:=O4 (s:=[ZF,"climb zz 4"]) Xac (f:=[ZF,"climb"]) (r:=[[ZF,"zz"],[ZF,"4"]]) Xac (n:=ps.length) ZU;show [WH,rfl,Z5 (ms:=[tI b,tM_ ms]) O T g3 Xac Xak (aj (b:=b) (ms:=ms) Xac Xac Xy.sh L.dr.np ZU Xy.no)]
 | 2,_=>
  obtain ⟨O,T,g3⟩:=O4 (s:=[ZF,"again zz"]) Xac (f:=[ZF,"again"]) (r:=[[ZF,"zz"]]) Xac (n:=ps.length) ZU;show [WH,rfl,Z5 (ms:=[tI b,tM_ ms]) O T g3 Xac Xak (dN (b:=b) (ms:=ms) Xac rfl Xz.sh L.dr.nn ZU Xz.no)]
 | 3,_=>
  have o:=Cr L.lz (L.dr.np _ (getD_mem (ps:=ps) (i:=0) ZU));generalize ps.getD 0 Str.empty=I at *
  have e:[ZF,"again "] ++ I++[ZF,"z"] = Str.join B1 [[ZF,"again"],I++[ZF,"z"]]:=by
   change _=[ZF,"again"] ++ B1++(I++[ZF,"z"]);rw[show [ZF,"again "] = [ZF,"again"] ++ B1 by decide +kernel,qF6]
  show 6;have T:L3 (Str.join B1 [[ZF,"again"],I++[ZF,"z"]]) (.str B1)=.ok (lS [[ZF,"again"],I++[ZF,"z"]]):=split1 (λw hw=>by
   show 11
   .unfold Wd;decide +kernel
   .rw[qE5.mp hw];show o.wd) (by change 1<=900;decide)
  have g3:[TH,L8 [lS [[ZF,"again"],I++[ZF,"z"]],.int (ps.length:Nat)],true]:=by
   rw[dz (f:=[ZF,"again"]) (r:=[I++[ZF,"z"]]) (n:=ps.length) (by change 1<=900;decide) (λw hw=>[ZO,qE5.mp hw,o.ok]) rfl];unfold mj;rw[qA9 Xac,qA3 Xac];rfl
  have O:Txt.startswith ([ZF,"again "] ++ I++[ZF,"z"]) "moor " = false:=by
   refine Ca (c:=97) (r:=103::97::105::110::32::(cl I++cl (Str.ofString "z"))) ?_ Xaa;rw[D5,D5,show cl (Str.ofString "again ") = [97,103,97,105,110,32] by decide +kernel];rfl
  rw[e]at O
  change j8 [] [.str ([ZF,"again "] ++ I++[ZF,"z"])] _=_;rw[e];show Z5 (ms:=[tI b,tM_ ms]) O T g3 Xac Xak (dN (b:=b) (ms:=ms) Xac rfl o.sh L.dr.nn ZU o.no)
 | 4,_=>
  obtain ⟨O,T,g3⟩:=O4 (s:=[ZF,"go zz"]) Xac (f:=GO) (r:=[[ZF,"zz"]]) Xac (n:=ps.length) ZU;show [WH,rfl,av (ms:=[tI b,tM_ ms]) O T g3 Xac nK (cT (b:=b) (ms:=ms) L.dr.nn ZU (λw hw=>[ZO,qE5.mp hw,Xz.sh]) Xaa [WH,qE5.mpr rfl,Xz.no])]
 | 5,_=>
  have YF:=L.dr.nn _ (getD_mem (ps:=ns) (i:=0) ZU);have oe:=sJ L.dr.nn;generalize ns.getD 0 Str.empty=I at *
  have e:[ZF,"go "] ++ I++[ZF," "] = Str.join B1 [GO,I,[ZF,""]]:=by
   change _=GO++B1++(I++B1++[ZF,""]);rw[show [ZF,"go "] = GO++B1 by decide +kernel,show [ZF,""] = Str.empty by decide +kernel,Str.append_empty];simp only [qF6]
  have ww:∀w ∈ [I,[ZF,""]],(Wd w/\okW w=true)/\shp 8 (.str w)=true:=λw hw=>by
   show 11
   .show ⟨qw YF,gP YF⟩
   .rw[qE5.mp hw];show ⟨⟨oe.wd,oe.ok⟩,oe.sh⟩
  obtain ⟨O,T,g3⟩:=fN (ws:=[I,[ZF,""]]) (λw hw=>(ww w hw).1) Xaf (by change 2<=100;decide) ps.length;show 6
  change j8 [] [.str ([ZF,"go "] ++ I++[ZF," "])] _=_;rw[e];show av (ms:=[tI b,tM_ ms]) O T g3 Xac nK (cT (b:=b) (ms:=ms) L.dr.nn ZU (λw hw=>(ww w hw).2) (by change 2<=900;decide) ⟨[ZF,""],Xaf,oe.no⟩)
 | 6,_=>
  have oe:=sJ L.dr.np;obtain ⟨O,T,g3⟩:=O4 (s:=[ZF,"climb  4"]) Xac (f:=[ZF,"climb"]) (r:=[[ZF,""],[ZF,"4"]]) Xac (n:=ps.length) ZU;show [WH,rfl,Z5 (ms:=[tI b,tM_ ms]) O T g3 Xac Xak (aj (b:=b) (ms:=ms) Xac Xac oe.sh L.dr.np ZU oe.no)]
 |i+7,h=>omega
def rP:jq [.int c,lw b ms ps ns] [] [Z0M]=.ok (.bl true,kwT b ms ps ns here bd,true):=by
 have d1:=L.dr.l1;have d4:=L.dr.l4;have m1:=L.m1;obtain ⟨s,O,hs⟩:=px L (c:=c) (here:=here) (bd:=bd);have T:=oX hs;have a0:[Z07,ps.map,0,ps.getD 0 Str.empty]:=ai (i:=0) ⟨Xaa,ZU⟩;have I:[Z07,ns.map,0,ns.getD 0 Str.empty]:=ai (i:=0) ⟨Xaa,ZU⟩;have la:=(L.dr.np _ (getD_mem (ps:=ps) (i:=0) ZU)).2.1;have lb:=(L.dr.nn _ (getD_mem (ps:=ns) (i:=0) ZU)).2.1;generalize ps.getD 0 Str.empty=x at *
 generalize ns.getD 0 Str.empty=y at *
 have f1:[z5,"again "]+x.length<=100000:=by rw[[TQ,[z5,"again "]=6]];omega
 have f2:[ZM,[ZF,"again "] ++ x]+[z5,"z"]<=100000:=by rw[qA8,[TQ,[z5,"again "]=6],[TQ,[z5,"z"]=1]];omega
 have f3:[z5,"go "]+y.length<=100000:=by rw[[TQ,[z5,"go "]=3]];omega
 have f4:[ZM,[ZF,"go "] ++ y]+[z5," "]<=100000:=by rw[qA8,[TQ,[z5,"go "]=3],lB1];omega
 show 8;exists rpB,m__law_strange,a0,I,O,T,f2_ (Str.ofString "name") Xac
end
def Eh (D:Dr ps ns ms) (I:cnt ps.length b):W3 [.str (text (pls ps b) (mts ps ns ms t u))]=.ok (.tup [.tup [tI b,tM_ ms],lS ps,lS ns]):=by
 have F:=qK (t:=t) (u:=u) D I;have S:cP _ _:=⟨by have:=F.l2;omega,by have:=F.l3;omega,F.np,F.nm,F.d1,F.d2⟩;have h:=Eg S (IE F) F.l1 F.l2 F.l3;rw[sx,Qm I.1,Cy D.l4,QD D]at h;show h
def wU {P:Str->Prop}:∀{l},(∀p∈l,P (num p.1)/\P p.2)->∀w∈fl l,P w
 | [],_,w,hw=>by cases hw
 | p::r,h,w,hw=>by
  have hp:=h p (qB3 ..);show 11
  .show hp.1
  show 11
  .show hp.2
  .show wU (λq I=>h q (qA5 _ I)) w hw
def Asc (w:Str):Prop:=∀c∈cl w,c<1114112
def oV (h:Nm w):Asc w:=λc hc=>by have:=h.2.2 c hc;omega
def rh (h:0<=c):Asc (num c):=λx I=>by have:=bD h x I;omega
def Io (D:Dr ps ns ms) (T:cnt ps.length b):Asc (text (pls ps b) (mts ps ns ms t u)):=by
 have F:=qK (t:=t) (u:=u) D T;have UQ:∀k∈(pls ps b).map (·.1),Nm k:=λk hk=>by
  show 3 p hp (qB0.mp hk);show (F.np p hp).1
 refine aa ZU _ λq I=>?_;have O:∀c∈cl B1,c<1114112:=ZU;rcases qE2.mp I with I|I
 .show 3 p hp (qB0.mp I);have h:=F.np p hp;refine aa O _ λw hw=>?_;show 11
  .omega
  show 11
  .show oV h.1
  show 11
  .show rh h.2.1
  .cases hw
 .show 3 m hm (qB0.mp I);have h:=F.nm m hm;have told:∀{l:_},Told _ l->∀w∈_,_:=λhl=>wU λp hp=>⟨rh (hl.1 p hp).2.1.1,oV (UQ _ (hl.1 p hp).2.2)⟩;refine aa O _ λw hw=>?_;show 11
  .omega
  show 11
  .show oV h.1
  show 11
  .omega
  rcases qE2.mp hw with hw|hw
  .show told h.2.1 w hw
  show 11
  .omega
  .show told h.2.2 w hw
def text_len (D:Dr ps ns ms) (I:big b):[ZM,text (pls ps b) (mts ps ns ms t u)]<=20000:=by
 have q:=U3 B2 _ (jX (t:=t) (u:=u) D I);have e:[ZM,[Z0s]++(mts ps ns ms t u).map (λm=>Str.join B1 (mws m))]=ps.length+ms.length:=by
  grind[pls,mts]
 rw[e,lB2]at q
 have:=D.l2
 have:=D.l3
 unfold text;omega
def Ld.cb (L:Ld b ms ps ns):cnt ps.length b:=⟨L.bl,λx I=>⟨(L.bb x I).1,by have:=(L.bb x I).2;omega⟩⟩
def Ld.sn (L:Ld b ms ps ns):Sn b:=rQ ([ZO,L.bl,L.dr.l2]) L.bb Xaa
def Ak:∀n,n<7->∀k:Nat,k<30->(fA ([ZF,"most "] ++ num (1+k)) n true&& [ZL,Txt.split ([ZF,"most "] ++ num (1+k)) B1 = [[ZF,"most"],num (1+k)]])=true:=Xac
def Aj {n:Nat}{k:Nat}(hn:ps.length<7) (hk:k<30):j8 [] [.str ([ZF,"most "] ++ num (1+k))] (kwG m ps nw h bd)=.ok ([Tl,"ok"],kwG m ps nw h (1+k),false):=by
 have q:=(qE6 ..).mp (Ak _ hn k hk);obtain ⟨f,r,e,T,O,I,_⟩:=bt q.1;rw[qL4 q.2]at e;cases e;show yR T O rfl rfl I (oA ⟨ZU,ZU⟩)
def wc (hl:t.length<=90000)(I:W3 [.str t]=NX):j8 [] [.str (MR++t)] (kwG m ps nw h bd)=.ex ⟨[ZF,"NoText"],none⟩:=uZ (uL t) (jY hl) (Ip I)
def Hi:∀t∈oR,t.length<=100:=ZU
def Qv:[TH,fEq false (.tup [[Tl,"said"],[Tl,"ok"]]) (.tup [[Tl,"said"],[Tl,"ok"]]),true]:=C0 Xac
def qe (hp:ps.length<7) (hk:c%8<=2) (Xe:∃s,fb [.int (c/8),lnd]=.ok (.str s)/\j8 [] [.str s] (kwG m ps nw h bd)=.ex XR):∃UY z,Y4 [.int c] [lnd,tI here] (kwG m ps nw h bd)=.ok (.tup [.bl true,tI here],kwG m ps nw h UY,z):=by
 by_cases k0:c%8=0
 .obtain ⟨s,e,hs⟩:=Xe;have I:=rz hs;refine ⟨bd,true,i5 rfl rfl λp=>?_⟩;exists rpB,m__law_row,qK5 k0,e,I,f2_ (Str.ofString "row") Xac
 .by_cases k1:c%8=1
  .obtain ⟨t,T,O⟩:=dM (l:=oR) (i:=c/8%8) ZU (by change c/8%8<8;omega);have tl:=Hi t T;have I:=BI (wc (ps:=ps) (m:=m) (nw:=nw) (h:=h) (bd:=bd) ZU (BE t T));unfold oR at O;simp only [qD2,qH6]at O;have f1:[z5,"moor "]+t.length<=100000:=by rw[[TQ,[z5,"moor "]=5]];omega
   refine ⟨bd,true,i5 rfl rfl λp=>?_⟩;exists rpB,m__law_row,qK2 k0,qK5 k1,O,I,f2_ (Str.ofString "text") Xac
  .have k2:c%8=2:=ZU;obtain ⟨k,ek⟩:∃k:Nat,c/8%30=(k:Int):=⟨(c/8%30).toNat,ZU⟩;have I:=bO (Aj (n:=0) (ps:=ps) (m:=m) (nw:=nw) (h:=h) (bd:=bd) (k:=k) hp ZU);have lg:(1+(k:Int)).natAbs.log2<1920:=hJ (qB6 ([TQ,(1+(k:Int)).natAbs<100]) ZU);have nl:=eB (c:=1+(k:Int)) ZU ZU;have f1:[z5,"most "]+[ZM,num (1+(k:Int))]<=100000:=by rw[[TQ,[z5,"most "]=5]];omega
   refine ⟨1+(k:Int),false,i5 rfl rfl λp=>?_⟩;exists rpB,m__law_row,qK2 k0,qK2 k1,qK5 k2,ek,I,Qv
def Qb:∃O z,Y4 [.int c] [.non,tI []] (kwG .non [] [YM,[]] .non bd)=.ok (.tup [.bl true,tI []],kwG .non [] [YM,[]] .non O,z):=by
 by_cases hk:c%8<=2
 .obtain ⟨s,hs,e⟩:=qu (w:=_) (told:=false) Xaa (.inl ⟨rfl,rfl,rfl⟩);obtain ⟨f,r,_,h1,T,I,_⟩:=bt (qE0.mp KJ s hs);show qe Xaa hk ⟨s,e,uY h1 T I⟩
 .have k0:¬ c%8=0:=ZU;have k1:¬ c%8=1:=ZU;have k2:¬ c%8=2:=ZU;have ka:=uF (c:=c/8) (bd:=bd);refine ⟨bd,true,i5 rfl rfl λp=>?_⟩;exists rpB,m__law_row,qK2 k0,qK2 k1,qK2 k2,ka;rfl
section
variable {b here:Xaj}{ms:List Mv}{ps ns:ZK}{bd:Int}(L:Ld b ms ps ns)
include L
def EU (S:Sn here):l6 [] [[Tl,"now"]] [Z0M]=.ok (.tup [[Tl,"said"],.str (tells here)],kwT b ms ps ns here bd,true):=by
 obtain ⟨T,I,O⟩:=O4 (s:=[ZF,"now"]) ZU (f:=[ZF,"now"]) (r:=[]) Xac (n:=ps.length) (by have:=L.dr.l2;omega);show bO (fv T I O ZU Xak (yq S))
def AL:l6 [] [[Tl,"home"]] [Z0M]=.ok (.tup [[Tl,"said"],.str (tells b)],kwT b ms ps ns b bd,false):=by
 obtain ⟨O,I,T⟩:=O4 (s:=[ZF,"home"]) ZU (f:=[ZF,"home"]) (r:=[]) Xac (n:=ps.length) (by have:=L.dr.l2;omega);show bO (fv O I T ZU Xak (uu L.sn))
def yO:l6 [] [[Tl,"show"]] [Z0M]=.ok (.tup [[Tl,"said"],.str (text (pls ps b) (mts ps ns ms 0 0))],kwT b ms ps ns here bd,true):=by
 obtain ⟨O,I,T⟩:=O4 (s:=[ZF,"show"]) ZU (f:=[ZF,"show"]) (r:=[]) Xac (n:=ps.length) (by have:=L.dr.l2;omega);show bO (DR O I T ZU Xak (pK L.dr L.sn.2 L.bl))
def Al {qs}:l6 [] [.str (MR++text (pls ps b) (mts ps ns ms t u))] (kwG m qs nw h bd)=.ok (.tup [[Tl,"said"],[Tl,"ok"]],kwT b ms ps ns b bd,false):=
 bO (yS (uL _) (jY (by have:=text_len (t:=t) (u:=u) L.dr L.sn.2;omega)) (DC (Eh L.dr L.cb)))
def Qc (hh:here.length=ps.length) (hB:∀x∈here,0<=x/\x<=B) (Yb:B<=1000000000000000) (h2:200000000<=B):∃h' UY z,Y4 [.int c] [lw b ms ps ns,tI here] [Z0M]=.ok (.tup [.bl true,tI h'],kwT b ms ps ns h' UY,z)/\h'.length=ps.length/\∀x∈h',0<=x/\x<=B+4800000000:=by
 have d1:=L.dr.l1;have d2:=L.dr.l2;have bl:=L.bl;have WF:∀x∈here,0<=x/\x<=B+4800000000:=λx O=>⟨(hB x O).1,by have:=(hB x O).2;omega⟩;by_cases hk:c%8<=2
 .obtain ⟨s,hs,e⟩:=qu (w:=_) (told:=true) d2 (.inr ⟨rfl,b,ms,ps,ns,rfl,bl,d1⟩);obtain ⟨f,r,_,h1,h2,h3,_⟩:=bt (qE0.mp (KK _ ZU d1) s hs);obtain ⟨UY,z,q⟩:=qe (c:=c) (here:=here) (m:=.tup [tI b,tM_ ms]) (nw:=lS ns) (h:=tI here) (bd:=bd) ZU hk ⟨s,e,uY h1 h2 h3⟩;show ⟨here,UY,z,q,hh,WF⟩
 .have k0:¬ c%8=0:=ZU;have k1:¬ c%8=1:=ZU;have k2:¬ c%8=2:=ZU;by_cases k3:c%8=3
  .have I:=rP L (c:=c/8) (here:=here) (bd:=bd);refine ⟨here,bd,true,i5 rfl rfl λp=>?_,hh,WF⟩;exists rpB,m__law_row,qK2 k0,qK2 k1,qK2 k2,qK5 k3,I
  .by_cases k4:c%8=4
   .have I:=yO L (here:=here) (bd:=bd);have kt:=nE (t:=0) L.dr L.sn.2 bl;rw[[SK,(3:Int)*0=0]]at kt;have fe:=C0 (neg:=false) (bW (Io (t:=0) (u:=0) L.dr L.cb));refine ⟨here,bd,true,i5 rfl rfl λp=>?_,hh,WF⟩;generalize text (pls ps b) (mts ps ns ms 0 0)=T at *
    exists rpB,m__law_row,qK2 k0,qK2 k1,qK2 k2,qK2 k3,qK5 k4,I,kt,fe
   .by_cases k5:c%8=5/\c/8%3=0
    .have I:=AL L (here:=here) (bd:=bd);have kc:=cE L.sn;have fe:=C0 (neg:=false) (bW (iK L.sn));refine ⟨b,bd,false,i5 rfl rfl λp=>?_,bl,λx O=>⟨(L.bb x O).1,by have:=(L.bb x O).2;omega⟩⟩;exists rpB,m__law_row,qK2 k0,qK2 k1,qK2 k2,qK2 k3,qK2 k4,qK5 k5.1,qK5 k5.2,I,kc,fe
    .obtain ⟨h',z,I,hl,hb⟩:=QM (c:=c/8) (bd:=bd) L hh hB Yb;have k6:([ZL,c%8=5]&& [ZL,c/8%3=0])=false:=by
      omega
     refine ⟨h',bd,z,i5 rfl rfl λp=>?_,hl,hb⟩;exists rpB,m__law_row,qK2 k0,qK2 k1,qK2 k2,qK2 k3,qK2 k4,k6,I
end
structure Lan where
 b:List Int
 ms:List Mv
 ps:List Str
 ns:List Str
def lnW:Option Lan->W
 |none=>.non
 |some L=>lw L.b L.ms L.ps L.ns
def lnK (h:Xaj) (bd:Int):Option Lan->KW
 |none=>kwG .non [] [YM,[]] .non bd
 |some L=>kwT L.b L.ms L.ps L.ns h bd
def Gd (B:Int) (h:Xaj):Option Lan->Prop
 |none=>h = []
 |some L=>Ld L.b L.ms L.ps L.ns/\h.length=L.ps.length/\∀x∈h,0<=x/\x<=B
def Jk (G:Gd B here t) (Yb:B<=1000000000000000) (h2:200000000<=B):∃h' I z,Y4 [.int c] [lnW t,tI here] (lnK here bd t)=.ok (.tup [.bl true,tI h'],lnK h' I t,z)/\Gd (B+4800000000) h' t:=by
 cases t with
 | none=>
  have e:=G;subst e;obtain ⟨I,z,q⟩:=Qb (bd:=bd);show ⟨[],I,z,q,rfl⟩
 | some L=>
  obtain ⟨O,T,g3⟩:=G;obtain ⟨h',I,z,q,q1,q2⟩:=Qc O (bd:=bd) T g3 Yb h2;show ⟨h',I,z,q,O,q1,q2⟩
def p8:(10:Int)^(8:Int).toNat=100000000:=Xaa
def p20:(10:Int)^(20:Int).toNat=100000000000000000000:=Xaa
def KR:[TH,fEq true (.tup [[Tl,"said"],[Tl,"ok"]]) (.tup [[Tl,"said"],[Tl,"ok"]]),false]:=C0 Xac
def Fd:[TH,fEq true (.tup [[nt],[Tl,"row"]]) (.tup [[nt],[Tl,"row"]]),false]:=C0 Xac
def mM (J:Rho->Prop)(h:Po r J Jr)(hn:∀a,J a->Po (n a) Jn Jr):Po (andThen r n) Jn Jr:=gJ (h.mono hn λ_ h=>h)
def fo m a:kL m a=Rxb (m a):=rfl
def Cz h bd t:∃m ps nw hw,lnK h bd t=kwG m ps nw hw bd:=by
 cases t with
 |none=>show ⟨_,_,_,_,rfl⟩
 |some L=>show ⟨_,_,_,_,rfl⟩
abbrev stL (ns:Xaj) (t:Int)(x y:W)(o:Option Lan)(here:Xaj) (bd:Int)(T a8 O I:Sl):Rho:=[.par (.scr (ns.map W.int)),.val (.int t),.own [x,y],.obj .own dC (lnK here bd o),.obj .kept dC (dNs,dVs 20),.val (lnW o),.val (tI here),T,a8,O,I]
def law_pure (ns:Xaj) (hl:ns.length<=63) (hb:∀x∈ns,[Z0Z]):[TH,tG [.scr (ns.map W.int)],true]:=by
 have a3:Ok (tG [.scr (ns.map W.int)]) λv=>v=.bl true:=by
  obtain ⟨z0,e0⟩:=bL hb (k:=0) Xaa Xaa;exists rpB,m_law,e0;refine O1 (mM (λd=>∃t:Int,1<=t/\t<=100000000/\d = [.par (.scr (ns.map W.int)),.val (.int t),.un,.un,.un,.un,.un,.un,.un,.un,.un]) (sv (λ_=>?_) (λ_=>?_)) ?_)
  .exists e0,p8;show ⟨_,ZU,ZU,rfl⟩
  .show ⟨1,Xaa,Xaa,rfl⟩
  rintro d ⟨t,t1,t2,rfl⟩;obtain ⟨b1,ms1,WM,WK,l1,L1⟩:=qE hb (a:=1) (t:=t) Xaa Xaa t1 t2;obtain ⟨Xw,ms2,WL,WJ,l2,a4⟩:=qE hb (a:=4) (t:=1) Xaa Xaa Xaa Xaa;exists l1,l2;refine F4 (λi d=>∃o here bd a7 T I,d=stL ns t (lw b1 ms1 WM WK) (lw Xw ms2 WL WJ) o here bd a7 T I .un/\Gd (200000000+4800000000*(i:Int)) here o/\W8 a7=false/\W8 T=false/\W8 I=false) ⟨none,[],20,.un,.un,.un,rfl,rfl,rfl,rfl,rfl⟩ ?_ ?_
  .rintro i u d O ⟨o,here,bd,a7,T,I,rfl,G,o7,o8,o9⟩;show 1 hi (bu O);have a5:(i:Int)<30:=ZU;obtain ⟨z,ez⟩:=bL hb (k:=11+(i:Int)) ZU ZU;obtain ⟨c,hc⟩:∃c,c=z%100000000000000000000:=[Tq];show 6;exists ez,p20,hc.symm;refine mM (λd=>∃o here bd T I,d=stL ns t (lw b1 ms1 WM WK) (lw Xw ms2 WL WJ) o here bd (.par (.int (i:Nat))) T I .un/\Gd (200000000+4800000000*((i+1:Nat):Int)) here o/\W8 T=false/\W8 I=false) (sv (λ_=>?_) (λ_=>?_)) ?_
   .obtain ⟨X,ea,LX⟩:∃X:Lan,[SA,[lw b1 ms1 WM WK,lw Xw ms2 WL WJ],c/11%2,lw X.b X.ms X.ps X.ns]/\Ld X.b X.ms X.ps X.ns:=by
     rcases ([TQ,c/11%2=0\/c/11%2=1]) with q|q
     .rw[q];show ⟨⟨b1,ms1,WM,WK⟩,rfl,L1⟩
     .rw[q];show ⟨⟨Xw,ms2,WL,WJ⟩,rfl,a4⟩
    have kt:=nE (t:=c/22%4) LX.dr LX.sn.2 LX.bl;have tl:=text_len (t:=c/22%4) (u:=3*(c/22%4)) LX.dr LX.sn.2;have f1:[z5,"moor "]+[ZM,text (pls X.ps X.b) (mts X.ps X.ns X.ms (c/22%4) (3*(c/22%4)))]<=100000:=by rw[[TQ,[z5,"moor "]=5]];omega
    obtain ⟨m,qs,nw,hw,ek⟩:=Cz here bd o;have ka:=Al LX (m:=m) (qs:=qs) (nw:=nw) (h:=hw) (bd:=bd) (t:=c/22%4) (u:=3*(c/22%4));rw[<- ek]at ka;exists ea,kt,ka,KR,o9,fo;show ⟨some X,X.b,bd,.val (.int c),I,rfl,⟨LX,LX.bl,λx hx=>⟨(LX.bb x hx).1,by have:=(LX.bb x hx).2;omega⟩⟩,rfl,o9⟩
   .obtain ⟨h',UY,z',kr,G'⟩:=Jk (c:=c/11) (bd:=bd) G ZU ZU;exists kr,o9;show ⟨o,h',UY,.val (.int c),.val (.bl true),rfl,ZU,rfl,rfl⟩
   .rintro d ⟨o,here,bd,T,I,rfl,G,o8,o9⟩;cases o with
    | none=>
     have en:isN (lnW none)=true:=rfl;exists en;show ⟨none,here,bd,_,T,I,rfl,G,rfl,o8,o9⟩
    | some X=>
     obtain ⟨g1,g2,g3⟩:=G;have S:=rQ (zs:=here) ([ZO,g2,g1.dr.l2]) g3 ZU;have ka:=EU g1 (bd:=bd) S;have kc:=cE S;have fe:=C0 (neg:=true) (bW (iK S));have en:lnW (some X)=.lst [tI X.b,.lst (X.ms.map mW),lS X.ps,lS X.ns]:=rfl;replace ka:l6 [] [[Tl,"now"]] (lnK here bd [ZT,X])=.ok (.tup [[Tl,"said"],.str (tells here)],lnK here bd (some X),true):=ka
     exists en,ka,kc,fe,o8,o9,fo;show ⟨some X,here,bd,_,T,I,rfl,⟨g1,g2,g3⟩,rfl,o8,o9⟩
  .rintro d ⟨o,here,bd,a7,T,I,rfl,G,o7,o8,o9⟩;have kf:l6 [] [[Tl,"now"]] (dNs,dVs 20)=.ok (.tup [[nt],[Tl,"moor"]],(dNs,dVs 20),true):=oY (vs:=dVs 20) (gf (s:=[ZF,"now"]) ZU (bd:=20));obtain ⟨m,qs,nw,hw,ek⟩:=Cz here bd o;exists rp18;refine F4 (λi d=>∃Xx,d=stL ns t (lw b1 ms1 WM WK) (lw Xw ms2 WL WJ) o here bd a7 T I Xx) [Tq] ?_ ?_
   .rintro i u d O ⟨Xx,rfl⟩;have hs:[TH,fIsi [u,.ty "str"],false]:=by
     match i,O with
     |0,O=>cases O;rfl
     |1,O=>cases O;rfl
     |2,O=>cases O;rfl
     |i+3,O=>cases O
    have ka:=rz (uX (m:=m) (ps:=qs) (nw:=nw) (h:=hw) (bd:=bd) hs);replace ka:l6 [] [u] (lnK here bd o)=.ok (.tup [[nt],[Tl,"row"]],lnK here bd o,true):=[ZO,ek,ka]
    show 6;exists ka,Fd,o7,o8,o9,fo;show [Tq]
   .rintro d ⟨Xx,rfl⟩;exists Ph kf,f2_ (Str.ofString "moor") Xac
 show 3 v e a3;show e
end K92
open PySem PySem.W PyProof.Rows
namespace K92
open PySem L2 TP PySem.W PyProof.Rows
def spLaw (K:Frag):Sp:=λvs H Q _=>∃(a:Addr)(ns:Xaj),vs = [.ref a]/\SqL K H a (ns.map V.int)/\ns.length<=63/\(∀x∈ns,[Z0Z])/\∀H',Q (.bl true) H'
def all_ {l:PySem.W.OpenLaw}{mg}(Y:En w mg) (hp:∀ns:List Int,ns.length<=63->(∀x∈ns,[Z0Z])->[TH,tG [.scr (ns.map W.int)],true]) (e:mg "law" = some [ZE,fa]):∃fd:FuncData,(∀ s v,BindsTo s fd ⟨[v],[]⟩ [("_law_script",v)])/\∀base,[ZH].In base->base.Ns mainGlobals mg->FnOk l.prog w [ZH] mg base CX0 12 fa fd ["_law_script"] (spLaw (hk w)):=by
 cases e.symm.trans (Cq Y).1.m;show ⟨FD "law" 164 (hxS "law_tokenmoor_k92_the_desk_goes" 1354) 935,λs v=>.of_eq rfl,λbase _ _=>FK (Cq Y).2 hp⟩
end K92
set_option maxHeartbeats 0 in
theorem PySem.Challenge.cw_tokenmoor_k92_the_desk_goes_holds : PySem.Challenge.rw_tokenmoor_k92_the_desk_goes.Holds := by
 w_on
 refine holds_law K92.ws0 λsaid=>?_;refine holds_open (q:=K92.view) (loose:=[]) (Xt:=λs=>xlAt K92.view [] s&&recOk [] s) (XP:=XL K92.view [])
  (Yf:=K92.hook.obs) (Ya:=K92.hook.val) (YP:=K92.hook.says) (N:=12000) ?hl K92.hook.of K92.hook.keeps
  (λs e=>xl_of s (Bool.and_eq_true_iff.mp e).1) XL.keeps (by rfl) (by rfl) (by rfl)
  (λs e=>recFacts_of (Bool.and_eq_true_iff.mp e).2) (by rfl) (by first|assumption|decide +kernel)
  (by decide +kernel) ⟨rfl,rfl,rfl,rfl,rfl,by decide +kernel⟩ ?hw ?hc
 (case hl=>exact K92.hl0)
 (case hw=>w_witness2)
 refine L2.walk_ofKB (l:=PySem.Challenge.rw_tokenmoor_k92_the_desk_goes) (n:=63) (k:=12) (x := "_law_script") (CX:=L2.CX0) (sp:=K92.spLaw) rfl (by decide) rfl ⟨rfl,by decide,by decide⟩ (λw h Y=>PySem.W.kIn_of Y)
  (λw mg fa h X G e=>K92.all_ ⟨h,X,G⟩ K92.law_pure e)
  (λK H a ns hl hb hO hS=>⟨a,ns,rfl,hS,hl,hb,λ_=>rfl⟩) λ_ _ _ _ z=>z
