import PyProof.Rows.All
import Wide.All
import OpenK.AllK
import Wide.FinOn
import Lean
import PyProof.EqAt
import PyProof.EqKinds
import PyProof.TupleCall
import PyProof.ZipIter
import PyProof.TupleIter
import PyProof.WalksMore
import PyProof.EnumMake
import PyProof.Draws
import PyProof.P3In
import KE.KSortTup
import PyProof.Rows.SortWalk
import KE.IntBitsLaws
import KE.KRevIter
import PyProof.TupleOfGen
import PySem.Challenge.RW_tokenmoor_k82_kept_by_sets
set_option Elab.async false
set_option linter.all false
set_option maxRecDepth 100000
namespace L2
open PySem PySem.Spec PyProof.Rows
abbrev Key := Sum Int Str
def keyIs : Key → Value → Bool
  | .inl k, v => Value.isInt k v
  | .inr x, v => Value.isStrOf x v
def keyH (w : World) : Key → Int
  | .inl k => hashInt k
  | .inr x => hashStr w x
theorem keyIs_shape : ∀ {k : Key} {v : Value}, keyIs k v = true → (∃ i t, k = Sum.inl i ∧ v = Value.int i t) ∨ (∃ x t, k = Sum.inr x ∧ v = Value.str x t)
  | .inl i, v, h => by
    obtain ⟨t, e⟩ := Value.isInt_shape (k := i) (v := v) h
    exact .inl ⟨i, t, rfl, e⟩
  | .inr x, v, h => by
    obtain ⟨t, e⟩ := Value.isStrOf_shape (x := x) (v := v) h
    exact .inr ⟨x, t, rfl, e⟩
theorem keyIs_int (i : Int) (t : Tok) : keyIs (.inl i) (.int i t) = true := by simp [keyIs, Value.isInt]
theorem keyIs_str (x : Str) (t : Tok) : keyIs (.inr x) (.str x t) = true := by simp [keyIs, Value.isStrOf]
theorem key_ll (a b : Int) : decide ((Sum.inl a : Key) = Sum.inl b) = (a == b) := by
  by_cases e : a = b
  · subst e; simp
  · have h : ¬ (Sum.inl a : Key) = Sum.inl b := fun q => e (Sum.inl.inj q)
    rw [decide_eq_false h]
    exact (beq_eq_false_iff_ne.mpr e).symm
theorem key_rr (a b : Str) : decide ((Sum.inr a : Key) = Sum.inr b) = decide (a = b) := by
  by_cases e : a = b
  · subst e; simp
  · have h : ¬ (Sum.inr a : Key) = Sum.inr b := fun q => e (Sum.inr.inj q)
    rw [decide_eq_false h, decide_eq_false e]
theorem key_lr (a : Int) (b : Str) : decide ((Sum.inl a : Key) = Sum.inr b) = false := decide_eq_false (fun q => nomatch q)
theorem key_rl (a : Str) (b : Int) : decide ((Sum.inr a : Key) = Sum.inl b) = false := decide_eq_false (fun q => nomatch q)
def mixKind (prog : Program) (w : World) : PySem.KeyKind prog w Key where
  is := keyIs
  hash := keyH w
  inj := fun v a b ha hb => by
    rcases keyIs_shape ha with ⟨i, t, rfl, rfl⟩ | ⟨x, t, rfl, rfl⟩
    · rcases keyIs_shape hb with ⟨j, u, rfl, e⟩ | ⟨y, u, rfl, e⟩
      · injection e with e1 _; rw [e1]
      · exact nomatch e
    · rcases keyIs_shape hb with ⟨j, u, rfl, e⟩ | ⟨y, u, rfl, e⟩
      · exact nomatch e
      · injection e with e1 _; rw [e1]
  byValue := fun k v h => by
    rcases keyIs_shape h with ⟨i, t, rfl, rfl⟩ | ⟨x, t, rfl, rfl⟩ <;> rfl
  pyHash := fun hv h => by
    rcases keyIs_shape hv with ⟨i, t, rfl, rfl⟩ | ⟨x, t, rfl, rfl⟩
    · exact wpAny_pyHash_int h
    · exact wpAny_pyHash_str h
  eqBool := fun hu hv h => by
    rcases keyIs_shape hu with ⟨i, t, rfl, rfl⟩ | ⟨x, t, rfl, rfl⟩
    · rcases keyIs_shape hv with ⟨j, u, rfl, rfl⟩ | ⟨y, u, rfl, rfl⟩
      · rw [key_ll] at h; exact wpAny_eqBool_int h
      · rw [key_lr] at h; exact SeqAt.EqAt.int_str i t y u _ _ _ _ h
    · rcases keyIs_shape hv with ⟨j, u, rfl, rfl⟩ | ⟨y, u, rfl, rfl⟩
      · rw [key_rl] at h; exact SeqAt.EqAt.str_int x t j u _ _ _ _ h
      · rw [key_rr] at h; exact wpAny_eqBool_str h
  «strs» := fun k x t v h => by
    rcases keyIs_shape h with ⟨i, u, rfl, e⟩ | ⟨y, u, rfl, e⟩
    · exact nomatch e
    · injection e with e1 _
      subst e1
      cases v <;> rfl
theorem mixKind_int (prog : Program) (w : World) (i : Int) (t : Tok) : (mixKind prog w).is (.inl i) (.int i t) = true := keyIs_int i t
theorem mixKind_str (prog : Program) (w : World) (x : Str) (t : Tok) : (mixKind prog w).is (.inr x) (.str x t) = true := keyIs_str x t
end L2
namespace L2
open PySem PySem.Spec PyProof.Rows
inductive V where
  | non | bl (b : Bool) | int (i : Int) | str (x : Str) | byt (b : Array UInt8) | flt (b : UInt64) | ref (a : Addr) | ty (n : String)
  deriving DecidableEq
def RelV : V → Value → Prop
  | .non, u => u = Value.none
  | .bl b, u => u = Value.bool b
  | .int i, u => ∃ t, u = Value.int i t
  | .str x, u => ∃ t, u = Value.str x t
  | .byt b, u => ∃ t, u = Value.bytes b t
  | .flt b, u => ∃ t, u = Value.float b t
  | .ref a, u => u = Value.ref a
  | .ty n, u => u = Value.type n
abbrev Vals : List V → List Value → Prop := Paired RelV
theorem Vals.length {xs : List V} {us : List Value} (r : Vals xs us) : xs.length = us.length := Paired.length r
theorem Vals.get : ∀ {xs : List V} {us : List Value} {i : Nat} {x : V}, Vals xs us → xs[i]? = some x → ∃ u, us[i]? = some u ∧ RelV x u
  | _, _, _, _, .nil, e => by simp at e
  | _, _, 0, _, .cons r _, e => by simp at e; subst e; exact ⟨_, rfl, r⟩
  | _, _, i + 1, x, .cons _ t, e => by
    obtain ⟨u, h1, h2⟩ := Vals.get (i := i) (x := x) t (by simpa using e)
    exact ⟨u, by simpa using h1, h2⟩
theorem Vals.set {x : V} {u : Value} (r : RelV x u) : ∀ {xs : List V} {us : List Value} (i : Nat), Vals xs us → Vals (xs.set i x) (us.set i u)
  | _, _, _, .nil => .nil
  | _, _, 0, .cons _ t => .cons r t
  | _, _, i + 1, .cons q t => .cons q (Vals.set r i t)
theorem Vals.append : ∀ {xs ys : List V} {us ws : List Value}, Vals xs us → Vals ys ws → Vals (xs ++ ys) (us ++ ws)
  | _, _, _, _, .nil, s => s
  | _, _, _, _, .cons r t, s => .cons r (Vals.append t s)
theorem Vals.take : ∀ {xs : List V} {us : List Value} (n : Nat), Vals xs us → Vals (xs.take n) (us.take n)
  | _, _, 0, _ => .nil
  | _, _, _ + 1, .nil => .nil
  | _, _, n + 1, .cons r t => .cons r (Vals.take n t)
theorem Vals.drop : ∀ {xs : List V} {us : List Value} (n : Nat), Vals xs us → Vals (xs.drop n) (us.drop n)
  | _, _, 0, r => r
  | _, _, _ + 1, .nil => .nil
  | _, _, n + 1, .cons _ t => Vals.drop n t
def RelO : Option V → Option Value → Prop
  | some v, some u => RelV v u
  | none, none => True
  | _, _ => False
def KV {κ : Type} : List (κ × V) → List (κ × Value) → Prop := Paired fun (p : κ × V) (q : κ × Value) => p.1 = q.1 ∧ RelV p.2 q.2
def kV : Key → V
  | .inl i => .int i
  | .inr x => .str x
inductive HO where
  | lst (xs : List V)
  | tup (xs : List V)
  | dK (kvs : List (Key × V)) | dT (kvs : List (List Key × V))
  | set (S : Int → Bool) (n : Nat)
  | ins (C dx : Addr) (fs : List (Str × V))
  | own (x : Addr)
  | xd (fs : List (Str × V))
  | met (f x : Addr)
  | rng (lo hi : Int)
  | frz (o : Obj) (u : HO)
  | tbl (ps : Array Value)
  | ext (φ : Heap → Prop)
abbrev Hp := Addr → Option HO
def upd (H : Hp) (a : Addr) (o : HO) : Hp := fun b => if b = a then some o else H b
theorem upd_same {H : Hp} {a : Addr} {o : HO} : upd H a o a = some o := by unfold upd; rw [if_pos rfl]
theorem upd_ne {H : Hp} {a b : Addr} {o : HO} (h : b ≠ a) : upd H a o b = H b := by unfold upd; rw [if_neg h]
theorem ne_of {H : Hp} {a b : Addr} {o u : HO} (h : H a = some o) (h' : H b = some u) (d : o ≠ u) : a ≠ b := by
  intro e; subst e; rw [h] at h'; exact d (Option.some.inj h')
theorem ne_of_none {H : Hp} {a b : Addr} {o : HO} (h : H a = some o) (h' : H b = none) : a ≠ b := by
  intro e; subst e; rw [h] at h'; cases h'
section
variable (P : Program) (w : World)
def ObjOk (H : Hp) (h : Heap) (a : Addr) : HO → Prop
  | .lst xs => xs.length ≤ sizeLine ∧ ∃ (its : List Value) (n : Nat), Vals xs its ∧ h.get? a = some { cls := .type "list", data := .seq its.toArray n }
  | .tup xs => xs.length ≤ sizeLine ∧ ∃ its : List Value, Vals xs its ∧ IsTup h a its.toArray
  | .dK kvs => kvs.length ≤ sizeLine ∧ (a == sysModules) = false ∧ ∃ vs, KV kvs vs ∧ h.DictOf (mixKind P w) a vs
  | .dT kvs => kvs.length ≤ sizeLine ∧ (a == sysModules) = false ∧ ∃ xs : List (List Key × Addr × Value),
      Paired (fun (p : List Key × V) (q : List Key × Addr × Value) => p.1 = q.1 ∧ H q.2.1 = some (.tup (p.1.map kV)) ∧ RelV p.2 q.2.2) kvs xs ∧
      ∃ o es ep, h.get? a = some o ∧ o.ExactDict ∧ o.data = .dict es ep ∧ es.toList = xs.map (entryOfKey (tupleKind (mixKind P w))) ∧ (xs.map (·.1)).Nodup
  | .set S n => h.SetOf (intKind P w) a S n
  | .ins C dx fs => H dx = some (.own a) ∧ fs.length ≤ 1000 ∧ dx ≠ a ∧ h.get? a = some (PySem.W.instObj C dx) ∧
      ∃ mA, h.Ns1 dx mA ∧ (∀ f, RelO (fs.lookup f) (mA f)) ∧ PySem.Within mA (fs.map (·.1))
  | .own _ => ∃ o, h.get? a = some o
  | .xd fs => ∃ mA, h.Ns1 a mA ∧ ∀ f, RelO (fs.lookup f) (mA f)
  | .rng lo hi => ∃ t u v, h.get? a = some { cls := .type "range", data := .fields #[.int lo t, .int hi u, .int 1 v] }
  | .frz o u => h.get? a = some o ∧ ObjOk H h a u
  | .tbl ps => h.get? a = some { cls := .none, data := .fields ps }
  | .met f x => h.get? a = some (PySem.W.methodObj (.ref f) (.ref x))
  | .ext φ => φ h ∧ (∃ o, h.get? a = some o) ∧ ∀ h1 h2 : Heap, φ h1 → (∀ o, h1.get? a = some o → h2.get? a = some o) → φ h2
def HOk (H : Hp) (h : Heap) : Prop := ∀ a o, H a = some o → ObjOk P w H h a o
end
section
variable {P : Program} {w : World} {H H' : Hp} {h h' : Heap} {a : Addr} {o : HO}
theorem ObjOk.lt (x : ObjOk P w H h a o) : a < h.objs.size := by
  cases o with
  | lst xs => obtain ⟨_, _, _, _, e⟩ := x; exact Heap.lt_size e
  | tup xs => obtain ⟨_, _, _, p⟩ := x; exact p.lt
  | dK kvs => obtain ⟨_, _, _, _, o, _, _, e, _⟩ := x; exact Heap.lt_size e
  | dT kvs => obtain ⟨_, _, _, _, o, _, _, e, _⟩ := x; exact Heap.lt_size e
  | set S n => obtain ⟨o, _, _, _, e, _⟩ := x; exact Heap.lt_size e
  | ins C dx fs => obtain ⟨_, _, _, e, _⟩ := x; exact Heap.lt_size e
  | own y => obtain ⟨_, e⟩ := x; exact Heap.lt_size e
  | xd fs => obtain ⟨_, ⟨_, _, _, e, _⟩, _⟩ := x; exact Heap.lt_size e
  | rng lo hi => obtain ⟨_, _, _, e⟩ := x; exact Heap.lt_size e
  | frz ob u => obtain ⟨e, _⟩ := x; exact Heap.lt_size e
  | tbl ps => exact Heap.lt_size (show h.get? a = some _ from x)
  | met f y => exact Heap.lt_size (show h.get? a = some _ from x)
  | ext φ => obtain ⟨_, ⟨_, e⟩, _⟩ := x; exact Heap.lt_size e
theorem Paired.mapP {α β : Type} {F G : α → β → Prop} : ∀ {l₁ : List α} {l₂ : List β}, Paired F l₁ l₂ → (∀ a b, F a b → G a b) → Paired G l₁ l₂
  | _, _, .nil, _ => .nil
  | _, _, .cons r t, f => .cons (f _ _ r) (Paired.mapP t f)
theorem ObjOk.stay (x : ObjOk P w H h a o) (k : ∀ b u, (b = a ∨ H b = some (.own a)) → h.get? b = some u → h'.get? b = some u)
    (ho : ∀ b, H b = some (.own a) → H' b = some (.own a)) (ht : ∀ b xs, H b = some (.tup xs) → H' b = some (.tup xs)) : ObjOk P w H' h' a o := by
  induction o with
  | lst xs => obtain ⟨z, its, n, r, e⟩ := x; exact ⟨z, its, n, r, k _ _ (.inl rfl) e⟩
  | tup xs => obtain ⟨z, its, r, ob, e, c⟩ := x; exact ⟨z, its, r, ob, k _ _ (.inl rfl) e, c⟩
  | dK kvs => obtain ⟨z, y, vs, r, ob, es, ep, e, c⟩ := x; exact ⟨z, y, vs, r, ob, es, ep, k _ _ (.inl rfl) e, c⟩
  | dT kvs =>
    obtain ⟨z, y, xs, r, ob, es, ep, e, c⟩ := x
    exact ⟨z, y, xs, Paired.mapP r fun p q z => ⟨z.1, ht _ _ z.2.1, z.2.2⟩, ob, es, ep, k _ _ (.inl rfl) e, c⟩
  | set S n => obtain ⟨ob, es, ep, t, e, c⟩ := x; exact ⟨ob, es, ep, t, k _ _ (.inl rfl) e, c⟩
  | ins C dx fs =>
    obtain ⟨d, z, ne, e, mA, ⟨od, es, ep, e2, c⟩, r⟩ := x
    exact ⟨ho _ d, z, ne, k _ _ (.inl rfl) e, mA, ⟨od, es, ep, k _ _ (.inr d) e2, c⟩, r⟩
  | own y => obtain ⟨ob, e⟩ := x; exact ⟨ob, k _ _ (.inl rfl) e⟩
  | xd fs => obtain ⟨mA, ⟨od, es, ep, e, c⟩, r⟩ := x; exact ⟨mA, ⟨od, es, ep, k _ _ (.inl rfl) e, c⟩, r⟩
  | rng lo hi => obtain ⟨t, u, v, e⟩ := x; exact ⟨t, u, v, k _ _ (.inl rfl) e⟩
  | frz ob u ih => obtain ⟨e, q⟩ := x; exact ⟨k _ _ (.inl rfl) e, ih q⟩
  | tbl ps =>
    have e : h.get? a = some { cls := .none, data := .fields ps } := x
    show h'.get? a = some { cls := .none, data := .fields ps }
    exact k a _ (.inl rfl) e
  | met f y =>
    have e : h.get? a = some (PySem.W.methodObj (.ref f) (.ref y)) := x
    show h'.get? a = some (PySem.W.methodObj (.ref f) (.ref y))
    exact k a _ (.inl rfl) e
  | ext φ => obtain ⟨p, ⟨o, e⟩, st⟩ := x; exact ⟨st _ _ p fun o q => k _ _ (.inl rfl) q, ⟨o, k _ _ (.inl rfl) e⟩, st⟩
theorem HOk.lt (x : HOk P w H h) (e : H a = some o) : a < h.objs.size := (x a o e).lt
theorem HOk.fresh (x : HOk P w H h) (e : h.objs.size ≤ a) : H a = none := by
  cases q : H a with
  | none => rfl
  | some u => exact absurd (Nat.lt_of_lt_of_le (x.lt q) e) (Nat.lt_irrefl _)
theorem HOk.kept (x : HOk P w H h) (k : ∀ b u, h.get? b = some u → h'.get? b = some u) : HOk P w H h' := fun a o e =>
  (x a o e).stay (fun b u _ q => k b u q) (fun _ q => q) fun _ _ q => q
theorem HOk.laid (x : HOk P w H h) (k : ∀ b u, h.get? b = some u → h'.get? b = some u) (hp : h.objs.size ≤ a) (new : ObjOk P w (upd H a o) h' a o) : HOk P w (upd H a o) h' := fun b u e => by
  have hn := x.fresh hp
  by_cases hb : b = a
  · subst hb; rw [upd_same] at e; cases e; exact new
  · rw [upd_ne hb] at e
    exact (x b u e).stay (fun c v _ q => k c v q) (fun c q => by rw [upd_ne (ne_of_none q hn)]; exact q) fun c xs q => by rw [upd_ne (ne_of_none q hn)]; exact q
end
def Rd (H : Hp) (a : Addr) (u : HO) : Prop := H a = some u ∨ ∃ o, H a = some (.frz o u)
theorem Rd.of {H : Hp} {a : Addr} {u : HO} (h : H a = some u) : Rd H a u := .inl h
theorem Rd.ok {P : Program} {w : World} {H : Hp} {h : Heap} {a : Addr} {u : HO} (r : Rd H a u) (x : HOk P w H h) : ObjOk P w H h a u := by
  rcases r with r | ⟨o, r⟩
  · exact x a u r
  · obtain ⟨_, q⟩ := x a _ r
    exact q
def Mut : Option HO → Prop
  | some (.lst _) => True
  | some (.dK _) => True
  | some (.dT _) => True
  | some (.set _ _) => True
  | some (.ins _ _ _) => True
  | some (.ext _) => True
  | _ => False
section
variable {P : Program} {w : World} {H : Hp} {h h' : Heap} {x e : Addr} {o' : HO}
theorem HOk.write (ok : HOk P w H h) (mu : Mut (H x)) (he : e = x ∨ H e = some (.own x)) (k : ∀ b u, b ≠ e → h.get? b = some u → h'.get? b = some u) (heo : ∃ u, h'.get? e = some u)
    (new : ObjOk P w (upd H x o') h' x o') : HOk P w (upd H x o') h' := fun b u q => by
  have nown : ∀ c y, H c = some (.own y) → c ≠ x := fun c y r z => by subst z; rw [r] at mu; exact mu
  have ntup : ∀ c xs, H c = some (.tup xs) → c ≠ x := fun c xs r z => by subst z; rw [r] at mu; exact mu
  by_cases hb : b = x
  · subst hb; rw [upd_same] at q; cases q; exact new
  · rw [upd_ne hb] at q
    by_cases hbe : b = e
    · have q' : H b = some (.own x) := by
        rcases he with z | z
        · exact absurd (hbe.trans z) hb
        · rw [hbe]; exact z
      rw [q] at q'; cases q'
      obtain ⟨v, hv⟩ := heo
      exact ⟨v, by rw [hbe]; exact hv⟩
    · refine (ok b u q).stay (fun c v hc r => k c v ?_ r) (fun c r => by rw [upd_ne (nown c b r)]; exact r) fun c xs r => by rw [upd_ne (ntup c xs r)]; exact r
      rcases hc with rfl | hc
      · exact hbe
      · rintro rfl
        rcases he with z | z
        · exact nown c b hc z
        · rw [hc] at z; cases z; exact hb rfl
end
structure Un (fs ex : List Addr) (H H' : Hp) (h h' : Heap) : Prop where
  keep : ∀ b o, h.get? b = some o → H b = none → b ∉ fs → b ∉ ex → h'.get? b = some o
  slot : ∀ b o, h.get? b = some o → H b = none → b ∈ fs → b ∉ ex → ∃ sl, h'.get? b = some { o with slots := sl }
  free : ∀ b o, h.get? b = some o → H b = none → b ∉ ex → H' b = none
  there : ∀ b o, h.get? b = some o → b ∉ ex → ∃ o', h'.get? b = some o'
  tups : ∀ b xs, H b = some (.tup xs) → H' b = some (.tup xs)
  frzs : ∀ b o u, H b = some (.frz o u) → H' b = some (.frz o u)
  tbls : ∀ b ps, H b = some (.tbl ps) → ∃ more, H' b = some (.tbl (ps ++ more))
section
variable {fs fs' ex ex' : List Addr} {H H1 H2 : Hp} {h h1 h2 h' : Heap} {a x e : Addr} {o : HO}
theorem Un.any (u : Un fs ex H H1 h h1) {b : Addr} {ob : Obj} (q : h.get? b = some ob) (n : H b = none) (hx : b ∉ ex) : ∃ sl, h1.get? b = some { ob with slots := sl } := by
  by_cases hb : b ∈ fs
  · exact u.slot b ob q n hb hx
  · exact ⟨ob.slots, u.keep b ob q n hb hx⟩
theorem Un.trans (a : Un fs ex H H1 h h1) (b : Un fs ex H1 H2 h1 h2) : Un fs ex H H2 h h2 where
  keep := fun c ob q n hc hx => b.keep c ob (a.keep c ob q n hc hx) (a.free c ob q n hx) hc hx
  slot := fun c ob q n hc hx => by
    obtain ⟨sl, e1⟩ := a.slot c ob q n hc hx
    obtain ⟨sl', e2⟩ := b.slot c _ e1 (a.free c ob q n hx) hc hx
    exact ⟨sl', e2⟩
  free := fun c ob q n hx => by
    obtain ⟨o', e1⟩ := a.there c ob q hx
    exact b.free c o' e1 (a.free c ob q n hx) hx
  there := fun c ob q hx => by
    obtain ⟨o', e1⟩ := a.there c ob q hx
    exact b.there c o' e1 hx
  tups := fun c xs q => b.tups c xs (a.tups c xs q)
  frzs := fun c ob xs q => b.frzs c ob xs (a.frzs c ob xs q)
  tbls := fun c ps q => by
    obtain ⟨m1, e1⟩ := a.tbls c ps q
    obtain ⟨m2, e2⟩ := b.tbls c _ e1
    exact ⟨m1 ++ m2, by rw [e2, Array.append_assoc]⟩
theorem Un.kept (k : ∀ b u, h.get? b = some u → h'.get? b = some u) : Un fs ex H H h h' :=
  ⟨fun b ob q _ _ _ => k b ob q, fun b ob q _ _ _ => ⟨ob.slots, k b ob q⟩, fun _ _ _ n _ => n, fun b ob q _ => ⟨ob, k b ob q⟩, fun _ _ q => q, fun _ _ _ q => q, fun _ ps q => ⟨#[], by rw [q]; simp⟩⟩
theorem Un.refl : Un fs ex H H h h := Un.kept fun _ _ q => q
theorem Un.laid (k : ∀ b u, h.get? b = some u → h'.get? b = some u) (hp : h.objs.size ≤ a) (hn : H a = none) : Un fs ex H (upd H a o) h h' where
  keep := fun b u q _ _ _ => k b u q
  slot := fun b u q _ _ _ => ⟨u.slots, k b u q⟩
  free := fun b u q n _ => by rw [upd_ne (Nat.ne_of_lt (Nat.lt_of_lt_of_le (Heap.lt_size q) hp))]; exact n
  there := fun b u q _ => ⟨u, k b u q⟩
  tups := fun b xs q => by rw [upd_ne (ne_of_none q hn)]; exact q
  frzs := fun b u xs q => by rw [upd_ne (ne_of_none q hn)]; exact q
  tbls := fun b ps q => ⟨#[], by rw [upd_ne (ne_of_none q hn), q]; simp⟩
theorem Un.write (mu : Mut (H x)) (he : e = x ∨ H e = some (.own x)) (k : ∀ b u, b ≠ e → h.get? b = some u → h'.get? b = some u) (heo : ∃ u, h'.get? e = some u) : Un fs ex H (upd H x o) h h' := by
  have hx : ∀ b, H b = none → b ≠ x := fun b n z => by subst z; rw [n] at mu; exact mu
  have hb : ∀ b, H b = none → b ≠ e := fun b n z => by
    subst z
    rcases he with r | r
    · exact hx b n r
    · rw [n] at r; cases r
  have hm : ∀ b u, H b = some u → ¬ Mut (some u) → b ≠ x := fun b u q nm z => by subst z; rw [q] at mu; exact nm mu
  refine ⟨fun b u q n _ _ => k b u (hb b n) q, fun b u q n _ _ => ⟨u.slots, k b u (hb b n) q⟩, fun b u q n _ => by rw [upd_ne (hx b n)]; exact n, fun b u q _ => ?_,
    fun b xs q => by rw [upd_ne (hm b _ q fun z => z)]; exact q, fun b u xs q => by rw [upd_ne (hm b _ q fun z => z)]; exact q, fun b ps q => ⟨#[], by rw [upd_ne (hm b _ q fun z => z), q]; simp⟩⟩
  by_cases hbe : b = e
  · subst hbe; exact heo
  · exact ⟨u, k b u hbe q⟩
theorem Un.mono (u : Un fs ex H H1 h h1) (hs : ∀ b ∈ fs, b ∈ fs') (hx : ∀ b ∈ ex, b ∈ ex') : Un fs' ex' H H1 h h1 :=
  ⟨fun b ob q n hb he => u.keep b ob q n (fun z => hb (hs b z)) fun z => he (hx b z), fun _ _ q n _ he => u.any q n fun z => he (hx _ z), fun b ob q n he => u.free b ob q n fun z => he (hx b z), fun b ob q he => u.there b ob q fun z => he (hx b z), u.tups, u.frzs, u.tbls⟩
end
def trk (h : Heap) (H : Hp) : List Addr := (List.range h.objs.size).filter fun a => (H a).isSome
def hidT (h : Heap) (H : Hp) : Heap := PySem.W.hideAll h (trk h H)
theorem hidT_size (h : Heap) (H : Hp) : (hidT h H).objs.size = h.objs.size := PySem.W.hideAll_size _ _
theorem hidT_get {h : Heap} {H : Hp} {b : Addr} {o : Obj} (e : h.get? b = some o) (n : H b = none) : (hidT h H).get? b = some o :=
  PySem.W.hideAll_get _ e fun hm => by
    have q : (H b).isSome = true := (List.mem_filter.mp hm).2
    rw [n] at q; simp at q
theorem of_hidT {h : Heap} {H : Hp} {b : Addr} {o : Obj} (e : (hidT h H).get? b = some o) : h.get? b = some o ∧ H b = none := by
  have e' : h.get? b = some o := PySem.W.of_hideAll (trk h H) e
  refine ⟨e', ?_⟩
  cases q : H b with
  | none => rfl
  | some x =>
    have hm : b ∈ trk h H := List.mem_filter.mpr ⟨List.mem_range.mpr (Heap.lt_size e'), by simp [q]⟩
    have z : (hidT h H).get? b = none := PySem.W.hideAll_none (trk h H) hm
    rw [z] at e; cases e
def allNews (g h : Heap) (L : Addr) : List (Addr × Obj) := (List.range h.objs.size).filterMap fun a => if a = L ∨ (g.get? a).isSome = true then none else (h.get? a).map fun o => (a, o)
def rest (g h : Heap) (L d : Addr) : List (Addr × Obj) := (allNews g h L).filter fun p => decide (p.1 ≠ d)
end L2
namespace L2
open PySem PySem.Spec PyProof.Rows
structure Mod (K : PySem.W.Frag) (mg : Str → Option Value) (base : Heap) : Prop where
  kin : K.In base
  glob : base.Ns mainGlobals mg
  blt : ∃ mb, base.Ns builtinsNs mb ∧ ∀ x : Str, x ≠ "__name__" → mb x = bootBuiltins x
  nolimit : base.NoLimit
structure Cx where
  prog : Program
  w : World
  K : PySem.W.Frag
  mg : Str → Option Value
  base : Heap
  A : Around
  N : List Str
  s₀ : Shared
  H₀ : Hp
  env : Env
  outer : List Env
  stack : List Env
  ex : List Addr
  fn : Str → Bool
  calm : Bool
  pn : List (Addr × Obj)
  xe : Value → Shared → Prop
def frs (l : List Env) : List Addr := l.filterMap (·.frame)
abbrev Cx.fs (X : Cx) : List Addr := frs X.outer
def Vis (sc : Scope) (x : Str) : Prop := sc.names.lookup x = some .local ∨ sc.names.lookup x = some .cell ∨ sc.names.lookup x = some .free
def Loc (sc : Scope) (x : Str) : Prop := sc.names.lookup x = some .local ∨ sc.names.lookup x = some .cell
def Look (env : Env) (h : Heap) (m : Str → Option Value) (x : Str) (u : Value) : Prop :=
  (env.kindOf x = some .local ∧ m x = some u) ∨ ((env.kindOf x = some .cell ∨ env.kindOf x = some .free) ∧ ∃ c, env.cells.lookup x = some c ∧ h.IsCell c (some u))
structure Cx.Ok (X : Cx) : Prop where
  mod : Mod X.K X.mg X.base
  kind : X.env.scope.kind = .function
  glob : X.env.globals = mainGlobals
  blt : X.env.builtins = builtinsNs
  above : X.s₀.heap.objs.size ≤ X.env.locals
  inj : ∀ x y c, X.env.cells.lookup x = some c → X.env.cells.lookup y = some c → x = y
  has : ∀ x, (X.env.kindOf x = some .cell ∨ X.env.kindOf x = some .free) → ∃ c, X.env.cells.lookup x = some c
  cab : ∀ x c, X.fn x = true → X.env.cells.lookup x = some c → X.s₀.heap.objs.size ≤ c
  hd : X.calm = true → X.A.handled = none
  frames : X.A.frames = some X.stack
  stk : X.stack = X.outer ∨ (X.stack = X.env :: X.outer ∧ X.env.frame = some X.env.locals)
  exf : ∀ b ∈ X.ex, b ≠ X.env.locals ∧ ∀ x c, X.env.cells.lookup x = some c → c ≠ b
  bs : ∀ b o, X.base.get? b = some o → X.s₀.heap.get? b = some o ∧ X.H₀ b = none
  bsz : X.base.objs.size ≤ X.s₀.heap.objs.size
  noex : ∀ b o, X.base.get? b = some o → b ∉ X.ex
  exfs : ∀ b ∈ X.ex, b ∉ X.fs
  funs : X.s₀.heap.FunFrames X.base X.outer
  frf : ∀ b ∈ X.fs, X.H₀ b = none
structure Inv (X : Cx) (pins : List (Addr × Obj)) (σ : List (Option V)) (H : Hp) (s : Shared) : Prop where
  ok : X.Ok
  os : s.os = X.s₀.os
  bare : AllBare s.gens
  base : Un X.fs X.ex X.H₀ H X.s₀.heap s.heap
  loc : ∃ m, s.heap.Ns X.env.locals m ∧ ∀ (i : Nat) (x : Str) (v : V), X.N[i]? = some x → σ[i]? = some (some v) → Vis X.env.scope x → ∃ u, RelV v u ∧ Look X.env s.heap m x u
  cell : ∀ x c, X.env.cells.lookup x = some c → ∃ v, s.heap.IsCell c v
  free : H X.env.locals = none
  freeC : ∀ x c, X.env.cells.lookup x = some c → H c = none
  pin : ∀ p ∈ X.pn ++ pins, s.heap.get? p.1 = some p.2 ∧ H p.1 = none ∧ p.1 ≠ X.env.locals ∧ p.1 ∉ X.fs ∧ ∀ v, p.2.data ≠ .cell v
  hok : HOk X.prog X.w H s.heap
  len : σ.length = X.N.length
section
variable {X : Cx} {pins : List (Addr × Obj)} {σ : List (Option V)} {H H' : Hp} {s : Shared} {h' : Heap}
theorem Cx.Ok.nofr (ok : X.Ok) {b : Addr} {o : Obj} (e : X.base.get? b = some o) : b ∉ X.fs := fun hb => by
  have := (ok.funs.mem hb).1
  rw [e] at this; cases this
theorem Inv.bs (I : Inv X pins σ H s) : ∀ b o, X.base.get? b = some o → s.heap.get? b = some o ∧ H b = none := fun b o e =>
  ⟨I.base.keep b o (I.ok.bs b o e).1 (I.ok.bs b o e).2 (I.ok.nofr e) (I.ok.noex b o e), I.base.free b o (I.ok.bs b o e).1 (I.ok.bs b o e).2 (I.ok.noex b o e)⟩
theorem Inv.bk (I : Inv X pins σ H s) : ∀ b o, X.base.get? b = some o → s.heap.get? b = some o := fun b o e => (I.bs b o e).1
theorem Inv.mod (I : Inv X pins σ H s) : Mod X.K X.mg X.base := I.ok.mod
theorem Inv.kIn (I : Inv X pins σ H s) : X.K.In s.heap := I.ok.mod.kin.keeps I.bk
theorem Inv.nolimit (I : Inv X pins σ H s) : s.heap.NoLimit := I.ok.mod.nolimit.keeps I.bk
theorem Inv.lt (I : Inv X pins σ H s) : X.env.locals < s.heap.objs.size := let ⟨_, hn, _⟩ := I.loc; hn.lt
theorem Inv.sz (I : Inv X pins σ H s) : X.s₀.heap.objs.size ≤ s.heap.objs.size := Nat.le_trans I.ok.above (Nat.le_of_lt I.lt)
theorem Inv.nofs (I : Inv X pins σ H s) {a : Addr} (h : s.heap.objs.size ≤ a) : a ∉ X.fs := fun hb => by
  obtain ⟨_, o, ho, _⟩ := I.ok.funs.mem hb
  exact absurd (Nat.lt_of_lt_of_le (Heap.lt_size ho) (Nat.le_trans I.sz h)) (Nat.lt_irrefl _)
theorem Inv.cne (I : Inv X pins σ H s) : ∀ x c, X.env.cells.lookup x = some c → c ≠ X.env.locals := fun x c e z => by
  obtain ⟨v, o, ho, hd⟩ := I.cell x c e
  obtain ⟨m, ⟨o', es, ep, ho', hd', _⟩, _⟩ := I.loc
  rw [z, ho'] at ho; cases ho; rw [hd'] at hd; cases hd
theorem Inv.funs (I : Inv X pins σ H s) : s.heap.FunFrames X.base X.outer := by
  have all : ∀ (l : List Env), (∀ b ∈ frs l, b ∈ X.fs) → X.s₀.heap.FunFrames X.base l → s.heap.FunFrames X.base l := by
    intro l
    induction l with
    | nil => intro _ _; trivial
    | cons env r ih =>
      intro hs hl
      obtain ⟨hk, ⟨L, o, hf, hn, ho, hd⟩, hr⟩ := hl
      have hL : L ∈ X.fs := hs L (by unfold frs; rw [List.filterMap_cons, hf]; exact List.mem_cons_self)
      obtain ⟨sl, e⟩ := I.base.slot L o ho (I.ok.frf L hL) hL fun z => I.ok.exfs L z hL
      exact ⟨hk, ⟨L, _, hf, hn, e, hd⟩, ih (fun b hb => hs b (by unfold frs; rw [List.filterMap_cons, hf]; exact List.mem_cons_of_mem _ hb)) hr⟩
  exact all X.outer (fun _ hb => hb) I.ok.funs
theorem Inv.stack (I : Inv X pins σ H s) : s.heap.FunFrames X.base X.stack := by
  rcases I.ok.stk with e | ⟨e, hf⟩
  · rw [e]; exact I.funs
  · rw [e]
    obtain ⟨m, hn, _⟩ := I.loc
    refine .cons (by rw [I.ok.kind]; decide) hf hn ?_ I.funs
    exact Heap.get?_none_of_le (Nat.le_trans I.ok.bsz I.ok.above)
theorem Inv.stkSub (I : Inv X pins σ H s) : ∀ b ∈ frs X.stack, b ∈ X.env.locals :: X.fs := fun b hb => by
  rcases I.ok.stk with e | ⟨e, hf⟩
  · rw [e] at hb; exact List.mem_cons_of_mem _ hb
  · rw [e] at hb
    unfold frs at hb
    rw [List.filterMap_cons, hf] at hb
    exact hb
theorem Inv.stkFree (I : Inv X pins σ H s) : ∀ b ∈ frs X.stack, H b = none := fun b hb => by
  rcases List.mem_cons.mp (I.stkSub b hb) with e | hb
  · rw [e]; exact I.free
  · obtain ⟨_, o, ho, _⟩ := I.ok.funs.mem hb
    exact I.base.free b o ho (I.ok.frf b hb) fun z => I.ok.exfs b z hb
theorem Inv.step {g' : Array GenState} {t' : Nat} {d' : Drawn} {ch : List Addr} (I : Inv X pins σ H s)
    (hch : ∀ b ∈ ch, (b ∈ X.ex ∨ X.s₀.heap.objs.size ≤ b) ∧ b ≠ X.env.locals ∧ (∀ x c, X.env.cells.lookup x = some c → c ≠ b) ∧ ∀ p ∈ X.pn ++ pins, p.1 ≠ b)
    (keep : ∀ b o, b ≠ X.env.locals → b ∉ X.fs → b ∉ ch → s.heap.get? b = some o → H b = none → h'.get? b = some o)
    (slot : ∀ b o, b ≠ X.env.locals → b ∈ X.fs → b ∉ ch → s.heap.get? b = some o → H b = none → ∃ sl, h'.get? b = some { o with slots := sl }) (free : ∀ b o, b ∉ ch → s.heap.get? b = some o → H b = none → H' b = none)
    (there : ∀ b o, b ∉ ch → s.heap.get? b = some o → ∃ o', h'.get? b = some o')
    (tups : ∀ b xs, H b = some (.tup xs) → H' b = some (.tup xs)) (frzs : ∀ b o u, H b = some (.frz o u) → H' b = some (.frz o u)) (tbls : ∀ b ps, H b = some (.tbl ps) → ∃ more, H' b = some (.tbl (ps ++ more)))
    (ns : ∀ m, s.heap.Ns X.env.locals m → h'.Ns X.env.locals m) (hok : HOk X.prog X.w H' h') (hg : AllBare g') :
    Inv X pins σ H' { s with heap := h', gens := g', drawn := d', toks := t' } := by
  have neL : ∀ b o, X.s₀.heap.get? b = some o → b ≠ X.env.locals := fun b o e => Nat.ne_of_lt (Nat.lt_of_lt_of_le (Heap.lt_size e) I.ok.above)
  have neC : ∀ b o, X.s₀.heap.get? b = some o → b ∉ X.ex → b ∉ ch := fun b o e hx hb => by
    rcases (hch b hb).1 with z | z
    · exact hx z
    · exact absurd (Nat.lt_of_lt_of_le (Heap.lt_size e) z) (Nat.lt_irrefl _)
  have cellK : ∀ x c, X.env.cells.lookup x = some c → ∀ v, s.heap.IsCell c v → h'.IsCell c v := fun x c e v ⟨o, ho, hd⟩ => by
    have nch : c ∉ ch := fun z => (hch c z).2.2.1 x c e rfl
    by_cases hc : c ∈ X.fs
    · obtain ⟨sl, q⟩ := slot c o (I.cne x c e) hc nch ho (I.freeC x c e)
      exact ⟨_, q, hd⟩
    · exact ⟨o, keep c o (I.cne x c e) hc nch ho (I.freeC x c e), hd⟩
  refine ⟨I.ok, I.os, hg, ⟨fun b o e n hb hx => ?_, fun b o e n hb hx => ?_, fun b o e n hx => ?_, fun b o e hx => ?_, fun b xs e => tups b xs (I.base.tups b xs e), fun b o xs e => frzs b o xs (I.base.frzs b o xs e), fun b ps e => ?_⟩, ?_, fun x c e => ?_, ?_, fun x c e => ?_, fun p hp => ?_, hok, I.len⟩
  · exact keep b o (neL b o e) hb (neC b o e hx) (I.base.keep b o e n hb hx) (I.base.free b o e n hx)
  · obtain ⟨sl, e1⟩ := I.base.slot b o e n hb hx
    obtain ⟨sl', e2⟩ := slot b _ (neL b o e) hb (neC b o e hx) e1 (I.base.free b o e n hx)
    exact ⟨sl', e2⟩
  · obtain ⟨o', e1⟩ := I.base.there b o e hx
    exact free b o' (neC b o e hx) e1 (I.base.free b o e n hx)
  · obtain ⟨o', e1⟩ := I.base.there b o e hx
    exact there b o' (neC b o e hx) e1
  · obtain ⟨m1, e1⟩ := I.base.tbls b ps e
    obtain ⟨m2, e2⟩ := tbls b _ e1
    exact ⟨m1 ++ m2, by rw [e2, Array.append_assoc]⟩
  · obtain ⟨m, hn, hl⟩ := I.loc
    refine ⟨m, ns m hn, fun i x v e1 e2 e3 => ?_⟩
    obtain ⟨u, r, l⟩ := hl i x v e1 e2 e3
    refine ⟨u, r, ?_⟩
    rcases l with l | ⟨k, c, e, z⟩
    · exact .inl l
    · exact .inr ⟨k, c, e, cellK x c e _ z⟩
  · obtain ⟨v, z⟩ := I.cell x c e
    exact ⟨v, cellK x c e v z⟩
  · obtain ⟨m, ⟨o, _, _, ho, _⟩, _⟩ := I.loc
    exact free _ o (fun z => (hch _ z).2.1 rfl) ho I.free
  · obtain ⟨v, o, ho, hd⟩ := I.cell x c e
    exact free c o (fun z => (hch c z).2.2.1 x c e rfl) ho (I.freeC x c e)
  · obtain ⟨e, n, ne, nf, d⟩ := I.pin p hp
    have nch : p.1 ∉ ch := fun z => (hch p.1 z).2.2.2 p hp rfl
    exact ⟨keep p.1 p.2 ne nf nch e n, free p.1 p.2 nch e n, ne, nf, d⟩
theorem Inv.un {t' : Nat} (I : Inv X pins σ H s) (u : Un X.fs [] H H' s.heap h') (hok : HOk X.prog X.w H' h') : Inv X pins σ H' { s with heap := h', toks := t' } := by
  obtain ⟨m, ⟨o, es, ep, ho, r⟩, _⟩ := id I.loc
  obtain ⟨sl, hL⟩ := u.any ho I.free (by simp)
  exact I.step (g' := s.gens) (d' := s.drawn) (ch := []) (fun _ z => nomatch z) (fun b o _ hb _ e n => u.keep b o e n hb (by simp)) (fun b o _ hb _ e n => u.slot b o e n hb (by simp)) (fun b o _ e n => u.free b o e n (by simp)) (fun b o _ e => u.there b o e (by simp)) u.tups u.frzs u.tbls (fun m' hm => by
    obtain ⟨o', es', ep', ho', r'⟩ := hm
    rw [ho] at ho'; cases ho'
    exact ⟨_, es', ep', hL, r'⟩) hok I.bare
theorem Inv.call {g' : Array GenState} {t' : Nat} {d' : Drawn} {ch : List Addr} (I : Inv X pins σ H s) (u : Un (frs X.stack) ch H H' s.heap h') (hok : HOk X.prog X.w H' h') (hg : AllBare g')
    (hch : ∀ b ∈ ch, (b ∈ X.ex ∨ X.s₀.heap.objs.size ≤ b) ∧ b ≠ X.env.locals ∧ (∀ x c, X.env.cells.lookup x = some c → c ≠ b) ∧ ∀ p ∈ X.pn ++ pins, p.1 ≠ b) :
    Inv X pins σ H' { s with heap := h', gens := g', drawn := d', toks := t' } := by
  obtain ⟨m, ⟨o, es, ep, ho, r⟩, _⟩ := id I.loc
  obtain ⟨sl, hL⟩ := u.any ho I.free fun z => (hch _ z).2.1 rfl
  exact I.step (ch := ch) hch (fun b o hL hb hc e n => u.keep b o e n (fun z => (List.mem_cons.mp (I.stkSub b z)).elim hL hb) hc) (fun b o _ _ hc e n => u.any e n hc) (fun b o hc e n => u.free b o e n hc) (fun b o hc e => u.there b o e hc) u.tups u.frzs u.tbls (fun m' hm => by
    obtain ⟨o', es', ep', ho', r'⟩ := hm
    rw [ho] at ho'; cases ho'
    exact ⟨_, es', ep', hL, r'⟩) hok hg
theorem Inv.turned {t' : Nat} {it : Addr} (I : Inv X pins σ H s) (k : ∀ b o, b ≠ it → s.heap.get? b = some o → h'.get? b = some o) (hn : H it = none) (hL : it ≠ X.env.locals)
    (h1 : it ∈ X.ex ∨ X.s₀.heap.objs.size ≤ it) (h2 : ∀ x c, X.env.cells.lookup x = some c → c ≠ it) (h3 : ∀ p ∈ X.pn ++ pins, p.1 ≠ it) : Inv X pins σ H { s with heap := h', toks := t' } := by
  have nit : ∀ b u, H b = some u → b ≠ it := fun b u e z => by rw [z, hn] at e; cases e
  refine I.step (g' := s.gens) (d' := s.drawn) (ch := [it]) (fun b hb => ?_) (fun b o _ _ hc e _ => k b o (fun z => hc (by simp [z])) e) (fun b o _ _ hc e _ => ⟨o.slots, k b o (fun z => hc (by simp [z])) e⟩) (fun _ _ _ _ n => n)
    (fun b o hc e => ⟨o, k b o (fun z => hc (by simp [z])) e⟩) (fun _ _ e => e) (fun _ _ _ e => e) (fun b ps e => ⟨#[], by rw [e]; simp⟩) (fun m hm => ?_) (fun b u e => ?_) I.bare
  · have e : b = it := by simpa using hb
    subst e
    exact ⟨h1, hL, h2, h3⟩
  · obtain ⟨o, es, ep, ho, r⟩ := hm
    exact ⟨o, es, ep, k _ o (Ne.symm hL) ho, r⟩
  · refine (I.hok b u e).stay (fun c v hc q => k c v ?_ q) (fun _ q => q) fun _ _ q => q
    rcases hc with z | z
    · rw [z]; exact nit b u e
    · exact nit c _ z
theorem Inv.tok (I : Inv X pins σ H s) (t : Nat) : Inv X pins σ H { s with toks := t } := I.un (h' := s.heap) (t' := t) Un.refl I.hok
theorem Inv.kept {t' : Nat} (I : Inv X pins σ H s) (k : ∀ b u, s.heap.get? b = some u → h'.get? b = some u) : Inv X pins σ H { s with heap := h', toks := t' } := I.un (Un.kept k) (I.hok.kept k)
theorem Inv.laid {a : Addr} {o : HO} {t' : Nat} (I : Inv X pins σ H s) (k : ∀ b u, s.heap.get? b = some u → h'.get? b = some u) (hp : s.heap.objs.size ≤ a) (new : ObjOk X.prog X.w (upd H a o) h' a o) :
    Inv X pins σ (upd H a o) { s with heap := h', toks := t' } := I.un (Un.laid k hp (I.hok.fresh hp)) (I.hok.laid k hp new)
theorem Inv.write {x e : Addr} {o : HO} {t' : Nat} (I : Inv X pins σ H s) (mu : Mut (H x)) (he : e = x ∨ H e = some (.own x)) (k : ∀ b u, b ≠ e → s.heap.get? b = some u → h'.get? b = some u) (heo : ∃ u, h'.get? e = some u)
    (new : ObjOk X.prog X.w (upd H x o) h' x o) : Inv X pins σ (upd H x o) { s with heap := h', toks := t' } := I.un (Un.write mu he k heo) (I.hok.write mu he k heo new)
theorem Inv.weak {σ' : List (Option V)} (I : Inv X pins σ H s) (hl : σ'.length = σ.length) (w : ∀ (i : Nat) v, σ'[i]? = some (some v) → σ[i]? = some (some v)) : Inv X pins σ' H s :=
  ⟨I.ok, I.os, I.bare, I.base, let ⟨m, hn, hl'⟩ := I.loc; ⟨m, hn, fun i x v e1 e2 e3 => hl' i x v e1 (w i v e2) e3⟩, I.cell, I.free, I.freeC, I.pin, I.hok, hl.trans I.len⟩
theorem Inv.pins_of {pins' : List (Addr × Obj)} (I : Inv X pins σ H s) (h : ∀ p ∈ pins', s.heap.get? p.1 = some p.2 ∧ H p.1 = none ∧ p.1 ≠ X.env.locals ∧ p.1 ∉ X.fs ∧ ∀ v, p.2.data ≠ .cell v) : Inv X pins' σ H s :=
  ⟨I.ok, I.os, I.bare, I.base, I.loc, I.cell, I.free, I.freeC, fun p hp => (List.mem_append.mp hp).elim (fun z => I.pin p (List.mem_append_left _ z)) (h p), I.hok, I.len⟩
theorem nodup_ix {N : List Str} (hN : N.Nodup) {i j : Nat} {x : Str} (a : N[i]? = some x) (b : N[j]? = some x) : i = j := by
  obtain ⟨h1, e1⟩ := List.getElem?_eq_some_iff.mp a
  obtain ⟨h2, e2⟩ := List.getElem?_eq_some_iff.mp b
  exact (List.getElem_inj hN).mp (e1.trans e2.symm)
theorem store_ok2 {M : Model} {A : Around} {E : Value → Shared → Prop} {i : Nat} {x : Str} {v : V} {u : Value} {Q : Unit → Shared → Prop} (I : Inv X pins σ H s) (hN : X.N.Nodup) (hi : X.N[i]? = some x) (hx : Loc X.env.scope x) (r : RelV v u)
    (h : ∀ s', Inv X pins (σ.set i (some v)) H s' → (∃ a, Heap.SameBut a s.heap s'.heap ∧ (a = X.env.locals ∨ X.env.cells.lookup x = some a)) → Q () s') (hf : X.fn x = true ∨ X.env.scope.names.lookup x = some .local := by first | exact .inl rfl | exact .inr rfl | assumption) : wpAny M A (storeName X.env x u) Q E s := by
  obtain ⟨m, hn, hl⟩ := id I.loc
  have hcls : (X.env.scope.kind == .class || (X.env.scope.kind == .module && X.env.locals != X.env.globals)) = false := by rw [I.ok.kind]; rfl
  have hiσ : i < σ.length := by rw [I.len]; exact (List.getElem?_eq_some_iff.mp hi).1
  have cne := I.cne
  have tracked : ∀ {a : Addr} {h' : Heap}, (∃ o, s.heap.get? a = some o ∧ H a = none) → Heap.SameBut a s.heap h' → HOk X.prog X.w H h' := fun {a h'} ha hs b ob e => by
    obtain ⟨_, _, hfree⟩ := ha
    refine (I.hok b ob e).stay (fun c w' hc q => (hs.2 c ?_).trans q) (fun _ q => q) fun _ _ q => q
    rintro rfl
    rcases hc with rfl | hc
    · rw [hfree] at e; cases e
    · rw [hfree] at hc; cases hc
  rcases hx with hk | hk
  · refine wpAny_storeName_local hk hn (fun h' hn' hs => ?_) hcls
    obtain ⟨oL, _, _, hoL, _⟩ := id hn
    refine h _ ⟨I.ok, I.os, I.bare, ⟨fun b o e n hb hx => ?_, fun b o e n hb hx => ?_, I.base.free, fun b o e hx => ?_, I.base.tups, I.base.frzs, I.base.tbls⟩, ⟨_, hn', fun j y v' e1 e2 e3 => ?_⟩, fun y c e => ?_, I.free, I.freeC, fun p hp => ?_, tracked ⟨oL, hoL, I.free⟩ hs, by simpa using I.len⟩ ⟨_, hs, .inl rfl⟩
    · exact (hs.2 b (Nat.ne_of_lt (Nat.lt_of_lt_of_le (Heap.lt_size e) I.ok.above))).trans (I.base.keep b o e n hb hx)
    · obtain ⟨sl, e1⟩ := I.base.slot b o e n hb hx
      exact ⟨sl, (hs.2 b (Nat.ne_of_lt (Nat.lt_of_lt_of_le (Heap.lt_size e) I.ok.above))).trans e1⟩
    · obtain ⟨o', e1⟩ := I.base.there b o e hx
      exact ⟨o', (hs.2 b (Nat.ne_of_lt (Nat.lt_of_lt_of_le (Heap.lt_size e) I.ok.above))).trans e1⟩
    · by_cases hj : j = i
      · subst hj
        rw [hi] at e1; cases e1
        rw [List.getElem?_set_self hiσ] at e2
        cases e2
        exact ⟨u, r, .inl ⟨hk, by simp⟩⟩
      · rw [List.getElem?_set_ne (Ne.symm hj)] at e2
        obtain ⟨u', r', q⟩ := hl j y v' e1 e2 e3
        refine ⟨u', r', ?_⟩
        rcases q with ⟨k, e⟩ | ⟨k, c, e, z⟩
        · refine .inl ⟨k, ?_⟩
          have : y ≠ x := fun e => hj (nodup_ix hN e1 (e ▸ hi))
          simp [this, e]
        · exact .inr ⟨k, c, e, z.sameBut hs (cne y c e)⟩
    · obtain ⟨w', z⟩ := I.cell y c e
      exact ⟨w', z.sameBut hs (cne y c e)⟩
    · obtain ⟨e, n, ne, nf, d⟩ := I.pin p hp
      exact ⟨(hs.2 p.1 ne).trans e, n, ne, nf, d⟩
  · have hfn : X.fn x = true := by
      rcases hf with z | z
      · exact z
      · rw [z] at hk; cases hk
    obtain ⟨c, hc⟩ := I.ok.has x (.inl hk)
    obtain ⟨w', z⟩ := I.cell x c hc
    refine wpAny_storeName_cell I.ok.kind hk hc z (fun h' hc' hs => ?_)
    obtain ⟨oc, hoc, hocd⟩ := id z
    refine h { s with heap := h' } ⟨I.ok, I.os, I.bare, ⟨fun b o e n hb hx => ?_, fun b o e n hb hx => ?_, I.base.free, fun b o e hx => ?_, I.base.tups, I.base.frzs, I.base.tbls⟩, ⟨m, hn.sameBut hs (Ne.symm (cne x c hc)), fun j y v' e1 e2 e3 => ?_⟩, fun y c' e => ?_, I.free, I.freeC, fun p hp => ?_, tracked ⟨oc, hoc, I.freeC x c hc⟩ hs, by simpa using I.len⟩ ⟨c, hs, .inr hc⟩
    · exact (hs.2 b (Nat.ne_of_lt (Nat.lt_of_lt_of_le (Heap.lt_size e) (I.ok.cab x c hfn hc)))).trans (I.base.keep b o e n hb hx)
    · obtain ⟨sl, e1⟩ := I.base.slot b o e n hb hx
      exact ⟨sl, (hs.2 b (Nat.ne_of_lt (Nat.lt_of_lt_of_le (Heap.lt_size e) (I.ok.cab x c hfn hc)))).trans e1⟩
    · obtain ⟨o', e1⟩ := I.base.there b o e hx
      exact ⟨o', (hs.2 b (Nat.ne_of_lt (Nat.lt_of_lt_of_le (Heap.lt_size e) (I.ok.cab x c hfn hc)))).trans e1⟩
    · by_cases hj : j = i
      · subst hj
        rw [hi] at e1; cases e1
        rw [List.getElem?_set_self hiσ] at e2
        cases e2
        exact ⟨u, r, .inr ⟨.inl hk, c, hc, hc'⟩⟩
      · rw [List.getElem?_set_ne (Ne.symm hj)] at e2
        obtain ⟨u', r', q⟩ := hl j y v' e1 e2 e3
        refine ⟨u', r', ?_⟩
        rcases q with q | ⟨k, c', e, z'⟩
        · exact .inl q
        · refine .inr ⟨k, c', e, z'.sameBut hs ?_⟩
          rintro rfl
          exact hj (nodup_ix hN e1 (I.ok.inj _ _ _ e hc ▸ hi))
    · by_cases hcc : c' = c
      · subst hcc; exact ⟨_, hc'⟩
      · obtain ⟨w2, z2⟩ := I.cell y c' e
        exact ⟨w2, z2.sameBut hs hcc⟩
    · obtain ⟨e, n, ne, nf, d⟩ := I.pin p hp
      refine ⟨(hs.2 p.1 ?_).trans e, n, ne, nf, d⟩
      intro q
      rw [q, hoc] at e
      have q' : oc = p.2 := Option.some.inj e
      exact d w' (by rw [← q']; exact hocd)
theorem store_ok {M : Model} {A : Around} {E : Value → Shared → Prop} {i : Nat} {x : Str} {v : V} {u : Value} {Q : Unit → Shared → Prop} (I : Inv X pins σ H s) (hN : X.N.Nodup) (hi : X.N[i]? = some x) (hx : Loc X.env.scope x) (r : RelV v u)
    (h : ∀ s', Inv X pins (σ.set i (some v)) H s' → Q () s') (hf : X.fn x = true ∨ X.env.scope.names.lookup x = some .local := by first | exact .inl rfl | exact .inr rfl | assumption) : wpAny M A (storeName X.env x u) Q E s :=
  store_ok2 I hN hi hx r (fun s' I' _ => h s' I') hf
theorem Inv.call' {s' : Shared} {ch : List Addr} (I : Inv X pins σ H s) (ho : s'.os = s.os) (u : Un (frs X.stack) ch H H' s.heap s'.heap) (hok : HOk X.prog X.w H' s'.heap) (hg : AllBare s'.gens)
    (hch : ∀ b ∈ ch, (b ∈ X.ex ∨ X.s₀.heap.objs.size ≤ b) ∧ b ≠ X.env.locals ∧ (∀ x c, X.env.cells.lookup x = some c → c ≠ b) ∧ ∀ p ∈ X.pn ++ pins, p.1 ≠ b) : Inv X pins σ H' s' := by
  obtain ⟨h', g', d', t', o'⟩ := s'
  have e : o' = s.os := ho
  subst e
  exact I.call (g' := g') (t' := t') (d' := d') u hok hg hch
end
abbrev XK := Value → Option Addr → Hp → Prop
abbrev St := List (Option V)
abbrev VK := V → Hp → Prop
abbrev TE := St → Hp → VK → Prop
abbrev TT := St → Hp → (Bool → Hp → Prop) → Prop
abbrev TA := St → Hp → (List V → Hp → Prop) → Prop
structure Ends where
  nx : St → Hp → Prop
  rt : VK
  bk : St → Hp → Prop := fun _ _ => False
  ct : St → Hp → Prop := fun _ _ => False
abbrev TS := Ends → St → Hp → Prop
def EP (X : Cx) (pins : List (Addr × Obj)) (σ : St) (Q : VK) (u : Value) (s' : Shared) : Prop := ∃ v H', Inv X pins σ H' s' ∧ RelV v u ∧ Q v H'
def TP (X : Cx) (pins : List (Addr × Obj)) (σ : St) (Q : Bool → Hp → Prop) (b : Bool) (s' : Shared) : Prop := ∃ H', Inv X pins σ H' s' ∧ Q b H'
def AP (X : Cx) (pins : List (Addr × Obj)) (σ : St) (Q : List V → Hp → Prop) (us : List Value) (s' : Shared) : Prop := ∃ vs H', Inv X pins σ H' s' ∧ Vals vs us ∧ Q vs H'
def SP (X : Cx) (pins : List (Addr × Obj)) (D : Ends) (f : Flow) (s' : Shared) : Prop :=
  match f with
  | .next => ∃ σ' H', Inv X pins σ' H' s' ∧ D.nx σ' H'
  | .brk => ∃ σ' H', Inv X pins σ' H' s' ∧ D.bk σ' H'
  | .cont => ∃ σ' H', Inv X pins σ' H' s' ∧ D.ct σ' H'
  | .ret u => ∃ v σ' H', Inv X pins σ' H' s' ∧ RelV v u ∧ D.rt v H'
def PE (X : Cx) (e : Expr) (t : TE) : Prop :=
  ∀ (pins : List (Addr × Obj)) (s : Shared) (σ : St) (H : Hp) (Q : VK), Inv X pins σ H s → t σ H Q → wpAny (model X.prog X.w) X.A (eval e X.env) (EP X pins σ Q) X.xe s
def PT (X : Cx) (e : Expr) (t : TT) : Prop :=
  ∀ (pins : List (Addr × Obj)) (s : Shared) (σ : St) (H : Hp) (Q : Bool → Hp → Prop), Inv X pins σ H s → t σ H Q → wpAny (model X.prog X.w) X.A (isTrue e X.env (eval e X.env)) (TP X pins σ Q) X.xe s
def PW (X : Cx) (e : Expr) (t : TT) : Prop :=
  ∀ (whole : Sem Value) (pins : List (Addr × Obj)) (s : Shared) (σ : St) (H : Hp) (Q : Bool → Hp → Prop), Inv X pins σ H s → t σ H Q → wpAny (model X.prog X.w) X.A (isTrue e X.env whole) (TP X pins σ Q) X.xe s
theorem PW.pt {X : Cx} {e : Expr} {t : TT} (h : PW X e t) : PT X e t := h _
def PA (X : Cx) (es : List Expr) (t : TA) : Prop :=
  ∀ (pos : Pos) (pins : List (Addr × Obj)) (s : Shared) (σ : St) (H : Hp) (Q : List V → Hp → Prop), Inv X pins σ H s → t σ H Q → wpAny (model X.prog X.w) X.A (spliced (backTo pos (starEach es X.env))) (AP X pins σ Q) X.xe s
def PS (X : Cx) (st : Stmt) (t : TS) : Prop :=
  ∀ (pins : List (Addr × Obj)) (s : Shared) (σ : St) (H : Hp) (D : Ends), Inv X pins σ H s → t D σ H → wpAny (model X.prog X.w) X.A (exec st X.env) (SP X pins D) X.xe s
def PSs (X : Cx) (st : List Stmt) (t : TS) : Prop :=
  ∀ (pins : List (Addr × Obj)) (s : Shared) (σ : St) (H : Hp) (D : Ends), Inv X pins σ H s → t D σ H → wpAny (model X.prog X.w) X.A (execs st X.env) (SP X pins D) X.xe s
theorem thn {α : Type} {t : Sem α} {Q Q' : α → Shared → Prop} {M : Model} {A : Around} {E : Value → Shared → Prop} {s : Shared} (h : wpAny M A t Q E s) (hQ : ∀ a s, Q a s → Q' a s) : wpAny M A t Q' E s := wpAny_mono h hQ fun _ _ x => x
end L2
namespace L2
open PySem PySem.Spec PyProof.Rows
section
variable {X : Cx}
def tVar (i : Nat) : TE := fun σ H Q => ∃ v, σ[i]? = some (some v) ∧ Q v H
def tC (v : V) : TE := fun _ H Q => Q v H
theorem pe_var {i : Nat} {x : Str} {pos : Pos} (hN : X.N[i]? = some x) (hv : Vis X.env.scope x) (hd : (x == ("__debug__" : Str)) = false := by decide) (hcd : (x == ("__classdict__" : Str)) = false := by decide) : PE X (.Name x pos) (tVar i) := by
  intro pins s σ H Q I h
  obtain ⟨v, e, h⟩ := h
  obtain ⟨m, hn, hl⟩ := I.loc
  obtain ⟨u, r, l⟩ := hl i x v hN e hv
  have fin : EP X pins σ Q u s := ⟨v, H, I, r, h⟩
  rcases l with ⟨hk, hm⟩ | ⟨hk, c, hc, hcell⟩
  · exact wpAny_Name (wpAny_loadName_local I.ok.kind hk hn hm fin) hd
  · rcases hk with hk | hk
    · exact wpAny_Name (wpAny_loadName_cell I.ok.kind hk hc hcell fin) hd
    · exact wpAny_Name (wpAny_loadName_free I.ok.kind hk hc hcell fin hcd) hd
theorem pe_int {i j pos} : PE X (.Constant (.int i) j pos) (tC (.int i)) := fun _ _ _ H _ I h => wpAny_Constant_int ⟨.int i, H, I.tok _, ⟨_, rfl⟩, h⟩
theorem pe_bl {b j pos} : PE X (.Constant (.bool b) j pos) (tC (.bl b)) := fun _ _ _ H _ I h => Constant_bool ⟨.bl b, H, I, rfl, h⟩
theorem pe_non {j pos} : PE X (.Constant .none j pos) (tC .non) := fun _ _ _ H _ I h => Constant_none ⟨.non, H, I, rfl, h⟩
def Gl (X : Cx) (x : Str) : Prop := X.env.kindOf x = some .globalImplicit
theorem ld_glob {E : Value → Shared → Prop} {pins : List (Addr × Obj)} {s : Shared} {σ : St} {H : Hp} {x : Str} {u : Value} {pos : Pos} {Q : Value → Shared → Prop} (I : Inv X pins σ H s) (hg : Gl X x) (hm : X.mg x = some u) (h : Q u s)
    (hd : (x == ("__debug__" : Str)) = false := by decide) : wpAny (model X.prog X.w) X.A (eval (.Name x pos) X.env) Q E s :=
  Calls.Name_function_global I.ok.kind hg (Calls.loadGlobal_global (by rw [I.ok.glob]; exact I.mod.glob.keeps I.bk) hm h) hd
theorem ld_blt {E : Value → Shared → Prop} {pins : List (Addr × Obj)} {s : Shared} {σ : St} {H : Hp} {x : Str} {u : Value} {pos : Pos} {Q : Value → Shared → Prop} (I : Inv X pins σ H s) (hg : Gl X x) (hm : X.mg x = none) (hv : bootBuiltins x = some u) (h : Q u s)
    (hn : x ≠ "__name__" := by decide) (hd : (x == ("__debug__" : Str)) = false := by decide) : wpAny (model X.prog X.w) X.A (eval (.Name x pos) X.env) Q E s := by
  obtain ⟨mb, h1, h2⟩ := I.mod.blt
  exact Calls.Name_function_global I.ok.kind hg (Calls.loadGlobal_builtin (by rw [I.ok.glob]; exact I.mod.glob.keeps I.bk) hm (by rw [I.ok.blt]; exact h1.keeps I.bk) ((h2 x hn).trans hv) h) hd
theorem pe_bltn {x : Str} {v : V} {u : Value} {pos : Pos} (hg : Gl X x) (hm : X.mg x = none) (hv : bootBuiltins x = some u) (r : RelV v u) (hn : x ≠ "__name__" := by decide) (hd : (x == ("__debug__" : Str)) = false := by decide) : PE X (.Name x pos) (tC v) :=
  fun _ _ _ H _ I h => ld_blt I hg hm hv ⟨v, H, I, r, h⟩ hn hd
variable {a b : Expr} {ta tb : TE} {pos : Pos}
def PC (X : Cx) (op : CmpOp) (a b : Expr) (t : TE) : Prop :=
  ∀ (pins : List (Addr × Obj)) (s : Shared) (σ : St) (H : Hp) (Q : VK), Inv X pins σ H s → t σ H Q →
    wpAny (model X.prog X.w) X.A (eval a X.env) (fun v s₁ => wpAny (model X.prog X.w) X.A (eval b X.env) (fun u s₂ => wpAny (model X.prog X.w) X.A (compareOp op v u) (EP X pins σ Q) X.xe s₂) X.xe s₁) X.xe s
theorem nobehind (b : Expr) {op : CmpOp} (h : op ≠ .In) (h2 : op ≠ .NotIn) : behindInMarks op b = false := by
  have e1 : (op == CmpOp.In) = false := by cases op <;> first | rfl | exact absurd rfl h
  have e2 : (op == CmpOp.NotIn) = false := by cases op <;> first | rfl | exact absurd rfl h2
  cases b <;> simp [behindInMarks, e1, e2]
def tB (t : TE) : TT := fun σ H Q => t σ H fun x H1 => ∃ c, x = .bl c ∧ Q c H1
theorem pt_cmp {op : CmpOp} {t : TE} (h : PC X op a b t) (h1 : behindInMarks op b = false := by first | exact nobehind _ (by decide) (by decide) | rfl) : PT X (.Compare a [op] [b] pos) (tB t) := by
  intro pins s σ H Q I hw
  refine wpAny_isTrue_Compare1 (thn (h pins s σ H _ I hw) fun v s1 h1 => thn h1 fun u s2 h2 => thn h2 fun c s3 ⟨x, H1, I1, r1, q1⟩ => ?_) h1
  obtain ⟨d, rfl, q⟩ := q1
  cases r1
  exact wpAny_truthy_bool ⟨H1, I1, q⟩
theorem pt_val {e : Expr} {t : TE} (h : PE X e t) (he : ∀ whole, isTrue e X.env whole = (do let v ← whole; standAt e.pos; holding [v] (truthy v)) := by intro _; rfl) : PT X e (tB t) := by
  intro pins s σ H Q I hw
  refine isTrue_plain (thn (h pins s σ H _ I hw) fun v s1 ⟨x, H1, I1, r1, q1⟩ => ?_) (he _)
  obtain ⟨d, rfl, q⟩ := q1
  cases r1
  exact wpAny_truthy_bool ⟨H1, I1, q⟩
variable {tA tB' : TT} {rest : List Expr}
def tAnd (t u : TT) : TT := fun σ H Q => t σ H fun c H1 => if c = true then u σ H1 Q else Q false H1
def tOr (t u : TT) : TT := fun σ H Q => t σ H fun c H1 => if c = true then Q true H1 else u σ H1 Q
def tNot (t : TT) : TT := fun σ H Q => t σ H fun c H1 => Q (!c) H1
theorem pw_and1 (ha : PT X a tA) : PW X (.BoolOp .And [a] pos) tA := by
  intro wh pins s σ H Q I h
  refine isTrue_and (thn (ha pins s σ H Q I h) fun c s1 e => ?_)
  cases c with
  | true => exact isTrue_and_nil e
  | false => exact e
theorem pw_or1 (ha : PT X a tA) : PW X (.BoolOp .Or [a] pos) tA := by
  intro wh pins s σ H Q I h
  refine isTrue_or (thn (ha pins s σ H Q I h) fun c s1 e => ?_)
  cases c with
  | false => exact isTrue_or_nil e
  | true => exact e
theorem pw_and (ha : PT X a tA) (hb : PW X (.BoolOp .And (b :: rest) pos) tB') : PW X (.BoolOp .And (a :: b :: rest) pos) (tAnd tA tB') := by
  intro wh pins s σ H Q I h
  refine isTrue_and (thn (ha pins s σ H _ I h) fun c s1 ⟨H1, I1, q1⟩ => ?_)
  cases c with
  | true => exact hb wh pins s1 σ H1 Q I1 q1
  | false => exact ⟨H1, I1, q1⟩
theorem pw_or (ha : PT X a tA) (hb : PW X (.BoolOp .Or (b :: rest) pos) tB') : PW X (.BoolOp .Or (a :: b :: rest) pos) (tOr tA tB') := by
  intro wh pins s σ H Q I h
  refine isTrue_or (thn (ha pins s σ H _ I h) fun c s1 ⟨H1, I1, q1⟩ => ?_)
  cases c with
  | true => exact ⟨H1, I1, q1⟩
  | false => exact hb wh pins s1 σ H1 Q I1 q1
theorem pt_not (ha : PT X a tA) : PT X (.UnaryOp .Not a pos) (tNot tA) := by
  intro pins s σ H Q I h
  exact isTrue_not (ha pins s σ H (fun c H1 => Q (!c) H1) I h)
end
end L2
namespace L2
open PySem PySem.Spec PyProof.Rows
def SqL (K : PySem.W.Frag) (H : Hp) (a : Addr) (xs : List V) : Prop :=
  Rd H a (.lst xs) ∨
    ∃ (o : Obj) (its : Array Value) (n : Nat), K.lookup a = some o ∧ o.cls = .type "list" ∧ o.dict = none ∧ o.data = .seq its n ∧ its.size ≤ sizeLine ∧ Vals xs its.toList
def SqT (K : PySem.W.Frag) (H : Hp) (a : Addr) (xs : List V) : Prop :=
  Rd H a (.tup xs) ∨
    ∃ (o : Obj) (its : Array Value) (n : Nat), K.lookup a = some o ∧ o.cls = .type "tuple" ∧ o.data = .seq its n ∧ its.size ≤ sizeLine ∧ Vals xs its.toList
def absV : Value → Option V
  | .none => some .non
  | .bool b => some (.bl b)
  | .int i _ => some (.int i)
  | .str x _ => some (.str x)
  | .bytes b _ => some (.byt b)
  | .float b _ => some (.flt b)
  | .ref a => some (.ref a)
  | .type n => some (.ty n)
  | _ => none
theorem RelV.abs {x : V} {u : Value} (r : RelV x u) : absV u = some x := by
  cases x with
  | non => cases r; rfl
  | bl _ => cases r; rfl
  | int _ => obtain ⟨t, rfl⟩ := r; rfl
  | str _ => obtain ⟨t, rfl⟩ := r; rfl
  | byt _ => obtain ⟨t, rfl⟩ := r; rfl
  | flt _ => obtain ⟨t, rfl⟩ := r; rfl
  | ref _ => cases r; rfl
  | ty _ => cases r; rfl
theorem RelV.inj {x y : V} {u : Value} (r : RelV x u) (q : RelV y u) : x = y := Option.some.inj (r.abs.symm.trans q.abs)
theorem Vals.inj : ∀ {xs ys : List V} {us : List Value}, Vals xs us → Vals ys us → xs = ys
  | _, _, _, .nil, .nil => rfl
  | _, _, _, .cons r t, .cons r' t' => by rw [r.inj r', Vals.inj t t']
section
variable {X : Cx} {pins : List (Addr × Obj)} {σ : St} {H : Hp} {s : Shared} {a : Addr} {xs ys : List V}
theorem SqL.of {K : PySem.W.Frag} (h : H a = some (.lst xs)) : SqL K H a xs := .inl (.inl h)
theorem SqT.of {K : PySem.W.Frag} (h : H a = some (.tup xs)) : SqT K H a xs := .inl (.inl h)
theorem Inv.list (I : Inv X pins σ H s) (h : SqL X.K H a xs) : ∃ its : List Value, Vals xs its ∧ PlainL s.heap a its.toArray ∧ xs.length ≤ sizeLine := by
  rcases h with h | ⟨o, its, n, hk, hc, hd, hs, hz, r⟩
  · obtain ⟨z, its, n, r, e⟩ := h.ok I.hok
    exact ⟨its, r, ⟨_, n, e, rfl, rfl, rfl⟩, z⟩
  · refine ⟨its.toList, r, ⟨o, n, I.kIn a o hk, hc, hd, by simpa using hs⟩, ?_⟩
    have e := r.length
    simp only [Array.length_toList] at e
    omega
theorem Inv.tuple (I : Inv X pins σ H s) (h : SqT X.K H a xs) : ∃ its : List Value, Vals xs its ∧ IsTup s.heap a its.toArray ∧ xs.length ≤ sizeLine := by
  rcases h with h | ⟨o, its, n, hk, hc, hs, hz, r⟩
  · obtain ⟨z, its, r, p⟩ := h.ok I.hok
    exact ⟨its, r, p, z⟩
  · refine ⟨its.toList, r, ⟨o, I.kIn a o hk, hc, n, by simpa using hs⟩, ?_⟩
    have e := r.length
    simp only [Array.length_toList] at e
    omega
theorem Inv.list_inj (I : Inv X pins σ H s) (h : SqL X.K H a xs) (h' : SqL X.K H a ys) : xs = ys := by
  obtain ⟨its, r, ⟨o, n, e, _, _, d⟩, _⟩ := I.list h
  obtain ⟨its', r', ⟨o', n', e', _, _, d'⟩, _⟩ := I.list h'
  rw [e] at e'; cases e'
  rw [d] at d'
  injection d' with d1 _
  have : its = its' := by simpa using congrArg Array.toList d1
  subst this
  exact r.inj r'
theorem Inv.tuple_inj (I : Inv X pins σ H s) (h : SqT X.K H a xs) (h' : SqT X.K H a ys) : xs = ys := by
  obtain ⟨its, r, ⟨o, e, _, n, d⟩, _⟩ := I.tuple h
  obtain ⟨its', r', ⟨o', e', _, n', d'⟩, _⟩ := I.tuple h'
  rw [e] at e'; cases e'
  rw [d] at d'
  injection d' with d1 _
  have : its = its' := by simpa using congrArg Array.toList d1
  subst this
  exact r.inj r'
end
abbrev Cx.wish (X : Cx) (E : Value → Shared → Prop) : Cx := { X with xe := E }
abbrev Cx.nox (X : Cx) : Cx := X.wish fun _ _ => False
theorem Cx.Ok.wish {X : Cx} (ok : X.Ok) (E : Value → Shared → Prop) : (X.wish E).Ok :=
  ⟨ok.mod, ok.kind, ok.glob, ok.blt, ok.above, ok.inj, ok.has, ok.cab, ok.hd, ok.frames, ok.stk, ok.exf, ok.bs, ok.bsz, ok.noex, ok.exfs, ok.funs, ok.frf⟩
theorem Cx.Ok.unwish {X : Cx} {E : Value → Shared → Prop} (ok : (X.wish E).Ok) : X.Ok :=
  ⟨ok.mod, ok.kind, ok.glob, ok.blt, ok.above, ok.inj, ok.has, ok.cab, ok.hd, ok.frames, ok.stk, ok.exf, ok.bs, ok.bsz, ok.noex, ok.exfs, ok.funs, ok.frf⟩
section
variable {X : Cx} {pins : List (Addr × Obj)} {σ : St} {H : Hp} {s : Shared} {E : Value → Shared → Prop}
theorem Inv.wish (I : Inv X pins σ H s) (E : Value → Shared → Prop) : Inv (X.wish E) pins σ H s := ⟨I.ok.wish E, I.os, I.bare, I.base, I.loc, I.cell, I.free, I.freeC, I.pin, I.hok, I.len⟩
theorem Inv.unwish (I : Inv (X.wish E) pins σ H s) : Inv X pins σ H s := ⟨I.ok.unwish, I.os, I.bare, I.base, I.loc, I.cell, I.free, I.freeC, I.pin, I.hok, I.len⟩
theorem SP.unwish {D : Ends} {f : Flow} {s' : Shared} (h : SP (X.wish E) pins D f s') : SP X pins D f s' := by
  cases f with
  | next => obtain ⟨σ', H', I, q⟩ := h; exact ⟨σ', H', I.unwish, q⟩
  | brk => obtain ⟨σ', H', I, q⟩ := h; exact ⟨σ', H', I.unwish, q⟩
  | cont => obtain ⟨σ', H', I, q⟩ := h; exact ⟨σ', H', I.unwish, q⟩
  | ret u => obtain ⟨v, σ', H', I, r, q⟩ := h; exact ⟨v, σ', H', I.unwish, r, q⟩
theorem PE.nox {e : Expr} {t : TE} (h : PE X.nox e t) : PE X e t := fun pins s σ H Q I hw =>
  wpAny_mono (h pins s σ H Q (I.wish _) hw) (fun _ _ ⟨v, H', I', r, q⟩ => ⟨v, H', I'.unwish, r, q⟩) fun _ _ z => False.elim z
theorem PT.nox {e : Expr} {t : TT} (h : PT X.nox e t) : PT X e t := fun pins s σ H Q I hw =>
  wpAny_mono (h pins s σ H Q (I.wish _) hw) (fun _ _ ⟨H', I', q⟩ => ⟨H', I'.unwish, q⟩) fun _ _ z => False.elim z
theorem PSs.nox {st : List Stmt} {t : TS} (h : PSs X.nox st t) : PSs X st t := fun pins s σ H D I hw =>
  wpAny_mono (h pins s σ H D (I.wish _) hw) (fun _ _ q => q.unwish) fun _ _ z => False.elim z
end
section
variable {X : Cx} {st : Stmt} {rest : List Stmt} {t u : TS} {e : Expr} {te : TE} {pos : Pos}
def tNext : TS := fun D σ H => D.nx σ H
def tSeq (t u : TS) : TS := fun D σ H => t { D with nx := u D } σ H
theorem pss_nil : PSs X [] tNext := fun _ _ σ H _ I h => wpAny_execs_nil ⟨σ, H, I, h⟩
theorem pss_cons (h1 : PS X st t) (h2 : PSs X rest u) : PSs X (st :: rest) (tSeq t u) := by
  intro pins s σ H D I h
  refine wpAny_execs_cons (thn (h1 pins s σ H { D with nx := u D } I h) fun f s1 q => ?_)
  cases f with
  | next =>
    obtain ⟨σ', H', I', q⟩ := q
    exact h2 pins s1 σ' H' D I' q
  | ret v => exact q
  | brk => exact q
  | cont => exact q
theorem pss_one (h1 : PS X st t) : PSs X [st] t := by
  intro pins s σ H D I h
  refine wpAny_execs_cons (thn (h1 pins s σ H D I h) fun f s1 q => ?_)
  cases f with
  | next => exact wpAny_execs_nil q
  | ret v => exact q
  | brk => exact q
  | cont => exact q
theorem Inv.quiet {pins : List (Addr × Obj)} {σ : St} {H : Hp} {s : Shared} (I : Inv X pins σ H s) : interactive X.env = false := by simp [interactive, I.ok.kind]
def tDrop (te : TE) : TS := fun D σ H => te σ H fun _ H1 => D.nx σ H1
theorem ps_expr (he : PE X e te) (hs : swapsWith e none pos.line X.env = pure false := by rfl) : PS X (.Expr e pos) (tDrop te) := by
  intro pins s σ H D I h
  exact wpAny_Expr_any (thn (he pins s σ H _ I h) fun v s1 ⟨x, H1, I1, r1, q1⟩ => ⟨σ, H1, I1, q1⟩) I.quiet hs
def tRet (te : TE) : TS := fun D σ H => te σ H D.rt
theorem ps_ret (he : PE X e te) : PS X (.Return (some e) pos) (tRet te) := by
  intro pins s σ H D I h
  exact wpAny_Return_some (thn (he pins s σ H _ I h) fun v s1 ⟨x, H1, I1, r1, q1⟩ => ⟨x, σ, H1, I1, r1, q1⟩)
def tIfS (c : TT) (t u : TS) : TS := fun D σ H => c σ H fun b H1 => if b = true then t D σ H1 else u D σ H1
theorem ps_if {c : Expr} {a b : List Stmt} {tc : TT} (hc : PT X c tc) (ha : PSs X a t) (hb : PSs X b u) : PS X (.If c a b pos) (tIfS tc t u) := by
  intro pins s σ H D I h
  refine wpAny_If (thn (hc pins s σ H _ I h) fun d s1 ⟨H1, I1, q1⟩ => ?_)
  cases d with
  | true => exact ha pins s1 σ H1 D I1 q1
  | false => exact hb pins s1 σ H1 D I1 q1
end
abbrev TG := V → St → Hp → (St → Hp → Prop) → Prop
abbrev TGs := List V → St → Hp → (St → Hp → Prop) → Prop
def PG (X : Cx) (target : Expr) (t : TG) : Prop :=
  ∀ (pins : List (Addr × Obj)) (s : Shared) (σ : St) (H : Hp) (v : V) (u : Value) (Q : St → Hp → Prop), Inv X pins σ H s → RelV v u → t v σ H Q →
    wpAny (model X.prog X.w) X.A (assign target X.env u) (fun _ s' => ∃ σ' H', Inv X pins σ' H' s' ∧ Q σ' H') X.xe s
def PGs (X : Cx) (ts : List Expr) (t : TGs) : Prop :=
  ∀ (pins : List (Addr × Obj)) (s : Shared) (σ : St) (H : Hp) (vs : List V) (us : List Value) (Q : St → Hp → Prop), Inv X pins σ H s → Vals vs us → t vs σ H Q →
    wpAny (model X.prog X.w) X.A (assignInOrder ((assignEach ts X.env).map (·.2)) us) (fun _ s' => ∃ σ' H', Inv X pins σ' H' s' ∧ Q σ' H') X.xe s
abbrev TSet := V → V → V → Hp → (Hp → Prop) → Prop
def PSet (X : Cx) (t : TSet) : Prop :=
  ∀ (pins : List (Addr × Obj)) (s : Shared) (σ : St) (H : Hp) (o i v : V) (ov iv u : Value) (Q : Hp → Prop), Inv X pins σ H s → RelV o ov → RelV i iv → RelV v u → t o i v H Q →
    wpAny (model X.prog X.w) X.A (setItem ov iv u) (fun _ s' => ∃ H', Inv X pins σ H' s' ∧ Q H') X.xe s
section
variable {X : Cx} {pos : Pos}
def gName (i : Nat) : TG := fun v σ H Q => Q (σ.set i (some v)) H
theorem pg_name {i : Nat} {x : Str} (hN : X.N.Nodup) (hi : X.N[i]? = some x) (hx : Loc X.env.scope x) (hf : X.fn x = true ∨ X.env.scope.names.lookup x = some .local := by first | exact .inl rfl | exact .inr rfl | assumption) : PG X (.Name x pos) (gName i) := by
  intro pins s σ H v u Q I r h
  exact wpAny_assign_Name (store_ok I hN hi hx r (fun s' I' => ⟨_, H, I', h⟩) hf)
def gNil : TGs := fun vs σ H Q => vs = [] ∧ Q σ H
def gCons (t : TG) (u : TGs) : TGs := fun vs σ H Q => ∃ v r, vs = v :: r ∧ t v σ H fun σ' H' => u r σ' H' Q
theorem pgs_nil : PGs X [] gNil := by
  intro pins s σ H vs us Q I r h
  obtain ⟨e, h⟩ := h
  subst e
  cases r
  exact assignInOrder_nil ⟨σ, H, I, h⟩
theorem pgs_cons {e : Expr} {es : List Expr} {t : TG} {u : TGs} (h1 : PG X e t) (h2 : PGs X es u)
    (hs : (assignEach (e :: es) X.env).map (·.2) = assign e X.env :: (assignEach es X.env).map (·.2) := by rfl) : PGs X (e :: es) (gCons t u) := by
  intro pins s σ H vs us Q I r h
  obtain ⟨v, vr, e1, h⟩ := h
  subst e1
  cases r with
  | cons r rr =>
    rw [hs]
    refine assignInOrder_cons (thn (h1 pins s σ H _ _ _ I r h) fun _ s1 ⟨σ1, H1, I1, q1⟩ => ?_)
    exact h2 pins s1 σ1 H1 _ _ Q I1 rr q1
def gTup (K : PySem.W.Frag) (n : Nat) (t : TGs) : TG := fun v σ H Q => ∃ a xs, v = .ref a ∧ SqT K H a xs ∧ xs.length = n ∧ t xs σ H Q
theorem pg_tup {es : List Expr} {k : Nat} {t : TGs} {n : Nat} (hc : X.calm = true) (h : PGs X es t)
    (hn : (assignEach es X.env).length = n := by rfl) (hst : (assignEach es X.env).findIdx? (·.1) = none := by rfl) : PG X (.Tuple es k pos) (gTup X.K n t) := by
  intro pins s σ H v u Q I r hw
  obtain ⟨a, xs, e1, hq, hl, hw⟩ := hw
  subst e1
  cases r
  obtain ⟨its, rv, ht, hz⟩ := I.tuple hq
  refine assign_Tuple_tuple (I.ok.hd hc) ht (by simp [hn, ← hl, rv.length]) hst fun h' hx => ?_
  have I1 : Inv X pins σ H { s with heap := h' } := I.kept (t' := s.toks) fun b o e => hx b o (Nat.ne_of_lt (Heap.lt_size e)) e
  exact h pins _ σ H xs _ Q I1 (by simpa using rv) hw
def gSub (to ti : TE) (t : TSet) : TG := fun v σ H Q => to σ H fun o H1 => ti σ H1 fun i H2 => t o i v H2 fun H3 => Q σ H3
theorem pg_sub {o i : Expr} {to ti : TE} {t : TSet} (ho : PE X o to) (hi : PE X i ti) (hs : PSet X t)
    (ha : ∀ v, assign (.Subscript o i pos) X.env v = (do
      let ov ← holding [v] (eval o X.env)
      let iv ← holding [v, ov] (eval i X.env)
      standAt pos
      holding [v, ov, iv] (setItem ov iv v)
      release [v, ov, iv] []) := by intro _; rfl) : PG X (.Subscript o i pos) (gSub to ti t) := by
  intro pins s σ H v u Q I r h
  rw [ha]
  refine wpAny_bind (wpAny_holding (thn (ho pins s σ H _ I h) fun ov s1 ⟨x, H1, I1, r1, q1⟩ => ?_))
  refine wpAny_bind (wpAny_holding (thn (hi pins s1 σ H1 _ I1 q1) fun iv s2 ⟨y, H2, I2, r2, q2⟩ => ?_))
  refine wpAny_bind (wpAny_standAt (wpAny_bind (wpAny_holding (thn (hs pins s2 σ H2 x y v ov iv u _ I2 r1 r2 r q2) fun _ s3 ⟨H3, I3, q3⟩ => ?_))))
  exact wpAny_release ⟨σ, H3, I3, q3⟩
def tAsg (te : TE) (g : TG) : TS := fun D σ H => te σ H fun x H1 => g x σ H1 D.nx
theorem ps_asg {tg e : Expr} {te : TE} {g : TG} (he : PE X e te) (hg : PG X tg g) (hs : swapsWithSole [tg] e pos.line X.env = pure false := by rfl) (hw : swappedStores [tg] e X.env = pure none := by rfl)
    (h1 : (assignEach [tg] X.env).map (·.2) = [assign tg X.env] := by rfl) : PS X (.Assign [tg] e pos) (tAsg te g) := by
  intro pins s σ H D I h
  refine wpAny_Assign_stores (thn (he pins s σ H _ I h) fun v s1 ⟨x, H1, I1, r1, q1⟩ => ?_) hs hw
  rw [h1]
  exact thn (hg pins s1 σ H1 x v _ I1 r1 q1) fun _ s2 q => q
theorem ps_set {i : Nat} {x : Str} {e : Expr} {te : TE} {pos' : Pos} (hN : X.N.Nodup) (hi : X.N[i]? = some x) (hx : Loc X.env.scope x) (he : PE X e te) (hs : swapsWith e (some (.Name x pos')) pos.line X.env = pure false := by rfl) (hf : X.fn x = true ∨ X.env.scope.names.lookup x = some .local := by first | exact .inl rfl | exact .inr rfl | assumption) :
    PS X (.Assign [.Name x pos'] e pos) (tAsg te (gName i)) := by
  intro pins s σ H D I h
  refine wpAny_Assign_Name (thn (he pins s σ H _ I h) fun v s1 ⟨y, H1, I1, r1, q1⟩ => ?_) hs
  exact store_ok I1 hN hi hx r1 (fun s2 I2 => ⟨_, H1, I2, q1⟩) hf
end
section
variable {X : Cx} {pos : Pos}
def tWhile (c : TT) (tb : TS) : TS := fun D σ H => ∃ W : Nat → St → Hp → Prop, (∃ m, W m σ H) ∧ ∀ m σ H, W m σ H →
  c σ H fun b H1 => if b = true then ∃ N : St → Hp → Prop, (∀ σ' H', N σ' H' → ∃ m', m' < m ∧ W m' σ' H') ∧ tb { D with nx := N, ct := N, bk := D.nx } σ H1 else D.nx σ H1
theorem ps_while {c : Expr} {body : List Stmt} {tc : TT} {tb : TS} (hp : PassesOwn (model X.prog X.w) X.A X.env X.xe) (hc : PT X c tc) (hb : PSs X body tb) : PS X (.While c body [] pos) (tWhile tc tb) := by
  intro pins s σ H D I h
  obtain ⟨W, ⟨m0, w0⟩, turn⟩ := h
  refine wpAny_While (codeAny_whileLoop (fun n s' => ∃ σ' H', Inv X pins σ' H' s' ∧ W n σ' H') ?_ m0 ⟨σ, H, I, w0⟩)
  rintro n s1 ⟨σ1, H1, I1, w1⟩
  refine wpAny_passesOwn hp (thn (hc pins s1 σ1 H1 _ I1 (turn n σ1 H1 w1)) fun b s2 ⟨H2, I2, q2⟩ => ?_)
  cases b with
  | true =>
    obtain ⟨N, hN, q2⟩ := q2
    rw [if_pos rfl]
    refine wpAny_passesOwn hp (thn (hb pins s2 σ1 H2 _ I2 q2) fun f s3 q3 => ?_)
    cases f with
    | next =>
      obtain ⟨σ3, H3, I3, n3⟩ := q3
      obtain ⟨m', hm, w3⟩ := hN σ3 H3 n3
      exact ⟨m', hm, σ3, H3, I3, w3⟩
    | cont =>
      obtain ⟨σ3, H3, I3, n3⟩ := q3
      obtain ⟨m', hm, w3⟩ := hN σ3 H3 n3
      exact ⟨m', hm, σ3, H3, I3, w3⟩
    | brk => exact q3
    | ret v => exact q3
  | false =>
    rw [if_neg Bool.false_ne_true]
    exact wpAny_execs_nil ⟨σ1, H2, I2, q2⟩
end
structure It where
  go : Nat → Hp → Prop
  yld : Nat → Hp → V → Hp → Prop
  stop : Nat → Hp → Prop
def FpOk (X : Cx) (pins : List (Addr × Obj)) (H : Hp) (b : Addr) : Prop :=
  H b = none ∧ b ≠ X.env.locals ∧ b ∉ X.fs ∧ (b ∈ X.ex ∨ X.s₀.heap.objs.size ≤ b) ∧ (∀ x c, X.env.cells.lookup x = some c → c ≠ b) ∧ ∀ p ∈ X.pn ++ pins, p.1 ≠ b
theorem Inv.fpOk {X : Cx} {pins : List (Addr × Obj)} {σ : St} {H H' : Hp} {s : Shared} {b : Addr} (I : Inv X pins σ H s) (hb : s.heap.objs.size ≤ b) (hn : H' b = none) : FpOk X pins H' b := by
  refine ⟨hn, Nat.ne_of_gt (Nat.lt_of_lt_of_le I.lt hb), I.nofs hb, .inr (Nat.le_trans I.sz hb), fun x c e z => ?_, fun p hp z => ?_⟩
  · obtain ⟨v, q⟩ := I.cell x c e
    exact absurd (Nat.lt_of_lt_of_le q.lt (by rw [z]; exact hb)) (Nat.lt_irrefl _)
  · exact absurd (Nat.lt_of_lt_of_le (Heap.lt_size (I.pin p hp).1) (by rw [z]; exact hb)) (Nat.lt_irrefl _)
structure Turn (P : Program) (w : World) (K : PySem.W.Frag) (tg : Expr) (J : It) (fp : List Addr) (it : Addr) (tn : Nat → Heap → Prop) : Prop where
  mem : it ∈ fp
  obj : ∀ i h, tn i h → ∀ b ∈ fp, ∃ o, h.get? b = some o ∧ ∀ v, o.data ≠ .cell v
  keep : ∀ i h h', tn i h → (∀ b ∈ fp, ∀ o, h.get? b = some o → h'.get? b = some o) → tn i h'
  item : ∀ (X : Cx), X.prog = P → X.w = w → X.K = K → X.calm = true → ∀ (i : Nat) (pins : List (Addr × Obj)) (s : Shared) (σ : St) (H : Hp) (E : Value → Shared → Prop), Inv X pins σ H s → (∀ b ∈ fp, FpOk X pins H b) → tn i s.heap → J.go i H →
    wpAny (model P w) X.A (pyNext (.ref it)) (fun r s1 => ∃ u, r = some u ∧
      wpAny (model P w) X.A (letOwnedTupleGo tg (.ref it) u) (fun _ s2 => ∃ x H', Inv X pins σ H' s2 ∧ RelV x u ∧ J.yld i H x H' ∧ tn (i + 1) s2.heap ∧ ∀ b ∈ fp, H' b = none) E s1) E s
  done : ∀ (X : Cx), X.prog = P → X.w = w → X.K = K → X.calm = true → ∀ (i : Nat) (pins : List (Addr × Obj)) (s : Shared) (σ : St) (H : Hp) (E : Value → Shared → Prop), Inv X pins σ H s → (∀ b ∈ fp, FpOk X pins H b) → tn i s.heap → J.stop i H →
    wpAny (model P w) X.A (pyNext (.ref it)) (fun r s1 => r = none ∧ Inv X pins σ H s1) E s
  self : ∀ (A : Around) (i : Nat) (s : Shared) (Q : Value → Shared → Prop) (E : Value → Shared → Prop), tn i s.heap → Q (.ref it) s → wpAny (model P w) A (pyIter (.ref it)) Q E s
abbrev TI := St → Hp → (It → Hp → Prop) → Prop
def PIE (X : Cx) (pins : List (Addr × Obj)) (σ : St) (tg : Expr) (R : It → Hp → Prop) (itv : Value) (s2 : Shared) : Prop :=
  ∃ (it : Addr) (fp : List Addr) (tn : Nat → Heap → Prop) (J : It) (H' : Hp), itv = .ref it ∧ Inv X pins σ H' s2 ∧ Turn X.prog X.w X.K tg J fp it tn ∧ tn 0 s2.heap ∧ (∀ b ∈ fp, FpOk X pins H' b) ∧ R J H'
def PI (X : Cx) (tg iter : Expr) (wi : TI) : Prop :=
  ∀ (pins : List (Addr × Obj)) (s : Shared) (σ : St) (H : Hp) (R : It → Hp → Prop), Inv X pins σ H s → wi σ H R →
    wpAny (model X.prog X.w) X.A (eval iter X.env) (fun v s1 => wpAny (model X.prog X.w) X.A (pyIter v) (PIE X pins σ tg R) X.xe s1) X.xe s
theorem go_of {M : Model} {A : Around} {E : Value → Shared → Prop} {s : Shared} {tg : Expr} {it : Addr} {u : Value} {o : Obj} {n : String} {vs : Array Value} {Q : Unit → Shared → Prop} (ho : s.heap.get? it = some o) (hc : o.cls = .type n) (hd : o.data = .fields vs)
    (hn : ["enumerate", "zip", "dict_itemiterator", "dict_reverseitemiterator", "odict_iterator", "itertools.zip_longest", "itertools.pairwise"].contains n = false) (hQ : Q () s) : wpAny M A (letOwnedTupleGo tg (.ref it) u) Q E s := by
  unfold letOwnedTupleGo
  cases tg <;> first
    | exact wpAny_pure hQ
    | (cases u <;> first
        | exact wpAny_pure hQ
        | (refine wpAny_bind (wpAny_load ho ?_)
           rw [hc, hd]
           show wpAny M A (if (["enumerate", "zip", "dict_itemiterator", "dict_reverseitemiterator", "odict_iterator", "itertools.zip_longest", "itertools.pairwise"].contains n && vs[0]? == some (rawInt _)) = true then _ else _) Q E s
           rw [if_neg (by intro h; rw [hn, Bool.false_and] at h; cases h)]
           exact wpAny_pure hQ))
def Itl (K : PySem.W.Frag) (a : Addr) : It :=
  ⟨fun i H => ∃ xs x, SqL K H a xs ∧ xs[i]? = some x, fun i H x H' => H' = H ∧ ∀ xs, SqL K H a xs → xs[i]? = some x, fun i H => ∃ xs, SqL K H a xs ∧ xs.length ≤ i⟩
def Itt (K : PySem.W.Frag) (a : Addr) : It :=
  ⟨fun i H => ∃ xs x, SqT K H a xs ∧ xs[i]? = some x, fun i H x H' => H' = H ∧ ∀ xs, SqT K H a xs → xs[i]? = some x, fun i H => ∃ xs, SqT K H a xs ∧ xs.length ≤ i⟩
def Itr (lo : Int) (n : Nat) : It := ⟨fun i _ => i < n, fun i H x H' => H' = H ∧ x = .int (lo + i), fun i _ => n ≤ i⟩
theorem turn_list {P : Program} {w : World} {K : PySem.W.Frag} {tg : Expr} (a it : Addr) : Turn P w K tg (Itl K a) [it] it (fun i h => h.IsListIter it a i) where
  mem := by simp
  obj := fun i h st b hb => by
    have e : b = it := by simpa using hb
    subst e
    obtain ⟨o, e, c, d⟩ := st
    exact ⟨o, e, fun v z => by rw [d] at z; cases z⟩
  keep := fun i h h' st k => st.at fun o e => k it (by simp) o e
  item := by
    intro X hP hw hK hc i pins s σ H E I hf st hg
    subst hP hw hK
    obtain ⟨xs, x, hq, hx⟩ := hg
    obtain ⟨its, rv, p, hz⟩ := I.list hq
    obtain ⟨u, hu, ru⟩ := rv.get hx
    obtain ⟨f0, f1, f2, f3, f4, f5⟩ := hf it (by simp)
    refine wpAny_pyNext_list_item st p.isList (x := u) (by simpa using hu) fun h' st' sb => ?_
    have I1 : Inv X pins σ H { s with heap := h' } := I.turned (t' := s.toks) (fun b o hb e => (sb.2 b hb).trans e) f0 f1 f3 f4 f5
    obtain ⟨o, e, c, d⟩ := id st'
    exact ⟨u, rfl, go_of (s := { s with heap := h' }) e c d (by decide) ⟨x, H, I1, ru, ⟨rfl, fun ys hy => by rw [I.list_inj hy hq]; exact hx⟩, st', fun b hb => (hf b hb).1⟩⟩
  done := by
    intro X hP hw hK hc i pins s σ H E I hf st hg
    subst hP hw hK
    obtain ⟨xs, hq, hx⟩ := hg
    obtain ⟨its, rv, p, hz⟩ := I.list hq
    obtain ⟨f0, f1, f2, f3, f4, f5⟩ := hf it (by simp)
    have hl := rv.length
    exact wpAny_pyNext_list_end (I.ok.hd hc) st p.isList (by simp; omega) fun h' eb => ⟨rfl, I.turned (t' := s.toks) (fun b o hb e => eb b o hb e) f0 f1 f3 f4 f5⟩
  self := fun _ _ _ _ _ st h => wpAny_pyIter_listiter st h
theorem turn_tuple {P : Program} {w : World} {K : PySem.W.Frag} {tg : Expr} (a it : Addr) : Turn P w K tg (Itt K a) [it] it (fun i h => h.IsTupleIter it a i) where
  mem := by simp
  obj := fun i h st b hb => by
    have e : b = it := by simpa using hb
    subst e
    obtain ⟨o, e, c, d⟩ := st
    exact ⟨o, e, fun v z => by rw [d] at z; cases z⟩
  keep := fun i h h' st k => st.at fun o e => k it (by simp) o e
  item := by
    intro X hP hw hK hc i pins s σ H E I hf st hg
    subst hP hw hK
    obtain ⟨xs, x, hq, hx⟩ := hg
    obtain ⟨its, rv, p, hz⟩ := I.tuple hq
    obtain ⟨u, hu, ru⟩ := rv.get hx
    obtain ⟨f0, f1, f2, f3, f4, f5⟩ := hf it (by simp)
    refine wpAny_pyNext_tuple_item st (show s.heap.IsTuple a its.toArray from p) (x := u) (by simpa using hu) fun h' st' sb => ?_
    have I1 : Inv X pins σ H { s with heap := h' } := I.turned (t' := s.toks) (fun b o hb e => (sb.2 b hb).trans e) f0 f1 f3 f4 f5
    obtain ⟨o, e, c, d⟩ := id st'
    exact ⟨u, rfl, go_of (s := { s with heap := h' }) e c d (by decide) ⟨x, H, I1, ru, ⟨rfl, fun ys hy => by rw [I.tuple_inj hy hq]; exact hx⟩, st', fun b hb => (hf b hb).1⟩⟩
  done := by
    intro X hP hw hK hc i pins s σ H E I hf st hg
    subst hP hw hK
    obtain ⟨xs, hq, hx⟩ := hg
    obtain ⟨its, rv, p, hz⟩ := I.tuple hq
    obtain ⟨f0, f1, f2, f3, f4, f5⟩ := hf it (by simp)
    have hl := rv.length
    exact wpAny_pyNext_tuple_end (I.ok.hd hc) st (show s.heap.IsTuple a its.toArray from p) (by simp; omega) fun h' eb => ⟨rfl, I.turned (t' := s.toks) (fun b o hb e => eb b o hb e) f0 f1 f3 f4 f5⟩
  self := fun _ _ _ _ _ st h => wpAny_pyIter_tupleiter st h
theorem turn_range {P : Program} {w : World} {K : PySem.W.Frag} {tg : Expr} (it : Addr) (lo : Int) (n : Nat) : Turn P w K tg (Itr lo n) [it] it (fun i h => IsRangeIter h it (lo + (i : Nat) * 1) ((n : Int) - (i : Nat)) 1) where
  mem := by simp
  obj := fun i h st b hb => by
    have e : b = it := by simpa using hb
    subst e
    exact ⟨_, st, fun v z => by
      have z' : Data.fields _ = Data.cell v := z
      cases z'⟩
  keep := fun i h h' st k => k it (by simp) _ st
  item := by
    intro X hP hw hK hc i pins s σ H E I hf st hg
    subst hP hw hK
    obtain ⟨f0, f1, f2, f3, f4, f5⟩ := hf it (by simp)
    have W := Walks.range (prog := X.prog) (w := X.w) (I.ok.hd hc) it lo 1 n
    refine W.item i s _ _ hg st fun v h' tk hv st' kk => ?_
    obtain ⟨t, rfl⟩ := hv
    have I1 : Inv X pins σ H { s with heap := h', toks := tk } := I.turned (fun b o hb e => kk b o (by simpa using hb) e) f0 f1 f3 f4 f5
    refine ⟨_, rfl, go_of (s := { s with heap := h', toks := tk }) (n := "range_iterator") st' rfl rfl (by decide) ⟨.int (lo + i), H, I1, ⟨t, ?_⟩, ⟨rfl, rfl⟩, st', fun b hb => (hf b hb).1⟩⟩
    rw [Int.mul_one]
  done := by
    intro X hP hw hK hc i pins s σ H E I hf st hg
    subst hP hw hK
    obtain ⟨f0, f1, f2, f3, f4, f5⟩ := hf it (by simp)
    exact wpAny_pyNext_range_end (I.ok.hd hc) st (by have : n ≤ i := hg; omega) fun h' eb => ⟨rfl, I.turned (t' := s.toks) (fun b o hb e => eb b o hb e) f0 f1 f3 f4 f5⟩
  self := fun _ _ _ _ _ st h => wpAny_pyIter_rangeiter st h
end L2
namespace L2
open PySem PySem.Spec PyProof.Rows
section
variable {X : Cx} {tg : Expr}
theorem range_it {pins : List (Addr × Obj)} {σ : St} {H : Hp} {s : Shared} {R : It → Hp → Prop} {E : Value → Shared → Prop} {lo hi : Int} {t u v : Tok} {tk : Nat} (I : Inv X pins σ H s) (h1 : -(2 ^ 62) ≤ lo) (h2 : lo < 2 ^ 62) (h3 : -(2 ^ 62) ≤ hi) (h4 : hi < 2 ^ 62)
    (q : R (Itr lo (hi - lo).toNat) H) : wpAny (model X.prog X.w) X.A (pyIter (.ref s.heap.objs.size)) (PIE X pins σ tg R) E { s with heap := s.heap.push { cls := .type "range", data := .fields #[.int lo t, .int hi u, .int 1 v] }, toks := tk } := by
  refine wpAny_pyIter_range (IsRange.new ..) (small_one h1 h2 h3 h4) ?_
  have I1 : Inv X pins σ H { s with heap := s.heap.push { cls := .type "range", data := .fields #[.int lo t, .int hi u, .int 1 v] }, toks := tk } := I.kept fun b o e => Heap.get?_push_of_some _ e
  refine ⟨(s.heap.push { cls := .type "range", data := .fields #[.int lo t, .int hi u, .int 1 v] }).objs.size, [(s.heap.push { cls := .type "range", data := .fields #[.int lo t, .int hi u, .int 1 v] }).objs.size], _, _, H, rfl,
    I1.kept (t' := tk) fun b o e => Heap.get?_push_of_some _ e, turn_range _ lo (hi - lo).toNat, ?_, fun b hb => ?_, q⟩
  · have e1 : lo + ((0 : Nat) : Int) * 1 = lo := by simp
    have e2 : (((hi - lo).toNat : Nat) : Int) - ((0 : Nat) : Int) = Builtin.Range.rangeSize lo hi 1 := by rw [rangeSize_one]; split <;> omega
    show IsRangeIter _ _ (lo + ((0 : Nat) : Int) * 1) ((((hi - lo).toNat : Nat) : Int) - ((0 : Nat) : Int)) 1
    rw [e1, e2]
    exact Heap.get?_push_size _ rfl
  · have e : b = (s.heap.push { cls := .type "range", data := .fields #[.int lo t, .int hi u, .int 1 v] }).objs.size := by simpa using hb
    subst e
    exact I1.fpOk (Nat.le_refl _) (I1.hok.fresh (Nat.le_refl _))
def iRng1 (ta : TA) : TI := fun σ H R => ta σ H fun vs H1 => ∃ j : Int, vs = [.int j] ∧ -(2 ^ 62) ≤ j ∧ j < 2 ^ 62 ∧ R (Itr 0 j.toNat) H1
theorem pi_range1 {a : Expr} {ta : TA} {p pos : Pos} (hg : Gl X "range") (hm : X.mg "range" = none) (ha : PA X [a] ta) (hs : starEach [a] X.env = [(false, eval a X.env)] := by rfl) : PI X tg (.Call (.Name "range" p) [a] [] pos) (iRng1 ta) := by
  intro pins s σ H R I h
  refine Call_ (ld_blt I hg hm boot_range (PyProof.Rows.callWith_type1 (thn (ha pos pins s σ H _ I h) fun us s1 ⟨vs, H1, I1, r1, q1⟩ => ?_) hs rfl))
  obtain ⟨j, e, q1, q2, q⟩ := q1
  subst e
  cases r1 with
  | cons r rr =>
    cases rr
    obtain ⟨t, rfl⟩ := r
    exact call_range_1 (range_it I1 (by omega) (by omega) q1 q2 (by simpa using q))
def tFor (wi : TI) (g : TG) (tb : TS) : TS := fun D σ H => wi σ H fun J H1 => ∃ W : Nat → Nat → St → Hp → Prop, (∃ m, W 0 m σ H1) ∧ ∀ i m σ H, W i m σ H →
  (J.stop i H ∧ D.nx σ H) ∨ (J.go i H ∧ ∃ N : St → Hp → Prop, (∀ σ' H', N σ' H' → ∃ m', m' < m ∧ W (i + 1) m' σ' H') ∧ ∀ x H', J.yld i H x H' → g x σ H' fun σ2 H2 => tb { D with nx := N, ct := N, bk := D.nx } σ2 H2)
def pinsAt (fp : List Addr) (h : Heap) : List (Addr × Obj) := fp.filterMap fun b => (h.get? b).map fun o => (b, o)
theorem mem_pinsAt {fp : List Addr} {h : Heap} {b : Addr} {o : Obj} (hb : b ∈ fp) (e : h.get? b = some o) : (b, o) ∈ pinsAt fp h := List.mem_filterMap.mpr ⟨b, hb, by rw [e]; rfl⟩
theorem of_pinsAt {fp : List Addr} {h : Heap} {p : Addr × Obj} (hp : p ∈ pinsAt fp h) : p.1 ∈ fp ∧ h.get? p.1 = some p.2 := by
  obtain ⟨b, hb, e⟩ := List.mem_filterMap.mp hp
  cases q : h.get? b with
  | none => rw [q] at e; cases e
  | some o =>
    rw [q] at e
    have e' : (b, o) = p := Option.some.inj e
    subst e'
    exact ⟨hb, q⟩
theorem Inv.pinned {pins : List (Addr × Obj)} {σ : St} {H : Hp} {s : Shared} {fp : List Addr} (I : Inv X pins σ H s) (hf : ∀ b ∈ fp, FpOk X pins H b) (ho : ∀ b ∈ fp, ∃ o, s.heap.get? b = some o ∧ ∀ v, o.data ≠ .cell v) : Inv X (pins ++ pinsAt fp s.heap) σ H s :=
  I.pins_of fun p hp => (List.mem_append.mp hp).elim (fun z => I.pin p (List.mem_append_right _ z)) fun z => by
    obtain ⟨hb, e⟩ := of_pinsAt z
    obtain ⟨f0, f1, f2, _⟩ := hf p.1 hb
    obtain ⟨o, e', d⟩ := ho p.1 hb
    rw [e] at e'; cases e'
    exact ⟨e, f0, f1, f2, d⟩
theorem Inv.unpinned {pins pl : List (Addr × Obj)} {σ : St} {H : Hp} {s : Shared} (I : Inv X (pins ++ pl) σ H s) : Inv X pins σ H s := I.pins_of fun p hp => I.pin p (List.mem_append_right _ (List.mem_append_left _ hp))
theorem ps_for {iter : Expr} {body : List Stmt} {wi : TI} {g : TG} {tb : TS} {pos : Pos} (hp : PassesOwn (model X.prog X.w) X.A X.env X.xe) (hc : X.calm = true) (hi : PI X tg iter wi) (hg : PG X tg g) (hb : PSs X body tb)
    (hs : ∀ x, foldedSetIterable iter X.env x = pure x := by intro _; rfl) : PS X (.For tg iter body [] pos) (tFor wi g tb) := by
  intro pins s σ H D I h
  refine wpAny_For (thn (hi pins s σ H _ I h) fun v s1 h1 => thn h1 fun itv s2 h2 => ?_) hs
  obtain ⟨it, fp, tn, J, H2, e, I2, T, st2, f2, W, ⟨m0, w0⟩, turn⟩ := h2
  subst e
  -- what stays true of the iterator's objects through the loop
  have stat : ∀ {H' : Hp}, (∀ b ∈ fp, H' b = none) → ∀ b ∈ fp, FpOk X pins H' b := fun hn b hb => ⟨hn b hb, (f2 b hb).2⟩
  refine codeAny_forLoop_any (fun n s' => ∃ i σ' H', Inv X pins σ' H' s' ∧ tn i s'.heap ∧ (∀ b ∈ fp, H' b = none) ∧ W i n σ' H') ?_ m0 ⟨0, σ, H2, I2, st2, fun b hb => (f2 b hb).1, w0⟩
  rintro n s3 ⟨i, σ3, H3, I3, st3, fr3, w3⟩
  rcases turn i n σ3 H3 w3 with ⟨stop, qn⟩ | ⟨go, N, hN, step⟩
  · refine wpAny_passesOwn hp (thn (T.done X rfl rfl rfl hc i pins s3 σ3 H3 X.xe I3 (stat fr3) st3 stop) fun r s4 ⟨hr, I4⟩ => ?_)
    subst hr
    exact wpAny_execs_nil ⟨σ3, H3, I4, qn⟩
  · refine wpAny_passesOwn hp (thn (T.item X rfl rfl rfl hc i pins s3 σ3 H3 X.xe I3 (stat fr3) st3 go) fun r s4 ⟨u, hr, h4⟩ => ?_)
    subst hr
    refine wpAny_passesOwn hp (thn h4 fun _ s5 ⟨x, H5, I5, r5, y5, st5, fr5⟩ => ?_)
    have I5' := I5.pinned (stat fr5) (T.obj _ _ st5)
    refine wpAny_passesOwn hp (thn (hg _ s5 σ3 H5 x u _ I5' r5 (step x H5 y5)) fun _ s6 ⟨σ6, H6, I6, q6⟩ => ?_)
    refine wpAny_passesOwn hp (thn (hb _ s6 σ6 H6 _ I6 q6) fun f s7 q7 => ?_)
    have again : ∀ {σ7 : St} {H7 : Hp}, Inv X (pins ++ pinsAt fp s5.heap) σ7 H7 s7 → N σ7 H7 → ∃ m, m < n ∧ ∃ i σ' H', Inv X pins σ' H' s7 ∧ tn i s7.heap ∧ (∀ b ∈ fp, H' b = none) ∧ W i m σ' H' := fun {σ7 H7} I7 n7 => by
      obtain ⟨m', hm, w7⟩ := hN σ7 H7 n7
      refine ⟨m', hm, i + 1, σ7, H7, I7.unpinned, T.keep _ _ _ st5 fun b hb o e => (I7.pin (b, o) (List.mem_append_right _ (List.mem_append_right _ (mem_pinsAt hb e)))).1, fun b hb => ?_, w7⟩
      obtain ⟨o, e, d⟩ := T.obj _ _ st5 b hb
      exact (I7.pin (b, o) (List.mem_append_right _ (List.mem_append_right _ (mem_pinsAt hb e)))).2.1
    cases f with
    | next => obtain ⟨σ7, H7, I7, n7⟩ := q7; exact again I7 n7
    | cont => obtain ⟨σ7, H7, I7, n7⟩ := q7; exact again I7 n7
    | brk => obtain ⟨σ7, H7, I7, q7⟩ := q7; exact ⟨σ7, H7, I7.unpinned, q7⟩
    | ret v => obtain ⟨x7, σ7, H7, I7, r7, q7⟩ := q7; exact ⟨x7, σ7, H7, I7.unpinned, r7, q7⟩
end
end L2
namespace L2
open PySem PySem.Spec PyProof.Rows
abbrev R2 := V → V → Hp → VK → Prop
def OpR (X : Cx) (f : Value → Value → Sem Value) (r : R2) : Prop :=
  ∀ (pins : List (Addr × Obj)) (s : Shared) (σ : St) (H : Hp) (x y : V) (v u : Value) (Q : VK), Inv X pins σ H s → RelV x v → RelV y u → r x y H Q →
    wpAny (model X.prog X.w) X.A (f v u) (EP X pins σ Q) X.xe s
def CallR (X : Cx) (f : Value) (r : List V → Hp → VK → Prop) : Prop :=
  ∀ (pins : List (Addr × Obj)) (s : Shared) (σ : St) (H : Hp) (xs : List V) (us : List Value) (Q : VK), Inv X pins σ H s → Vals xs us → r xs H Q →
    wpAny (model X.prog X.w) X.A (call f us) (EP X pins σ Q) X.xe s
def tOp (r : R2) (ta tb : TE) : TE := fun σ H Q => ta σ H fun x H1 => tb σ H1 fun y H2 => r x y H2 Q
def rI (C : Int → Int → Prop) (g : Int → Int → V) : R2 := fun x y H Q => ∃ i j, x = .int i ∧ y = .int j ∧ C i j ∧ Q (g i j) H
def rI0 (g : Int → Int → V) : R2 := fun x y H Q => ∃ i j, x = .int i ∧ y = .int j ∧ Q (g i j) H
section
variable {X : Cx} {a b c : Expr} {ta tb tc : TE} {pos : Pos}
theorem binT (ha : PE X a ta) (hb : PE X b tb) {pins : List (Addr × Obj)} {s : Shared} {σ : St} {H : Hp} {R : V → V → Hp → Prop} (I : Inv X pins σ H s)
    (h : ta σ H fun x H1 => tb σ H1 fun y H2 => R x y H2) {Q : Value → Shared → Prop} {f : Value → Value → Sem Value}
    (hf : ∀ v u s2 x y H2, Inv X pins σ H2 s2 → RelV x v → RelV y u → R x y H2 → wpAny (model X.prog X.w) X.A (f v u) Q X.xe s2) :
    wpAny (model X.prog X.w) X.A (eval a X.env) (fun v s₁ => wpAny (model X.prog X.w) X.A (eval b X.env) (fun u s₂ => wpAny (model X.prog X.w) X.A (f v u) Q X.xe s₂) X.xe s₁) X.xe s := by
  refine thn (ha pins s σ H _ I h) fun v s1 ⟨x, H1, I1, r1, q1⟩ => ?_
  refine thn (hb pins s1 σ H1 _ I1 q1) fun u s2 ⟨y, H2, I2, r2, q2⟩ => ?_
  exact hf v u s2 x y H2 I2 r1 r2 q2
theorem pe_op {op : Operator} {r : R2} (ho : OpR X (binaryOp op) r) (ha : PE X a ta) (hb : PE X b tb) : PE X (.BinOp a op b pos) (tOp r ta tb) := by
  intro pins s σ H Q I h
  exact wpAny_BinOp (binT ha hb I h fun v u s2 x y H2 I2 rx ry q => ho pins s2 σ H2 x y v u Q I2 rx ry q)
theorem opI {f : Value → Value → Sem Value} {C : Int → Int → Prop} {g : Int → Int → Int}
    (rule : ∀ (i j : Int) (t u : Tok) (s : Shared) (Q : Value → Shared → Prop) (E : Value → Shared → Prop), C i j → Q (.int (g i j) s.toks) { s with toks := s.toks + 1 } → wpAny (model X.prog X.w) X.A (f (.int i t) (.int j u)) Q E s) :
    OpR X f (rI C fun i j => .int (g i j)) := by
  intro pins s σ H x y v u Q I rx ry h
  obtain ⟨i, j, rfl, rfl, hc, q⟩ := h
  obtain ⟨t, rfl⟩ := rx
  obtain ⟨t', rfl⟩ := ry
  exact rule i j t t' s _ _ hc ⟨.int (g i j), H, I.tok _, ⟨_, rfl⟩, q⟩
theorem opI0 {f : Value → Value → Sem Value} {g : Int → Int → Int}
    (rule : ∀ (i j : Int) (t u : Tok) (s : Shared) (Q : Value → Shared → Prop) (E : Value → Shared → Prop), Q (.int (g i j) s.toks) { s with toks := s.toks + 1 } → wpAny (model X.prog X.w) X.A (f (.int i t) (.int j u)) Q E s) :
    OpR X f (rI0 fun i j => .int (g i j)) := by
  intro pins s σ H x y v u Q I rx ry h
  obtain ⟨i, j, rfl, rfl, q⟩ := h
  obtain ⟨t, rfl⟩ := rx
  obtain ⟨t', rfl⟩ := ry
  exact rule i j t t' s _ _ ⟨.int (g i j), H, I.tok _, ⟨_, rfl⟩, q⟩
theorem opB0 {f : Value → Value → Sem Value} {g : Int → Int → Bool}
    (rule : ∀ (i j : Int) (t u : Tok) (s : Shared) (Q : Value → Shared → Prop) (E : Value → Shared → Prop), Q (.bool (g i j)) s → wpAny (model X.prog X.w) X.A (f (.int i t) (.int j u)) Q E s) :
    OpR X f (rI0 fun i j => .bl (g i j)) := by
  intro pins s σ H x y v u Q I rx ry h
  obtain ⟨i, j, rfl, rfl, q⟩ := h
  obtain ⟨t, rfl⟩ := rx
  obtain ⟨t', rfl⟩ := ry
  exact rule i j t t' s _ _ ⟨.bl (g i j), H, I, rfl, q⟩
def CDiv (i j : Int) : Prop := 0 < j ∧ j < 1073741824
def CPow (i j : Int) : Prop := 0 ≤ j ∧ j ≤ 1000000 ∧ i.natAbs < 2 ^ 64
def CMul (i j : Int) : Prop := (-(2 ^ 64) < i ∧ i < 2 ^ 64) ∨ (-(2 ^ 64) < j ∧ j < 2 ^ 64)
theorem CMul.ok {i j : Int} (h : CMul i j) : IntMulOk i j := by
  rcases h with ⟨h1, h2⟩ | ⟨h1, h2⟩
  · exact .of_left (intBits_le_64 h1 h2)
  · exact .of_right (intBits_le_64 h1 h2)
theorem op_add : OpR X (binaryOp .Add) (rI0 fun i j => .int (i + j)) := opI0 fun _ _ _ _ _ _ _ q => add_int q
theorem op_sub : OpR X (binaryOp .Sub) (rI0 fun i j => .int (i - j)) := opI0 fun _ _ _ _ _ _ _ q => sub_int q
theorem op_fdiv : OpR X (binaryOp .FloorDiv) (rI CDiv fun i j => .int (i / j)) := opI fun i j _ _ _ _ _ hc q => by
  have h1 : (0 : Int) < j := hc.1
  have h2 : j < 1073741824 := hc.2
  exact floordiv_int (by omega) (by rw [Int.fdiv_eq_ediv_of_nonneg i (by omega)]; exact q) (.inl (PyProof.noPylong_small (by omega)))
theorem op_mod : OpR X (binaryOp .Mod) (rI (fun _ j => 0 < j) fun i j => .int (i % j)) := opI fun i j _ _ _ _ _ hc q => by
  have h1 : (0 : Int) < j := hc
  exact mod_int' (by omega) (by rw [Int.fmod_eq_emod_of_nonneg i (by omega)]; exact q)
theorem op_pow : OpR X (binaryOp .Pow) (rI CPow fun i j => .int (i ^ j.toNat)) := opI fun _ _ _ _ _ _ _ hc q => pow_int_small hc.1 hc.2.1 hc.2.2 q
end
def scal : V → V → Bool
  | .non, .non => true | .non, .int _ => true | .int _, .non => true | .non, .bl _ => true | .bl _, .non => true | .non, .str _ => true | .str _, .non => true
  | .int _, .int _ => true | .bl _, .bl _ => true | .str _, .str _ => true | .byt _, .byt _ => true
  | .int _, .str _ => true | .str _, .int _ => true | .bl _, .str _ => true | .str _, .bl _ => true
  | _, _ => false
def rEq : R2 := fun x y H Q => scal x y = true ∧ Q (.bl (decide (x = y))) H
def rNe : R2 := fun x y H Q => scal x y = true ∧ Q (.bl (!decide (x = y))) H
theorem dec_int {i j : Int} : decide (V.int i = V.int j) = (i == j) := by
  rw [Bool.eq_iff_iff]
  simp
theorem dec_bl {i j : Bool} : decide (V.bl i = V.bl j) = (i == j) := by
  rw [Bool.eq_iff_iff]
  simp
theorem dec_str {i j : Str} : decide (V.str i = V.str j) = (i == j) := by
  rw [Bool.eq_iff_iff]
  simp
theorem dec_byt {i j : Array UInt8} : decide (V.byt i = V.byt j) = (i.toList == j.toList) := by
  rw [Bool.eq_iff_iff]
  cases i
  cases j
  simp
section
variable {X : Cx} {a b c : Expr} {ta tb tc : TE} {pos : Pos}
theorem fin_bl {pins : List (Addr × Obj)} {σ : St} {H : Hp} {s : Shared} {Q : VK} {k k' : Bool} (I : Inv X pins σ H s) (q : Q (.bl k) H) (e : k = k') : EP X pins σ Q (.bool k') s := by
  subst e
  exact ⟨.bl k, H, I, rfl, q⟩
theorem op_eq : OpR X (compareOp .Eq) rEq := by
  intro pins s σ H x y v u Q I rx ry h
  obtain ⟨hs, q⟩ := h
  cases x with
  | non =>
    cases rx
    cases y with
    | non => cases ry; exact PySem.EqNone.eq_none_none (fin_bl I q (by simp))
    | bl j => cases ry; exact PySem.EqNone.eq_none_bool (fin_bl I q (by simp))
    | int j => obtain ⟨t', rfl⟩ := ry; exact PySem.EqNone.eq_none_int (fin_bl I q (by simp))
    | str j => obtain ⟨t', rfl⟩ := ry; exact PySem.EqNone.eq_none_str (fin_bl I q (by simp))
    | _ => exact absurd (show false = true from hs) Bool.false_ne_true
  | bl i =>
    cases rx
    cases y with
    | non => cases ry; exact PySem.EqNone.eq_bool_none (fin_bl I q (by simp))
    | bl j => cases ry; exact eq_bool (fin_bl I q dec_bl)
    | str j => obtain ⟨t', rfl⟩ := ry; exact PySem.EqMixed.eq_bool_str (fin_bl I q (by simp))
    | _ => exact absurd (show false = true from hs) Bool.false_ne_true
  | int i =>
    obtain ⟨t, rfl⟩ := rx
    cases y with
    | non => cases ry; exact PySem.EqNone.eq_int_none (fin_bl I q (by simp))
    | int j => obtain ⟨t', rfl⟩ := ry; exact eq_int (fin_bl I q dec_int)
    | str j => obtain ⟨t', rfl⟩ := ry; exact PySem.EqMixed.eq_int_str (fin_bl I q (by simp))
    | _ => exact absurd (show false = true from hs) Bool.false_ne_true
  | str i =>
    obtain ⟨t, rfl⟩ := rx
    cases y with
    | non => cases ry; exact PySem.EqNone.eq_str_none (fin_bl I q (by simp))
    | bl j => cases ry; exact PySem.EqMixed.eq_str_bool (fin_bl I q (by simp))
    | int j => obtain ⟨t', rfl⟩ := ry; exact PySem.EqMixed.eq_str_int (fin_bl I q (by simp))
    | str j => obtain ⟨t', rfl⟩ := ry; exact eq_str (fin_bl I q dec_str)
    | _ => exact absurd (show false = true from hs) Bool.false_ne_true
  | byt i =>
    obtain ⟨t, rfl⟩ := rx
    cases y with
    | byt j => obtain ⟨t', rfl⟩ := ry; exact PySem.W.eq_bytes (fin_bl I q dec_byt)
    | _ => exact absurd (show false = true from hs) Bool.false_ne_true
  | _ => cases y <;> exact absurd (show false = true from hs) Bool.false_ne_true
theorem op_ne : OpR X (compareOp .NotEq) rNe := by
  intro pins s σ H x y v u Q I rx ry h
  obtain ⟨hs, q⟩ := h
  cases x with
  | non =>
    cases rx
    cases y with
    | non => cases ry; exact PySem.EqNone.ne_none_none (fin_bl I q (by simp))
    | bl j => cases ry; exact PySem.EqNone.ne_none_bool (fin_bl I q (by simp))
    | int j => obtain ⟨t', rfl⟩ := ry; exact PySem.EqNone.ne_none_int (fin_bl I q (by simp))
    | str j => obtain ⟨t', rfl⟩ := ry; exact PySem.EqNone.ne_none_str (fin_bl I q (by simp))
    | _ => exact absurd (show false = true from hs) Bool.false_ne_true
  | bl i =>
    cases rx
    cases y with
    | non => cases ry; exact PySem.EqNone.ne_bool_none (fin_bl I q (by simp))
    | bl j => cases ry; exact ne_bool (fin_bl I q (congrArg not dec_bl))
    | str j => obtain ⟨t', rfl⟩ := ry; exact PySem.EqMixed.ne_bool_str (fin_bl I q (by simp))
    | _ => exact absurd (show false = true from hs) Bool.false_ne_true
  | int i =>
    obtain ⟨t, rfl⟩ := rx
    cases y with
    | non => cases ry; exact PySem.EqNone.ne_int_none (fin_bl I q (by simp))
    | int j => obtain ⟨t', rfl⟩ := ry; exact ne_int (fin_bl I q (congrArg not dec_int))
    | str j => obtain ⟨t', rfl⟩ := ry; exact PySem.EqMixed.ne_int_str (fin_bl I q (by simp))
    | _ => exact absurd (show false = true from hs) Bool.false_ne_true
  | str i =>
    obtain ⟨t, rfl⟩ := rx
    cases y with
    | non => cases ry; exact PySem.EqNone.ne_str_none (fin_bl I q (by simp))
    | bl j => cases ry; exact PySem.EqMixed.ne_str_bool (fin_bl I q (by simp))
    | int j => obtain ⟨t', rfl⟩ := ry; exact PySem.EqMixed.ne_str_int (fin_bl I q (by simp))
    | str j => obtain ⟨t', rfl⟩ := ry; exact ne_str (fin_bl I q (congrArg not dec_str))
    | _ => exact absurd (show false = true from hs) Bool.false_ne_true
  | byt i =>
    obtain ⟨t, rfl⟩ := rx
    cases y with
    | byt j => obtain ⟨t', rfl⟩ := ry; exact PySem.W.ne_bytes (fin_bl I q (congrArg not dec_byt))
    | _ => exact absurd (show false = true from hs) Bool.false_ne_true
  | _ => cases y <;> exact absurd (show false = true from hs) Bool.false_ne_true
theorem op_lt : OpR X (compareOp .Lt) (rI0 fun i j => .bl (decide (i < j))) := opB0 fun _ _ _ _ _ _ _ q => lt_int q
theorem op_le : OpR X (compareOp .LtE) (rI0 fun i j => .bl (decide (i ≤ j))) := opB0 fun _ _ _ _ _ _ _ q => le_int q
theorem op_gt : OpR X (compareOp .Gt) (rI0 fun i j => .bl (decide (j < i))) := opB0 fun _ _ _ _ _ _ _ q => gt_int q
theorem op_isN : OpR X (compareOp .Is) (fun x y H Q => y = .non ∧ Q (.bl (decide (x = .non))) H) := by
  intro pins s σ H x y v u Q I rx ry h
  obtain ⟨rfl, q⟩ := h
  cases ry
  refine is_none_gen (fin_bl I q ?_)
  cases x <;> first
    | (cases rx; rfl)
    | (obtain ⟨t, rfl⟩ := rx; rfl)
theorem op_notN : OpR X (compareOp .IsNot) (fun x y H Q => y = .non ∧ Q (.bl (!decide (x = .non))) H) := by
  intro pins s σ H x y v u Q I rx ry h
  obtain ⟨rfl, q⟩ := h
  cases ry
  refine isnot_none_gen (fin_bl I q ?_)
  cases x <;> first
    | (cases rx; rfl)
    | (obtain ⟨t, rfl⟩ := rx; rfl)
theorem OpR.or {f : Value → Value → Sem Value} {r r' : R2} (h : OpR X f r) (h' : OpR X f r') : OpR X f (fun x y H Q => r x y H Q ∨ r' x y H Q) := by
  intro pins s σ H x y v u Q I rx ry q
  rcases q with q | q
  · exact h pins s σ H x y v u Q I rx ry q
  · exact h' pins s σ H x y v u Q I rx ry q
theorem nomark (b : Expr) {op : CmpOp} (h : op ≠ .In := by decide) (h2 : op ≠ .NotIn := by decide) : behindInMarks op b = false := by
  have e1 : (op == CmpOp.In) = false := by cases op <;> first | rfl | exact absurd rfl h
  have e2 : (op == CmpOp.NotIn) = false := by cases op <;> first | rfl | exact absurd rfl h2
  cases b <;> simp [behindInMarks, e1, e2]
theorem pe_cmpR {op : CmpOp} {r : R2} (ho : OpR X (compareOp op) r) (ha : PE X a ta) (hb : PE X b tb) (hm : behindInMarks op b = false) : PE X (.Compare a [op] [b] pos) (tOp r ta tb) := by
  intro pins s σ H Q I h
  exact wpAny_Compare1 (binT ha hb I h fun v u s2 x y H2 I2 rx ry q => ho pins s2 σ H2 x y v u Q I2 rx ry q) hm
def tTest (t : TE) : TT := fun σ H Q => t σ H fun x H' => ∃ k, x = .bl k ∧ Q k H'
theorem pt_cmpR {op : CmpOp} {r : R2} (ho : OpR X (compareOp op) r) (ha : PE X a ta) (hb : PE X b tb) (hm : behindInMarks op b = false) : PT X (.Compare a [op] [b] pos) (tTest (tOp r ta tb)) := by
  intro pins s σ H Q I h
  refine wpAny_isTrue_Compare1 (thn (ha pins s σ H _ I h) fun v s1 ⟨x, H1, I1, r1, q1⟩ => thn (hb pins s1 σ H1 _ I1 q1) fun u s2 ⟨y, H2, I2, r2, q2⟩ =>
    thn (ho pins s2 σ H2 x y v u _ I2 r1 r2 q2) fun c s3 ⟨z, H3, I3, r3, k, e, q3⟩ => ?_) hm
  subst e
  cases r3
  exact wpAny_truthy_bool ⟨H3, I3, q3⟩
theorem line63 : (sizeLine : Nat) < 2 ^ 63 := by rw [sizeLine_eq]; decide
theorem vals1 {x : V} {us : List Value} (r : Vals [x] us) : ∃ u, us = [u] ∧ RelV x u := by
  cases r with
  | cons r1 r2 => cases r2; exact ⟨_, rfl, r1⟩
theorem vals2 {x y : V} {us : List Value} (r : Vals [x, y] us) : ∃ u w', us = [u, w'] ∧ RelV x u ∧ RelV y w' := by
  cases r with
  | cons r1 r2 =>
    cases r2 with
    | cons r3 r4 => cases r4; exact ⟨_, _, rfl, r1, r3⟩
end
end L2
namespace L2
open PySem PySem.Spec PyProof.Rows
structure ObjM (h : Heap) (x dx C : Addr) (mA : Str → Option Value) : Prop where
  obj : h.get? x = some (PySem.W.instObj C dx)
  ns : h.Ns1 dx mA
  ne : dx ≠ x
theorem lookIn_ns {h : Heap} {dx : Addr} {mA : Str → Option Value} (n : h.Ns1 dx mA) : ∃ od, h.get? dx = some od ∧ ∀ name, PySem.W.lookIn name od = some (mA name) := by
  obtain ⟨o, es, ep, ho, hd, hk, _, hm⟩ := n
  refine ⟨o, ho, fun name => ?_⟩
  have e := hm name
  unfold nsFind findBy at e
  rw [← Array.find?_toList] at e
  unfold PySem.W.lookIn
  rw [hd]
  dsimp only
  split
  · rename_i y q
    rw [q] at e
    exact congrArg some e
  · rename_i q
    rw [q] at e
    have a : es.toList.any (·.refKey) = false := by
      rw [List.any_eq_false]
      intro y hy
      obtain ⟨z, t, hkey⟩ := hk y (Array.mem_toList_iff.mp hy)
      simp [DictEntry.refKey, hkey]
    have a' : ¬ es.toList.any (·.refKey) = true := by rw [a]; exact Bool.false_ne_true
    rw [if_neg a']
    exact congrArg some e
theorem ObjM.look {h : Heap} {x dx C : Addr} {mA : Str → Option Value} (I : ObjM h x dx C mA) : ∃ od, PySem.W.InstAt h x (PySem.W.instObj C dx) C (some od) ∧ ∀ name, PySem.W.lookIn name od = some (mA name) :=
  let ⟨od, ho, hl⟩ := lookIn_ns I.ns
  ⟨od, ⟨I.obj, rfl, rfl, ho⟩, hl⟩
section
variable {prog : Program} {w : World} {A : Around} {E : Value → Shared → Prop} {s : Shared} {K : PySem.W.Frag} {x dx C f : Addr} {mA : Str → Option Value} {name : Str} {v : Value}
end
section
variable {P : Program} {w : World} {H H' : Hp} {h h' : Heap} {a C dx : Addr} {fs fs' : List (Str × V)}
theorem ins_get (hok : HOk P w H h) (e : H a = some (.ins C dx fs)) : ∃ mA, ObjM h a dx C mA ∧ (∀ f, RelO (fs.lookup f) (mA f)) ∧ PySem.Within mA (fs.map (·.1)) ∧ fs.length ≤ 1000 ∧ H dx = some (.own a) := by
  obtain ⟨d, z, ne, ob, mA, n, r, q⟩ := (show ObjOk P w H h a (.ins C dx fs) from hok a _ e)
  exact ⟨mA, ⟨ob, n, ne⟩, r, q, z, d⟩
end
structure Cls (K : PySem.W.Frag) (C : Addr) : Prop where
  pg : PySem.W.plainGet K C Str.empty = true
  hd : PySem.W.hasDictIn K C = true
  po : PySem.W.plainOver K C = true
  sa : PySem.W.findIn K (.ref C) "__setattr__" = some (some (.builtin "object.__setattr__"))
theorem Cls.get {K : PySem.W.Frag} {C : Addr} (c : Cls K C) (f : Str) : PySem.W.plainGet K C f = true := c.pg
section
variable {X : Cx} {pins : List (Addr × Obj)} {σ : St} {H : Hp} {s : Shared} {a C dx : Addr} {fs : List (Str × V)} {f : Str} {v : V} {A : Around} {E : Value → Shared → Prop}
end
section
variable {X : Cx} {o e value : Expr} {f : Str} {pos pos' tpos : Pos} {ta tv : TE}
end
section
variable {X : Cx} {pins : List (Addr × Obj)} {σ : St} {H : Hp} {s : Shared} {A : Around} {E : Value → Shared → Prop} {Q : Value → Shared → Prop} {c : Value} {b : Bool}
inductive TyOf (K : PySem.W.Frag) (H : Hp) : V → Value → Prop where
  | non : TyOf K H .non (.type "NoneType")
  | bl (x : Bool) : TyOf K H (.bl x) (.type "bool")
  | int (i : Int) : TyOf K H (.int i) (.type "int")
  | str (x : Str) : TyOf K H (.str x) (.type "str")
  | flt (x : UInt64) : TyOf K H (.flt x) (.type "float")
  | lst {a : Addr} {xs : List V} (e : H a = some (.lst xs)) : TyOf K H (.ref a) (.type "list")
  | frz {a : Addr} {o : Obj} {xs : List V} (e : H a = some (.frz o (.lst xs))) : TyOf K H (.ref a) (.type "list")
  | tup {a : Addr} {xs : List V} (e : H a = some (.tup xs)) : TyOf K H (.ref a) (.type "tuple")
  | dK {a : Addr} {kvs : List (Key × V)} (e : H a = some (.dK kvs)) : TyOf K H (.ref a) (.type "dict")
  | dT {a : Addr} {kvs : List (List Key × V)} (e : H a = some (.dT kvs)) : TyOf K H (.ref a) (.type "dict")
  | ins {a C dx : Addr} {fs : List (Str × V)} (e : H a = some (.ins C dx fs)) (cl : Cls K C) (ha : PySem.W.findIn K (.ref C) "__class__" = some (some (.builtin "object.__class__")))
      (hn : PySem.W.specialIn K (.builtin "object.__class__") "__get__" = some (some (.builtin "getset_descriptor.__get__"))) (htk : PySem.W.takesIn K (.builtin "object.__class__") = some true)
      (hm : PySem.W.mroIn K C (.type "object") = some true) : TyOf K H (.ref a) (.ref C)
theorem isinst_ok {x : V} {u t : Value} (I : Inv X pins σ H s) (rx : RelV x u) (ty : TyOf X.K H x t) (e : PySem.W.kitOne X.K t c = some b) (h : ∀ tk, Q (.bool b) { s with toks := tk }) :
    wpAny (model X.prog X.w) A (call (.builtin "isinstance") [u, c]) Q E s := by
  cases ty with
  | non => cases (show u = Value.none from rx); exact PySem.W.kia_one PySem.W.kitx_none I.kIn True.intro e (fun z => nomatch z) h
  | bl y => cases (show u = Value.bool y from rx); exact PySem.W.kia_one PySem.W.kitx_bool I.kIn True.intro e (fun z => nomatch z) h
  | int i => obtain ⟨t, q⟩ := (show ∃ t, u = Value.int i t from rx); cases q; exact PySem.W.kia_one PySem.W.kitx_int I.kIn True.intro e (fun z => nomatch z) h
  | str y => obtain ⟨t, q⟩ := (show ∃ t, u = Value.str y t from rx); cases q; exact PySem.W.kia_one PySem.W.kitx_str I.kIn True.intro e (fun z => nomatch z) h
  | flt y => obtain ⟨t, q⟩ := (show ∃ t, u = Value.float y t from rx); cases q; exact PySem.W.kia_one PySem.W.kitx_float I.kIn True.intro e (fun z => nomatch z) h
  | @lst a xs ea =>
    cases (show u = Value.ref a from rx)
    obtain ⟨_, _, n, _, h1⟩ := (show ObjOk X.prog X.w H s.heap a (.lst xs) from I.hok a _ ea)
    exact PySem.W.kia_one PySem.W.kitx_list I.kIn ⟨_, h1, rfl⟩ e (fun z => nomatch z) h
  | @frz a ob xs ea =>
    cases (show u = Value.ref a from rx)
    obtain ⟨_, _, _, n, _, h1⟩ := (show ObjOk X.prog X.w H s.heap a (.frz ob (.lst xs)) from I.hok a _ ea)
    exact PySem.W.kia_one PySem.W.kitx_list I.kIn ⟨_, h1, rfl⟩ e (fun z => nomatch z) h
  | @tup a xs ea =>
    cases (show u = Value.ref a from rx)
    obtain ⟨_, _, _, p⟩ := (show ObjOk X.prog X.w H s.heap a (.tup xs) from I.hok a _ ea)
    obtain ⟨o, h1, h2, _⟩ := p
    exact PySem.W.kia_one PySem.W.kitx_tuple I.kIn ⟨o, h1, h2⟩ e (fun z => nomatch z) h
  | @dK a kvs ea =>
    cases (show u = Value.ref a from rx)
    obtain ⟨_, _, vs, _, p⟩ := (show ObjOk X.prog X.w H s.heap a (.dK kvs) from I.hok a _ ea)
    obtain ⟨o, es, ep, h1, h2, _⟩ := p
    exact PySem.W.kia_one PySem.W.kitx_dict I.kIn ⟨o, h1, h2.1⟩ e (fun z => nomatch z) h
  | @dT a kvs ea =>
    cases (show u = Value.ref a from rx)
    obtain ⟨_, _, xs, _, o, es, ep, h1, h2, _⟩ := (show ObjOk X.prog X.w H s.heap a (.dT kvs) from I.hok a _ ea)
    exact PySem.W.kia_one PySem.W.kitx_dict I.kIn ⟨o, h1, h2.1⟩ e (fun z => nomatch z) h
  | @ins a C dx fs ea cl ha hn htk hm =>
    cases (show u = Value.ref a from rx)
    obtain ⟨mA, O, _⟩ := ins_get I.hok ea
    obtain ⟨od, J, _⟩ := O.look
    exact PySem.W.kia_one (PySem.W.kitx_own (cl.get _) cl.hd ha hn htk hm) I.kIn J e (fun z => nomatch z) h
end
end L2
namespace L2
open PySem PySem.Spec PyProof.Rows
structure Room (k : Nat) (A : Around) : Prop where
  hd : A.handled = none
  dp : A.depth + 3 * k + 5 < recursionLimit
  un : A.units + 16 * k + 200 < cLine
theorem Room.mono {j k : Nat} {A : Around} (r : Room k A) (h : j ≤ k) : Room j A := ⟨r.hd, by have := r.dp; omega, by have := r.un; omega⟩
theorem Room.deeper {k : Nat} {A : Around} (r : Room (k + 1) A) (env : Env) : Room k (A.deeper env) :=
  ⟨r.hd, by have := r.dp; show A.depth + 1 + 3 * k + 5 < _; omega, by have := r.un; show A.units + 3 + 16 * k + 200 < _; omega⟩
theorem Room.in1 {k : Nat} {A : Around} (r : Room (k + 1) A) : Room k A.in1 :=
  ⟨r.hd, by have := r.dp; show A.depth + 3 * k + 5 < _; omega, by have := r.un; show A.units + 1 + 16 * k + 200 < _; omega⟩
theorem Room.depth {k : Nat} {A : Around} (r : Room k A) : A.depth < recursionLimit := by have := r.dp; omega
theorem Room.units {k : Nat} {A : Around} (r : Room k A) : A.units + 64 < cLine := by have := r.un; omega
def tNil : TA := fun _ H Q => Q [] H
def tCons (ta : TE) (tr : TA) : TA := fun σ H Q => ta σ H fun x H1 => tr σ H1 fun xs H2 => Q (x :: xs) H2
section
variable {X : Cx} {e : Expr} {es : List Expr} {te : TE} {t : TA} {pos : Pos}
theorem pa_nil : PA X [] tNil := fun _ _ _ _ H Q I h => Calls.spliced_nil ⟨[], H, I, .nil, h⟩
theorem pa_cons (ha : PE X e te) (hr : PA X es t) (hs : starEach (e :: es) X.env = (false, eval e X.env) :: starEach es X.env := by rfl) : PA X (e :: es) (tCons te t) := by
  intro pos pins s σ H Q I h
  rw [hs]
  show wpAny _ _ (spliced ((false, eval e X.env) :: backTo pos (starEach es X.env))) _ _ s
  refine Calls.spliced_cons (thn (ha pins s σ H _ I h) fun u s1 ⟨x, H1, I1, r1, q1⟩ => ?_)
  exact thn (hr pos pins s1 σ H1 _ I1 q1) fun us s2 ⟨xs, H2, I2, r2, q2⟩ => ⟨x :: xs, H2, I2, .cons r1 r2, q2⟩
def tTup (t : TA) : TE := fun σ H Q => t σ H fun xs H1 => xs.length ≤ sizeLine ∧ ∀ p, H1 p = none → Q (.ref p) (upd H1 p (.tup xs))
def tLst (t : TA) : TE := fun σ H Q => t σ H fun xs H1 => xs.length ≤ sizeLine ∧ ∀ p, H1 p = none → Q (.ref p) (upd H1 p (.lst xs))
theorem pe_tup {x1} (h : PA X es t) : PE X (.Tuple es x1 pos) (tTup t) := by
  intro pins s σ H Q I hq
  refine wpAny_Tuple_spliced (thn (h pos pins s σ H _ I hq) fun us s1 ⟨xs, H1, I1, r, z, q⟩ => ⟨by rw [← r.length]; exact z, ?_⟩)
  have hf : H1 s1.heap.objs.size = none := I1.hok.fresh (Nat.le_refl _)
  refine ⟨.ref s1.heap.objs.size, upd H1 s1.heap.objs.size (.tup xs), I1.laid (t' := s1.toks) (fun b u e => Heap.get?_push_of_some _ e) (Nat.le_refl _) ?_, rfl, q _ hf⟩
  exact ⟨z, us, r, ⟨_, Heap.get?_push_size _ rfl, rfl, _, rfl⟩⟩
theorem pe_lst (h : PA X es t) : PE X (.List es pos) (tLst t) := by
  intro pins s σ H Q I hq
  refine wpAny_List_spliced (thn (h pos pins s σ H _ I hq) fun us s1 ⟨xs, H1, I1, r, z, q⟩ => ⟨by rw [← r.length]; exact z, ?_⟩)
  have hf : H1 s1.heap.objs.size = none := I1.hok.fresh (Nat.le_refl _)
  refine ⟨.ref s1.heap.objs.size, upd H1 s1.heap.objs.size (.lst xs), I1.laid (t' := s1.toks) (fun b u e => Heap.get?_push_of_some _ e) (Nat.le_refl _) ?_, rfl, q _ hf⟩
  exact ⟨z, us, 0, r, Heap.get?_push_size _ rfl⟩
end
abbrev Sp := List V → Hp → VK → XK → Prop
abbrev CXT := List Env → Hp → Shared → XK → Value → Shared → Prop
structure Env0 (P : Program) (w : World) (K : PySem.W.Frag) (mg : Str → Option Value) (base : Heap) (A : Around) (outer : List Env) (s : Shared) (H : Hp) : Prop where
  frames : A.frames = some outer
  mod : Mod K mg base
  bs : ∀ b o, base.get? b = some o → s.heap.get? b = some o ∧ H b = none
  bsz : base.objs.size ≤ s.heap.objs.size
  funs : s.heap.FunFrames base outer
  frf : ∀ b ∈ frs outer, H b = none
  hok : HOk P w H s.heap
  bare : AllBare s.gens
def CE (outer : List Env) (P : Program) (w : World) (H : Hp) (s : Shared) (Q : VK) (u : Value) (s' : Shared) : Prop :=
  ∃ v H', s'.os = s.os ∧ AllBare s'.gens ∧ Un (frs outer) [] H H' s.heap s'.heap ∧ HOk P w H' s'.heap ∧ RelV v u ∧ Q v H'
def CR (CX : CXT) (outer : List Env) (P : Program) (w : World) (H : Hp) (s : Shared) (Q : VK) (E : XK) (r : Result) (s' : Shared) : Prop :=
  match r with
  | .ok (.ret u) => CE outer P w H s Q u s'
  | .ok _ => False
  | .error e => CX outer H s E e s'
structure FnOk (P : Program) (w : World) (K : PySem.W.Frag) (mg : Str → Option Value) (base : Heap) (CX : CXT) (k : Nat) (f : Addr) (fd : FuncData) (ps : List Str) (sp : Sp) : Prop where
  len : ∀ vs H Q E, sp vs H Q E → vs.length = ps.length
  run : ∀ (A : Around) (outer : List Env) (s : Shared) (H : Hp) (args : Args) (us : List Value) (vs : List V) (Q : VK) (E : XK), Room k A → Env0 P w K mg base A outer s H → BindsTo s fd args (ps.zip us) → Vals vs us → sp vs H Q E →
    codeAny (model P w) A (.call (.ref f) args) (CR CX outer P w H s Q E) s
theorem FnOk.mono {P : Program} {w : World} {K : PySem.W.Frag} {mg : Str → Option Value} {base : Heap} {CX : CXT} {j k : Nat} {f : Addr} {fd : FuncData} {ps : List Str} {sp : Sp} (F : FnOk P w K mg base CX j f fd ps sp) (h : j ≤ k) :
    FnOk P w K mg base CX k f fd ps sp := ⟨F.len, fun A outer s H args us vs Q E hr => F.run A outer s H args us vs Q E (hr.mono h)⟩
theorem FnOk.imp {P : Program} {w : World} {K : PySem.W.Frag} {mg : Str → Option Value} {base : Heap} {CX : CXT} {k : Nat} {f : Addr} {fd : FuncData} {ps : List Str} {sp sp' : Sp} (F : FnOk P w K mg base CX k f fd ps sp)
    (h : ∀ vs H Q E, sp' vs H Q E → sp vs H Q E) : FnOk P w K mg base CX k f fd ps sp' :=
  ⟨fun vs H Q E q => F.len vs H Q E (h _ _ _ _ q), fun A outer s H args us vs Q E hr he hb hv hs => F.run A outer s H args us vs Q E hr he hb hv (h _ _ _ _ hs)⟩
theorem Env0.in1 {P : Program} {w : World} {K : PySem.W.Frag} {mg : Str → Option Value} {base : Heap} {A : Around} {outer : List Env} {s : Shared} {H : Hp} (e : Env0 P w K mg base A outer s H) :
    Env0 P w K mg base A.in1 outer s H := ⟨e.frames, e.mod, e.bs, e.bsz, e.funs, e.frf, e.hok, e.bare⟩
section
variable {X : Cx} {pins : List (Addr × Obj)} {σ : St} {H : Hp} {s s' : Shared}
theorem Inv.env0 (I : Inv X pins σ H s) : Env0 X.prog X.w X.K X.mg X.base X.A X.stack s H :=
  ⟨I.ok.frames, I.ok.mod, I.bs, Nat.le_trans I.ok.bsz I.sz, I.stack, I.stkFree, I.hok, I.bare⟩
theorem Inv.after {Q : VK} {u : Value} (I : Inv X pins σ H s) (h : CE X.stack X.prog X.w H s Q u s') : EP X pins σ Q u s' := by
  obtain ⟨v, H', os, bare, un, hok, r, q⟩ := h
  obtain ⟨hh, g, d, t, os'⟩ := s'
  obtain rfl : os' = s.os := os
  exact ⟨v, H', I.call (h' := hh) (g' := g) (d' := d) (t' := t) (ch := []) un hok bare (fun b z => absurd z (by simp)), r, q⟩
end
def tCall (sp : Sp) (dvs : List V) (E : XK) (t : TA) : TE := fun σ H Q => t σ H fun vs H1 => sp (vs ++ dvs) H1 Q E
def Binds (K : PySem.W.Frag) (fd : FuncData) (ps : List Str) (ds : List Value) : Prop :=
  ∀ (s : Shared) (us : List Value), K.In s.heap → (us ++ ds).length = ps.length → BindsTo s fd ⟨us, []⟩ (ps.zip (us ++ ds))
theorem Binds.all {K : PySem.W.Frag} {fd : FuncData} {ps : List Str} (h : ∀ us : List Value, us.length = ps.length → bindArgs fd ⟨us, []⟩ = pure (ps.zip us)) : Binds K fd ps [] := fun s us _ hl => by
  rw [List.append_nil] at hl ⊢
  exact .of_eq (h us hl)
def Passes (CX : CXT) (X : Cx) (E : XK) : Prop := ∀ (pins : List (Addr × Obj)) (σ : St) (H : Hp) (s : Shared) (e : Value) (s' : Shared), Inv X pins σ H s → CX X.stack H s E e s' → X.xe e s'
section
variable {X : Cx} {CX : CXT} {k : Nat} {f C : Addr} {fd : FuncData} {ps : List Str} {sp : Sp} {dvs : List V} {ds : List Value} {E : XK} {x m : Str} {p pos apos : Pos} {e o : Expr} {es : List Expr} {ta : TE} {t : TA}
theorem run_fn {pins : List (Addr × Obj)} {σ : St} {H : Hp} {s : Shared} {Q : VK} {us : List Value} {vs : List V} (F : FnOk X.prog X.w X.K X.mg X.base CX k f fd ps sp) (hr : Room k X.A) (hb : Binds X.K fd ps ds) (hd : Vals dvs ds) (hx : Passes CX X E)
    (I : Inv X pins σ H s) (r : Vals vs us) (h : sp (vs ++ dvs) H Q E) : wpAny (model X.prog X.w) X.A (call (.ref f) us) (EP X pins σ Q) X.xe s := by
  have r2 : Vals (vs ++ dvs) (us ++ ds) := r.append hd
  have hl : (us ++ ds).length = ps.length := by rw [← r2.length]; exact F.len _ _ _ _ h
  refine wpAny_call (codeAny_mono (F.run X.A X.stack s H ⟨us, []⟩ (us ++ ds) (vs ++ dvs) Q E hr I.env0 (hb s us I.kIn hl) r2 h) fun r s' hq => ?_)
  cases r with
  | error e => exact hx pins σ H s e s' I hq
  | ok fl =>
    cases fl with
    | ret u => exact I.after hq
    | next => exact False.elim hq
    | brk => exact False.elim hq
    | cont => exact False.elim hq
theorem pe_call (F : FnOk X.prog X.w X.K X.mg X.base CX k f fd ps sp) (hr : Room k X.A) (hg : Gl X x) (hm : X.mg x = some (.ref f)) (hk : PySem.W.keepIn X.K (.ref f) = true) (hb : Binds X.K fd ps ds) (hd : Vals dvs ds) (hx : Passes CX X E)
    (ha : PA X (e :: es) t) (hdb : (x == ("__debug__" : Str)) = false := by decide) (he : starEach (e :: es) X.env = (false, eval e X.env) :: starEach es X.env := by rfl) (hpl : (backTo pos (starEach es X.env)).any (·.1) = false := by rfl) :
    PE X (.Call (.Name x p) (e :: es) [] pos) (tCall sp dvs E t) := by
  intro pins s σ H Q I h
  refine wpAny_Call_Name_kw (ld_glob I hg hm ?_ hdb)
  refine PySem.W.callWith_K (h₀ := X.base) I.ok.mod.kin hk (thn (ha pos pins s σ H _ I h) fun us s1 ⟨vs, H1, I1, r, q⟩ => ⟨I1.kIn, ?_⟩) he hpl
  exact run_fn F hr hb hd hx I1 r q
end
section
variable {X : Cx} {CX : CXT} {k : Nat} {f C : Addr} {fd : FuncData} {ps ks : List Str} {sp : Sp} {E : XK} {x m : Str} {p pos apos kpos : Pos} {e o : Expr} {es : List Expr} {kws : List Keyword} {te ta : TE} {t tk : TA} {nm : Option Str}
variable {g : List Value → List Value → List Value} {gV : List V → List V → List V}
end
structure FnScope (N P : List Str) (sc : Scope) : Prop where
  kind : sc.kind = .function
  co : sc.isCoroutine = false
  gen : sc.isGenerator = false
  nd : N.Nodup
  pre : N.take P.length = P
  par : ∀ x ∈ P, sc.names.lookup x = some .local ∨ sc.names.lookup x = some .cell
  nofree : ∀ y ∈ sc.names, y.2 ≠ .free
theorem bindL_out {kindOf : Str → Option NameKind} {x : Str} : ∀ {binds : List (Str × Value)} {m : Str → Option Value}, (∀ v, (x, v) ∉ binds) → bindL kindOf binds m x = m x
  | [], _, _ => rfl
  | (n, v) :: r, m, h => by
    unfold bindL
    rw [bindL_out fun w hw => h w (List.mem_cons_of_mem _ hw)]
    split
    · have : x ≠ n := by rintro rfl; exact h v List.mem_cons_self
      simp [this]
    · rfl
theorem bindC_out {kindOf : Str → Option NameKind} {x : Str} : ∀ {binds : List (Str × Value)} {m : Str → Option Value}, (∀ v, (x, v) ∉ binds) → bindC kindOf binds m x = m x
  | [], _, _ => rfl
  | (n, v) :: r, m, h => by
    unfold bindC
    rw [bindC_out fun w hw => h w (List.mem_cons_of_mem _ hw)]
    split
    · rfl
    · have : x ≠ n := by rintro rfl; exact h v List.mem_cons_self
      simp [this]
theorem bindL_get {kindOf : Str → Option NameKind} {x : Str} {v : Value} : ∀ {P : List Str} {vs : List Value} {i : Nat} {m : Str → Option Value}, P.Nodup → P[i]? = some x → vs[i]? = some v → kindOf x = some .local →
    bindL kindOf (P.zip vs) m x = some v
  | [], _, _, _, _, h, _, _ => by simp at h
  | _ :: _, [], _, _, _, _, h, _ => by simp at h
  | p :: P, w :: vs, 0, m, nd, h1, h2, hk => by
    simp at h1 h2; subst h1; subst h2
    show bindL kindOf ((p, w) :: P.zip vs) m p = _
    unfold bindL
    rw [bindL_out fun v hv => (List.nodup_cons.mp nd).1 (List.of_mem_zip hv).1, if_pos hk]
    simp
  | p :: P, w :: vs, i + 1, m, nd, h1, h2, hk => by
    show bindL kindOf ((p, w) :: P.zip vs) m x = _
    unfold bindL
    exact bindL_get (i := i) (List.nodup_cons.mp nd).2 (by simpa using h1) (by simpa using h2) hk
theorem bindC_get {kindOf : Str → Option NameKind} {x : Str} {v : Value} : ∀ {P : List Str} {vs : List Value} {i : Nat} {m : Str → Option Value}, P.Nodup → P[i]? = some x → vs[i]? = some v → kindOf x ≠ some .local →
    bindC kindOf (P.zip vs) m x = some v
  | [], _, _, _, _, h, _, _ => by simp at h
  | _ :: _, [], _, _, _, _, h, _ => by simp at h
  | p :: P, w :: vs, 0, m, nd, h1, h2, hk => by
    simp at h1 h2; subst h1; subst h2
    show bindC kindOf ((p, w) :: P.zip vs) m p = _
    unfold bindC
    rw [bindC_out fun v hv => (List.nodup_cons.mp nd).1 (List.of_mem_zip hv).1, if_neg hk]
    simp
  | p :: P, w :: vs, i + 1, m, nd, h1, h2, hk => by
    show bindC kindOf ((p, w) :: P.zip vs) m x = _
    unfold bindC
    exact bindC_get (i := i) (List.nodup_cons.mp nd).2 (by simpa using h1) (by simpa using h2) hk
def start (N : List Str) (vs : List V) : St := vs.map some ++ List.replicate (N.length - vs.length) none
def cxOf (CX : CXT) (P : Program) (w : World) (K : PySem.W.Frag) (mg : Str → Option Value) (base : Heap) (N : List Str) (qual : Str) (scope : Scope) (f : Addr) (cd : Value) (A : Around) (outer : List Env) (s : Shared) (H : Hp) (E : XK) : Cx where
  prog := P
  w := w
  K := K
  mg := mg
  base := base
  A := A.deeper (envOfC qual scope s.heap.objs.size f cd)
  N := N
  s₀ := s
  H₀ := H
  env := envOfC qual scope s.heap.objs.size f cd
  outer := outer
  stack := envOfC qual scope s.heap.objs.size f cd :: outer
  ex := []
  calm := true
  fn := fun _ => true
  pn := []
  xe := fun e s' => wpAny (model P w) (A.deeper (envOfC qual scope s.heap.objs.size f cd)) (leaving (envOfC qual scope s.heap.objs.size f cd) e) (fun _ s'' => CX outer H s E e s'') (fun e' s'' => CX outer H s E e' s'') s'
theorem cell_has {sc : Scope} {n : Nat} {x : Str} (h : sc.names.lookup x = some .cell) : ∃ c, (cellsFrom n sc.names []).lookup x = some c := by
  have q := PySem.W.cellsFrom_some sc.names n [] (.inl h)
  exact Option.isSome_iff_exists.mp q
theorem inv_start {CX : CXT} {P : Program} {w : World} {K : PySem.W.Frag} {mg : Str → Option Value} {base : Heap} {N ps : List Str} {qual : Str} {scope : Scope} {f : Addr} {cd : Value} {A : Around} {outer : List Env} {s s1 : Shared} {H : Hp} {E : XK} {us : List Value} {vs : List V}
    (S : FnScope N ps scope) (hd : A.handled = none) (e0 : Env0 P w K mg base A outer s H) (hl : vs.length = ps.length) (r : Vals vs us)
    (x : InCallC s s.heap.objs.size (bindL (envOfC qual scope s.heap.objs.size f cd).kindOf (ps.zip us) fun _ => none) (cellsFrom (s.heap.objs.size + 1) scope.names []) (bindC (envOfC qual scope s.heap.objs.size f cd).kindOf (ps.zip us) fun _ => none) s1) :
    Inv (cxOf CX P w K mg base N qual scope f cd A outer s H E) [] (start N vs) H s1 := by
  have hpl : ps.length ≤ N.length := by have := congrArg List.length S.pre; rw [List.length_take] at this; omega
  obtain ⟨h1, tk, rfl, hk⟩ := x.done
  have noA : ∀ b : Addr, b ∉ (cxOf CX P w K mg base N qual scope f cd A outer s H E).ex := fun b z => absurd (show b ∈ ([] : List Addr) from z) (by simp)
  refine ⟨⟨e0.mod, S.kind, rfl, rfl, Nat.le_refl _, fun y z c h1 h2 => ?_, fun y hy => ?_, fun y c _ h => ?_, fun _ => hd, Around.frames_deeper e0.frames, .inr ⟨rfl, rfl⟩, fun b z => absurd z (noA b), e0.bs, e0.bsz, fun b _ _ => noA b, fun b z => absurd z (noA b), e0.funs, e0.frf⟩,
    rfl, e0.bare, Un.kept hk, ⟨_, x.toInCall.ns, fun i y v h1 h2 h3 => ?_⟩, fun y c h => ⟨_, x.cell y c h⟩, e0.hok.fresh (Nat.le_refl _), fun y c h => ?_, fun p hp => absurd (show p ∈ ([] : List (Addr × Obj)) from hp) (by simp), e0.hok.kept hk, ?_⟩
  · exact name_of_addr x.apart (PySem.mem_of_lookup h1) (PySem.mem_of_lookup h2)
  · have hy : scope.names.lookup y = some .cell ∨ scope.names.lookup y = some .free := hy
    rcases hy with hy | hy
    · exact cell_has hy
    · exact absurd rfl (S.nofree _ (PySem.mem_of_lookup hy))
  · exact Nat.le_of_lt (x.above y c (PySem.mem_of_lookup h))
  · have hi : i < vs.length := by
      unfold start at h2
      by_cases hi : i < vs.length
      · exact hi
      · rw [List.getElem?_append_right (by simpa using hi)] at h2
        rw [List.getElem?_replicate] at h2
        split at h2 <;> cases h2
    have ha : vs[i]? = some v := by
      unfold start at h2
      rw [List.getElem?_append_left (by simpa using hi), List.getElem?_map] at h2
      cases e : vs[i]? with
      | none => rw [e] at h2; cases h2
      | some a => rw [e] at h2; cases h2; rfl
    obtain ⟨u, hu, rv⟩ := r.get ha
    have hp : ps[i]? = some y := by
      rw [← S.pre, List.getElem?_take_of_lt (by omega)]; exact h1
    have ndP : ps.Nodup := by rw [← S.pre]; exact S.nd.sublist (List.take_sublist _ _)
    refine ⟨u, rv, ?_⟩
    rcases S.par y (List.mem_of_getElem? hp) with k | k
    · exact .inl ⟨k, bindL_get ndP hp hu k⟩
    · obtain ⟨c, e⟩ := cell_has (n := s.heap.objs.size + 1) k
      refine .inr ⟨.inl k, c, e, ?_⟩
      have q := x.cell y c e
      rw [bindC_get ndP hp hu (by show scope.names.lookup y ≠ _; rw [k]; decide)] at q
      exact q
  · exact e0.hok.fresh (Nat.le_of_lt (x.above y c (PySem.mem_of_lookup h)))
  · unfold start
    show _ = N.length
    rw [List.length_append, List.length_map, List.length_replicate]
    omega
theorem fn_of {CX : CXT} {P : Program} {w : World} {K : PySem.W.Frag} {mg : Str → Option Value} {base : Heap} {k : Nat} {f : Addr} {name qual : Str} {params : Arguments} {body : List Stmt} {scope : Scope} {dV kV doc pm cdv ct oc : Value} {an od : Option Addr}
    {osl : Array (Option Value)} {N ps : List Str} {sp : Sp} (lk : K.lookup f = some ⟨oc, od, .func (PySem.W.fnOf name qual params body scope dV kV doc pm an cdv ct), osl⟩) (hcd : PySem.W.codeIn K cdv qual = true) (S : FnScope N ps scope)
    (len : ∀ vs H Q E, sp vs H Q E → vs.length = ps.length)
    (hbody : ∀ (A : Around) (outer : List Env) (s : Shared) (H : Hp) (vs : List V) (Q : VK) (E : XK), Room k (A.deeper (envOfC qual scope s.heap.objs.size f cdv)) → sp vs H Q E →
      ∃ t, PSs (cxOf CX P w K mg base N qual scope f cdv A outer s H E) body t ∧ t { nx := fun _ H' => Q .non H', rt := Q } (start N vs) H) :
    FnOk P w K mg base CX (k + 1) f (PySem.W.fnOf name qual params body scope dV kV doc pm an cdv ct) ps sp := by
  refine ⟨len, fun A outer s H args us vs Q E hr e0 hb r hsp => ?_⟩
  have hl := len _ _ _ _ hsp
  have KX : K.In s.heap := e0.mod.kin.keeps fun b o e => (e0.bs b o e).1
  have lim : s.heap.NoLimit := e0.mod.nolimit.keeps fun b o e => (e0.bs b o e).1
  have hkind : ∀ y ∈ ps.zip us, scope.names.lookup y.1 = some .local ∨ (scope.names.lookup y.1 = some .cell ∧ ((cellsFrom (s.heap.objs.size + 1) scope.names []).lookup y.1).isSome = true) := fun ⟨n, v⟩ hy => by
    rcases S.par n (List.of_mem_zip hy).1 with q | q
    · exact .inl q
    · exact .inr ⟨q, PySem.W.cellsFrom_some _ _ _ (.inl q)⟩
  refine codeAny_call_function hr.depth (KX _ _ lk) rfl S.co S.gen rfl (PySem.W.codeRec_of KX hcd) (hb _ _ _ _ ?_)
  refine wpAny_newFunctionEnv_cells S.kind hkind fun env he s1 x => ?_
  subst he
  refine ⟨lim.keeps x.toInCall.keep, codeAny_func ?_⟩
  obtain ⟨t, ht, hq⟩ := hbody A outer s H vs Q E (hr.deeper _) hsp
  have I : Inv (cxOf CX P w K mg base N qual scope f cdv A outer s H E) [] (start N vs) H s1 := inv_start S hr.hd e0 hl r x
  refine wpAny_mono (ht [] s1 (start N vs) H _ I hq) (fun fl s' hs => ?_) fun e s' hs => hs
  have fin : ∀ {σ' : St} {H' : Hp} {v : V} {u : Value}, Inv (cxOf CX P w K mg base N qual scope f cdv A outer s H E) [] σ' H' s' → RelV v u → Q v H' → CE outer P w H s Q u s' :=
    fun {σ' H' v u} J rv q => ⟨v, H', J.os, J.bare, J.base, J.hok, rv, q⟩
  cases fl with
  | ret u =>
    obtain ⟨v, σ', H', J, rv, q⟩ := hs
    exact fin J rv q
  | next =>
    obtain ⟨σ', H', J, q⟩ := hs
    exact fin (v := V.non) (u := Value.none) J rfl q
  | brk =>
    obtain ⟨_, _, _, q⟩ := hs
    exact False.elim q
  | cont =>
    obtain ⟨_, _, _, q⟩ := hs
    exact False.elim q
end L2
namespace L2
open PySem PySem.Spec PyProof.Rows
section
variable {X : Cx} {x : Str} {p pos : Pos} {e : Expr} {es : List Expr} {t : TA} {id T : String} {r : List V → Hp → VK → Prop}
def tCB (r : List V → Hp → VK → Prop) (t : TA) : TE := fun σ H Q => t σ H fun vs H1 => r vs H1 Q
theorem pe_callB (hc : CallR X (.builtin id) r) (hg : Gl X x) (hm : X.mg x = none) (hv : bootBuiltins x = some (.builtin id)) (ha : PA X (e :: es) t) (hn : x ≠ "__name__" := by decide) (hdb : (x == ("__debug__" : Str)) = false := by decide)
    (he : starEach (e :: es) X.env = (false, eval e X.env) :: starEach es X.env := by rfl) (hpl : (backTo pos (starEach es X.env)).any (·.1) = false := by rfl) : PE X (.Call (.Name x p) (e :: es) [] pos) (tCB r t) := by
  intro pins s σ H Q I h
  refine wpAny_Call_Name_kw (ld_blt I hg hm hv ?_ hn hdb)
  exact PyProof.Rows.callWith_builtin1 (thn (ha pos pins s σ H _ I h) fun us s1 ⟨vs, H1, I1, r1, q1⟩ => hc pins s1 σ H1 vs us Q I1 r1 q1) he hpl
theorem pe_callTy (hc : CallR X (.type T) r) (hg : Gl X x) (hm : X.mg x = none) (hv : bootBuiltins x = some (.type T)) (ha : PA X (e :: es) t) (hn : x ≠ "__name__" := by decide) (hdb : (x == ("__debug__" : Str)) = false := by decide)
    (he : starEach (e :: es) X.env = (false, eval e X.env) :: starEach es X.env := by rfl) (hpl : (backTo pos (starEach es X.env)).any (·.1) = false := by rfl) : PE X (.Call (.Name x p) (e :: es) [] pos) (tCB r t) := by
  intro pins s σ H Q I h
  refine wpAny_Call_Name_kw (ld_blt I hg hm hv ?_ hn hdb)
  exact PyProof.Rows.callWith_type1 (thn (ha pos pins s σ H _ I h) fun us s1 ⟨vs, H1, I1, r1, q1⟩ => hc pins s1 σ H1 vs us Q I1 r1 q1) he hpl
end
end L2
namespace HT
open PySem PyProof.Rows
def lexLt : List Int → List Int → Bool
  | [], [] => false
  | [], _ :: _ => true
  | _ :: _, [] => false
  | x :: xs, y :: ys => if x = y then lexLt xs ys else decide (x < y)
section
open PySem.SeqAt
open PySem.AutoSeq1 (wpAny_loadPart')
open PySem.MeetsSeq PySem.MeetsSeq2 PySem.MeetsSeq3
end
section
variable {prog : Program} {w : World} {A : Around} {E : Value → Shared → Prop} {s : Shared}
theorem cat_tup {t b : Addr} {vs ws : List Value} {Q : Value → Shared → Prop} (ht : IsTup s.heap t vs.toArray) (hb : IsTup s.heap b ws.toArray) (hv : vs ≠ [])
    (h1 : ws = [] → Q (.ref t) s) (h2 : ws ≠ [] → Q (.ref s.heap.objs.size) { s with heap := s.heap.push { cls := .type "tuple", data := .seq (vs ++ ws).toArray } })
    (hsz : vs.length + ws.length ≤ sizeLine) : wpAny (model prog w) A (binaryOp .Add (.ref t) (.ref b)) Q E s := by
  obtain ⟨⟨cls, dd, data, sl⟩, ho, hc, n, hd⟩ := id ht
  obtain ⟨⟨cls2, dd2, data2, sl2⟩, ho2, hc2, n2, hd2⟩ := id hb
  simp only at hc hd hc2 hd2
  subst hc hd hc2 hd2
  have e : vs.toArray ++ ws.toArray = (vs ++ ws).toArray := by simp
  by_cases hw : ws = []
  · exact concat_meets ⟨_, ho, rfl⟩ ⟨_, ho2, rfl⟩ noFill_tuple_add seq_tuple_add PySem.F.slot_tuple_add PySem.F.entry_tuple_add (PySem.F.args_tuple_add_2 _ _)
      (tuple_addW1 t b vs.toArray ws.toArray n n2 dd dd2 sl sl2 (by simpa using hv) (by simp [hw])) ⟨ho, ho2, h1 hw⟩
  · refine concat_meets ⟨_, ho, rfl⟩ ⟨_, ho2, rfl⟩ noFill_tuple_add seq_tuple_add PySem.F.slot_tuple_add PySem.F.entry_tuple_add (PySem.F.args_tuple_add_2 _ _)
      (tuple_addW2 t b vs.toArray ws.toArray n n2 dd dd2 sl sl2 (by simpa using hv) (by simpa using hw) (by rw [List.size_toArray, List.size_toArray]; exact hsz)) ⟨ho, ho2, ?_⟩
    rw [e]
    exact h2 hw
def sIx (n d : Nat) : Option Int → Nat
  | none => d
  | some v => if v < 0 then (v + (n : Int)).toNat else min v.toNat n
theorem sIx_none (n d : Nat) : sIx n d none = d := rfl
theorem sIx_nat (n d k : Nat) : sIx n d (some (k : Int)) = min k n := by
  show (if (k : Int) < 0 then ((k : Int) + (n : Int)).toNat else min (k : Int).toNat n) = min k n
  rw [if_neg (by omega), Int.toNat_natCast]
end
end HT
namespace L2
open PySem PySem.Spec PyProof.Rows
abbrev TO := St → Hp → (Option Int → Hp → Prop) → Prop
def PO (X : Cx) (e : Option Expr) (t : TO) : Prop :=
  ∀ (pins : List (Addr × Obj)) (s : Shared) (σ : St) (H : Hp) (Q : Option Int → Hp → Prop), Inv X pins σ H s → t σ H Q →
    wpAny (model X.prog X.w) X.A (evalPart e X.env) (fun u s' => ∃ o H', Inv X pins σ H' s' ∧ IsPart u o ∧ Q o H') X.xe s
def tNoPart : TO := fun _ H Q => Q none H
def tPart (t : TE) : TO := fun σ H Q => t σ H fun x H1 => ∃ i, x = .int i ∧ Q (some i) H1
section
variable {X : Cx} {e : Expr} {te : TE} {lo hi : Option Expr} {tl th : TO} {pos p2 : Pos}
theorem po_none : PO X none tNoPart := by
  intro pins s σ H Q I h
  rw [evalPart_none]
  exact wpAny_pure ⟨none, H, I, .none, h⟩
theorem po_some (h : PE X e te) : PO X (some e) (tPart te) := by
  intro pins s σ H Q I hw
  rw [evalPart_some]
  refine thn (h pins s σ H _ I hw) fun u s1 ⟨x, H1, I1, r1, q1⟩ => ?_
  obtain ⟨i, rfl, q⟩ := q1
  obtain ⟨t, rfl⟩ := r1
  exact ⟨some i, H1, I1, .int i t, q⟩
def SlR (X : Cx) (r : V → Option Int → Option Int → Hp → VK → Prop) : Prop :=
  ∀ (pins : List (Addr × Obj)) (s : Shared) (σ : St) (H : Hp) (x : V) (v vl vu : Value) (lo hi : Option Int) (sl : Addr) (Q : VK), Inv X pins σ H s → RelV x v → s.heap.IsSliceOf sl vl vu .none → IsPart vl lo → IsPart vu hi → r x lo hi H Q →
    ∃ T id, typeLookup (.type T) "__getitem__" = pure (some (.builtin id)) ∧ s.TypeIs v T ∧ wpAny (model X.prog X.w) X.A (getItem v (.ref sl)) (EP X pins σ Q) X.xe s
theorem SlR.or {r r' : V → Option Int → Option Int → Hp → VK → Prop} (h : SlR X r) (h' : SlR X r') : SlR X (fun x lo hi H Q => r x lo hi H Q ∨ r' x lo hi H Q) := by
  intro pins s σ H x v vl vu lo hi sl Q I rx hs pl pu q
  rcases q with q | q
  · exact h pins s σ H x v vl vu lo hi sl Q I rx hs pl pu q
  · exact h' pins s σ H x v vl vu lo hi sl Q I rx hs pl pu q
def tSl (r : V → Option Int → Option Int → Hp → VK → Prop) (te : TE) (tl th : TO) : TE := fun σ H Q => te σ H fun x H1 => tl σ H1 fun l H2 => th σ H2 fun u H3 => r x l u H3 Q
theorem pe_slice {r : V → Option Int → Option Int → Hp → VK → Prop} (hr : SlR X r) (he : PE X e te) (hl : PO X lo tl) (hu : PO X hi th) : PE X (.Subscript e (.Slice lo hi none p2) pos) (tSl r te tl th) := by
  intro pins s σ H Q I h
  refine Subscript_ (thn (he pins s σ H _ I h) fun v s1 ⟨x, H1, I1, r1, q1⟩ => ?_)
  refine wpAny_Slice (thn (hl pins s1 σ H1 _ I1 q1) fun vl s2 ⟨l, H2, I2, pl, q2⟩ => thn (hu pins s2 σ H2 _ I2 q2) fun vu s3 ⟨u, H3, I3, pu, q3⟩ => ?_)
  rw [evalPart_none]
  refine wpAny_pure ?_
  have I4 : Inv X pins σ H3 { s3 with heap := s3.heap.push { cls := .type "slice", data := .fields #[vl, vu, .none] } } := I3.kept (t' := s3.toks) fun b ob q => Heap.get?_push_of_some _ q
  obtain ⟨T, id, hT, ht, hg⟩ := hr pins { s3 with heap := s3.heap.push { cls := .type "slice", data := .fields #[vl, vu, .none] } } σ H3 x v vl vu l u s3.heap.objs.size Q I4 r1 (Heap.IsSliceOf.new ..) pl pu q3
  show wpAny (model X.prog X.w) X.A (subscriptTail e (.Slice lo hi none p2) v (.ref s3.heap.objs.size)) (EP X pins σ Q) X.xe { s3 with heap := s3.heap.push { cls := .type "slice", data := .fields #[vl, vu, .none] } }
  exact tail_any (ops := [.ref s3.heap.objs.size, v]) ht hT hg (by with_unfolding_all rfl)
def cutV (xs : List V) (lo hi : Option Int) : List V := (xs.drop (HT.sIx xs.length 0 lo)).take (HT.sIx xs.length xs.length hi - HT.sIx xs.length 0 lo)
theorem cutV_length (xs : List V) (lo hi : Option Int) : (cutV xs lo hi).length ≤ xs.length := by
  unfold cutV
  rw [List.length_take, List.length_drop]
  omega
def rCatT (K : PySem.W.Frag) : R2 := fun x y H Q => ∃ a b xs ys, x = .ref a ∧ y = .ref b ∧ SqT K H a xs ∧ SqT K H b ys ∧ xs ≠ [] ∧ xs.length + ys.length ≤ sizeLine ∧
  (ys = [] → Q (.ref a) H) ∧ (ys ≠ [] → ∀ p, H p = none → Q (.ref p) (upd H p (.tup (xs ++ ys))))
theorem Vals.nil_iff {xs : List V} {us : List Value} (r : Vals xs us) : us = [] ↔ xs = [] := by
  cases r with
  | nil => simp
  | cons _ _ => simp
theorem op_catT : OpR X (binaryOp .Add) (rCatT X.K) := by
  intro pins s σ H x y v u Q I rx ry h
  obtain ⟨a, b, xs, ys, rfl, rfl, ha, hb, hx, hz, q1, q2⟩ := h
  cases rx
  cases ry
  obtain ⟨its, r1, p1, _⟩ := I.tuple ha
  obtain ⟨its2, r2, p2, _⟩ := I.tuple hb
  refine HT.cat_tup p1 p2 (fun z => hx (r1.nil_iff.mp z)) (fun z => ⟨.ref a, H, I, rfl, q1 (r2.nil_iff.mp z)⟩) (fun z => ?_) (by rw [← r1.length, ← r2.length]; exact hz)
  refine ⟨.ref s.heap.objs.size, _, I.laid (t' := s.toks) (o := .tup (xs ++ ys)) (fun b ob q => Heap.get?_push_of_some _ q) (Nat.le_refl _) ?_, rfl, q2 (fun w => z (r2.nil_iff.mpr w)) _ (I.hok.fresh (Nat.le_refl _))⟩
  exact ⟨by rw [List.length_append]; exact hz, _, r1.append r2, IsTup.new _ _⟩
end
end L2
namespace L2
open PySem PySem.Spec PyProof.Rows
def ixN (n : Nat) (i : Int) : Option Nat := if 0 ≤ i then (if i < n then some i.toNat else none) else if -(n : Int) ≤ i then some (i + n).toNat else none
def atI {α : Type} (xs : List α) (i : Int) : Option α := (ixN xs.length i).bind fun j => xs[j]?
theorem ixN_seq {n : Nat} {i : Int} {j : Nat} (h : ixN n i = some j) : seqIndex? i n = some j ∧ j < n ∧ -(n : Int) ≤ i ∧ i < n := by
  unfold ixN at h
  by_cases h0 : 0 ≤ i
  · rw [if_pos h0] at h
    by_cases h1 : i < n
    · rw [if_pos h1] at h
      have e : i.toNat = j := Option.some.inj h
      exact ⟨by rw [seqIndex_of h0 h1, e], by omega, by omega, h1⟩
    · rw [if_neg h1] at h; cases h
  · rw [if_neg h0] at h
    by_cases h1 : -(n : Int) ≤ i
    · rw [if_pos h1] at h
      have e : (i + n).toNat = j := Option.some.inj h
      exact ⟨by rw [seqIndex_neg (by omega) h1, e], by omega, h1, by omega⟩
    · rw [if_neg h1] at h; cases h
theorem atI_get {α : Type} {xs : List α} {i : Int} {v : α} (h : atI xs i = some v) : ∃ j, seqIndex? i xs.length = some j ∧ xs[j]? = some v ∧ j < xs.length ∧ -(xs.length : Int) ≤ i ∧ i < xs.length := by
  unfold atI at h
  cases e : ixN xs.length i with
  | none => rw [e] at h; cases h
  | some j =>
    rw [e] at h
    obtain ⟨h1, h2, h3, h4⟩ := ixN_seq e
    exact ⟨j, h1, h, h2, h3, h4⟩
def PlainIx (b : Expr) : Prop := ∀ o i, subscripted b false o i = operate [o, i] (getItem o i)
def IxR (X : Cx) (r : R2) : Prop :=
  ∀ (value slice : Expr) (pins : List (Addr × Obj)) (s : Shared) (σ : St) (H : Hp) (x y : V) (v u : Value) (Q : VK), Inv X pins σ H s → RelV x v → RelV y u → r x y H Q →
    subscripted slice false v u = operate [v, u] (getItem v u) → wpAny (model X.prog X.w) X.A (subscriptTail value slice v u) (EP X pins σ Q) X.xe s
def MtR (X : Cx) (id : String) (r : V → List V → Hp → VK → Prop) : Prop :=
  ∀ (pins : List (Addr × Obj)) (s : Shared) (σ : St) (H : Hp) (x : V) (xs : List V) (v : Value) (us : List Value) (Q : VK), Inv X pins σ H s → RelV x v → Vals xs us → r x xs H Q →
    wpAny (model X.prog X.w) X.A (call (.builtin id) (v :: us)) (EP X pins σ Q) X.xe s
section
variable {X : Cx} {a b : Expr} {ta tb : TE} {pos : Pos}
theorem IxR.or {r r' : R2} (h : IxR X r) (h' : IxR X r') : IxR X (fun x y H Q => r x y H Q ∨ r' x y H Q) := by
  intro value slice pins s σ H x y v u Q I rx ry q hs
  rcases q with q | q
  · exact h value slice pins s σ H x y v u Q I rx ry q hs
  · exact h' value slice pins s σ H x y v u Q I rx ry q hs
theorem MtR.or {id : String} {r r' : V → List V → Hp → VK → Prop} (h : MtR X id r) (h' : MtR X id r') : MtR X id (fun x xs H Q => r x xs H Q ∨ r' x xs H Q) := by
  intro pins s σ H x xs v us Q I rx rs q
  rcases q with q | q
  · exact h pins s σ H x xs v us Q I rx rs q
  · exact h' pins s σ H x xs v us Q I rx rs q
theorem pe_ix {r : R2} (hr : IxR X r) (ha : PE X a ta) (hb : PE X b tb) (hs : PlainIx b) : PE X (.Subscript a b pos) (tOp r ta tb) := by
  intro pins s σ H Q I h
  exact Subscript_ (binT ha hb I h fun v u s2 x y H2 I2 rx ry q => hr a b pins s2 σ H2 x y v u Q I2 rx ry q (hs _ _))
def rIxL (K : PySem.W.Frag) : R2 := fun x y H Q => ∃ p xs i v, x = .ref p ∧ y = .int i ∧ SqL K H p xs ∧ atI xs i = some v ∧ Q v H
def rIxT (K : PySem.W.Frag) : R2 := fun x y H Q => ∃ p xs i v, x = .ref p ∧ y = .int i ∧ SqT K H p xs ∧ atI xs i = some v ∧ Q v H
def rIxS : R2 := fun x y H Q => ∃ z i c, x = .str z ∧ y = .int i ∧ z.length ≤ sizeLine ∧ atI z.cps.toList i = some c ∧ Q (.str ⟨#[c]⟩) H
theorem ix_list : IxR X (rIxL X.K) := by
  intro value slice pins s σ H x y v u Q I rx ry h hs
  obtain ⟨p, xs, i, z, rfl, rfl, hq, he, q⟩ := h
  cases rx
  obtain ⟨t, rfl⟩ := ry
  obtain ⟨its, r, pl, hz⟩ := I.list hq
  obtain ⟨j, h1, h2, h3, h4, h5⟩ := atI_get he
  obtain ⟨w, ew, rw'⟩ := r.get h2
  have hl := r.length
  have hn := line63
  have fin : EP X pins σ Q w s := ⟨z, H, I, rw', q⟩
  by_cases h0 : 0 ≤ i
  · have hj : i.toNat = j := by
      rw [seqIndex_of h0 h5] at h1
      exact Option.some.inj h1
    exact item_listR pl.isList h0 (by omega) (by rw [hj]; simpa using ew) fin hs
  · have hj : (i + (its.toArray.size : Int)).toNat = j := by
      rw [seqIndex_neg (by omega) h4] at h1
      rw [List.size_toArray, ← hl]
      exact Option.some.inj h1
    exact subscriptTail_builtinR (x := w) pl.isList.typeIs slot_list_getitem.lookup
      (wpAny_getItem_list_neg (Q := fun r s' => r = w ∧ EP X pins σ Q r s') pl.isList (by omega) (by rw [List.size_toArray] <;> omega) (by omega) (by rw [hj]; simpa using ew) ⟨rfl, fin⟩) hs
theorem ix_tup : IxR X (rIxT X.K) := by
  intro value slice pins s σ H x y v u Q I rx ry h hs
  obtain ⟨p, xs, i, z, rfl, rfl, hq, he, q⟩ := h
  cases rx
  obtain ⟨t, rfl⟩ := ry
  obtain ⟨its, r, pl, hz⟩ := I.tuple hq
  obtain ⟨j, h1, h2, h3, h4, h5⟩ := atI_get he
  obtain ⟨w, ew, rw'⟩ := r.get h2
  have hl := r.length
  have hn := line63
  have fin : EP X pins σ Q w s := ⟨z, H, I, rw', q⟩
  exact subscriptTail_builtinR (x := w) pl.typeIs slot_tuple_getitem.lookup
    (getItem_tuple (j := j) (Q := fun r s' => r = w ∧ EP X pins σ Q r s') pl (by omega) (by omega) (by rw [List.size_toArray, ← hl]; exact h1) (by simpa using ew) ⟨rfl, fin⟩) hs
theorem ix_str : IxR X rIxS := by
  intro value slice pins s σ H x y v u Q I rx ry h hs
  obtain ⟨z, i, c, rfl, rfl, hz, he, q⟩ := h
  obtain ⟨t, rfl⟩ := rx
  obtain ⟨t', rfl⟩ := ry
  obtain ⟨j, h1, h2, h3, h4, h5⟩ := atI_get he
  have hl : z.cps.toList.length = z.length := by simp [Str.length]
  rw [hl] at h1 h4 h5
  have hn := line63
  exact tail_any (typeIs_str s z t) slot_str_getitem.lookup (getItem_str (c := c) (by
    have e1 : decide (i < -(2 ^ 63 : Int)) = false := decide_eq_false (by omega)
    have e2 : decide (i ≥ 2 ^ 63) = false := decide_eq_false (by omega)
    rw [e1, e2, Bool.or_false]) (by rw [h1]; simpa using h2) ⟨.str ⟨#[c]⟩, H, I.tok _, ⟨_, rfl⟩, q⟩) hs
def rIx (K : PySem.W.Frag) : R2 := fun x y H Q => rIxL K x y H Q ∨ rIxT K x y H Q ∨ rIxS x y H Q
theorem ix_seq : IxR X (rIx X.K) := ix_list.or (ix_tup.or ix_str)
theorem mapSeq_set (its : List Value) (n j : Nat) (u : Value) : Obj.mapSeq (·.setIfInBounds j u) { cls := .type "list", data := .seq its.toArray n } = { cls := .type "list", data := .seq (its.set j u).toArray n } := by
  simp [Obj.mapSeq]
theorem Inv.lst {pins : List (Addr × Obj)} {σ : St} {H : Hp} {s : Shared} {p : Addr} {xs : List V} (I : Inv X pins σ H s) (h : H p = some (.lst xs)) :
    ∃ (its : List Value) (n : Nat), Vals xs its ∧ s.heap.get? p = some { cls := .type "list", data := .seq its.toArray n } ∧ xs.length ≤ sizeLine := by
  obtain ⟨z, its, n, r, e⟩ := I.hok p _ h
  exact ⟨its, n, r, e, z⟩
theorem Inv.lstUpd {pins : List (Addr × Obj)} {σ : St} {H : Hp} {s : Shared} {p : Addr} {xs ys : List V} {its its' : List Value} {n n' : Nat} {f : Obj → Obj} (I : Inv X pins σ H s) (h : H p = some (.lst xs))
    (ho : s.heap.get? p = some { cls := .type "list", data := .seq its.toArray n }) (hf : f { cls := .type "list", data := .seq its.toArray n } = { cls := .type "list", data := .seq its'.toArray n' }) (r : Vals ys its') (hz : ys.length ≤ sizeLine) (t : Nat) :
    Inv X pins σ (upd H p (.lst ys)) { s with heap := s.heap.update p f, toks := t } := by
  have e : (s.heap.update p f).get? p = some { cls := .type "list", data := .seq its'.toArray n' } := by
    rw [Heap.get?_update_self f ho (by rw [hf] <;> rfl), hf]
  refine I.write (x := p) (e := p) (by rw [h]; trivial) (.inl rfl) (fun b u hb q => (Heap.get?_update_other _ _ (Ne.symm hb)).trans q) ⟨_, e⟩ ?_
  exact ⟨hz, its', n', r, e⟩
def rSetL : V → V → V → Hp → (Hp → Prop) → Prop := fun o i v H Q => ∃ p xs k j, o = .ref p ∧ i = .int k ∧ H p = some (.lst xs) ∧ ixN xs.length k = some j ∧ Q (upd H p (.lst (xs.set j v)))
theorem set_list : PSet X rSetL := by
  intro pins s σ H o i v ov iv u Q I ro ri rv h
  obtain ⟨p, xs, k, j, rfl, rfl, hp, hj, q⟩ := h
  cases ro
  obtain ⟨t, rfl⟩ := ri
  obtain ⟨its, n, r, ho, hz⟩ := I.lst hp
  obtain ⟨h1, h2, h3, h4⟩ := ixN_seq hj
  have hl := r.length
  have hn := line63
  have I' : Inv X pins σ (upd H p (.lst (xs.set j v))) { s with heap := s.heap.update p (Obj.mapSeq (·.setIfInBounds j u)) } :=
    I.lstUpd hp ho (mapSeq_set its n j u) (r.set rv j) (by rw [List.length_set]; exact hz) s.toks
  by_cases h0 : 0 ≤ k
  · have hk : k.toNat = j := by
      rw [seqIndex_of h0 h4] at h1
      exact Option.some.inj h1
    exact PySem.W.ki_setAt ho h0 (by omega) (by rw [List.size_toArray, ← hl]; exact h4) (by rw [hk]; exact ⟨_, I', q⟩)
  · have hk : (k + (its.toArray.size : Int)).toNat = j := by
      rw [seqIndex_neg (by omega) h3] at h1
      rw [List.size_toArray, ← hl]
      exact Option.some.inj h1
    exact PySem.W.ki_setBack ho (by omega) (by rw [List.size_toArray, ← hl]; exact h3) (by omega) (by rw [hk]; exact ⟨_, I', q⟩)
theorem slice_bounds (lo hi : Option Int) (n : Nat) : (sliceBounds lo hi none n).1 = ((HT.sIx n 0 lo : Nat) : Int) ∧ (sliceBounds lo hi none n).2.1 = ((HT.sIx n n hi : Nat) : Int) ∧ (sliceBounds lo hi none n).2.2 = 1 := by
  refine ⟨?_, ?_, rfl⟩
  · cases lo with
    | none => simp [sliceBounds, HT.sIx]
    | some i =>
      simp only [sliceBounds, HT.sIx, Option.getD_none, show (1 : Int) > 0 by decide, if_true]
      by_cases h : i < 0
      · simp only [h, if_true] <;> omega
      · simp only [h, if_false] <;> omega
  · cases hi with
    | none => simp [sliceBounds, HT.sIx]
    | some i =>
      simp only [sliceBounds, HT.sIx, Option.getD_none, show (1 : Int) > 0 by decide, if_true]
      by_cases h : i < 0
      · simp only [h, if_true] <;> omega
      · simp only [h, if_false] <;> omega
theorem slicePick_cut (its : List Value) (lo hi : Option Int) : slicePick its.toArray lo hi none = ((its.drop (HT.sIx its.length 0 lo)).take (HT.sIx its.length its.length hi - HT.sIx its.length 0 lo)).toArray := by
  obtain ⟨h1, h2, h3⟩ := slice_bounds lo hi its.toArray.size
  unfold slicePick
  rw [h1, h2, h3]
  simp only [sliceRange_one, pick_run, List.size_toArray] <;> rfl
def rSlL (K : PySem.W.Frag) : V → Option Int → Option Int → Hp → VK → Prop := fun x lo hi H Q => ∃ a xs, x = .ref a ∧ SqL K H a xs ∧ ∀ p, H p = none → Q (.ref p) (upd H p (.lst (cutV xs lo hi)))
theorem sl_list : SlR X (rSlL X.K) := by
  intro pins s σ H x v vl vu lo hi sl Q I rx hs pl pu h
  obtain ⟨a, xs, rfl, hx, q⟩ := h
  cases rx
  obtain ⟨its, r, ht, hz⟩ := I.list hx
  have hlen := r.length
  refine ⟨"list", _, slot_list_getitem.lookup, ht.isList.typeIs, ?_⟩
  refine wpAny_getItem_list_slice ht.isList hs pl pu .none (by simp) ?_ (by rw [List.size_toArray] <;> omega)
  rw [slicePick_cut, ← hlen]
  refine ⟨.ref s.heap.objs.size, _, I.laid (t' := s.toks) (o := .lst (cutV xs lo hi)) (fun b ob q => Heap.get?_push_of_some _ q) (Nat.le_refl _) ?_, rfl, q _ (I.hok.fresh (Nat.le_refl _))⟩
  exact ⟨Nat.le_trans (cutV_length xs lo hi) hz, _, 0, (r.drop (HT.sIx xs.length 0 lo)).take (HT.sIx xs.length xs.length hi - HT.sIx xs.length 0 lo), Heap.get?_push_size _ rfl⟩
def flatV : V → Bool
  | .non => true
  | .bl _ => true
  | .int _ => true
  | .str _ => true
  | _ => false
def eqV : V → V → Bool
  | .non, .non => true
  | .bl a, .bl b => a == b
  | .bl a, .int b => (if a then 1 else 0) == b
  | .int a, .bl b => a == (if b then 1 else 0)
  | .int a, .int b => a == b
  | .str a, .str b => a == b
  | _, _ => false
def inV (x : V) (xs : List V) : Bool := xs.any fun y => eqV y x
def rIn (K : PySem.W.Frag) (neg : Bool) : R2 := fun x y H Q => ∃ p xs, y = .ref p ∧ (SqL K H p xs ∨ SqT K H p xs) ∧ flatV x = true ∧ xs.all flatV = true ∧ Q (.bl (if neg then !inV x xs else inV x xs)) H
theorem call_len_seq : CallR X (.builtin "len") (fun xs H Q => ∃ p ys, xs = [.ref p] ∧ (SqL X.K H p ys ∨ SqT X.K H p ys) ∧ Q (.int ys.length) H) := by
  intro pins s σ H xs us Q I r h
  obtain ⟨p, ys, rfl, hq, q⟩ := h
  obtain ⟨u, rfl, rx⟩ := vals1 r
  cases rx
  have hn := line63
  rcases hq with hq | hq
  · obtain ⟨its, r', pl, hz⟩ := I.list hq
    have hlen := r'.length
    exact Calls.call_len_list pl.isList (by simp only [List.size_toArray] <;> omega) ⟨.int ys.length, H, I.tok _, ⟨s.toks + 1, by rw [List.size_toArray, hlen]⟩, q⟩
  · obtain ⟨its, r', pl, hz⟩ := I.tuple hq
    have hlen := r'.length
    exact len_tuple pl (by simp only [List.size_toArray] <;> omega) ⟨.int ys.length, H, I.tok _, ⟨s.toks + 1, by rw [List.size_toArray, hlen]⟩, q⟩
theorem CallR.or {f : Value} {r r' : List V → Hp → VK → Prop} (h : CallR X f r) (h' : CallR X f r') : CallR X f (fun xs H Q => r xs H Q ∨ r' xs H Q) := by
  intro pins s σ H xs us Q I rs q
  rcases q with q | q
  · exact h pins s σ H xs us Q I rs q
  · exact h' pins s σ H xs us Q I rs q
theorem call_list_of : CallR X (.type "list") (fun xs H Q => ∃ p ys, xs = [.ref p] ∧ (SqL X.K H p ys ∨ SqT X.K H p ys) ∧ ∀ l, H l = none → Q (.ref l) (upd H l (.lst ys))) := by
  intro pins s σ H xs us Q I r h
  obtain ⟨p, ys, rfl, hq, q⟩ := h
  obtain ⟨u, rfl, rx⟩ := vals1 r
  cases rx
  have fin : ∀ (its : List Value), Vals ys its → ys.length ≤ sizeLine → ∀ (h' : Heap) (c' : Nat), (∀ b o', s.heap.get? b = some o' → h'.get? b = some o') →
      h'.get? s.heap.objs.size = some { cls := .type "list", dict := none, data := .seq its.toArray c', slots := #[] } → EP X pins σ Q (.ref s.heap.objs.size) { s with heap := h' } := fun its r' hz h' c' kp e =>
    ⟨.ref s.heap.objs.size, _, I.laid (t' := s.toks) kp (Nat.le_refl _) (show ObjOk X.prog X.w _ h' _ (.lst ys) from ⟨hz, its, c', r', e⟩), rfl, q _ (I.hok.fresh (Nat.le_refl _))⟩
  rcases hq with hq | hq
  · obtain ⟨its, r', pl, hz⟩ := I.list hq
    have hlen := r'.length
    obtain ⟨o, ho, hc, n, hd⟩ := pl.isList
    exact call_list_seq p (.inl rfl) ho hc hd (fun h' c' kp e => fin its r' hz h' c' kp e) (by simp only [List.size_toArray] <;> omega)
  · obtain ⟨its, r', pl, hz⟩ := I.tuple hq
    have hlen := r'.length
    obtain ⟨o, ho, hc, n, hd⟩ := pl
    exact call_list_seq p (.inr rfl) ho hc hd (fun h' c' kp e => fin its r' hz h' c' kp e) (by simp only [List.size_toArray] <;> omega)
theorem call_tuple_of : CallR X (.type "tuple") (fun xs H Q => ∃ p ys, xs = [.ref p] ∧ ((SqL X.K H p ys ∧ ∀ l, H l = none → Q (.ref l) (upd H l (.tup ys))) ∨ (SqT X.K H p ys ∧ Q (.ref p) H))) := by
  intro pins s σ H xs us Q I r h
  obtain ⟨p, ys, rfl, h⟩ := h
  obtain ⟨u, rfl, rx⟩ := vals1 r
  cases rx
  rcases h with ⟨hq, q⟩ | ⟨hq, q⟩
  · obtain ⟨its, r', pl, hz⟩ := I.list hq
    have hlen := r'.length
    refine call_tuple_list pl.isList (fun h' kp => ?_) (by simp only [List.size_toArray] <;> omega)
    have I1 : Inv X pins σ H { s with heap := h' } := I.kept (t' := s.toks) kp
    have I2 : Inv X pins σ (upd H h'.objs.size (.tup ys)) { s with heap := h'.push { cls := .type "tuple", data := .seq its.toArray } } :=
      I1.laid (t' := s.toks) (fun b o e => Heap.get?_push_of_some _ e) (Nat.le_refl _) (show ObjOk X.prog X.w _ _ _ (.tup ys) from ⟨hz, its, r', IsTup.new _ _⟩)
    exact ⟨.ref h'.objs.size, _, I2, rfl, q _ (I1.hok.fresh (Nat.le_refl _))⟩
  · obtain ⟨its, r', pl, hz⟩ := I.tuple hq
    exact call_tuple_same pl ⟨.ref p, H, I, rfl, q⟩
def tyV (K : PySem.W.Frag) (T : String) (x : V) (H : Hp) : Prop := match x with
  | .str _ => T = "str"
  | .int _ => T = "int"
  | .ref p => (T = "list" ∧ ∃ xs, SqL K H p xs) ∨ (T = "tuple" ∧ ∃ o, K.lookup p = some o ∧ o.cls = .type "tuple" ∧ o.dict = none) ∨
      (T = "dict" ∧ ((∃ kvs, H p = some (.dK kvs)) ∨ ∃ kvs, H p = some (.dT kvs))) ∨ (T = "set" ∧ ∃ S n, H p = some (.set S n))
  | _ => False
theorem tyV_is {pins : List (Addr × Obj)} {σ : St} {H : Hp} {s : Shared} {T : String} {x : V} {v : Value} (I : Inv X pins σ H s) (r : RelV x v) (ty : tyV X.K T x H) :
    s.TypeIs v T ∧ ∀ a, v = .ref a → ∃ ob, s.heap.get? a = some ob ∧ ob.dict = none := by
  cases x with
  | str z =>
    obtain ⟨t, rfl⟩ := r
    cases (show T = "str" from ty)
    exact ⟨typeIs_str s z t, fun _ e => nomatch e⟩
  | int i =>
    obtain ⟨t, rfl⟩ := r
    cases (show T = "int" from ty)
    exact ⟨typeIs_int s i t, fun _ e => nomatch e⟩
  | ref p =>
    cases r
    rcases ty with ⟨rfl, xs, hq⟩ | ⟨rfl, o, hk, hc, hd⟩ | ⟨rfl, hk⟩ | ⟨rfl, S, n, hk⟩
    · obtain ⟨its, _, pl, _⟩ := I.list hq
      refine ⟨pl.isList.typeIs, fun a e => ?_⟩
      cases e
      obtain ⟨o, n, e, c, hd, _⟩ := pl
      exact ⟨o, e, hd⟩
    · refine ⟨⟨o, I.kIn p o hk, hc⟩, fun a e => ?_⟩
      cases e
      exact ⟨o, I.kIn _ o hk, hd⟩
    · have z : ∃ o, s.heap.get? p = some o ∧ o.ExactDict := by
        rcases hk with ⟨kvs, hk⟩ | ⟨kvs, hk⟩
        · obtain ⟨_, _, _, _, o, _, _, e, ex, _⟩ := I.hok p _ hk
          exact ⟨o, e, ex⟩
        · obtain ⟨_, _, _, _, o, _, _, e, ex, _⟩ := I.hok p _ hk
          exact ⟨o, e, ex⟩
      obtain ⟨o, e, ex⟩ := z
      refine ⟨⟨o, e, ex.1⟩, fun a e2 => ?_⟩
      cases e2
      exact ⟨o, e, ex.2.1⟩
    · obtain ⟨o, _, _, _, e, ex, _⟩ := I.hok p _ hk
      refine ⟨⟨o, e, ex.1⟩, fun a e2 => ?_⟩
      cases e2
      exact ⟨o, e, ex.2.1⟩
  | _ => exact False.elim ty
def tBM0 (K : PySem.W.Frag) (T : String) (r : V → List V → Hp → VK → Prop) (to : TE) : TE := fun σ H Q => to σ H fun x H1 => tyV K T x H1 ∧ r x [] H1 Q
variable {o e : Expr} {es : List Expr} {to : TE} {t : TA} {name : Str} {apos cpos : Pos} {T id : String} {r : V → List V → Hp → VK → Prop}
theorem pe_bm0 (pa : PlainAttrs T) (slot : Slot T name id) (hty : typeOf (.builtin id) = pure (.type "method_descriptor")) (hm : MtR X id r) (ho : PE X o to)
    (hbase : attributeBase o name X.env (eval o X.env) = eval o X.env := by rfl) (hline : (apos.endLine == cpos.line) = true := by rfl) : PE X (.Call (.Attribute o name apos) [] [] cpos) (tBM0 X.K T r to) := by
  intro pins s σ H Q I h
  refine wpAny_Call_method0_late hbase hline (thn (ho pins s σ H _ I h) fun v s1 ⟨x, H1, I1, r1, ty, q1⟩ => ?_)
  obtain ⟨h1, h2⟩ := tyV_is I1 r1 ty
  exact ⟨T, id, pa, slot, hty, h1, h2, Calls.callWith_builtin rfl (PySem.evalArgs_none (hm pins s1 σ H1 x [] v [] Q I1 r1 .nil q1))⟩
end
end L2
namespace L2
open PySem PySem.Spec PyProof.Rows
def MtM (X : Cx) (id : String) (r : V → List V → Hp → VK → Prop) : Prop :=
  ∀ (pins : List (Addr × Obj)) (s : Shared) (σ : St) (H : Hp) (x : V) (xs : List V) (v : Value) (us : List Value) (Q : VK), Inv X pins σ H s → RelV x v → Vals xs us → r x xs H Q →
    wpAny (model X.prog X.w) X.A (call (.builtin id) (v :: us)) (EP X pins σ Q) X.xe s
theorem Vals.one : ∀ {x : V} {us : List Value}, Vals [x] us → ∃ u, us = [u] ∧ RelV x u
  | _, _, .cons r .nil => ⟨_, rfl, r⟩
theorem Vals.zero : ∀ {us : List Value}, Vals [] us → us = []
  | _, .nil => rfl
theorem Vals.dropLast {xs : List V} {us : List Value} (h : Vals xs us) : Vals xs.dropLast us.dropLast := by
  induction h with
  | nil => exact .nil
  | cons r t ih =>
    cases t with
    | nil => exact .nil
    | cons q t' => exact .cons r ih
theorem Vals.reverse {xs : List V} {us : List Value} (h : Vals xs us) : Vals xs.reverse us.reverse := by
  induction h with
  | nil => exact .nil
  | cons r t ih => rw [List.reverse_cons, List.reverse_cons]; exact Vals.append ih (.cons r .nil)
section
variable {X : Cx} {pins : List (Addr × Obj)} {σ : St} {H : Hp} {s : Shared} {l b : Addr} {xs ys zs : List V}
theorem Inv.lset {its its' : List Value} {n : Nat} {f : Array Value → Array Value} {t' : Nat} (I : Inv X pins σ H s) (hH : H l = some (.lst xs))
    (e : s.heap.get? l = some { cls := .type "list", data := .seq its.toArray n }) (hf : f its.toArray = its'.toArray) (hv : Vals ys its') (hz : ys.length ≤ sizeLine) :
    Inv X pins σ (upd H l (.lst ys)) { s with heap := s.heap.update l (Obj.mapSeq f), toks := t' } := by
  have q := PySem.IsL.update e f
  rw [hf] at q
  refine I.write (x := l) (e := l) (by rw [hH]; exact trivial) (.inl rfl) (fun b' u hb hu => (Heap.get?_update_other s.heap (Obj.mapSeq f) (Ne.symm hb)).trans hu) ⟨_, q⟩ ?_
  exact ⟨hz, its', _, hv, q⟩
theorem Inv.lnew {its : List Value} {t' : Nat} (I : Inv X pins σ H s) (hv : Vals ys its) (hz : ys.length ≤ sizeLine) :
    Inv X pins σ (upd H s.heap.objs.size (.lst ys)) { s with heap := s.heap.push { cls := .type "list", data := .seq its.toArray }, toks := t' } :=
  I.laid (fun _ _ q => Heap.get?_push_of_some _ q) (Nat.le_refl _) ⟨hz, its, 0, hv, Heap.get?_push_size _ rfl⟩
theorem Inv.fresh (I : Inv X pins σ H s) : H s.heap.objs.size = none := I.hok.fresh (Nat.le_refl _)
theorem Inv.lstM (I : Inv X pins σ H s) (hH : H l = some (.lst xs)) : xs.length ≤ sizeLine ∧ ∃ (its : List Value) (n : Nat), Vals xs its ∧ xs.length = its.length ∧ s.heap.get? l = some { cls := .type "list", data := .seq its.toArray n } := by
  obtain ⟨z, its, n, r, e⟩ := I.hok l _ hH
  exact ⟨z, its, n, r, r.length, e⟩
theorem notLongL {n : Nat} (h : n ≤ sizeLine) : Builtin.List.listTooLong n = false := by
  unfold Builtin.List.listTooLong
  exact decide_eq_false (by omega)
end
section
variable {X : Cx}
def rAppend : V → List V → Hp → VK → Prop := fun x vs H Q => ∃ l xs y, x = .ref l ∧ vs = [y] ∧ H l = some (.lst xs) ∧ xs.length < sizeLine ∧ Q .non (upd H l (.lst (xs ++ [y])))
theorem mt_append : MtM X "list.append" rAppend := by
  intro pins s σ H x vs v us Q I rx rv h
  obtain ⟨l, xs, y, rfl, rfl, hH, hz, q⟩ := h
  cases rx
  obtain ⟨u, rfl, ru⟩ := rv.one
  obtain ⟨z, its, n, r, hl, e⟩ := I.lstM hH
  refine call_meets F.slot_list_append ⟨_, e, rfl⟩ F.entry_list_append (F.args_list_append_2 _ _) (PySem.list_append l its.toArray n u (by rw [List.size_toArray]; omega)) ⟨e, ?_⟩
  refine ⟨.non, _, I.lset (its' := its ++ [u]) hH e (by simp) (r.append (.cons ru .nil)) ?_, rfl, q⟩
  rw [List.length_append, List.length_singleton]
  omega
def rClear : V → List V → Hp → VK → Prop := fun x vs H Q => ∃ l xs, x = .ref l ∧ vs = [] ∧ H l = some (.lst xs) ∧ Q .non (upd H l (.lst []))
theorem mt_clear : MtM X "list.clear" rClear := by
  intro pins s σ H x vs v us Q I rx rv h
  obtain ⟨l, xs, rfl, rfl, hH, q⟩ := h
  cases rx
  have hus := rv.zero
  subst hus
  obtain ⟨z, its, n, r, hl, e⟩ := I.lstM hH
  refine call_meets F.slot_list_clear ⟨_, e, rfl⟩ F.entry_list_clear (F.args_list_clear_1 _) (AutoSeq1.list_clear_list_0 l its.toArray n (by rw [List.size_toArray]; omega)) ⟨e, ?_⟩
  exact ⟨.non, _, I.lset (its' := []) (ys := []) hH e rfl .nil (Nat.zero_le _), rfl, q⟩
def rCat : R2 := fun x y H Q => ∃ l b xs zs, x = .ref l ∧ y = .ref b ∧ H l = some (.lst xs) ∧ H b = some (.lst zs) ∧ xs.length + zs.length ≤ sizeLine ∧ ∀ p, H p = none → Q (.ref p) (upd H p (.lst (xs ++ zs)))
theorem op_cat : OpR X (binaryOp .Add) rCat := by
  intro pins s σ H x y v u Q I rx ry h
  obtain ⟨l, b, xs, zs, rfl, rfl, hH, hB, hz, q⟩ := h
  cases rx
  cases ry
  obtain ⟨z, its, n, r, hl, e⟩ := I.lstM hH
  obtain ⟨z2, its2, n2, r2, hl2, e2⟩ := I.lstM hB
  refine PySem.P.add_list e e2 ?_ (by rw [List.size_toArray, List.size_toArray]; omega)
  have ea : its.toArray ++ its2.toArray = (its ++ its2).toArray := by simp
  rw [ea]
  exact ⟨.ref _, _, I.lnew (t' := s.toks) (r.append r2) (by rw [List.length_append]; omega), rfl, q _ I.fresh⟩
end
section
variable {prog : Program} {w : World} {A : Around} {E : Value → Shared → Prop} {s : Shared}
theorem bounds_run {a c n : Nat} (hac : a ≤ c) (hc : c ≤ n) : sliceBounds (some (a : Int)) (some (c : Int)) none n = ((a : Int), (c : Int), 1) := by
  simp only [sliceBounds, Option.getD_none]
  have h1 : ¬ ((a : Int) < 0) := by omega
  have h2 : ¬ ((c : Int) < 0) := by omega
  simp only [h1, h2, if_false, show (1 : Int) > 0 by decide, if_true]
  congr 1
  · omega
  · congr 1; omega
set_option maxRecDepth 100000 in
theorem setItem_slice {l b sl : Addr} {items new : Array Value} {n n2 : Nat} {vl vu : Value} {a c : Nat} {Q : Unit → Shared → Prop}
    (e : s.heap.get? l = some { cls := .type "list", data := .seq items n }) (e2 : s.heap.get? b = some { cls := .type "list", data := .seq new n2 }) (hne : l ≠ b)
    (hs : s.heap.IsSliceOf sl vl vu .none) (pl : IsPart vl (some (a : Int))) (pu : IsPart vu (some (c : Int))) (hac : a ≤ c) (hc : c ≤ items.size)
    (hsz : items.size + new.size ≤ sizeLine) (h : Q () { s with heap := s.heap.update l (Obj.mapSeq fun xs => xs.extract 0 a ++ new ++ xs.extract c xs.size) }) :
    wpAny (model prog w) A (setItem (.ref l) (.ref sl) (.ref b)) Q E s := by
  have hl : s.heap.IsList l items := PySem.IsL.isList e
  have hb : s.heap.IsList b new := PySem.IsL.isList e2
  obtain ⟨os, hos, hcs, hds⟩ := id hs
  have hTs : s.TypeIs (.ref sl) "slice" := ⟨os, hos, hcs⟩
  have hstep : ¬ ((rawPart none == rawInt 0) = true) := Bool.false_ne_true
  have hsame : Builtin.List.listSameRef (.ref l) (.ref b) = false := by
    unfold Builtin.List.listSameRef
    exact beq_eq_false_iff_ne.mpr hne
  have hmax : (max (a : Int) (c : Int)).toNat = c := by omega
  have hz' : ((fun xs : Array Value => xs.extract 0 a ++ new ++ xs.extract c xs.size) items).size ≤ sizeLine + 1 := by
    simp only [Array.size_append, Array.size_extract]
    omega
  unfold setItem
  try with_reducible refine wpAny_holding ?_
  first | refine wpAny_bind (wpAny_pure ?_) | skip
  refine wpAny_bind (wpAny_sequenceKey hl.typeIs (by decide) ?_)
  refine wpAny_bind (wpAny_callSpecial?_slot (name := Str.ofString "__setitem__") hl.typeIs slot_list_setitem
    (wpAny_call_entry slot_list_setitem hl.typeIs entry_list_setitem ?_ (args_list_setitem _ _ _)))
  show wpAny _ _ (Builtin.List.listSubscript? (.ref sl) >>= _) _ _ s
  refine wpAny_bind ?_
  unfold Builtin.List.listSubscript?
  refine wpAny_bind (wpAny_specialOf hTs slice_no_index ?_)
  simp only [Option.isNone_none, if_true]
  refine wpAny_pure ?_
  show wpAny _ _ (typeOf (.ref sl) >>= _) _ _ s
  refine wpAny_bind (wpAny_typeOf hTs ?_)
  first
    | rw [if_neg (by decide)]
    | refine PySem.W.KFB.if_not (by decide) ?_
  rw [listSliceParts_eq]
  refine wpAny_bind (wpAny_bind (wpAny_field hos hds (x := .none) rfl (wpAny_bind (wpAny_listPart .none ?_))))
  rw [if_neg hstep]
  refine wpAny_bind (wpAny_field hos hds (x := vl) rfl (wpAny_bind (wpAny_listPart pl ?_)))
  refine wpAny_bind (wpAny_field hos hds (x := vu) rfl (wpAny_bind (wpAny_listPart pu (wpAny_pure ?_))))
  first
    | simp only [hsame, Bool.false_eq_true, if_false]
    | refine PySem.W.KFB.if_not hsame ?_
    | (dsimp only
       rw [if_neg (by rw [hsame]; exact Bool.false_ne_true)])
  refine wpAny_bind (m := Builtin.List.listAllItems (.ref b) "must assign iterable to extended slice") ?_
  unfold Builtin.List.listAllItems
  refine wpAny_bind (wpAny_typeOf hb.typeIs ?_)
  first
    | refine PySem.W.KFB.if_so (by decide) ?_
    | rw [if_pos (by decide)]
    | simp only [beq_self_eq_true, Bool.true_or, if_true]
  unfold Builtin.List.listItems
  refine wpAny_bind (wpAny_seqItems e2 rfl (wpAny_pure ?_))
  refine wpAny_bind (wpAny_bind (wpAny_seqItems e rfl (wpAny_pure ?_)))
  refine wpAny_bind (wpAny_of_eq ((sliceIndices_raw (some (a : Int)) (some (c : Int)) none items.size (by simp)).trans (congrArg (pure : Int × Int × Int → Sem (Int × Int × Int)) (bounds_run hac hc))) ?_)
  show wpAny _ _ (if ((1 : Int) == 1) = true then _ else _) _ _ s
  rw [if_pos (by decide)]
  refine wpAny_bind (wpAny_rule ?_)
  first
    | simp only [notLongL hsz, Bool.false_eq_true, if_false]
    | refine PySem.W.KFB.if_not (notLongL hsz) ?_
  first | refine wpAny_bind (wpAny_pure ?_) | skip
  show wpAny _ _ (updateSeq l (fun xs => xs.extract 0 ((a : Int)).toNat ++ new ++ xs.extract (max (a : Int) (c : Int)).toNat xs.size) >>= _) _ _ s
  rw [hmax, Int.toNat_natCast]
  refine wpAny_bind (wpAny_updateSeq (hz := Nat.le_trans (Nat.le_add_right _ _) hsz) (_hz' := hz') e rfl ?_)
  refine wpAny_bind (wpAny_letGo ?_)
  first
    | exact wpAny_bind (wpAny_pure (wpAny_pure ⟨.none, rfl, wpAny_pure h⟩))
    | exact wpAny_pure ⟨.none, rfl, wpAny_pure h⟩
end
section
variable {X : Cx}
end
end L2
namespace Att
open PySem PySem.W PySem.Calls PyProof.Rows
theorem ints_of_wellAll {P : Params} {h : Heap} : ∀ (ns : List Int) (vs : List Value), WellAll P h vs (ns.map WData.int) → IntsAre vs ns := by
  intro ns
  induction ns with
  | nil =>
    intro vs w
    rw [List.map_nil] at w
    cases w
    exact .nil
  | cons n ns ih =>
    intro vs w
    rw [List.map_cons] at w
    cases w with
    | cons a b =>
      cases a
      exact .cons _ _ (ih _ b)
theorem script_of {l : OpenLaw} {n : Nat} (hn : l.most = some n) {P : Params} {h : Heap} {args : List WData} {vals : List Value}
    (hpre : l.row.toRowW.claim.pre args = true) (hwl : WellAll P h vals args) :
    ∃ a vs ns, vals = [Value.ref a] ∧ args = [WData.list (ns.map WData.int)] ∧ h.get? a = some { cls := .type "list", data := .seq vs.toArray } ∧ IntsAre vs ns ∧ ns.length ≤ n := by
  have hsh : WShape.hasAll [] args [.list .int] = true := (pre_splitW hpre).1
  have hc : l.pre.holds [] { args := args } = true := (pre_splitW hpre).2
  obtain ⟨d, r, rfl, h1, h2⟩ := hasAllW_cons hsh
  obtain rfl := hasAllW_nil h2
  obtain ⟨xs, rfl, h3⟩ := hasW_list h1
  obtain ⟨ns, rfl⟩ := items_int h3
  have hlen : ns.length ≤ n := by
    unfold OpenLaw.pre at hc
    have h4 : (WTm.not (.lt (.lit (.int (n : Int))) (.len (.arg 0)))).holds [] { args := [.list (ns.map .int)] } = true := by
      have h4 := (holds_andW hc).1
      rw [hn] at h4
      exact h4
    have h5 := condW_of h4 (w_not (w_lt w_lit (w_len_list (w_arg rfl))))
    rw [List.length_map] at h5
    refine Nat.le_of_not_lt fun q => ?_
    have q' : (n : Int) < ((ns.length : Nat) : Int) := by omega
    first
      | (rw [decide_eq_true q'] at h5; exact absurd h5 (by decide))
      | (simp at h5; omega)
  cases hwl with
  | cons w1 w2 =>
    cases w2
    cases w1 with
    | list ho hall => exact ⟨_, _, ns, rfl, rfl, ho, ints_of_wellAll ns _ hall, hlen⟩
theorem post_true (l : OpenLaw) (args : List WData) : l.row.toRowW.claim.post args (.bool true) args = true :=
  postW_of (r := l.row.toRowW) (X := (true == true))
    (show WShape.has [] (.bool true) .bool = true by first | rfl | decide | simp [WShape.has, WShape.arms, WShape.armsAll])
    (show (WTm.eq .res (.lit (.bool true))).value [] { args := args, res := some (.bool true), after := args } = some (.bool (true == true)) from w_eq_bool (w_res rfl) w_lit) rfl
section
variable {prog : Program} {w : World} {A : Around} {E : Value → Shared → Prop} {s : Shared} {K : Frag}
end
end Att
namespace L2
open PySem PySem.Spec PyProof.Rows
theorem vals_ints : ∀ {vs : List Value} {ns : List Int}, IntsAre vs ns → Vals (ns.map V.int) vs
  | _, _, .nil => .nil
  | _, _, .cons n t h => .cons ⟨t, rfl⟩ (vals_ints h)
def Only (H : Hp) : Prop := ∀ b, H b = none ∨ ∃ o xs, H b = some (.frz o (.lst xs))
theorem law_call {P : Program} {w : World} {K : PySem.W.Frag} {mg mb : Str → Option Value} {CX : CXT} {k : Nat} {fa a : Addr} {fd : FuncData} {x : Str} {sp : Sp} {s₁ : Shared} {vs : List Value} {ns : List Int}
    (KX : K.In s₁.heap) (hns : s₁.heap.Ns mainGlobals mg) (hb : s₁.heap.Ns builtinsNs mb) (hbb : ∀ x : Str, x ≠ "__name__" → mb x = bootBuiltins x) (hlim : s₁.heap.NoLimit) (hg : s₁.gens = #[])
    (ha : s₁.heap.get? a = some { cls := .type "list", data := .seq vs.toArray }) (hi : IntsAre vs ns) (hl : ns.length ≤ sizeLine) (hr : Room k callerA)
    (F : ∀ base : Heap, K.In base → base.Ns mainGlobals mg → FnOk P w K mg base CX k fa fd [x] sp) (hbind : ∀ (s : Shared) (u : Value), BindsTo s fd ⟨[u], []⟩ [(x, u)])
    (hsp : ∀ H : Hp, Only H → SqL K H a (ns.map V.int) → sp [.ref a] H (fun v _ => v = .bl true) fun _ _ _ => False)
    (hCX : ∀ H e s', CX [] H s₁ (fun _ _ _ => False) e s' → False) :
    codeAny (model P w) callerA (.call (.ref fa) ⟨[.ref a], []⟩) (fun r s' => r = .ok (.ret (.bool true)) ∧ OldK s₁.heap s'.heap ∧ s'.os = s₁.os ∧ AllBare s'.gens) s₁ := by
  have rv := vals_ints hi
  have lenV := hi.length
  -- from an abstract heap in which nothing but the script may be tracked
  have core : ∀ H : Hp, Only H → SqL K H a (ns.map V.int) → HOk P w H s₁.heap → (∀ b, H b ≠ none → b = a) → (H a ≠ none → K.lookup a = none) →
      codeAny (model P w) callerA (.call (.ref fa) ⟨[.ref a], []⟩) (fun r s' => r = .ok (.ret (.bool true)) ∧ OldK s₁.heap s'.heap ∧ s'.os = s₁.os ∧ AllBare s'.gens) s₁ := by
    intro H hO hS hok hA hK
    have base_of : ∀ {b : Addr} {o : Obj}, s₁.heap.get? b = some o → H b = none → (hidT s₁.heap H).get? b = some o := fun e n => hidT_get e n
    have noA : ∀ {b : Addr} {o : Obj} {es : Array DictEntry} {ep : Nat}, s₁.heap.get? b = some o → o.data = .dict es ep → H b = none := fun {b o es ep} e d => by
      cases q : H b with
      | none => rfl
      | some u =>
        have e' : b = a := hA b (by rw [q]; simp)
        subst e'
        rw [ha] at e; cases e
        have d' : Data.seq vs.toArray _ = Data.dict es ep := d
        cases d'
    have nsK : ∀ {b : Addr} {m : Str → Option Value}, s₁.heap.Ns b m → (hidT s₁.heap H).Ns b m := fun {b m} ⟨o, es, ep, e, d, r⟩ => ⟨o, es, ep, base_of e (noA e d), d, r⟩
    have hKb : K.In (hidT s₁.heap H) := fun b o e => base_of (KX b o e) (by
      cases q : H b with
      | none => rfl
      | some u =>
        have e' : b = a := hA b (by rw [q]; simp)
        subst e'
        rw [hK (by rw [q]; simp)] at e; cases e)
    have hM : Mod K mg (hidT s₁.heap H) := ⟨hKb, nsK hns, ⟨mb, nsK hb, hbb⟩, let ⟨mc, h1, h2⟩ := hlim; ⟨mc, nsK h1, h2⟩⟩
    have e0 : Env0 P w K mg (hidT s₁.heap H) callerA [] s₁ H := ⟨rfl, hM, fun b o e => of_hidT e, Nat.le_of_eq (hidT_size _ _), trivial, fun b hb => absurd (show b ∈ ([] : List Addr) from hb) (by simp), hok, .of_eq hg⟩
    refine codeAny_mono ((F _ hKb (nsK hns)).run callerA [] s₁ H ⟨[.ref a], []⟩ [.ref a] [.ref a] _ _ hr e0 (hbind s₁ (.ref a)) (.cons rfl .nil) (hsp H hO hS)) fun r s' h => ?_
    cases r with
    | error e => exact (hCX H e s' h).elim
    | ok fl =>
      cases fl with
      | next => exact False.elim h
      | brk => exact False.elim h
      | cont => exact False.elim h
      | ret u =>
        obtain ⟨v, H', os, bare, un, hok', r', q⟩ := h
        have q' : v = .bl true := q
        subst q'
        obtain rfl : u = Value.bool true := r'
        refine ⟨rfl, OldK.of_keep fun b o e => ?_, os, bare⟩
        cases q : H b with
        | none => exact un.keep b o e q (by intro z; exact absurd (show b ∈ ([] : List Addr) from z) (by simp)) (by simp)
        | some u =>
          rcases hO b with z | ⟨ob, xs, z⟩
          · rw [q] at z; cases z
          · have z2 := un.frzs b ob _ z
            obtain ⟨e1, _⟩ := hok b _ z
            obtain ⟨e2, _⟩ := hok' b _ z2
            rw [e] at e1; cases e1
            exact e2
  cases hk : K.lookup a with
  | some o =>
    -- the script is one of the module's own objects
    have e := KX a o hk
    rw [ha] at e
    cases e
    refine core (fun _ => none) (fun _ => .inl rfl) (.inr ⟨_, vs.toArray, _, hk, rfl, rfl, rfl, by rw [List.size_toArray, lenV]; exact hl, by simpa using rv⟩) (fun b u z => by have z' : (none : Option HO) = some u := z; cases z') (fun b z => absurd rfl z) fun z => absurd rfl z
  | none =>
    refine core (fun b => if b = a then some (.frz { cls := .type "list", data := .seq vs.toArray } (.lst (ns.map V.int))) else none) (fun b => ?_) (.inl (.inr ⟨{ cls := .type "list", data := .seq vs.toArray }, if_pos rfl⟩)) (fun b u z => ?_) (fun b z => ?_) fun _ => hk
    · by_cases hb : b = a
      · exact .inr ⟨_, _, if_pos hb⟩
      · exact .inl (if_neg hb)
    · by_cases hb : b = a
      · have z' := (if_pos hb).symm.trans z
        cases z'
        subst hb
        exact ⟨ha, by rw [List.length_map]; exact hl, vs, _, rv, ha⟩
      · have z' := (if_neg hb).symm.trans z
        cases z'
    · by_cases hb : b = a
      · exact hb
      · exact absurd (if_neg hb) z
end L2
namespace L2
open PySem PySem.Spec PyProof.Rows
end L2
namespace L2
open PySem PySem.Spec PyProof.Rows
def defArgs (s : Stmt) : Arguments := match s with
  | .FunctionDef _ a _ _ _ _ _ _ _ _ => a
  | _ => { posonlyargs := [], args := [], vararg := none, kwonlyargs := [], kw_defaults := [], kwarg := none, defaults := [] }
def defBody (s : Stmt) : List Stmt := match s with
  | .FunctionDef _ _ b _ _ _ _ _ _ _ => b
  | _ => []
def defScope (s : Stmt) : Scope := match s with
  | .FunctionDef _ _ _ _ _ _ sc _ _ _ => sc
  | _ => { kind := .function, names := [], isGenerator := false, isCoroutine := false }
abbrev CX0 : CXT := fun _ _ _ _ _ _ => False
abbrev E0 : XK := fun _ _ _ => False
theorem pass0 {X : Cx} : Passes CX0 X E0 := fun _ _ _ _ _ _ _ h => h.elim
structure Fun (K : PySem.W.Frag) (x qual : Str) (st : Stmt) (f : Addr) (fd : FuncData) : Prop where
  ex : ∃ (oc : Value) (od : Option Addr) (kV doc pm : Value) (an : Option Addr) (cdv ct : Value) (osl : Array (Option Value)),
    fd = PySem.W.fnOf x qual (defArgs st) (defBody st) (defScope st) .none kV doc pm an cdv ct ∧ K.lookup f = some ⟨oc, od, .func fd, osl⟩ ∧ PySem.W.codeIn K cdv qual = true
  kp : PySem.W.keepIn K (.ref f) = true
section
variable {P : Program} {w : World} {K : PySem.W.Frag} {mg : Str → Option Value} {base : Heap}
theorem Fun.ok {x qual : Str} {st : Stmt} {f : Addr} {fd : FuncData} {N ps : List Str} {k : Nat} {sp : Sp} (F : Fun K x qual st f fd) (S : FnScope N ps (defScope st)) (len : ∀ vs H Q E, sp vs H Q E → vs.length = ps.length)
    (hbody : ∀ (cdv : Value) (A : Around) (outer : List Env) (s : Shared) (H : Hp) (vs : List V) (Q : VK) (E : XK), Room k (A.deeper (envOfC qual (defScope st) s.heap.objs.size f cdv)) → sp vs H Q E →
      ∃ t, PSs (cxOf CX0 P w K mg base N qual (defScope st) f cdv A outer s H E).nox (defBody st) t ∧ t { nx := fun _ H' => Q .non H', rt := Q } (start N vs) H) : FnOk P w K mg base CX0 (k + 1) f fd ps sp := by
  obtain ⟨oc, od, kV, doc, pm, an, cdv, ct, osl, rfl, lk, hcd⟩ := F.ex
  refine fn_of lk hcd S len fun A outer s H vs Q E hr hsp => ?_
  obtain ⟨t, h, q⟩ := hbody cdv A outer s H vs Q E hr hsp
  exact ⟨t, h.nox, q⟩
theorem Fun.binds {x qual : Str} {st : Stmt} {f : Addr} {fd : FuncData} {ps : List Str} (F : Fun K x qual st f fd)
    (h : ∀ (kV doc pm : Value) (an : Option Addr) (cdv ct : Value) (us : List Value), us.length = ps.length → bindArgs (PySem.W.fnOf x qual (defArgs st) (defBody st) (defScope st) .none kV doc pm an cdv ct) ⟨us, []⟩ = pure (ps.zip us)) : Binds K fd ps [] := by
  obtain ⟨oc, od, kV, doc, pm, an, cdv, ct, osl, rfl, lk, hcd⟩ := F.ex
  exact .all (h kV doc pm an cdv ct)
theorem fun_mk {x qual : Str} {st : Stmt} {f : Addr} {oc : Value} {od an : Option Addr} {osl : Array (Option Value)} {kV doc pm cdv ct : Value} (l : K.lookup f = some ⟨oc, od, .func (PySem.W.fnOf x qual (defArgs st) (defBody st) (defScope st) .none kV doc pm an cdv ct), osl⟩)
    (c : PySem.W.codeIn K cdv qual = true) (k : PySem.W.keepIn K (.ref f) = true) : Fun K x qual st f (PySem.W.fnOf x qual (defArgs st) (defBody st) (defScope st) .none kV doc pm an cdv ct) := ⟨⟨oc, od, kV, doc, pm, an, cdv, ct, osl, rfl, l, c⟩, k⟩
end
section
variable {X : Cx}
theorem pv (i : Nat) {x : Str} {pos : Pos} (hN : X.N[i]? = some x := by rfl) (hv : Vis X.env.scope x := by first | exact Or.inl rfl | exact Or.inr (Or.inl rfl) | exact Or.inr (Or.inr rfl)) (hd : (x == ("__debug__" : Str)) = false := by decide)
    (hcd : (x == ("__classdict__" : Str)) = false := by decide) : PE X (.Name x pos) (tVar i) := pe_var hN hv hd hcd
end
def Same (H H' : Hp) : Prop := ∀ b o, H b = some o → H' b = some o
theorem Same.refl (H : Hp) : Same H H := fun _ _ h => h
theorem Same.trans {H H1 H2 : Hp} (a : Same H H1) (b : Same H1 H2) : Same H H2 := fun c o h => b c o (a c o h)
theorem Same.free {H H' : Hp} (e : Same H H') {l : Addr} (h : H' l = Option.none) : H l = Option.none := by
  cases q : H l with
  | none => rfl
  | some o =>
    rw [e l o q] at h
    cases h
theorem Same.seq {K : PySem.W.Frag} {H H' : Hp} {a : Addr} {xs : List V} (e : Same H H') (h : SqL K H a xs) : SqL K H' a xs := by
  rcases h with (h | ⟨o, h⟩) | h
  · exact .inl (.inl (e _ _ h))
  · exact .inl (.inr ⟨o, e _ _ h⟩)
  · exact .inr h
end L2
set_option Elab.async false
set_option linter.all false
set_option maxRecDepth 100000
namespace L2
open PySem PySem.Spec PyProof.Rows
section
variable {κ : Type} [DecidableEq κ]
def valV (kvs : List (κ × V)) (k : κ) : Option V := (kvs.find? fun kv => decide (kv.1 = k)).map (·.2)
def putK (kvs : List (κ × V)) (k : κ) (v : V) : List (κ × V) :=
  if (kvs.any fun kv => decide (kv.1 = k)) = true then kvs.map (fun kv => if kv.1 = k then (kv.1, v) else kv) else kvs ++ [(k, v)]
def dropK (kvs : List (κ × V)) (k : κ) : List (κ × V) := kvs.filter fun kv => decide (kv.1 ≠ k)
theorem valV_pos {p : κ × V} {r : List (κ × V)} {k : κ} (e : p.1 = k) : valV (p :: r) k = some p.2 := by simp [valV, List.find?_cons, e]
theorem valV_neg {p : κ × V} {r : List (κ × V)} {k : κ} (e : ¬ p.1 = k) : valV (p :: r) k = valV r k := by simp [valV, List.find?_cons, e]
theorem valV_any (k : κ) : ∀ kvs : List (κ × V), (kvs.any fun kv => decide (kv.1 = k)) = (valV kvs k).isSome
  | [] => rfl
  | p :: r => by
    rw [List.any_cons]
    by_cases e : p.1 = k
    · simp only [valV_pos e, decide_eq_true e, Bool.true_or, Option.isSome_some]
    · rw [valV_neg e, decide_eq_false e, Bool.false_or]; exact valV_any k r
theorem length_putK (kvs : List (κ × V)) (k : κ) (v : V) : (putK kvs k v).length ≤ kvs.length + 1 := by
  unfold putK
  split
  · rw [List.length_map]; omega
  · rw [List.length_append, List.length_cons, List.length_nil]; omega
theorem RelO.isSome_eq {o : Option V} {u : Option Value} (r : RelO o u) : o.isSome = u.isSome := by
  cases o with
  | none => cases u with
    | none => rfl
    | some _ => exact (show False from r).elim
  | some _ => cases u with
    | none => exact (show False from r).elim
    | some _ => rfl
theorem RelO.getD {o : Option V} {u : Option Value} {d : V} {d' : Value} (r : RelO o u) (rd : RelV d d') : RelV (o.getD d) (u.getD d') := by
  cases o with
  | none => cases u with
    | none => exact rd
    | some _ => exact (show False from r).elim
  | some _ => cases u with
    | none => exact (show False from r).elim
    | some _ => exact r
theorem KV.val {kvs : List (κ × V)} {vs : List (κ × Value)} (r : KV kvs vs) (k : κ) : RelO (valV kvs k) (valueAt vs k) := by
  unfold KV at r
  induction r with
  | nil => exact True.intro
  | @cons p q ps qs h t ih =>
    obtain ⟨h1, h2⟩ := h
    by_cases e : p.1 = k
    · have e' : q.1 = k := h1.symm.trans e
      have b : valueAt (q :: qs) k = some q.2 := by simp [valueAt, List.find?_cons, e']
      rw [valV_pos e, b]; exact h2
    · have e' : ¬ q.1 = k := fun z => e (h1.trans z)
      have b : valueAt (q :: qs) k = valueAt qs k := by simp [valueAt, List.find?_cons, e']
      rw [valV_neg e, b]; exact ih
theorem KV.any {kvs : List (κ × V)} {vs : List (κ × Value)} (r : KV kvs vs) (k : κ) : (kvs.any fun kv => decide (kv.1 = k)) = vs.any fun kv => decide (kv.1 = k) := by
  unfold KV at r
  induction r with
  | nil => rfl
  | cons h t ih => rw [List.any_cons, List.any_cons, ih, h.1]
theorem KV.repl {kvs : List (κ × V)} {vs : List (κ × Value)} (r : KV kvs vs) (k : κ) {y : V} {u : Value} (ry : RelV y u) :
    KV (kvs.map fun kv => if kv.1 = k then (kv.1, y) else kv) (vs.map fun kv => if kv.1 = k then (kv.1, u) else kv) := by
  unfold KV at r ⊢
  induction r with
  | nil => exact .nil
  | @cons p q ps qs h t ih =>
    rw [List.map_cons, List.map_cons]
    refine .cons ?_ ih
    obtain ⟨h1, h2⟩ := h
    by_cases e : p.1 = k
    · rw [if_pos e, if_pos (h1.symm.trans e)]; exact ⟨h1, ry⟩
    · rw [if_neg e, if_neg (fun z => e (h1.trans z))]; exact ⟨h1, h2⟩
theorem KV.put {kvs : List (κ × V)} {vs : List (κ × Value)} (r : KV kvs vs) (k : κ) {y : V} {u : Value} (ry : RelV y u) : KV (putK kvs k y) (stored vs k u) := by
  unfold putK stored
  rw [r.any k]
  by_cases e : (vs.any fun kv => decide (kv.1 = k)) = true
  · rw [if_pos e, if_pos e]; exact r.repl k ry
  · rw [if_neg e, if_neg e]; exact Paired.snoc r ⟨rfl, ry⟩
theorem KV.drop {kvs : List (κ × V)} {vs : List (κ × Value)} (r : KV kvs vs) (k : κ) : KV (dropK kvs k) (without vs k) := by
  unfold KV at r ⊢
  unfold dropK without
  induction r with
  | nil => exact .nil
  | @cons p q ps qs h t ih =>
    obtain ⟨h1, h2⟩ := h
    rw [List.filter_cons, List.filter_cons]
    by_cases e : p.1 = k
    · have a : ¬ decide (p.1 ≠ k) = true := by simp [e]
      have b : ¬ decide (q.1 ≠ k) = true := by simp [h1.symm.trans e]
      rw [if_neg a, if_neg b]; exact ih
    · have e' : ¬ q.1 = k := fun z => e (h1.trans z)
      have a : decide (p.1 ≠ k) = true := by simp [e]
      have b : decide (q.1 ≠ k) = true := by simp [e']
      rw [if_pos a, if_pos b]; exact .cons ⟨h1, h2⟩ ih
theorem KV.length {kvs : List (κ × V)} {vs : List (κ × Value)} (r : KV kvs vs) : kvs.length = vs.length := Paired.length r
end
theorem kV_is {P : Program} {w : World} {k : Key} {u : Value} (r : RelV (kV k) u) : (mixKind P w).is k u = true := by
  cases k with
  | inl i => obtain ⟨t, e⟩ := (show ∃ t, u = Value.int i t from r); subst e; exact mixKind_int P w i t
  | inr x => obtain ⟨t, e⟩ := (show ∃ t, u = Value.str x t from r); subst e; exact mixKind_str P w x t
theorem items_are {P : Program} {w : World} : ∀ {ks : List Key} {us : List Value}, Vals (ks.map kV) us → ItemsAre (mixKind P w) ks us
  | [], _, r => by rw [List.map_nil] at r; cases r; exact .nil
  | k :: ks, _, r => by
    rw [List.map_cons] at r
    cases r with
    | cons h t => exact .cons (kV_is h) (items_are t)
abbrev KT (H : Hp) : List (List Key × V) → List (List Key × Addr × Value) → Prop := Paired fun p q => p.1 = q.1 ∧ H q.2.1 = some (.tup (p.1.map kV)) ∧ RelV p.2 q.2.2
theorem KT.val {H : Hp} {kvs : List (List Key × V)} {xs : List (List Key × Addr × Value)} (r : KT H kvs xs) (k : List Key) : RelO (valV kvs k) ((atKey xs k).map (·.2)) := by
  induction r with
  | nil => exact True.intro
  | @cons p q ps qs h t ih =>
    obtain ⟨h1, _, h2⟩ := h
    by_cases e : p.1 = k
    · have e' : q.1 = k := h1.symm.trans e
      have b : atKey (q :: qs) k = some q.2 := by simp [atKey, List.find?_cons, e']
      rw [valV_pos e, b]; exact h2
    · have e' : ¬ q.1 = k := fun z => e (h1.trans z)
      have b : atKey (q :: qs) k = atKey qs k := by simp [atKey, List.find?_cons, e']
      rw [valV_neg e, b]; exact ih
theorem KT.repl {H : Hp} {kvs : List (List Key × V)} {xs : List (List Key × Addr × Value)} (r : KT H kvs xs) (k : List Key) {y : V} {u : Value} (ry : RelV y u) :
    KT H (kvs.map fun kv => if kv.1 = k then (kv.1, y) else kv) (xs.map (putAt k u)) := by
  induction r with
  | nil => exact .nil
  | @cons p q ps qs h t ih =>
    rw [List.map_cons, List.map_cons]
    refine .cons ?_ ih
    obtain ⟨h1, h2, h3⟩ := h
    unfold putAt
    by_cases e : p.1 = k
    · rw [if_pos e, if_pos (h1.symm.trans e)]; exact ⟨h1, h2, ry⟩
    · rw [if_neg e, if_neg (fun z => e (h1.trans z))]; exact ⟨h1, h2, h3⟩
theorem KT.put {H : Hp} {kvs : List (List Key × V)} {xs : List (List Key × Addr × Value)} (r : KT H kvs xs) (k : List Key) {b : Addr} {y : V} {u : Value} (hb : H b = some (.tup (k.map kV))) (ry : RelV y u) :
    KT H (putK kvs k y) (storedH xs k b u) := by
  have e : (kvs.any fun kv => decide (kv.1 = k)) = (atKey xs k).isSome := by
    rw [valV_any, (r.val k).isSome_eq, Option.isSome_map]
  unfold putK storedH
  rw [e]
  by_cases q : (atKey xs k).isSome = true
  · rw [if_pos q, if_pos q]; exact r.repl k ry
  · rw [if_neg q, if_neg q]; exact Paired.snoc r ⟨rfl, hb, ry⟩
theorem KT.keeps {H H' : Hp} {kvs : List (List Key × V)} {xs : List (List Key × Addr × Value)} (r : KT H kvs xs) (ht : ∀ b ys, H b = some (.tup ys) → H' b = some (.tup ys)) : KT H' kvs xs :=
  Paired.mapP r fun _ _ z => ⟨z.1, ht _ _ z.2.1, z.2.2⟩
section
variable {P : Program} {w : World} {H : Hp} {h : Heap} {a : Addr}
theorem rd_of {u : HO} (ok : HOk P w H h) (e : Rd H a u) : ObjOk P w H h a u := e.ok ok
theorem dk_rd {kvs : List (Key × V)} (ok : HOk P w H h) (e : Rd H a (.dK kvs)) : kvs.length ≤ sizeLine ∧ (a == sysModules) = false ∧ ∃ vs, KV kvs vs ∧ h.DictOf (mixKind P w) a vs :=
  show ObjOk P w H h a (.dK kvs) from rd_of ok e
theorem dk_of {kvs : List (Key × V)} (ok : HOk P w H h) (e : H a = some (.dK kvs)) : kvs.length ≤ sizeLine ∧ (a == sysModules) = false ∧ ∃ vs, KV kvs vs ∧ h.DictOf (mixKind P w) a vs := dk_rd ok (.inl e)
theorem key_of {ks : List Key} (ok : HOk P w H h) (e : H a = some (.tup (ks.map kV))) : (tupleKind (mixKind P w)).is h ks a := by
  obtain ⟨_, its, r, o, h1, h2, n, h3⟩ := (show ObjOk P w H h a (.tup (ks.map kV)) from ok a _ e)
  exact ⟨o, its.toArray, n, h1, h2, h3, by simpa using items_are r⟩
theorem dt_rd {kvs : List (List Key × V)} (ok : HOk P w H h) (e : Rd H a (.dT kvs)) : kvs.length ≤ sizeLine ∧ (a == sysModules) = false ∧
    ∃ xs, KT H kvs xs ∧ h.DictOfH (tupleKind (mixKind P w)) a xs := by
  obtain ⟨z, y, xs, r, o, es, ep, h1, h2, h3, h4, h5⟩ := (show ObjOk P w H h a (.dT kvs) from rd_of ok e)
  refine ⟨z, y, xs, r, o, es, ep, h1, h2, h3, h4, fun x hx => ?_, h5⟩
  have all : ∀ {l : List (List Key × V)} {m : List (List Key × Addr × Value)}, KT H l m → ∀ x ∈ m, (tupleKind (mixKind P w)).is h x.1 x.2.1 := by
    intro l m q
    induction q with
    | nil => intro x hx; exact nomatch hx
    | @cons p q ps qs hq t ih =>
      intro x hx
      rcases List.mem_cons.mp hx with e | hx
      · subst e
        exact key_of ok (by rw [← hq.1]; exact hq.2.1)
      · exact ih x hx
  exact all r x hx
theorem dt_of {kvs : List (List Key × V)} (ok : HOk P w H h) (e : H a = some (.dT kvs)) : kvs.length ≤ sizeLine ∧ (a == sysModules) = false ∧
    ∃ xs, KT H kvs xs ∧ h.DictOfH (tupleKind (mixKind P w)) a xs := dt_rd ok (.inl e)
end
def DGet (H : Hp) (a : Addr) (y : V) (r : Option V) : Prop :=
  (∃ kvs k, Rd H a (.dK kvs) ∧ y = kV k ∧ r = valV kvs k) ∨ ∃ kvs k b, Rd H a (.dT kvs) ∧ y = .ref b ∧ H b = some (.tup (k.map kV)) ∧ r = valV kvs k
def DPut (H : Hp) (a : Addr) (y v : V) (H' : Hp) : Prop :=
  (∃ kvs k, H a = some (.dK kvs) ∧ y = kV k ∧ kvs.length < sizeLine ∧ H' = upd H a (.dK (putK kvs k v))) ∨
  ∃ kvs k b, H a = some (.dT kvs) ∧ y = .ref b ∧ H b = some (.tup (k.map kV)) ∧ kvs.length < sizeLine ∧ H' = upd H a (.dT (putK kvs k v))
theorem DGet.k {H : Hp} {a : Addr} {kvs : List (Key × V)} {k : Key} (e : H a = some (.dK kvs)) : DGet H a (kV k) (valV kvs k) := .inl ⟨kvs, k, .inl e, rfl, rfl⟩
theorem DGet.t {H : Hp} {a b : Addr} {kvs : List (List Key × V)} {k : List Key} (e : H a = some (.dT kvs)) (eb : H b = some (.tup (k.map kV))) : DGet H a (.ref b) (valV kvs k) := .inr ⟨kvs, k, b, .inl e, rfl, eb, rfl⟩
theorem DPut.k {H : Hp} {a : Addr} {kvs : List (Key × V)} {k : Key} {v : V} (e : H a = some (.dK kvs)) (hl : kvs.length < sizeLine) : DPut H a (kV k) v (upd H a (.dK (putK kvs k v))) := .inl ⟨kvs, k, e, rfl, hl, rfl⟩
theorem DPut.t {H : Hp} {a b : Addr} {kvs : List (List Key × V)} {k : List Key} {v : V} (e : H a = some (.dT kvs)) (eb : H b = some (.tup (k.map kV))) (hl : kvs.length < sizeLine) :
    DPut H a (.ref b) v (upd H a (.dT (putK kvs k v))) := .inr ⟨kvs, k, b, e, rfl, eb, hl, rfl⟩
section
variable {X : Cx} {pins : List (Addr × Obj)} {σ : St} {H : Hp} {s : Shared} {a : Addr} {y v : V} {u r : Value} {o : Option V} {A : Around} {E : Value → Shared → Prop}
theorem Inv.big (I : Inv X pins σ H s) : sysModules < s.heap.objs.size := by
  have h : mainGlobals < s.heap.objs.size := (I.mod.glob.keeps I.bk).lt
  exact Nat.lt_trans (by decide) h
theorem d_in {Q : Value → Shared → Prop} (hu : A.units + 1 < cLine) (I : Inv X pins σ H s) (g : DGet H a y o) (ry : RelV y u) (h : ∀ s', Inv X pins σ H s' → Q (.bool o.isSome) s') :
    wpAny (model X.prog X.w) A (compareOp .In u (.ref a)) Q E s := by
  rcases g with ⟨kvs, k, e, ey, l⟩ | ⟨kvs, k, b, e, ey, eb, l⟩
  · subst ey
    obtain ⟨z, hd, vs, rel, dd⟩ := dk_rd I.hok e
    refine wpAny_in_of (kV_is ry) hd dd.mapOf ?_
    rw [← (rel.val k).isSome_eq, ← l]
    exact h _ (I.tok _)
  · subst ey
    cases (show u = Value.ref b from ry)
    obtain ⟨z, hd, xs, rel, dd⟩ := dt_rd I.hok e
    refine wpAny_in_heap (tupleKind_room_in1 hu) (key_of I.hok eb) hd dd ?_
    have q := (rel.val k).isSome_eq
    rw [Option.isSome_map] at q
    rw [← q, ← l]
    exact h _ (I.tok _)
theorem d_write {h' : Heap} {t' : Nat} {ob : HO} (I : Inv X pins σ H s) (mu : Mut (H a)) (hs : Heap.SameBut a s.heap h') (he : ∃ q, h'.get? a = some q) (new : ObjOk X.prog X.w (upd H a ob) h' a ob) :
    Inv X pins σ (upd H a ob) { s with heap := h', toks := t' } :=
  I.write (x := a) (e := a) mu (.inl rfl) (fun b q hb z => (hs.2 b hb).trans z) he new
theorem dk_new {P : Program} {w : World} {H' : Hp} {h' : Heap} {kvs : List (Key × V)} {vs : List (Key × Value)} (z : kvs.length ≤ sizeLine) (hd : (a == sysModules) = false) (rel : KV kvs vs) (dd : h'.DictOf (mixKind P w) a vs) :
    ObjOk P w H' h' a (.dK kvs) := ⟨z, hd, vs, rel, dd⟩
theorem d_setItem {H' : Hp} {Q : Unit → Shared → Prop} (hu : A.units + 1 < cLine) (I : Inv X pins σ H s) (g : DPut H a y v H') (ry : RelV y u) (rv : RelV v r) (h : ∀ s', Inv X pins σ H' s' → Q () s') :
    wpAny (model X.prog X.w) A (setItem (.ref a) u r) Q E s := by
  rcases g with ⟨kvs, k, e, ey, l, eH⟩ | ⟨kvs, k, b, e, ey, eb, l, eH⟩
  · subst ey eH
    obtain ⟨z, hd, vs, rel, dd⟩ := dk_of I.hok e
    have hz : vs.length ≤ sizeLine := by rw [← rel.length]; exact z
    have hl : (putK kvs k v).length ≤ sizeLine := by have := length_putK kvs k v; omega
    refine wpAny_setItem_pairs (hsz := hz) (kV_is ry) dd fun h' dd' hs => h _ ?_
    have he : ∃ q, h'.get? a = some q := let ⟨q, _, _, hq, _⟩ := dd'; ⟨q, hq⟩
    exact d_write I (by rw [e]; exact True.intro) hs he (dk_new hl hd (rel.put k rv) dd')
  · subst ey eH
    cases (show u = Value.ref b from ry)
    obtain ⟨z, hd, xs, rel, dd⟩ := dt_of I.hok e
    have hz : xs.length ≤ sizeLine := by rw [← Paired.length rel]; exact z
    have hl : (putK kvs k v).length ≤ sizeLine := by have := length_putK kvs k v; omega
    refine wpAny_setItem_heap (hsz := hz) (tupleKind_room_in1 hu) (key_of I.hok eb) dd fun h' dd' hs => h _ ?_
    obtain ⟨q, es, ep, hq, h2, h3, h4, _, h5⟩ := dd'
    refine d_write I (by rw [e]; exact True.intro) hs ⟨q, hq⟩ ⟨hl, hd, _, (rel.put k eb rv).keeps fun c ys ec => ?_, q, es, ep, hq, h2, h3, h4, h5⟩
    rw [upd_ne (ne_of ec e (fun z => nomatch z))]
    exact ec
end
section
variable {X : Cx} {pins : List (Addr × Obj)} {σ : St} {H : Hp} {s : Shared} {a : Addr} {kvs : List (Key × V)} {k : Key} {u : Value} {A : Around} {E : Value → Shared → Prop}
end
def tDIn (ty td : TE) : TE := fun σ H Q => ty σ H fun y H1 => td σ H1 fun x H2 => ∃ a o, x = .ref a ∧ DGet H2 a y o ∧ Q (.bl o.isSome) H2
def sDPut (td ty tv : TE) : TS := fun D σ H => tv σ H fun v H1 => td σ H1 fun x H2 => ty σ H2 fun y H3 => ∃ a H4, x = .ref a ∧ DPut H3 a y v H4 ∧ D.nx σ H4
section
variable {X : Cx} {o i e value : Expr} {pos pos' tpos : Pos} {td ty tv : TE}
theorem pc_din (hu : X.A.units + 1 < cLine) (hi : PE X i ty) (ho : PE X o td) : PC X .In i o (tDIn ty td) := by
  intro pins s σ H Q I h
  refine thn (hi pins s σ H _ I h) fun iv s1 ⟨y, H1, I1, ry, q1⟩ => thn (ho pins s1 σ H1 _ I1 q1) fun u s2 ⟨x, H2, I2, rx, a, ov, ex, g, q2⟩ => ?_
  subst ex
  obtain rfl : u = Value.ref a := rx
  exact d_in hu I2 g ry fun s3 I3 => ⟨.bl ov.isSome, H2, I3, rfl, q2⟩
theorem ps_dput (hu : X.A.units + 1 < cLine) (ho : PE X o td) (hi : PE X i ty) (hv : PE X value tv) (hs : swapsWith value (some (.Subscript o i pos')) pos.line X.env = pure false) :
    PS X (.Assign [.Subscript o i pos'] value pos) (sDPut td ty tv) := by
  intro pins s σ H D I h
  refine wpAny_Assign_Subscript (thn (hv pins s σ H _ I h) fun r s1 ⟨v, H1, I1, rv, q1⟩ => thn (ho pins s1 σ H1 _ I1 q1) fun u s2 ⟨x, H2, I2, rx, q2⟩ => thn (hi pins s2 σ H2 _ I2 q2) fun iv s3 ⟨y, H3, I3, ry, a, H4, ex, g, q3⟩ => ?_) hs
  subst ex
  obtain rfl : u = Value.ref a := rx
  exact d_setItem hu I3 g ry rv fun s4 I4 => ⟨σ, H4, I4, q3⟩
end
theorem dk_empty {P : Program} {w : World} {H : Hp} (h : Heap) (hb : sysModules < h.objs.size) : ObjOk P w H (h.push { cls := .type "dict", data := .dict #[] }) h.objs.size (.dK []) :=
  ⟨Nat.zero_le _, beq_eq_false_iff_ne.mpr (Ne.symm (Nat.ne_of_lt hb)), [], .nil, Heap.DictOf.new h⟩
def tDNewK : TE := fun _ H Q => ∀ p, H p = none → Q (.ref p) (upd H p (.dK []))
section
variable {X : Cx} {pos : Pos}
theorem pe_dnewK : PE X (.Dict [] [] pos) tDNewK := fun pins s σ H Q I h =>
  wpAny_Dict_empty ⟨.ref s.heap.objs.size, _, I.laid (a := s.heap.objs.size) (o := .dK []) (t' := s.toks) (fun _ _ q => Heap.get?_push_of_some _ q) (Nat.le_refl _) (dk_empty s.heap I.big), rfl, h _ (I.hok.fresh (Nat.le_refl _))⟩
end
end L2
set_option Elab.async false
set_option linter.all false
set_option maxRecDepth 100000
namespace L2
open PySem
structure Sub where
  t : Bool
  i : Addr
  l : Addr
def Sub.At (u : Sub) (h : Heap) (n : Nat) : Prop := if u.t = true then h.IsTupleIter u.i u.l n else h.IsListIter u.i u.l n
def Sub.Src (u : Sub) (h : Heap) (xs : Array Value) : Prop := if u.t = true then h.IsTuple u.l xs else h.IsList u.l xs
theorem Sub.At.obj {u : Sub} {h : Heap} {n : Nat} (x : u.At h n) : ∃ o, h.get? u.i = some o ∧ o.data = .fields #[.ref u.l, .int n 0] := by
  unfold Sub.At at x
  split at x <;> (obtain ⟨o, e, _, d⟩ := x; exact ⟨o, e, d⟩)
theorem Sub.At.keep {u : Sub} {h h' : Heap} {n : Nat} (x : u.At h n) (k : ∀ o, h.get? u.i = some o → h'.get? u.i = some o) : u.At h' n := by
  unfold Sub.At at x ⊢
  split at x <;> (rename_i ht; obtain ⟨o, e, r⟩ := x; simp only [ht, if_true, if_false, Bool.false_eq_true]; exact ⟨o, k o e, r⟩)
theorem Sub.Src.keep {u : Sub} {h h' : Heap} {xs : Array Value} (x : u.Src h xs) (k : ∀ o, h.get? u.l = some o → h'.get? u.l = some o) : u.Src h' xs := by
  unfold Sub.Src at x ⊢
  split at x <;> (rename_i ht; obtain ⟨o, e, r⟩ := x; simp only [ht, if_true, if_false, Bool.false_eq_true]; exact ⟨o, k o e, r⟩)
section
variable {prog : Program} {w : World} {A : Around} {E : Value → Shared → Prop} {s : Shared}
theorem nextOf_tup_item {it t : Addr} {i : Nat} {items : Array Value} {x : Value} {Q : Value → Shared → Prop} (hit : s.heap.IsTupleIter it t i) (ht : s.heap.IsTuple t items) (hx : items[i]? = some x)
    (hQ : ∀ h', h'.IsTupleIter it t (i + 1) → Heap.SameBut it s.heap h' → Q x { s with heap := h' }) : wpAny (model prog w) A (Builtin.SmallTypes.nextOf (.ref it)) Q E s := by
  obtain ⟨o, ho, hc, hd⟩ := id hit; obtain ⟨ol, hol, _, nl, hdl⟩ := ht; unfold Builtin.SmallTypes.nextOf
  refine wpAny_bind (wpAny_callSpecial?_slot (name := Str.ofString "__next__") hit.typeIs F.slot_tuple_iterator_next (wpAny_call_entry F.slot_tuple_iterator_next hit.typeIs F.entry_tuple_iterator_next ?_ (F.args_tuple_iterator_next_1 _)))
  show wpAny _ _ (field (.ref it) 0 >>= _) _ _ s; refine wpAny_bind (wpAny_field ho hd (x := .ref t) rfl ?_)
  show wpAny _ _ (if (Value.ref t == Value.none) = true then _ else _) _ _ s; rw [if_neg (show ¬ ((Value.ref t == Value.none) = true) from Bool.false_ne_true)]
  show wpAny _ _ (field (.ref it) 1 >>= _) _ _ s; refine wpAny_bind (wpAny_field ho hd (x := .int i 0) rfl ?_)
  show wpAny _ _ (seqItems? (.ref t) >>= _) _ _ s; refine wpAny_bind (wpAny_seqItems hol hdl ?_); simp only [Int.toNat_natCast, hx]
  refine wpAny_bind (wpAny_setField ho hd (by simp) (wpAny_pure ⟨x, rfl, wpAny_pure (hQ _ ?_ (Heap.SameBut.update ..))⟩)); exact ⟨_, Heap.get?_update_self _ ho (Obj.isFreed_of_fields (Obj.data_mapFields hd _)), (Obj.cls_mapFields ..).trans hc, by rw [Obj.data_mapFields hd]; simp [rawInt]⟩
theorem nextOf_tup_end {it t : Addr} {i : Nat} {items : Array Value} {Q : Value → Shared → Prop} (hh : A.handled = none) (hit : s.heap.IsTupleIter it t i) (ht : s.heap.IsTuple t items) (hx : items[i]? = none)
    (hE : ∀ h' e, Heap.ExtBut it s.heap h' → (∃ o, h'.get? e = some o ∧ o.cls = .type "StopIteration") → E (.ref e) { s with heap := h' }) : wpAny (model prog w) A (Builtin.SmallTypes.nextOf (.ref it)) Q E s := by
  obtain ⟨o, ho, hc, hd⟩ := id hit; obtain ⟨ol, hol, _, nl, hdl⟩ := ht; unfold Builtin.SmallTypes.nextOf
  refine wpAny_bind (wpAny_callSpecial?_slot (name := Str.ofString "__next__") hit.typeIs F.slot_tuple_iterator_next (wpAny_call_entry F.slot_tuple_iterator_next hit.typeIs F.entry_tuple_iterator_next ?_ (F.args_tuple_iterator_next_1 _)))
  show wpAny _ _ (field (.ref it) 0 >>= _) _ _ s; refine wpAny_bind (wpAny_field ho hd (x := .ref t) rfl ?_)
  show wpAny _ _ (if (Value.ref t == Value.none) = true then _ else _) _ _ s; rw [if_neg (show ¬ ((Value.ref t == Value.none) = true) from Bool.false_ne_true)]
  show wpAny _ _ (field (.ref it) 1 >>= _) _ _ s; refine wpAny_bind (wpAny_field ho hd (x := .int i 0) rfl ?_)
  show wpAny _ _ (seqItems? (.ref t) >>= _) _ _ s; refine wpAny_bind (wpAny_seqItems hol hdl ?_); simp only [Int.toNat_natCast, hx]
  refine wpAny_bind (wpAny_rule (wpAny_bind (wpAny_setField ho hd (by simp) ?_))); show wpAny _ _ (newExc (.type "StopIteration") [] >>= _) _ _ _
  refine wpAny_bind ?_; simp only [newExc, newTuple]; refine wpAny_bind (wpAny_newObj_type ?_ (by size_fits))
  refine wpAny_bind (m := firstArgMember _ _) (wpAny_of_eq (a := Value.none) (by first | rfl | (simp only [firstArgMember]; rfl)) ?_); refine wpAny_newObj_type ?_ (by size_fits); simp only [raiseNew]
  refine wpAny_bind (wpAny_handled ?_); first | rw [show A.in1.handled = none from hh] | rw [hh]
  refine wpAny_bind (wpAny_pure (wpAny_throw ?_)); exact hE _ _ (((Heap.SameBut.update ..).extBut.push _).push _) ⟨_, Heap.get?_push_size _ rfl, rfl⟩
theorem Sub.item {u : Sub} {n : Nat} {xs : Array Value} {x : Value} {Q : Value → Shared → Prop} (ha : u.At s.heap n) (hs : u.Src s.heap xs) (hx : xs[n]? = some x)
    (hQ : ∀ h', u.At h' (n + 1) → Heap.SameBut u.i s.heap h' → Q x { s with heap := h' }) : wpAny (model prog w) A (Builtin.SmallTypes.nextOf (.ref u.i)) Q E s := by
  unfold Sub.At at ha hQ; unfold Sub.Src at hs
  cases ht : u.t with
  | true => simp only [ht, if_true] at ha hs hQ; exact nextOf_tup_item ha hs hx hQ
  | false => simp only [ht, if_false, Bool.false_eq_true] at ha hs hQ; exact wpAny_nextOf_list_item ha hs hx hQ
theorem Sub.ends {u : Sub} {n : Nat} {xs : Array Value} {Q : Value → Shared → Prop} (hh : A.handled = none) (ha : u.At s.heap n) (hs : u.Src s.heap xs) (hx : xs[n]? = none)
    (hE : ∀ h' e, Heap.ExtBut u.i s.heap h' → (∃ o, h'.get? e = some o ∧ o.cls = .type "StopIteration") → E (.ref e) { s with heap := h' }) : wpAny (model prog w) A (Builtin.SmallTypes.nextOf (.ref u.i)) Q E s := by
  unfold Sub.At at ha; unfold Sub.Src at hs
  cases ht : u.t with
  | true => simp only [ht, if_true] at ha hs; exact nextOf_tup_end hh ha hs hx hE
  | false => simp only [ht, if_false, Bool.false_eq_true] at ha hs; exact wpAny_nextOf_list_end hh ha hs hx hE
def drawn (n : Nat) : List (Sub × Array Value) → Nat → Array Value → Array Value
  | [], _, arr => arr
  | u :: r, c, arr => drawn n r (c + 1) (arr.setIfInBounds c (u.2.getD n .none))
def SrcAt (h : Heap) (u : Bool × Addr × Array Value) : Prop := if u.1 = true then h.IsTuple u.2.1 u.2.2 else h.IsList u.2.1 u.2.2
theorem SrcAt.keep {h h' : Heap} {u : Bool × Addr × Array Value} (x : SrcAt h u) (k : ∀ b o, h.get? b = some o → h'.get? b = some o) : SrcAt h' u := by
  unfold SrcAt at x ⊢
  split at x <;> (rename_i ht; obtain ⟨o, e, r⟩ := x; simp only [ht, if_true, if_false, Bool.false_eq_true]; exact ⟨o, k _ o e, r⟩)
end
end L2
set_option Elab.async false
set_option linter.all false
set_option maxRecDepth 100000
namespace L2
open PySem PySem.Spec PyProof.Rows
def Sq (K : PySem.W.Frag) (H : Hp) (t : Bool) (a : Addr) (xs : List V) : Prop := if t = true then SqT K H a xs else SqL K H a xs
section
variable {X : Cx} {pins : List (Addr × Obj)} {σ : St} {H : Hp} {s : Shared}
theorem kne {b a : Addr} {o : Obj} (I : Inv X pins σ H s) (h : X.K.lookup a = some o) (f : FpOk X pins H b) : a ≠ b := by
  intro e
  subst e
  have hb : X.base.get? a = some o := I.mod.kin a o h
  obtain ⟨f0, f1, f2, f3, f4, f5⟩ := f
  rcases f3 with z | z
  · exact I.ok.noex a o hb z
  · exact absurd (Nat.lt_of_lt_of_le (Heap.lt_size (I.ok.bs a o hb).1) z) (Nat.lt_irrefl _)
theorem Sq.ne {t : Bool} {a b : Addr} {xs : List V} (I : Inv X pins σ H s) (h : Sq X.K H t a xs) (f : FpOk X pins H b) : a ≠ b := by
  have tr : ∀ {u : HO}, Rd H a u → a ≠ b := fun {u} r e => by
    subst e
    have f0 := f.1
    rcases r with r | ⟨o, r⟩ <;> (rw [f0] at r; cases r)
  unfold Sq at h
  split at h
  · rcases h with h | ⟨o, its, n, hk, _⟩
    · exact tr h
    · exact kne I hk f
  · rcases h with h | ⟨o, its, n, hk, _⟩
    · exact tr h
    · exact kne I hk f
theorem Sq.src {t : Bool} {a : Addr} {xs : List V} (I : Inv X pins σ H s) (h : Sq X.K H t a xs) : ∃ its : List Value, Vals xs its ∧ (Sub.mk t 0 a).Src s.heap its.toArray := by
  unfold Sq at h
  unfold Sub.Src
  split at h
  · rename_i ht
    obtain ⟨its, r, p, _⟩ := I.tuple h
    exact ⟨its, r, by simp only [ht, if_true]; exact p⟩
  · rename_i ht
    obtain ⟨its, r, p, _⟩ := I.list h
    exact ⟨its, r, by simp only [ht, if_false]; exact p.isList⟩
theorem Sq.inj {t : Bool} {a : Addr} {xs ys : List V} (I : Inv X pins σ H s) (h : Sq X.K H t a xs) (h' : Sq X.K H t a ys) : xs = ys := by
  unfold Sq at h h'
  split at h
  · rename_i ht; simp only [ht, if_true] at h'; exact I.tuple_inj h h'
  · rename_i ht; simp only [ht, if_false] at h'; exact I.list_inj h h'
end
theorem paired_map {α β γ : Type} {F : α → γ → Prop} {f : β → α} {g : β → γ} : ∀ {l : List β}, (∀ b ∈ l, F (f b) (g b)) → Paired F (l.map f) (l.map g)
  | [], _ => .nil
  | _ :: _, h => .cons (h _ List.mem_cons_self) (paired_map fun b hb => h b (List.mem_cons_of_mem _ hb))
theorem neN {a b : Nat} (h : a ≠ b) : (a : Addr) ≠ b := h
section
variable {X : Cx}
end
end L2
set_option Elab.async false
set_option linter.all false
set_option maxRecDepth 100000
namespace L2
open PySem PySem.Spec PyProof.Rows
theorem relabel_lookup (cs : Scope) (env : Env) (x : Str) : (relabel cs env).names.lookup x = (cs.names.lookup x).map fun k => if (k == .free && env.scope.kind == .function && env.kindOf x == some .cell) = true then .cell else k := by
  unfold relabel
  show List.lookup x (cs.names.map _) = _
  induction cs.names with
  | nil => rfl
  | cons p r ih =>
    obtain ⟨n, k⟩ := p
    by_cases hx : x = n
    · subst hx
      rw [List.map_cons]
      simp only [List.lookup_cons]
      split <;> simp_all
    · have hb : (x == n) = false := by simpa using hx
      have er : List.lookup x ((n, k) :: r) = List.lookup x r := by rw [List.lookup_cons, hb]
      rw [List.map_cons, er]
      refine Eq.trans ?_ ih
      dsimp only
      by_cases hc : (k == NameKind.free && env.scope.kind == ScopeKind.function && env.kindOf n == some NameKind.cell) = true
      · rw [if_pos hc, List.lookup_cons, hb]
      · rw [if_neg hc, List.lookup_cons, hb]
theorem closure_of {env : Env} : ∀ (names : List (Str × NameKind)) (cs0 : List (Str × Addr)), (∀ x ∈ names, x.2 = .free → ∃ c, env.cells.lookup x.1 = some c) → (∀ x c, cs0.lookup x = some c → env.cells.lookup x = some c) →
    ∃ cl, (forIn (m := Sem) names cs0 fun x __s => if (x.snd == NameKind.free) = true then do
              let __do_lift ← cellOf env x.fst
              pure (ForInStep.yield ((x.fst, __do_lift) :: __s))
            else pure (ForInStep.yield __s)) = pure cl ∧ (∀ x c, cl.lookup x = some c → env.cells.lookup x = some c) ∧ (∀ x, (x, NameKind.free) ∈ names → ∃ c, cl.lookup x = some c) ∧ ∀ x c, cs0.lookup x = some c → ∃ c', cl.lookup x = some c'
  | [], cs0, _, h0 => ⟨cs0, by simp only [List.forIn_nil], h0, (fun _ h => nomatch h), fun _ c h => ⟨c, h⟩⟩
  | (n, k) :: r, cs0, hf, h0 => by
    by_cases hk : k = .free
    · subst hk
      obtain ⟨c, hc⟩ := hf (n, .free) List.mem_cons_self rfl
      obtain ⟨cl, e, h1, h2, h3⟩ := closure_of r ((n, c) :: cs0) (fun x hx => hf x (List.mem_cons_of_mem _ hx)) (fun x c' hx => by
        rw [List.lookup_cons] at hx
        split at hx
        · rename_i hb
          have hxn : x = n := by simpa using hb
          cases hx; rw [hxn]; exact hc
        · exact h0 x c' hx)
      have hn : ∃ c', cl.lookup n = some c' := h3 n c (by simp)
      refine ⟨cl, ?_, h1, fun x hx => ?_, fun x c' hx => ?_⟩
      · rw [List.forIn_cons]
        simp only [beq_self_eq_true, if_true, cellOf, hc]
        exact e
      · rcases List.mem_cons.mp hx with q | hx
        · cases q; exact hn
        · exact h2 x hx
      · by_cases hxn : x = n
        · subst hxn; exact hn
        · exact h3 x c' (by
            have hb : (x == n) = false := by simpa using hxn
            rw [List.lookup_cons, hb]; exact hx)
    · have hb : (k == NameKind.free) = false := by simpa using hk
      obtain ⟨cl, e, h1, h2, h3⟩ := closure_of r cs0 (fun x hx => hf x (List.mem_cons_of_mem _ hx)) h0
      refine ⟨cl, ?_, h1, fun x hx => ?_, h3⟩
      · rw [List.forIn_cons]
        simp only [hb, Bool.false_eq_true, if_false]
        exact e
      · rcases List.mem_cons.mp hx with q | hx
        · cases q; exact absurd rfl hk
        · exact h2 x hx
structure CompScope (sc cs : Scope) (N N' : List Str) : Prop where
  kind : cs.kind = .function
  ncell : ∀ x ∈ cs.names, x.2 ≠ .cell
  loc : ∀ x ∈ cs.names, x.2 = .local → cs.names.lookup x.1 = some .local
  free : ∀ x ∈ cs.names, x.2 = .free → sc.names.lookup x.1 = some .cell ∨ sc.names.lookup x.1 = some .free
  nd : N'.Nodup
  len : N.length ≤ N'.length
  same : ∀ i ∈ List.range N.length, N'[i]? = N[i]? ∨ ∀ x ∈ N'[i]?, cs.names.lookup x = none
  out : ∀ x ∈ N'.take N.length, cs.names.lookup x ≠ some .local
abbrev cxComp (X : Cx) (cs : Scope) (cl : List (Str × Addr)) (N' : List Str) (ex : List Addr) (s : Shared) (H : Hp) : Cx :=
  { X with N := N', s₀ := s, H₀ := H, env := compEnvC cs cl s.heap.objs.size X.env, outer := X.stack, stack := X.stack, ex := ex, fn := fun _ => false, pn := [], xe := fun _ _ => False }
def inner (N' : List Str) (σ : St) : St := σ ++ List.replicate (N'.length - σ.length) none
theorem inner_get {N' : List Str} {σ : St} {i : Nat} {v : V} (h : (inner N' σ)[i]? = some (some v)) : σ[i]? = some (some v) := by
  unfold inner at h
  by_cases hi : i < σ.length
  · rwa [List.getElem?_append_left hi] at h
  · rw [List.getElem?_append_right (by omega), List.getElem?_replicate] at h
    split at h <;> cases h
theorem comp_inv {X : Cx} {pins : List (Addr × Obj)} {σ : St} {H : Hp} {s3 s4 : Shared} {cs : Scope} {cl : List (Str × Addr)} {N' : List Str} {fp : List Addr} {m : Str → Option Value} (S : CompScope X.env.scope cs X.N N') (I : Inv X pins σ H s3)
    (hcl1 : ∀ x c, cl.lookup x = some c → X.env.cells.lookup x = some c) (hcl2 : ∀ x, (x, NameKind.free) ∈ cs.names → ∃ c, cl.lookup x = some c) (hf : ∀ b ∈ fp, FpOk X pins H b) (hlt : ∀ b ∈ fp, b < s3.heap.objs.size)
    (kp : ∀ b o, s3.heap.get? b = some o → s4.heap.get? b = some o) (hn : s4.heap.Ns s3.heap.objs.size m) (hos : s4.os = s3.os) (hg : s4.gens = s3.gens) : Inv (cxComp X cs cl N' fp s3 H) [] (inner N' σ) H s4 := by
  have kcell : ∀ {c : Addr} {v : Option Value}, s3.heap.IsCell c v → s4.heap.IsCell c v := fun {c v} z => by obtain ⟨o, e, d⟩ := z; exact ⟨o, kp c o e, d⟩
  refine ⟨⟨I.ok.mod, S.kind, I.ok.glob, I.ok.blt, Nat.le_refl _, fun x y c h1 h2 => I.ok.inj x y c (hcl1 x c h1) (hcl1 y c h2), fun x hx => ?_, fun x c h _ => absurd (show false = true from h) (by decide), I.ok.hd, I.ok.frames, .inl rfl, fun b hb => ⟨?_, fun x c e => (hf b hb).2.2.2.2.1 x c (hcl1 x c e)⟩, I.bs, Nat.le_trans I.ok.bsz I.sz, fun b o e hb => ?_, fun b hb hfs => ?_, I.stack, I.stkFree⟩,
    hos, by rw [hg]; exact I.bare, Un.kept kp, ⟨m, hn, fun i x v e1 e2 e3 => ?_⟩, fun x c e => ?_, I.hok.fresh (Nat.le_refl _), fun x c e => I.freeC x c (hcl1 x c e), fun p hp => absurd (show p ∈ ([] : List (Addr × Obj)) from hp) (by simp), I.hok.kept kp, ?_⟩
  · have hx' : (relabel cs X.env).names.lookup x = some .cell ∨ (relabel cs X.env).names.lookup x = some .free := hx
    rw [relabel_lookup] at hx'
    cases hl : cs.names.lookup x with
    | none => rw [hl] at hx'; rcases hx' with h | h <;> cases h
    | some k =>
      have hm := PySem.mem_of_lookup hl
      by_cases hk : k = .free
      · subst hk; exact hcl2 x hm
      · exfalso
        have hb : (k == NameKind.free) = false := by simpa using hk
        rw [hl] at hx'
        simp only [Option.map_some, hb, Bool.false_and, Bool.false_eq_true, if_false] at hx'
        rcases hx' with h | h
        · cases h; exact S.ncell _ hm rfl
        · cases h; exact hk rfl
  · intro q
    have hb' : b = s3.heap.objs.size := q
    exact absurd (hlt b hb) (by rw [hb']; exact Nat.lt_irrefl _)
  · obtain ⟨f0, f1, f2, f3, f4, f5⟩ := hf b hb
    rcases f3 with z | z
    · exact I.ok.noex b o e z
    · exact absurd (Nat.lt_of_lt_of_le (Heap.lt_size (I.ok.bs b o e).1) z) (Nat.lt_irrefl _)
  · have hfs' : b ∈ frs X.stack := hfs
    rcases List.mem_cons.mp (I.stkSub b hfs') with z | z
    · exact (hf b hb).2.1 z
    · exact (hf b hb).2.2.1 z
  · have e2' := inner_get e2
    have hi : i < X.N.length := by rw [← I.len]; exact (List.getElem?_eq_some_iff.mp e2').1
    have e1' : N'[i]? = some x := e1
    have e3' : Vis (relabel cs X.env) x := e3
    have hv : ∃ k, cs.names.lookup x = some k := by
      unfold Vis at e3'
      rw [relabel_lookup] at e3'
      cases hl : cs.names.lookup x with
      | none => rw [hl] at e3'; rcases e3' with h | h | h <;> cases h
      | some k => exact ⟨k, rfl⟩
    obtain ⟨k, hk⟩ := hv
    have hN : X.N[i]? = some x := by
      rcases S.same i (List.mem_range.mpr hi) with q | q
      · rw [← q]; exact e1'
      · have := q x (by rw [e1']; rfl)
        rw [hk] at this; cases this
    have hnl : k ≠ .local := fun q => by
      subst q
      exact S.out x (List.mem_of_getElem? (i := i) (by rw [List.getElem?_take_of_lt hi]; exact e1')) hk
    have hm := PySem.mem_of_lookup hk
    have hfree : k = .free := by
      unfold Vis at e3'
      rw [relabel_lookup, hk] at e3'
      by_cases hkf : k = .free
      · exact hkf
      · exfalso
        have hb : (k == NameKind.free) = false := by simpa using hkf
        simp only [Option.map_some, hb, Bool.false_and, Bool.false_eq_true, if_false] at e3'
        rcases e3' with h | h | h
        · exact hnl (Option.some.inj h)
        · exact S.ncell _ hm (Option.some.inj h)
        · exact hkf (Option.some.inj h)
    subst hfree
    obtain ⟨m0, hn0, hl0⟩ := I.loc
    have hvis : Vis X.env.scope x := by
      rcases S.free _ hm rfl with h | h
      · exact .inr (.inl h)
      · exact .inr (.inr h)
    obtain ⟨u, r, l⟩ := hl0 i x v hN e2' hvis
    refine ⟨u, r, .inr ⟨?_, ?_⟩⟩
    · show (relabel cs X.env).names.lookup x = some .cell ∨ (relabel cs X.env).names.lookup x = some .free
      rw [relabel_lookup, hk]
      show some (if _ then _ else _) = _ ∨ some (if _ then _ else _) = _
      split
      · exact .inl rfl
      · exact .inr rfl
    · obtain ⟨c, hc⟩ := hcl2 x hm
      have hc' := hcl1 x c hc
      rcases l with ⟨q, _⟩ | ⟨_, c', e, z⟩
      · exfalso
        have q' : X.env.scope.names.lookup x = some .local := q
        rcases S.free _ hm rfl with h | h <;> (rw [q'] at h; cases h)
      · rw [hc'] at e; cases e
        exact ⟨c, hc, kcell z⟩
  · obtain ⟨v, z⟩ := I.cell x c (hcl1 x c e)
    exact ⟨v, kcell z⟩
  · unfold inner
    rw [List.length_append, List.length_replicate, I.len]
    have := S.len
    show _ = N'.length
    omega
def GKeep (n : Nat) (g : TG) : Prop := ∀ (v : V) (σ : St) (H : Hp) (Q : St → Hp → Prop), g v σ H Q → g v σ H fun σ2 H2 => Q σ2 H2 ∧ σ2.length = σ.length ∧ ∀ j, j < n → σ2[j]? = σ[j]?
def GKeeps (n : Nat) (g : TGs) : Prop := ∀ (vs : List V) (σ : St) (H : Hp) (Q : St → Hp → Prop), g vs σ H Q → g vs σ H fun σ2 H2 => Q σ2 H2 ∧ σ2.length = σ.length ∧ ∀ j, j < n → σ2[j]? = σ[j]?
theorem gk_name {n i : Nat} (h : n ≤ i) : GKeep n (gName i) := fun v σ H Q q => ⟨q, by simp, fun j hj => List.getElem?_set_ne (by omega)⟩
theorem gk_nil {n : Nat} : GKeeps n gNil := fun vs σ H Q ⟨e, q⟩ => ⟨e, q, rfl, fun _ _ => rfl⟩
theorem gk_cons {n i : Nat} {u : TGs} (h : n ≤ i) (hu : GKeeps n u) : GKeeps n (gCons (gName i) u) := fun vs σ H Q ⟨v, r, e, q⟩ => by
  refine ⟨v, r, e, ?_⟩
  have q' := hu r (σ.set i (some v)) H Q q
  show u r (σ.set i (some v)) H _
  have e1 : ∀ σ2 : St, (σ2.length = (σ.set i (some v)).length ∧ ∀ j, j < n → σ2[j]? = (σ.set i (some v))[j]?) = (σ2.length = σ.length ∧ ∀ j, j < n → σ2[j]? = σ[j]?) := fun σ2 => by
    have : ∀ j, j < n → (σ.set i (some v))[j]? = σ[j]? := fun j hj => List.getElem?_set_ne (by omega)
    rw [List.length_set]
    exact propext ⟨fun ⟨a, b⟩ => ⟨a, fun j hj => (b j hj).trans (this j hj)⟩, fun ⟨a, b⟩ => ⟨a, fun j hj => (b j hj).trans (this j hj).symm⟩⟩
  have e2 : (fun (σ2 : St) (H2 : Hp) => Q σ2 H2 ∧ σ2.length = σ.length ∧ ∀ j, j < n → σ2[j]? = σ[j]?) = fun σ2 H2 => Q σ2 H2 ∧ σ2.length = (σ.set i (some v)).length ∧ ∀ j, j < n → σ2[j]? = (σ.set i (some v))[j]? := by
    funext σ2 H2; rw [e1]
  rw [e2]; exact q'
theorem gk_tup {K : PySem.W.Frag} {n k : Nat} {u : TGs} (hu : GKeeps n u) : GKeep n (gTup K k u) := fun v σ H Q ⟨a, xs, e, h1, h2, q⟩ => ⟨a, xs, e, h1, h2, hu xs σ H Q q⟩
def PIf (X : Cx) (ifs : List Expr) (t : TT) : Prop :=
  ∀ (pins : List (Addr × Obj)) (s : Shared) (σ : St) (H : Hp) (Q : Bool → Hp → Prop), Inv X pins σ H s → t σ H Q →
    wpAny (model X.prog X.w) X.A (forIn ifs true fun c r => if r = true then do let ok ← isTrue c X.env (eval c X.env); pure (ForInStep.yield ok) else pure (ForInStep.yield r)) (TP X pins σ Q) X.xe s
def tYes : TT := fun _ H Q => Q true H
theorem pif_nil {X : Cx} : PIf X [] tYes := fun _ _ _ H _ I h => wpAny_tests_nil ⟨H, I, h⟩
theorem pif_one {X : Cx} {c : Expr} {t : TT} (h : PT X c t) : PIf X [c] t := fun pins s σ H Q I q => wpAny_tests_one (h pins s σ H Q I q)
def CompW (J : It) (D : Addr) (g : TG) (tc : TT) (te : TE) (σ' : St) (H1 : Hp) (Q : Hp → Prop) : Prop :=
  ∃ W : Nat → Nat → Hp → Prop, (∃ m, W 0 m (upd H1 D (.lst []))) ∧ ∀ i m H2, W i m H2 →
    (J.stop i H2 ∧ Q H2) ∨ (J.go i H2 ∧ ∀ x H3, J.yld i H2 x H3 → g x σ' H3 fun σ4 H4 => tc σ4 H4 fun b H5 =>
      if b = true then te σ4 H5 fun y H6 => ∃ ys, H6 D = some (.lst ys) ∧ ys.length < sizeLine ∧ ∃ m', m' < m ∧ W (i + 1) m' (upd H6 D (.lst (ys ++ [y])))
      else ∃ m', m' < m ∧ W (i + 1) m' H5)
def tComp (N' : List Str) (wi : TI) (g : TG) (tc : TT) (te : TE) : TE := fun σ H Q => wi σ H fun J H1 => ∀ D, H1 D = none → CompW J D g tc te (inner N' σ) H1 (Q (.ref D))
section
variable {X : Cx} {cs : Scope} {N' : List Str} {tg iter elt : Expr} {ifs : List Expr} {wi : TI} {g : TG} {tc : TT} {te : TE} {pos : Pos}
theorem fp_in {cl : List (Str × Addr)} {pins : List (Addr × Obj)} {fp : List Addr} {H3 H' : Hp} {s3 : Shared} (hcl1 : ∀ x c, cl.lookup x = some c → X.env.cells.lookup x = some c) (stk : ∀ b ∈ frs X.stack, b ∈ X.env.locals :: X.fs)
    (hf3 : ∀ b ∈ fp, FpOk X pins H3 b) (hlt : ∀ b ∈ fp, b < s3.heap.objs.size) (hn : ∀ b ∈ fp, H' b = none) : ∀ b ∈ fp, FpOk (cxComp X cs cl N' fp s3 H3) [] H' b := fun b hb => by
  obtain ⟨f0, f1, f2, f3, f4, f5⟩ := hf3 b hb
  refine ⟨hn b hb, Nat.ne_of_lt (hlt b hb), fun hfs => ?_, .inl hb, fun x c e => f4 x c (hcl1 x c e), fun p hp => absurd (show p ∈ ([] : List (Addr × Obj)) from hp) (by simp)⟩
  have hfs' : b ∈ frs X.stack := hfs
  rcases List.mem_cons.mp (stk b hfs') with z | z
  · exact f1 z
  · exact f2 z
theorem comp_loop {cl : List (Str × Addr)} {pins : List (Addr × Obj)} {σ : St} {R : Result → Shared → Prop} {Q : Hp → Prop} {s3 s4 : Shared} {H3 : Hp} {it D : Addr} {fp : List Addr} {tn : Nat → Heap → Prop} {J : It} {W : Nat → Nat → Hp → Prop} {m0 : Nat}
    (hc : X.calm = true) (hg : PG (cxComp X cs cl N' fp s3 H3) tg g) (hk : GKeep X.N.length g) (ht : PIf (cxComp X cs cl N' fp s3 H3) ifs tc) (he : PE (cxComp X cs cl N' fp s3 H3) elt te)
    (hcl1 : ∀ x c, cl.lookup x = some c → X.env.cells.lookup x = some c)
    (I3 : Inv X pins σ H3 s3) (I4 : Inv (cxComp X cs cl N' fp s3 H3) [] (inner N' σ) H3 s4) (T : Turn X.prog X.w X.K tg J fp it tn) (st : tn 0 s4.heap) (hf3 : ∀ b ∈ fp, FpOk X pins H3 b) (hlt : ∀ b ∈ fp, b < s3.heap.objs.size)
    (w0 : W 0 m0 H3)
    (turn : ∀ i m H2, W i m H2 → (J.stop i H2 ∧ Q H2) ∨ (J.go i H2 ∧ ∀ x H3, J.yld i H2 x H3 → g x (inner N' σ) H3 fun σ4 H4 => tc σ4 H4 fun b H5 =>
      if b = true then te σ4 H5 fun y H6 => ∃ ys, H6 D = some (.lst ys) ∧ ys.length < sizeLine ∧ ∃ m', m' < m ∧ W (i + 1) m' (upd H6 D (.lst (ys ++ [y])))
      else ∃ m', m' < m ∧ W (i + 1) m' H5))
    (hR : ∀ (H' : Hp) (s' : Shared), Inv X pins σ H' s' → Q H' → (∃ m, s'.heap.Ns s3.heap.objs.size m) → FpOk X pins H' s3.heap.objs.size → R (.ok .next) s') :
    codeAny (model X.prog X.w) X.A (.compLoop (.ListComp elt [⟨tg, iter, ifs, 0⟩] cs pos) 0 (.ref it) (.ref D) (cxComp X cs cl N' fp s3 H3).env) R s4 := by
  have fpx : ∀ {H' : Hp}, (∀ b ∈ fp, H' b = none) → ∀ b ∈ fp, FpOk (cxComp X cs cl N' fp s3 H3) [] H' b := fun hn => fp_in hcl1 I3.stkSub hf3 hlt hn
  have lσ : (inner N' σ).length = N'.length := I4.len
  refine codeAny_loop rfl (fun n s' => ∃ i H', Inv (cxComp X cs cl N' fp s3 H3) [] (inner N' σ) H' s' ∧ tn i s'.heap ∧ (∀ b ∈ fp, H' b = none) ∧ W i n H') (fun n s5 hI => ?_) m0 ⟨0, H3, I4, st, fun b hb => (hf3 b hb).1, w0⟩
  obtain ⟨i, H5, I5, st5, fr5, w5⟩ := hI
  show wpAny _ _ ((compTurn (.ListComp elt [⟨tg, iter, ifs, 0⟩] cs pos) 0 (.ref it) (.ref D) (cxComp X cs cl N' fp s3 H3).env).onRaise _) _ _ s5
  refine wpAny_noted ?_
  rw [compTurn_list]
  refine wpAny_bind (wpAny_standAt (wpAny_bind ?_))
  have cvt : ∀ {α : Type} {t : Sem α} {P : α → Shared → Prop} {E' : Value → Shared → Prop} {s : Shared}, wpAny (model X.prog X.w) X.A t P (fun _ _ => False) s → wpAny (model X.prog X.w) X.A t P E' s := fun h => wpAny_mono h (fun _ _ q => q) fun _ _ q => q.elim
  rcases turn i n H5 w5 with ⟨stop, q⟩ | ⟨go, step⟩
  · refine thn (T.done (cxComp X cs cl N' fp s3 H3) rfl rfl rfl hc i [] s5 _ H5 _ I5 (fpx fr5) st5 stop) fun r s6 ⟨hr, I6⟩ => ?_
    subst hr
    refine wpAny_pure ?_
    have J6 : Inv X pins σ H5 s6 := I3.call' (H' := H5) (ch := fp) I6.os I6.base I6.hok I6.bare fun b hb => by
      obtain ⟨f0, f1, f2, f3, f4, f5⟩ := hf3 b hb
      exact ⟨f3, f1, f4, f5⟩
    obtain ⟨m, hn, _⟩ := I6.loc
    exact hR H5 s6 J6 q ⟨m, hn⟩ (I3.fpOk (Nat.le_refl _) I6.free)
  · refine thn (T.item (cxComp X cs cl N' fp s3 H3) rfl rfl rfl hc i [] s5 _ H5 _ I5 (fpx fr5) st5 go) fun r s6 ⟨u, hr, h6⟩ => ?_
    subst hr
    refine wpAny_bind (thn h6 fun _ s7 ⟨x, H7, I7, r7, y7, st7, fr7⟩ => ?_)
    have I7' := I7.pinned (fpx fr7) (T.obj _ _ st7)
    refine wpAny_bind (cvt (thn (hg _ s7 _ H7 x u _ I7' r7 (hk x _ H7 _ (step x H7 y7))) fun _ s8 ⟨σ8, H8, I8, q8, l8, k8⟩ => ?_))
    refine wpAny_bind (cvt (thn (ht _ s8 σ8 H8 _ I8 q8) fun b s9 ⟨H9, I9, q9⟩ => ?_))
    have again : ∀ {s' : Shared} {H' : Hp}, Inv (cxComp X cs cl N' fp s3 H3) ([] ++ pinsAt fp s7.heap) σ8 H' s' → (∃ m', m' < n ∧ W (i + 1) m' H') →
        ∃ m', m' < n ∧ ∃ i H', Inv (cxComp X cs cl N' fp s3 H3) [] (inner N' σ) H' s' ∧ tn i s'.heap ∧ (∀ b ∈ fp, H' b = none) ∧ W i m' H' := fun {s' H'} I' ⟨m', hm, w'⟩ => by
      refine ⟨m', hm, i + 1, H', (I'.unpinned).weak (by rw [l8]) (fun j v e => ?_), T.keep _ _ _ st7 fun b hb o e => (I'.pin (b, o) (List.mem_append_right _ (List.mem_append_right _ (mem_pinsAt hb e)))).1, fun b hb => ?_, w'⟩
      · have hj : j < X.N.length := by rw [← I3.len]; exact (List.getElem?_eq_some_iff.mp (inner_get e)).1
        rw [k8 j hj]; exact e
      · obtain ⟨o, e, d⟩ := T.obj _ _ st7 b hb
        exact (I'.pin (b, o) (List.mem_append_right _ (List.mem_append_right _ (mem_pinsAt hb e)))).2.1
    cases b with
    | false =>
      have q9' : ∃ m', m' < n ∧ W (i + 1) m' H9 := q9
      exact wpAny_pure ⟨rfl, again I9 q9'⟩
    | true =>
      have q9' : te σ8 H9 _ := q9
      refine wpAny_bind (wpAny_bind (cvt (thn (he _ s9 σ8 H9 _ I9 q9') fun v s10 ⟨y, H10, I10, r10, ys, hD, hy, q10⟩ => ?_)))
      refine wpAny_bind (cvt (thn (mt_append _ s10 σ8 H10 (.ref D) [y] (.ref D) [v] (fun _ H' => ∃ m', m' < n ∧ W (i + 1) m' H') I10 rfl (.cons r10 .nil) ⟨D, ys, y, rfl, rfl, hD, hy, q10⟩) fun _ s11 ⟨_, H11, I11, _, q11⟩ => ?_))
      exact wpAny_pure (wpAny_pure ⟨rfl, again I11 q11⟩)
theorem comp_core {cl : List (Str × Addr)} {pins : List (Addr × Obj)} {σ : St} {R : Value → Addr → Result → Shared → Prop} {Q : V → Hp → Prop} {s2 : Shared} {itv : Value} (S : CompScope X.env.scope cs X.N N') (hc : X.calm = true)
    (hg : ∀ cl ex s H, PG (cxComp X cs cl N' ex s H) tg g) (hk : GKeep X.N.length g) (ht : ∀ cl ex s H, PIf (cxComp X cs cl N' ex s H) ifs tc) (he : ∀ cl ex s H, PE (cxComp X cs cl N' ex s H) elt te)
    (hcl1 : ∀ x c, cl.lookup x = some c → X.env.cells.lookup x = some c) (hcl2 : ∀ x, (x, NameKind.free) ∈ cs.names → ∃ c, cl.lookup x = some c)
    (h : PIE X pins σ tg (fun J H1 => ∀ D, H1 D = none → CompW J D g tc te (inner N' σ) H1 (Q (.ref D))) itv s2)
    (hR : ∀ (D C : Addr) (H' : Hp) (s' : Shared), Inv X pins σ H' s' → Q (.ref D) H' → (∃ m, s'.heap.Ns C m) → FpOk X pins H' C → R (.ref D) C (.ok .next) s') :
    wpAny (model X.prog X.w) X.A (newList []) (fun acc s₃ => wpAny (model X.prog X.w) X.A (newFunctionEnv cs X.env.globals cl [] X.env.qual none .none (some X.env)) (fun cenv s₄ =>
      codeAny (model X.prog X.w) X.A (.compStart (.ListComp elt [⟨tg, iter, ifs, 0⟩] cs pos) 0 itv acc { cenv with scope := relabel cs X.env }) (R acc cenv.locals) s₄) X.xe s₃) X.xe s2 := by
  obtain ⟨it, fp, tn, J, H2, e, I2, T, st2, f2, hw⟩ := h
  subst e
  refine wpAny_newObj_type (wpAny_newFunctionEnv S.ncell (by intro y hy; simp at hy) (fun h1 hns1 hsb1 => ?_) S.kind)
  dsimp only at hns1 hsb1 ⊢
  have hD := I2.hok.fresh (Nat.le_refl _)
  obtain ⟨W, ⟨m0, w0⟩, turn⟩ := hw s2.heap.objs.size hD
  have I3 : Inv X pins σ (upd H2 s2.heap.objs.size (.lst [])) { s2 with heap := s2.heap.push { cls := .type "list", dict := none, data := .seq ([] : List Value).toArray } } := I2.lnew (t' := s2.toks) .nil (Nat.zero_le _)
  have hfp3 : ∀ b ∈ fp, b < s2.heap.objs.size := fun b hb => by
    obtain ⟨o, e, _⟩ := T.obj 0 _ st2 b hb
    exact Heap.lt_size e
  have hf3 : ∀ b ∈ fp, FpOk X pins (upd H2 s2.heap.objs.size (.lst [])) b := fun b hb => by
    obtain ⟨f0, r⟩ := f2 b hb
    exact ⟨by rw [upd_ne (Nat.ne_of_lt (hfp3 b hb))]; exact f0, r⟩
  have hlt : ∀ b ∈ fp, b < (s2.heap.push { cls := .type "list", dict := none, data := .seq ([] : List Value).toArray }).objs.size := fun b hb => by rw [Heap.size_push]; exact Nat.lt_succ_of_lt (hfp3 b hb)
  have kp : ∀ b o, (s2.heap.push { cls := .type "list", dict := none, data := .seq ([] : List Value).toArray }).get? b = some o → h1.get? b = some o := fun b o e => hsb1.extBut b o (Nat.ne_of_lt (Heap.lt_size e)) (Heap.get?_push_of_some _ e)
  have I4 := comp_inv (cs := cs) (cl := cl) (N' := N') (fp := fp) (s4 := { s2 with heap := h1, toks := s2.toks + ([] : List (Str × Value)).length }) S I3 hcl1 hcl2 hf3 hlt kp hns1 rfl rfl
  have st4 : tn 0 h1 := T.keep 0 _ _ st2 fun b hb o e => kp b o (Heap.get?_push_of_some _ e)
  have loop := comp_loop (R := R (.ref s2.heap.objs.size) (s2.heap.push { cls := .type "list", dict := none, data := .seq ([] : List Value).toArray }).objs.size) (D := s2.heap.objs.size) (iter := iter) (pos := pos) (it := it) (Q := Q (.ref s2.heap.objs.size)) hc (hg cl fp _ _) hk (ht cl fp _ _) (he cl fp _ _) hcl1 I3 I4 T st4 hf3 hlt w0 turn fun H' s' I' q n f => hR _ _ H' s' I' q n f
  exact codeAny_compStart_list loop (T.self _ 0 _ _ _ st4 loop)
theorem pe_comp (S : CompScope X.env.scope cs X.N N') (hc : X.calm = true) (hi : PI X tg iter wi)
    (hg : ∀ cl ex s H, PG (cxComp X cs cl N' ex s H) tg g) (hk : GKeep X.N.length g) (ht : ∀ cl ex s H, PIf (cxComp X cs cl N' ex s H) ifs tc) (he : ∀ cl ex s H, PE (cxComp X cs cl N' ex s H) elt te)
    (hs : ∀ x, foldedSetIterable iter X.env x = pure x := by intro _; rfl) : PE X (.ListComp elt [⟨tg, iter, ifs, 0⟩] cs pos) (tComp N' wi g tc te) := by
  intro pins s σ H Q I h
  obtain ⟨cl, e, h1, h2, _⟩ := closure_of (env := X.env) cs.names [] (fun x hx hk => I.ok.has x.1 (S.free x hx hk)) (fun _ _ z => nomatch z)
  have hclos : closureFor cs X.env = pure cl := by
    simp only [closureFor]
    rw [e]; rfl
  rw [eval_ListComp]
  refine wpAny_comprehension_free (use := none) rfl hs hclos S.kind S.loc (thn (hi pins s σ H _ I h) fun v s1 q1 => thn q1 fun itv s2 q2 => ?_)
  refine comp_core (R := fun acc C => compPost (model X.prog X.w) X.A X.xe none (EP X pins σ Q) acc C) (Q := Q) S hc hg hk ht he h1 h2 q2 fun D C H' s' I' q n f => ?_
  obtain ⟨m, hn⟩ := n
  obtain ⟨f0, f1, f2, f3, f4, f5⟩ := f
  exact ⟨m, hn, fun h' sb => ⟨.ref D, H', I'.turned (t' := s'.toks) (fun b o hb e => sb.extBut b o hb e) f0 f1 f3 f4 f5, rfl, q⟩⟩
theorem ps_setc {i : Nat} {y : Str} {py spos : Pos} (S : CompScope X.env.scope cs X.N N') (hc : X.calm = true) (hi : PI X tg iter wi)
    (hg : ∀ cl ex s H, PG (cxComp X cs cl N' ex s H) tg g) (hk : GKeep X.N.length g) (ht : ∀ cl ex s H, PIf (cxComp X cs cl N' ex s H) ifs tc) (he : ∀ cl ex s H, PE (cxComp X cs cl N' ex s H) elt te)
    (hN : X.N.Nodup) (hy : X.N[i]? = some y) (hl : Loc X.env.scope y)
    (hsw : swapsWith (.ListComp elt [⟨tg, iter, ifs, 0⟩] cs pos) (some (.Name y py)) spos.line X.env = pure true := by rfl) (hf : X.fn y = true ∨ X.env.scope.names.lookup y = some .local := by first | exact .inl rfl | exact .inr rfl | assumption)
    (hs : ∀ x, foldedSetIterable iter X.env x = pure x := by intro _; rfl) : PS X (.Assign [.Name y py] (.ListComp elt [⟨tg, iter, ifs, 0⟩] cs pos) spos) (tAsg (tComp N' wi g tc te) (gName i)) := by
  intro pins s σ H Q I h
  obtain ⟨cl, e, h1, h2, _⟩ := closure_of (env := X.env) cs.names [] (fun x hx hk => I.ok.has x.1 (S.free x hx hk)) (fun _ _ z => nomatch z)
  have hclos : closureFor cs X.env = pure cl := by
    simp only [closureFor]
    rw [e]; rfl
  rw [exec_Assign_Name_used _ _ _ _ hsw]
  refine wpAny_bind (wpAny_standAt (wpAny_bind ?_))
  show wpAny _ _ (comprehension (.ListComp elt [⟨tg, iter, ifs, 0⟩] cs pos) cs X.env _ (newList []) false (eval iter X.env) (some (assign (.Name y py) X.env)) >>= _) _ _ s
  refine wpAny_bind (thn (wpAny_comprehension_free (use := some (assign (.Name y py) X.env)) (Q := fun _ s' => SP X pins Q .next s') rfl hs hclos S.kind S.loc (thn (hi pins s σ H _ I h) fun v s1 q1 => thn q1 fun itv s2 q2 => ?_)) fun _ s' q => wpAny_pure (wpAny_pure q))
  refine comp_core (R := fun acc C => compPost (model X.prog X.w) X.A X.xe (some (assign (.Name y py) X.env)) (fun _ s' => SP X pins Q .next s') acc C) (Q := fun x H1 => gName i x σ H1 Q.nx) S hc hg hk ht he h1 h2 q2 fun D C H' s' I' q n f => ?_
  obtain ⟨m, hn⟩ := n
  obtain ⟨f0, f1, f2, f3, f4, f5⟩ := f
  show wpAny _ _ (assign (.Name y py) X.env (.ref D)) _ _ _
  refine wpAny_assign_Name (store_ok2 (v := .ref D) (u := .ref D) I' hN hy hl rfl (fun s'' I'' ⟨a, sb, ha⟩ => ?_) hf)
  have hCa : C ≠ a := by
    rcases ha with rfl | ha
    · exact f1
    · exact fun q => f4 _ _ ha q.symm
  refine ⟨m, hn.sameBut sb hCa, fun h' sb' => ?_⟩
  exact ⟨_, H', I''.turned (t' := s''.toks) (fun b o hb e => sb'.extBut b o hb e) f0 f1 f3 f4 f5, q⟩
end
end L2
set_option Elab.async false
set_option linter.all false
set_option maxRecDepth 100000
namespace L2
open PySem PySem.Spec PyProof.Rows
theorem Sq.cases {K : PySem.W.Frag} {H : Hp} {t : Bool} {a : Addr} {xs : List V} (h : Sq K H t a xs) : SqL K H a xs ∨ SqT K H a xs := by
  unfold Sq at h
  split at h
  · exact .inr h
  · exact .inl h
theorem Sq.tup {K : PySem.W.Frag} {H : Hp} {a : Addr} {xs : List V} (h : H a = some (.tup xs)) : Sq K H true a xs := by unfold Sq; rw [if_pos rfl]; exact SqT.of h
theorem Sq.lst {K : PySem.W.Frag} {H : Hp} {a : Addr} {xs : List V} (h : H a = some (.lst xs)) : Sq K H false a xs := by unfold Sq; rw [if_neg Bool.false_ne_true]; exact SqL.of h
theorem Sq.same {K : PySem.W.Frag} {H H' : Hp} {t : Bool} {a : Addr} {xs : List V} (e : Same H H') (h : Sq K H t a xs) : Sq K H' t a xs := by
  unfold Sq at h ⊢
  split
  · rename_i ht; rw [if_pos ht] at h
    rcases h with (h | ⟨o, h⟩) | h
    · exact .inl (.inl (e _ _ h))
    · exact .inl (.inr ⟨o, e _ _ h⟩)
    · exact .inr h
  · rename_i ht; rw [if_neg ht] at h
    exact e.seq h
def seqAt (K : PySem.W.Frag) (H : Hp) (p : Addr) (R : List V → Prop) : Prop := match H p with
  | some (.tup xs) => R xs
  | some (.lst xs) => R xs
  | _ => ∃ t xs, Sq K H t p xs ∧ R xs
theorem seqAt.ex {K : PySem.W.Frag} {H : Hp} {p : Addr} {R : List V → Prop} (h : seqAt K H p R) : ∃ t xs, Sq K H t p xs ∧ R xs := by
  unfold seqAt at h
  split at h
  · rename_i xs e; exact ⟨true, xs, Sq.tup e, h⟩
  · rename_i xs e; exact ⟨false, xs, Sq.lst e, h⟩
  · exact h
section
variable {X : Cx}
def ItQ (K : PySem.W.Frag) (t : Bool) (a : Addr) : It := if t = true then Itt K a else Itl K a
def iSq (K : PySem.W.Frag) (tl : TE) : TI := fun σ H R => tl σ H fun x H1 => ∃ a, x = .ref a ∧ ∃ t xs, Sq K H1 t a xs ∧ R (ItQ K t a) H1
theorem pi_sq {tg l : Expr} {tl : TE} (hl : PE X l tl) : PI X tg l (iSq X.K tl) := by
  intro pins s σ H R I h
  refine thn (hl pins s σ H _ I h) fun v s1 ⟨x, H1, I1, r1, q1⟩ => ?_
  obtain ⟨a, e, t, xs, hq, q⟩ := q1
  subst e
  cases r1
  cases t with
  | true =>
    have hq' : SqT X.K H1 a xs := by unfold Sq at hq; rw [if_pos rfl] at hq; exact hq
    obtain ⟨its, rv, p, hz⟩ := I1.tuple hq'
    refine wpAny_pyIter_tuple (show s1.heap.IsTuple a its.toArray from p) ?_
    refine ⟨s1.heap.objs.size, [s1.heap.objs.size], _, Itt X.K a, H1, rfl, I1.kept (t' := s1.toks) fun b o e => Heap.get?_push_of_some _ e, turn_tuple a _, ⟨_, Heap.get?_push_size _ rfl, rfl, rfl⟩, fun b hb => ?_, q⟩
    have e : b = s1.heap.objs.size := by simpa using hb
    subst e
    exact I1.fpOk (Nat.le_refl _) (I1.hok.fresh (Nat.le_refl _))
  | false =>
    have hq' : SqL X.K H1 a xs := by unfold Sq at hq; rw [if_neg Bool.false_ne_true] at hq; exact hq
    obtain ⟨its, rv, p, hz⟩ := I1.list hq'
    refine wpAny_pyIter_list p.isList ?_
    refine ⟨s1.heap.objs.size, [s1.heap.objs.size], _, Itl X.K a, H1, rfl, I1.kept (t' := s1.toks) fun b o e => Heap.get?_push_of_some _ e, turn_list a _, ⟨_, Heap.get?_push_size _ rfl, rfl, rfl⟩, fun b hb => ?_, q⟩
    have e : b = s1.heap.objs.size := by simpa using hb
    subst e
    exact I1.fpOk (Nat.le_refl _) (I1.hok.fresh (Nat.le_refl _))
theorem bt_bool : bootBuiltins "bool" = some (.type "bool") := by decide +kernel
theorem bt_int : bootBuiltins "int" = some (.type "int") := by decide +kernel
theorem bt_list : bootBuiltins "list" = some (.type "list") := by decide +kernel
theorem bt_tuple : bootBuiltins "tuple" = some (.type "tuple") := by decide +kernel
theorem bt_max : bootBuiltins "max" = some (.builtin "max") := by decide +kernel
def tyB (H : Hp) : V → Option String
  | .non => some "NoneType"
  | .bl _ => some "bool"
  | .int _ => some "int"
  | .str _ => some "str"
  | .ref a => match H a with
    | some (.lst _) => some "list"
    | some (.tup _) => some "tuple"
    | some (.dK _) => some "dict"
    | _ => none
  | _ => none
def isiB (A T : String) : Option Bool :=
  if A = T then some true else if A = "bool" ∧ T = "int" then some true
  else if (A = "NoneType" ∨ A = "bool" ∨ A = "int" ∨ A = "str" ∨ A = "list" ∨ A = "tuple" ∨ A = "dict") ∧ (T = "bool" ∨ T = "int" ∨ T = "list" ∨ T = "tuple") then some false else none
theorem tyB_ok {K : PySem.W.Frag} {H : Hp} {x : V} {A : String} (h : tyB H x = some A) : TyOf K H x (.type A) := by
  unfold tyB at h
  split at h
  · cases h; exact .non
  · cases h; exact .bl _
  · cases h; exact .int _
  · cases h; exact .str _
  · rename_i a
    split at h
    · rename_i e; cases h; exact .lst e
    · rename_i e; cases h; exact .tup e
    · rename_i e; cases h; exact .dK e
    · cases h
  · cases h
theorem isiB_ok {K : PySem.W.Frag} {A T : String} {b : Bool} (h : isiB A T = some b) : PySem.W.kitOne K (.type A) (.type T) = some b := by
  unfold isiB at h
  split at h
  · rename_i e; subst e; cases h
    unfold PySem.W.kitOne
    rw [if_pos (by simp)]
  · split at h
    · rename_i e; obtain ⟨rfl, rfl⟩ := e; cases h; with_unfolding_all rfl
    · split at h
      · rename_i h1 h2 e
        obtain ⟨e1, e2⟩ := e
        cases h
        rcases e1 with rfl | rfl | rfl | rfl | rfl | rfl | rfl <;> rcases e2 with rfl | rfl | rfl | rfl <;>
          first | exact absurd rfl h1 | exact absurd ⟨rfl, rfl⟩ h2 | with_unfolding_all rfl
      · cases h
def rIsi : List V → Hp → VK → Prop := fun xs H Q => ∃ x T, xs = [x, .ty T] ∧ ∃ A, tyB H x = some A ∧ ∃ b, isiB A T = some b ∧ Q (.bl b) H
theorem call_isi : CallR X (.builtin "isinstance") rIsi := by
  intro pins s σ H xs us Q I r h
  obtain ⟨x, T, rfl, A, ty, b, e, q⟩ := h
  obtain ⟨u, w', rfl, r1, r2⟩ := vals2 r
  have e2 : w' = Value.type T := r2
  subst e2
  exact isinst_ok I r1 (tyB_ok ty) (isiB_ok e) fun tk => ⟨.bl b, H, I.tok tk, rfl, q⟩
end
theorem isi_bb : isiB "bool" "bool" = some true := by decide
theorem isi_bi : isiB "bool" "int" = some true := by decide
theorem isi_ib : isiB "int" "bool" = some false := by decide
theorem isi_ii : isiB "int" "int" = some true := by decide
theorem isi_tt : isiB "tuple" "tuple" = some true := by decide
theorem isi_ll : isiB "list" "list" = some true := by decide
theorem isi_ni : isiB "NoneType" "int" = some false := by decide
theorem isi_nb : isiB "NoneType" "bool" = some false := by decide
theorem isi_si : isiB "str" "int" = some false := by decide
theorem isi_sb : isiB "str" "bool" = some false := by decide
theorem isi_li : isiB "list" "int" = some false := by decide
theorem isi_lb : isiB "list" "bool" = some false := by decide
theorem isi_ti : isiB "tuple" "int" = some false := by decide
theorem isi_tb : isiB "tuple" "bool" = some false := by decide
theorem ixN_int {n : Nat} {i : Int} (h0 : 0 ≤ i) (h1 : i < n) : ixN n i = some i.toNat := by unfold ixN; rw [if_pos h0, if_pos h1]
theorem mem_getD {ms : List Int} {P : Int → Prop} (h : ∀ x ∈ ms, P x) {i : Nat} (hi : i < ms.length) : P (ms.getD i 0) := by
  have : ms.getD i 0 = ms[i] := by simp [hi]
  rw [this]; exact h _ (List.getElem_mem hi)
theorem Same.upd {H H' : Hp} {l : Addr} {o : HO} (e : Same H H') (h : H l = none) : Same H (upd H' l o) := fun b u q => by
  rw [upd_ne (ne_of_none q h)]
  exact e b u q
theorem Same.new {H : Hp} {l : Addr} {o : HO} (h : H l = none) : Same H (L2.upd H l o) := Same.upd (Same.refl H) h
structure Def (K : PySem.W.Frag) (mg : Str → Option Value) (x : Str) (st : Stmt) (ps : List Str) (f : Addr) (fd : FuncData) : Prop where
  F : Fun K x x st f fd
  m : mg x = some (.ref f)
  b : Binds K fd ps []
section
variable {X : Cx}
theorem pg_tupK (K : PySem.W.Frag) {es : List Expr} {pos : Pos} {k : Nat} {t : TGs} (n : Nat) (hc : X.calm = true) (h : PGs X es t) (hK : X.K = K := by rfl)
    (hn : (assignEach es X.env).length = n := by rfl) (hst : (assignEach es X.env).findIdx? (·.1) = none := by rfl) : PG X (.Tuple es k pos) (gTup K n t) := by subst hK; exact pg_tup hc h hn hst
def tApp (to : TE) (te : TE) : TE := fun σ H Q => to σ H fun x H1 => ∃ p, x = .ref p ∧ (∃ xs, H1 p = some (.lst xs)) ∧ te σ H1 fun y H2 => match H2 p with
  | some (.lst xs) => xs.length < sizeLine ∧ Q .non (upd H2 p (.lst (xs ++ [y])))
  | _ => False
theorem pe_append {o e : Expr} {to te : TE} {apos cpos : Pos} (ho : PE X o to) (ha : PE X e te)
    (hbase : attributeBase o "append" X.env (eval o X.env) = eval o X.env := by rfl)
    (hfew : ((backTo cpos (starEach [e] X.env)).all (fun x => !x.1) && (backToKw cpos (keywordEach [] X.env)).all (fun x => x.1.isSome)
      && decide (([e] : List Expr).length + ([] : List Keyword).length + (if ([] : List Keyword).isEmpty then 0 else 1) < 30)) = true := by rfl)
    (hline : (apos.endLine == cpos.line) = true := by rfl) (hs : starEach [e] X.env = (false, eval e X.env) :: starEach [] X.env := by rfl) : PE X (.Call (.Attribute o "append" apos) [e] [] cpos) (tApp to te) := by
  intro pins s σ H Q I h
  refine wpAny_Call_method_late hbase hfew hline rfl (thn (ho pins s σ H _ I h) fun v s1 ⟨x, H1, I1, r1, p, ex, ⟨xs, e1⟩, q1⟩ => ?_)
  subst ex
  obtain ⟨h1, h2⟩ := tyV_is (T := "list") I1 r1 (.inl ⟨rfl, xs, SqL.of e1⟩)
  refine ⟨"list", "list.append", PySem.F.plainAttrs_list, PySem.F.slot_list_append, PySem.F.type_list_append, h1, h2, ?_⟩
  have hA := pa_cons ha pa_nil hs cpos pins s1 σ H1 (fun vs H2 => ∃ y, vs = [y] ∧ match H2 p with
    | some (.lst xs) => xs.length < sizeLine ∧ Q .non (upd H2 p (.lst (xs ++ [y])))
    | _ => False) I1 (by
      have e : (fun (y : V) (H2 : Hp) => match H2 p with
          | some (.lst xs) => xs.length < sizeLine ∧ Q .non (upd H2 p (.lst (xs ++ [y])))
          | _ => False) = fun (y : V) (H2 : Hp) => ∃ y', [y] = [y'] ∧ match H2 p with
          | some (.lst xs) => xs.length < sizeLine ∧ Q .non (upd H2 p (.lst (xs ++ [y'])))
          | _ => False := by
        funext y H2
        exact propext ⟨fun q => ⟨y, rfl, q⟩, fun ⟨y', e, q⟩ => by cases e; exact q⟩
      rw [e] at q1
      exact q1)
  rw [hs] at hA ⊢
  refine Calls.callWith_builtin rfl (Calls.evalArgs_plain ?_)
  refine thn hA fun us s2 ⟨vs, H2, I2, r2, y, ev, q2⟩ => ?_
  subst ev
  refine mt_append pins s2 σ H2 (.ref p) [y] v us Q I2 r1 r2 ?_
  split at q2
  · rename_i ys e2; exact ⟨p, ys, y, rfl, rfl, e2, q2.1, q2.2⟩
  · exact q2.elim
end
section
variable {X : Cx}
end
def CPowB (i j : Int) : Prop := 0 ≤ j ∧ (Builtin.Int.intBits i : Int) * j ≤ 2 ^ 27
theorem getD_of {ns : List Int} {i : Nat} {z : Int} (h : ns[i]? = some z) : ns.getD i 0 = z := by rw [List.getD_eq_getElem?_getD, h]; rfl
theorem some_getD {ns : List Int} {i : Nat} (h : i < ns.length) : ns[i]? = some (ns.getD i 0) := by rw [List.getD_eq_getElem?_getD]; simp [h]
end L2
set_option Elab.async false
set_option linter.all false
set_option maxRecDepth 100000
namespace TP
open PySem L2
inductive W where
  | non | bl (b : Bool) | int (i : Int) | str (x : Str) | ty (n : String) | tup (ws : List W) | lst (ws : List W) | scr (ws : List W)
mutual
inductive Rep (K : PySem.W.Frag) (F : Hp) : V → W → Prop where
  | non : Rep K F .non .non
  | bl {b : Bool} : Rep K F (.bl b) (.bl b)
  | int {i : Int} : Rep K F (.int i) (.int i)
  | str {x : Str} : Rep K F (.str x) (.str x)
  | ty {n : String} : Rep K F (.ty n) (.ty n)
  | tup {a : Addr} {vs : List V} {ws : List W} : F a = some (.tup vs) → Reps K F vs ws → Rep K F (.ref a) (.tup ws)
  | lst {a : Addr} {vs : List V} {ws : List W} : F a = some (.lst vs) → Reps K F vs ws → Rep K F (.ref a) (.lst ws)
  | scr {a : Addr} {vs : List V} {ws : List W} : SqL K F a vs → Reps K F vs ws → Rep K F (.ref a) (.scr ws)
inductive Reps (K : PySem.W.Frag) (F : Hp) : List V → List W → Prop where
  | nil : Reps K F [] []
  | cons {v : V} {w : W} {vs : List V} {ws : List W} : Rep K F v w → Reps K F vs ws → Reps K F (v :: vs) (w :: ws)
end
section
variable {K : PySem.W.Frag} {F F' : Hp}
theorem sqT_same {a : Addr} {xs : List V} (e : Same F F') (h : SqT K F a xs) : SqT K F' a xs := by
  rcases h with (h | ⟨o, h⟩) | h
  · exact .inl (.inl (e _ _ h))
  · exact .inl (.inr ⟨o, e _ _ h⟩)
  · exact .inr h
mutual
theorem Rep.same (e : Same F F') : ∀ {v : V} {w : W}, Rep K F v w → Rep K F' v w
  | _, _, .non => .non
  | _, _, .bl => .bl
  | _, _, .int => .int
  | _, _, .str => .str
  | _, _, .ty => .ty
  | _, _, .tup h r => .tup (e _ _ h) (Reps.same e r)
  | _, _, .lst h r => .lst (e _ _ h) (Reps.same e r)
  | _, _, .scr h r => .scr (Same.seq e h) (Reps.same e r)
theorem Reps.same (e : Same F F') : ∀ {vs : List V} {ws : List W}, Reps K F vs ws → Reps K F' vs ws
  | _, _, .nil => .nil
  | _, _, .cons h r => .cons (Rep.same e h) (Reps.same e r)
end
theorem Reps.length : ∀ {vs : List V} {ws : List W}, Reps K F vs ws → vs.length = ws.length
  | _, _, .nil => rfl
  | _, _, .cons _ r => by simp [Reps.length r]
theorem Reps.get : ∀ {vs : List V} {ws : List W} {i : Nat} {w : W}, Reps K F vs ws → ws[i]? = some w → ∃ v, vs[i]? = some v ∧ Rep K F v w
  | _, _, _, _, .nil, e => by simp at e
  | _, _, 0, _, .cons r _, e => by simp at e; subst e; exact ⟨_, rfl, r⟩
  | _, _, i + 1, w, .cons _ t, e => by
    obtain ⟨v, h1, h2⟩ := Reps.get (i := i) (w := w) t (by simpa using e)
    exact ⟨v, by simpa using h1, h2⟩
theorem Reps.get' : ∀ {vs : List V} {ws : List W} {i : Nat} {v : V}, Reps K F vs ws → vs[i]? = some v → ∃ w, ws[i]? = some w ∧ Rep K F v w
  | _, _, _, _, .nil, e => by simp at e
  | _, _, 0, _, .cons r _, e => by simp at e; subst e; exact ⟨_, rfl, r⟩
  | _, _, i + 1, v, .cons _ t, e => by
    obtain ⟨w, h1, h2⟩ := Reps.get' (i := i) (v := v) t (by simpa using e)
    exact ⟨w, by simpa using h1, h2⟩
theorem Reps.append : ∀ {vs us : List V} {ws xs : List W}, Reps K F vs ws → Reps K F us xs → Reps K F (vs ++ us) (ws ++ xs)
  | _, _, _, _, .nil, s => s
  | _, _, _, _, .cons r t, s => .cons r (Reps.append t s)
theorem Reps.take : ∀ {vs : List V} {ws : List W} (n : Nat), Reps K F vs ws → Reps K F (vs.take n) (ws.take n)
  | _, _, 0, _ => .nil
  | _, _, _ + 1, .nil => .nil
  | _, _, n + 1, .cons r t => .cons r (Reps.take n t)
theorem Reps.drop : ∀ {vs : List V} {ws : List W} (n : Nat), Reps K F vs ws → Reps K F (vs.drop n) (ws.drop n)
  | _, _, 0, r => r
  | _, _, _ + 1, .nil => .nil
  | _, _, n + 1, .cons _ t => Reps.drop n t
theorem Reps.reverse {vs : List V} {ws : List W} (r : Reps K F vs ws) : Reps K F vs.reverse ws.reverse := by
  induction r using Reps.rec (motive_1 := fun _ _ _ => True) with
  | nil => exact .nil
  | cons h _ _ ih => rw [List.reverse_cons, List.reverse_cons]; exact Reps.append ih (.cons h .nil)
  | _ => trivial
theorem Reps.set {v : V} {w : W} (h : Rep K F v w) : ∀ {vs : List V} {ws : List W} (i : Nat), Reps K F vs ws → Reps K F (vs.set i v) (ws.set i w)
  | _, _, _, .nil => .nil
  | _, _, 0, .cons _ t => .cons h t
  | _, _, i + 1, .cons q t => .cons q (Reps.set h i t)
theorem Reps.snoc {vs : List V} {ws : List W} {v : V} {w : W} (r : Reps K F vs ws) (h : Rep K F v w) : Reps K F (vs ++ [v]) (ws ++ [w]) := r.append (.cons h .nil)
end
mutual
def noL : W → Bool
  | .lst _ => false
  | .scr _ => false
  | .tup ws => noLs ws
  | _ => true
def noLs : List W → Bool
  | [] => true
  | w :: ws => noL w && noLs ws
end
def isL : HO → Bool
  | .lst _ => true
  | .dT _ => true
  | .dK _ => true
  | .frz _ (.lst _) => true
  | _ => false
def join (H0 G : Hp) : Hp := fun a => match H0 a with
  | some o => if isL o then some o else G a
  | none => G a
inductive Sl where
  | un | val (w : W) | par (w : W) | own (ws : List W) | dic (ks : List (List Int)) | dik (ks : List Int) | iop (p : Addr) (ws : List W)
abbrev Rho := List Sl
def SlR (K : PySem.W.Frag) (H0 G H : Hp) : Sl → Option V → Prop
  | .un, _ => True
  | .val w, o => ∃ v, o = some v ∧ Rep K G v w
  | .par w, o => ∃ v, o = some v ∧ Rep K (join H0 G) v w
  | .own ws, o => ∃ a vs, o = some (.ref a) ∧ H a = some (.lst vs) ∧ G a = none ∧ H0 a = none ∧ Reps K G vs ws
  | .dic ks, o => ∃ (a : Addr) (kvs : List (List Key × V)), o = some (.ref a) ∧ H a = some (.dT kvs) ∧ G a = none ∧ H0 a = none ∧ kvs.map (·.1) = ks.map fun k => k.map Sum.inl
  | .dik ks, o => ∃ (a : Addr) (kvs : List (Key × V)), o = some (.ref a) ∧ H a = some (.dK kvs) ∧ G a = none ∧ H0 a = none ∧ kvs.map (·.1) = ks.map Sum.inl
  | .iop p ws, o => o = some (.ref p) ∧ ∃ vs, H0 p = some (.lst vs) ∧ Reps K G vs ws
structure PIv (K : PySem.W.Frag) (H0 G : Hp) (ρ : Rho) (σ : St) (H : Hp) : Prop where
  g0 : ∀ a o, H0 a = some o → isL o = false → G a = some o
  gl : ∀ a o, H0 a = some o → isL o = true → G a = none
  gh : Same G H
  hh : Same H0 H
  len : ρ.length = σ.length
  sl : ∀ (i : Nat) (x : Sl) (o : Option V), ρ[i]? = some x → σ[i]? = some o → SlR K H0 G H x o
  ne : ∀ (i j : Nat) (ws us : List W) (a : Addr), i ≠ j → ρ[i]? = some (.own ws) → ρ[j]? = some (.own us) → σ[i]? = some (some (.ref a)) → σ[j]? ≠ some (some (.ref a))
structure Ext (G H G' H' : Hp) : Prop where
  gg : Same G G'
  hh : Same H H'
  gh : Same G' H'
  keep : ∀ a o, H a = some o → isL o = true → G a = none → G' a = none
theorem Ext.refl {G H : Hp} (h : Same G H) : Ext G H G H := ⟨Same.refl G, Same.refl H, h, fun _ _ _ _ e => e⟩
theorem Ext.trans {G H G1 H1 G2 H2 : Hp} (a : Ext G H G1 H1) (b : Ext G1 H1 G2 H2) : Ext G H G2 H2 :=
  ⟨a.gg.trans b.gg, a.hh.trans b.hh, b.gh, fun x o h l e => b.keep x o (a.hh x o h) l (a.keep x o h l e)⟩
section
variable {K : PySem.W.Frag} {H0 G H G' H' : Hp} {ρ : Rho} {σ : St}
theorem join_same (h : Same G G') : Same (join H0 G) (join H0 G') := fun a o e => by
  unfold join at e ⊢
  cases q : H0 a with
  | none => rw [q] at e; exact h a o e
  | some u =>
    rw [q] at e
    dsimp only at e ⊢
    by_cases hl : isL u = true
    · rw [if_pos hl] at e ⊢; exact e
    · rw [if_neg hl] at e ⊢; exact h a o e
theorem PIv.G_join (I : PIv K H0 G ρ σ H) : Same G (join H0 G) := fun a o e => by
  unfold join
  cases q : H0 a with
  | none => exact e
  | some u =>
    dsimp only
    by_cases hl : isL u = true
    · rw [I.gl a u q hl] at e; cases e
    · rw [if_neg hl]; exact e
theorem PIv.join_H (I : PIv K H0 G ρ σ H) : Same (join H0 G) H := fun a o e => by
  unfold join at e
  cases q : H0 a with
  | none => rw [q] at e; exact I.gh a o e
  | some u =>
    rw [q] at e
    dsimp only at e
    by_cases hl : isL u = true
    · rw [if_pos hl] at e; cases e; exact I.hh a _ q
    · rw [if_neg hl] at e; exact I.gh a o e
theorem PIv.ext (I : PIv K H0 G ρ σ H) (x : Ext G H G' H') : PIv K H0 G' ρ σ H' where
  g0 a o e l := x.gg a o (I.g0 a o e l)
  gl a o e l := x.keep a o (I.hh a o e) l (I.gl a o e l)
  gh := x.gh
  hh := I.hh.trans x.hh
  len := I.len
  sl i s o h1 h2 := by
    have := I.sl i s o h1 h2
    cases s with
    | un => trivial
    | val w => obtain ⟨v, e, r⟩ := this; exact ⟨v, e, r.same x.gg⟩
    | par w => obtain ⟨v, e, r⟩ := this; exact ⟨v, e, r.same (join_same x.gg)⟩
    | own ws =>
      obtain ⟨a, vs, e, h, g, h0, r⟩ := this
      exact ⟨a, vs, e, x.hh a _ h, x.keep a _ h rfl g, h0, r.same x.gg⟩
    | dic ks =>
      obtain ⟨a, kvs, e, h, g, h0, r⟩ := this
      exact ⟨a, kvs, e, x.hh a _ h, x.keep a _ h rfl g, h0, r⟩
    | dik ks =>
      obtain ⟨a, kvs, e, h, g, h0, r⟩ := this
      exact ⟨a, kvs, e, x.hh a _ h, x.keep a _ h rfl g, h0, r⟩
    | iop p ws =>
      obtain ⟨e, vs, h, r⟩ := this
      exact ⟨e, vs, h, r.same x.gg⟩
  ne := I.ne
mutual
theorem Rep.clean (I : PIv K H0 G ρ σ H) : ∀ {v : V} {w : W}, Rep K (join H0 G) v w → noL w = true → Rep K G v w
  | _, _, .non, _ => .non
  | _, _, .bl, _ => .bl
  | _, _, .int, _ => .int
  | _, _, .str, _ => .str
  | _, _, .ty, _ => .ty
  | _, _, .tup (a := a) h r, n => by
    refine .tup ?_ (Reps.clean I r (by simpa [noL] using n))
    unfold join at h
    cases q : H0 a with
    | none => rw [q] at h; exact h
    | some u =>
      rw [q] at h
      dsimp only at h
      by_cases hl : isL u = true
      · rw [if_pos hl] at h; cases h; cases hl
      · rw [if_neg hl] at h; exact h
  | _, _, .lst _ _, n => by simp [noL] at n
  | _, _, .scr _ _, n => by simp [noL] at n
theorem Reps.clean (I : PIv K H0 G ρ σ H) : ∀ {vs : List V} {ws : List W}, Reps K (join H0 G) vs ws → noLs ws = true → Reps K G vs ws
  | _, _, .nil, _ => .nil
  | _, _, .cons (w := w) (ws := ws) h r, n => by
    have n' : noL w = true ∧ noLs ws = true := by simpa [noLs] using n
    exact .cons (Rep.clean I h n'.1) (Reps.clean I r n'.2)
end
end
structure XW where
  cls : String
  fs : List (String × W)
inductive R (α : Type) where
  | ok (a : α) | ex (e : XW) | stuck
def R.bind {α β : Type} (x : R α) (f : α → R β) : R β := match x with
  | .ok a => f a
  | .ex e => .ex e
  | .stuck => .stuck
instance : Monad R where
  pure := R.ok
  bind := R.bind
@[simp] theorem R.ok_bind {α β : Type} (a : α) (f : α → R β) : ((R.ok a : R α) >>= f) = f a := rfl
@[simp] theorem R.stuck_bind {α β : Type} (f : α → R β) : ((R.stuck : R α) >>= f) = .stuck := rfl
@[simp] theorem R.ex_bind {α β : Type} (e : XW) (f : α → R β) : ((R.ex e : R α) >>= f) = .ex e := rfl
@[simp] theorem R.pure_eq {α : Type} (a : α) : (pure a : R α) = .ok a := rfl
inductive Mode where
  | F | V | U | C | B
def Md (K : PySem.W.Frag) (H0 H G' H' : Hp) (v : V) (w : W) : Mode → Prop
  | .V => Rep K G' v w
  | .U => Rep K (join H0 G') v w
  | .F => match w with
    | .lst ws => ∃ a vs, v = .ref a ∧ H' a = some (.lst vs) ∧ G' a = none ∧ H a = none ∧ Reps K G' vs ws
    | w => Rep K G' v w
  | .C => Rep K G' v w ∨ ∃ a vs ws, v = .ref a ∧ w = .lst ws ∧ H' a = some (.lst vs) ∧ Reps K G' vs ws
  | .B => Rep K (join H0 G') v w ∨ ∃ a vs ws, v = .ref a ∧ w = .lst ws ∧ H' a = some (.lst vs) ∧ Reps K G' vs ws
abbrev EXT := XW → Hp → Prop
def Out {α β : Type} (EX : EXT) (G H : Hp) (md : α → β → Hp → Hp → Prop) (r : R α) (Q : β → Hp → Prop) : Prop := match r with
  | .ok w => ∀ v G' H', Ext G H G' H' → md w v G' H' → Q v H'
  | .ex e => ∀ H', Same H H' → EX e H'
  | .stuck => False
abbrev mdW (K : PySem.W.Frag) (d : Mode) (H0 H : Hp) : W → V → Hp → Hp → Prop := fun w v G' H' => Md K H0 H G' H' v w d
abbrev mdB : Bool → Bool → Hp → Hp → Prop := fun b c _ _ => c = b
inductive MdA (K : PySem.W.Frag) (d : Mode) (H0 H G' H' : Hp) : List W → List V → Prop where
  | nil : MdA K d H0 H G' H' [] []
  | cons {w : W} {v : V} {ws : List W} {vs : List V} : Md K H0 H G' H' v w d → MdA K d H0 H G' H' ws vs → MdA K d H0 H G' H' (w :: ws) (v :: vs)
abbrev mdA (K : PySem.W.Frag) (d : Mode) (H0 H : Hp) : List W → List V → Hp → Hp → Prop := fun ws vs G' H' => MdA K d H0 H G' H' ws vs
def tM (K : PySem.W.Frag) (EX : EXT) (d : Mode) (m : Rho → R W) : TE := fun σ H Q => ∃ H0 G ρ, PIv K H0 G ρ σ H ∧ Out EX G H (mdW K d H0 H) (m ρ) Q
def tT (K : PySem.W.Frag) (EX : EXT) (m : Rho → R Bool) : TT := fun σ H Q => ∃ H0 G ρ, PIv K H0 G ρ σ H ∧ Out EX G H mdB (m ρ) Q
def tA (K : PySem.W.Frag) (EX : EXT) (d : Mode) (m : Rho → R (List W)) : TA := fun σ H Q => ∃ H0 G ρ, PIv K H0 G ρ σ H ∧ Out EX G H (mdA K d H0 H) (m ρ) Q
section
variable {K : PySem.W.Frag} {EX : EXT} {H0 G H G1 H1 G2 H2 : Hp} {ρ : Rho} {σ : St}
theorem Out.bind {α β γ δ : Type} {md : α → β → Hp → Hp → Prop} {md' : γ → δ → Hp → Hp → Prop} {m : R α} {k : α → R γ} {Q : δ → Hp → Prop} {Q1 : β → Hp → Prop} (o : Out EX G H md' (m >>= k) Q)
    (h : ∀ x G1 H1 w, Ext G H G1 H1 → md w x G1 H1 → Out EX G1 H1 md' (k w) Q → Q1 x H1) : Out EX G H md m Q1 := by
  cases m with
  | ok w =>
    intro v G' H' e d
    refine h v G' H' w e d ?_
    rw [R.ok_bind] at o
    revert o
    cases k w with
    | ok u => exact fun o v2 G2 H2 e2 d2 => o v2 G2 H2 (e.trans e2) d2
    | ex x => exact fun o H2 s2 => o H2 (e.hh.trans s2)
    | stuck => exact fun o => o
  | ex x => exact o
  | stuck => exact o
theorem Md.start {v : V} {w : W} {d : Mode} (s : Same H H1) (h : Md K H0 H1 G2 H2 v w d) : Md K H0 H G2 H2 v w d := by
  cases d with
  | F =>
    cases w with
    | lst ws => obtain ⟨a, vs, e, h1, h2, h3, r⟩ := h; exact ⟨a, vs, e, h1, h2, s.free h3, r⟩
    | _ => exact h
  | _ => exact h
theorem Md.move {v : V} {w : W} {d : Mode} (x : Ext G1 H1 G2 H2) (h : Md K H0 H G1 H1 v w d) : Md K H0 H G2 H2 v w d := by
  cases d with
  | V => exact Rep.same x.gg h
  | U => exact Rep.same (join_same x.gg) h
  | F =>
    cases w with
    | lst ws => obtain ⟨a, vs, e, h1, h2, h3, r⟩ := h; exact ⟨a, vs, e, x.hh _ _ h1, x.keep _ _ h1 rfl h2, h3, r.same x.gg⟩
    | non => exact Rep.same x.gg h
    | bl _ => exact Rep.same x.gg h
    | int _ => exact Rep.same x.gg h
    | str _ => exact Rep.same x.gg h
    | ty _ => exact Rep.same x.gg h
    | tup _ => exact Rep.same x.gg h
    | scr _ => exact Rep.same x.gg h
  | C =>
    rcases h with h | ⟨a, vs, ws, e, e2, h1, r⟩
    · exact .inl (h.same x.gg)
    · exact .inr ⟨a, vs, ws, e, e2, x.hh _ _ h1, r.same x.gg⟩
  | B =>
    rcases h with h | ⟨a, vs, ws, e, e2, h1, r⟩
    · exact .inl (h.same (join_same x.gg))
    · exact .inr ⟨a, vs, ws, e, e2, x.hh _ _ h1, r.same x.gg⟩
theorem MdA.move {d : Mode} (x : Ext G1 H1 G2 H2) : ∀ {ws : List W} {vs : List V}, MdA K d H0 H G1 H1 ws vs → MdA K d H0 H G2 H2 ws vs
  | _, _, .nil => .nil
  | _, _, .cons h t => .cons (h.move x) (MdA.move x t)
theorem Md.C {v : V} {w : W} (h : Md K H0 H G1 H1 v w .V) : Md K H0 H G1 H1 v w .C := .inl h
theorem Md.CB {v : V} {w : W} (I : PIv K H0 G1 ρ σ H1) (h : Md K H0 H G1 H1 v w .C) : Md K H0 H G1 H1 v w .B := by
  rcases h with h | h
  · exact .inl (h.same I.G_join)
  · exact .inr h
def sca : W → Bool
  | .tup _ => false
  | .scr _ => false
  | .lst _ => false
  | _ => true
theorem Md.sca {v : V} {w : W} (hs : sca w = true) (r : ∀ F, Rep K F v w) (d : Mode) : Md K H0 H G1 H1 v w d := by
  cases d with
  | V => exact r _
  | U => exact r _
  | C => exact .inl (r _)
  | B => exact .inl (r _)
  | F => cases w <;> first | exact r _ | cases hs
theorem Md.lstB {v : V} {ws : List W} (I : PIv K H0 G1 ρ σ H1) (h : Md K H0 H G1 H1 v (.lst ws) .B) : ∃ a vs, v = .ref a ∧ H1 a = some (.lst vs) ∧ Reps K (join H0 G1) vs ws := by
  rcases h with h | ⟨a, vs, us, e, e2, h1, r⟩
  · cases h with
    | lst s r => exact ⟨_, _, rfl, I.join_H _ _ s, r⟩
  · cases e2; exact ⟨a, vs, e, h1, r.same I.G_join⟩
theorem Md.scrB {v : V} {ws : List W} (I : PIv K H0 G1 ρ σ H1) (h : Md K H0 H G1 H1 v (.scr ws) .B) : ∃ a vs, v = .ref a ∧ SqL K H1 a vs ∧ Reps K (join H0 G1) vs ws := by
  rcases h with h | ⟨a, vs, us, e, e2, h1, r⟩
  · cases h with
    | scr s r => exact ⟨_, _, rfl, Same.seq I.join_H s, r⟩
  · cases e2
theorem Md.lstC {v : V} {ws : List W} (I : PIv K H0 G1 ρ σ H1) (h : Md K H0 H G1 H1 v (.lst ws) .C) : ∃ a vs, v = .ref a ∧ H1 a = some (.lst vs) ∧ Reps K G1 vs ws := by
  rcases h with h | ⟨a, vs, us, e, e2, h1, r⟩
  · cases h with
    | lst s r => exact ⟨_, _, rfl, I.gh _ _ s, r⟩
  · cases e2; exact ⟨a, vs, e, h1, r⟩
theorem Md.tupB {v : V} {ws : List W} (I : PIv K H0 G1 ρ σ H1) (h : Md K H0 H G1 H1 v (.tup ws) .B) : ∃ a vs, v = .ref a ∧ H1 a = some (.tup vs) ∧ Reps K (join H0 G1) vs ws := by
  rcases h with h | ⟨a, vs, us, e, e2, h1, r⟩
  · cases h with
    | tup s r => exact ⟨_, _, rfl, I.join_H _ _ s, r⟩
  · cases e2
theorem Md.tupC {v : V} {ws : List W} (I : PIv K H0 G1 ρ σ H1) (h : Md K H0 H G1 H1 v (.tup ws) .C) : ∃ a vs, v = .ref a ∧ H1 a = some (.tup vs) ∧ Reps K G1 vs ws := by
  rcases h with h | ⟨a, vs, us, e, e2, h1, r⟩
  · cases h with
    | tup s r => exact ⟨_, _, rfl, I.gh _ _ s, r⟩
  · cases e2
theorem Md.intB {v : V} {i : Int} (h : Md K H0 H G1 H1 v (.int i) .B) : v = .int i := by
  rcases h with h | ⟨a, vs, us, e, e2, h1, r⟩
  · cases h; rfl
  · cases e2
theorem Md.blB {v : V} {i : Bool} (h : Md K H0 H G1 H1 v (.bl i) .B) : v = .bl i := by
  rcases h with h | ⟨a, vs, us, e, e2, h1, r⟩
  · cases h; rfl
  · cases e2
theorem Md.strB {v : V} {i : Str} (h : Md K H0 H G1 H1 v (.str i) .B) : v = .str i := by
  rcases h with h | ⟨a, vs, us, e, e2, h1, r⟩
  · cases h; rfl
  · cases e2
theorem Md.nonB {v : V} (h : Md K H0 H G1 H1 v .non .B) : v = .non := by
  rcases h with h | ⟨a, vs, us, e, e2, h1, r⟩
  · cases h; rfl
  · cases e2
theorem Md.tyB {v : V} {n : String} (h : Md K H0 H G1 H1 v (.ty n) .B) : v = .ty n := by
  rcases h with h | ⟨a, vs, us, e, e2, h1, r⟩
  · cases h; rfl
  · cases e2
theorem mode_FV {m : Rho → R W} {Q : VK} (h : tM K EX .V m σ H Q) : tM K EX .F m σ H Q := by
  obtain ⟨H0, G, ρ, I, o⟩ := h
  refine ⟨H0, G, ρ, I, ?_⟩
  revert o
  cases m ρ with
  | ex e => exact id
  | stuck => exact id
  | ok w =>
    intro o v G' H' e d
    cases w with
    | lst ws =>
      obtain ⟨a, vs, rfl, h1, h2, h3, r⟩ := d
      have s1 : Same G' (upd G' a (.lst vs)) := fun b o q => by rw [upd_ne (ne_of_none q h2)]; exact q
      refine o _ (upd G' a (.lst vs)) H' ⟨e.gg.trans s1, e.hh, fun b o q => ?_, fun b o q l g => ?_⟩ (.lst upd_same (r.same s1))
      · by_cases hb : b = a
        · subst hb; rw [upd_same] at q; cases q; exact h1
        · rw [upd_ne hb] at q; exact e.gh b o q
      · rw [upd_ne (ne_of_none q h3)]; exact e.keep b o q l g
    | _ => exact o v G' H' e d
theorem mode_VU {m : Rho → R W} {Q : VK} (h : tM K EX .U m σ H Q) : tM K EX .V m σ H Q := by
  obtain ⟨H0, G, ρ, I, o⟩ := h
  refine ⟨H0, G, ρ, I, ?_⟩
  revert o
  cases m ρ with
  | ex e => exact id
  | stuck => exact id
  | ok w => exact fun o v G' H' e d => o v G' H' e (Rep.same (I.ext e).G_join d)
theorem mode_UB {m : Rho → R W} {Q : VK} (h : tM K EX .B m σ H Q) : tM K EX .U m σ H Q := by
  obtain ⟨H0, G, ρ, I, o⟩ := h
  refine ⟨H0, G, ρ, I, ?_⟩
  revert o
  cases m ρ with
  | ex e => exact id
  | stuck => exact id
  | ok w => exact fun o v G' H' e d => o v G' H' e (.inl d)
theorem mode_CB {m : Rho → R W} {Q : VK} (h : tM K EX .B m σ H Q) : tM K EX .C m σ H Q := by
  obtain ⟨H0, G, ρ, I, o⟩ := h
  refine ⟨H0, G, ρ, I, ?_⟩
  revert o
  cases m ρ with
  | ex e => exact id
  | stuck => exact id
  | ok w => exact fun o v G' H' e d => o v G' H' e (Md.CB (H := H) (I.ext e) d)
theorem mode_FC {m : Rho → R W} {Q : VK} (h : tM K EX .C m σ H Q) : tM K EX .F m σ H Q := by
  obtain ⟨H0, G, ρ, I, o⟩ := h
  refine ⟨H0, G, ρ, I, ?_⟩
  revert o
  cases m ρ with
  | ex e => exact id
  | stuck => exact id
  | ok w =>
    intro o v G' H' e d
    cases w with
    | lst ws => obtain ⟨a, vs, rfl, h1, h2, h3, r⟩ := d; exact o _ G' H' e (.inr ⟨a, vs, ws, rfl, rfl, h1, r⟩)
    | _ => exact o v G' H' e (.inl d)
def chk (w : W) : R W := if noL w then .ok w else .stuck
theorem noL_F {v : V} {w : W} (n : noL w = true) (r : Rep K G1 v w) : Md K H0 H G1 H1 v w .F := by
  cases w with
  | lst ws => simp [noL] at n
  | _ => exact r
theorem mode_chk {m : Rho → R W} {Q : VK} {d : Mode} (hd : d = .F ∨ d = .V) (h : tM K EX d (fun ρ => m ρ >>= chk) σ H Q) : tM K EX .U m σ H Q := by
  obtain ⟨H0, G, ρ, I, o⟩ := h
  refine ⟨H0, G, ρ, I, Out.bind o fun x G1 H1 w e m1 o1 => ?_⟩
  unfold chk at o1
  by_cases n : noL w = true
  · rw [if_pos n] at o1
    have r := Rep.clean (I.ext e) m1 n
    refine o1 x G1 H1 (Ext.refl e.gh) ?_
    rcases hd with rfl | rfl
    · exact noL_F n r
    · exact r
  · rw [if_neg n] at o1; exact o1.elim
end
end TP
namespace TP
open PySem L2
section
variable {K : PySem.W.Frag} {EX : EXT} {H0 G H G1 H1 G2 H2 : Hp} {ρ : Rho} {σ : St} {d : Mode} {Q : VK}
theorem c_const {v : V} {w : W} (hs : sca w = true) (r : ∀ F, Rep K F v w) (h : tM K EX d (fun _ => .ok w) σ H Q) : tC v σ H Q := by
  obtain ⟨H0, G, ρ, I, o⟩ := h
  exact o v G H (Ext.refl I.gh) (Md.sca hs r d)
def mVar (d : Mode) (i : Nat) : Rho → R W := fun ρ => match ρ[i]? with
  | some (.val w) => (match d with | .F => chk w | _ => .ok w)
  | some (.par w) => (match d with | .F => chk w | .V => chk w | .C => chk w | _ => .ok w)
  | some (.own ws) => (match d with | .C => .ok (.lst ws) | .B => .ok (.lst ws) | _ => .stuck)
  | some (.iop _ ws) => (match d with | .B => .ok (.lst ws) | .U => .ok (.lst ws) | _ => .stuck)
  | _ => .stuck
theorem Out.chk {α : Type} {v : V} {w : W} {md : W → α → Hp → Hp → Prop} {Q : α → Hp → Prop} (o : Out EX G H md (chk w) Q) : noL w = true ∧ Out EX G H md (.ok w) Q := by
  unfold TP.chk at o
  by_cases n : noL w = true
  · rw [if_pos n] at o; exact ⟨n, o⟩
  · rw [if_neg n] at o; exact o.elim
theorem c_var {i : Nat} (h : tM K EX d (mVar d i) σ H Q) : tVar i σ H Q := by
  obtain ⟨H0, G, ρ, I, o⟩ := h
  unfold mVar at o
  cases e : ρ[i]? with
  | none => rw [e] at o; exact o.elim
  | some s =>
    rw [e] at o
    have hi : i < σ.length := by rw [← I.len]; exact (List.getElem?_eq_some_iff.mp e).1
    have es : σ[i]? = some σ[i] := by simp
    have r := I.sl i s _ e es
    cases s with
    | un => exact o.elim
    | val w =>
      obtain ⟨v, ev, r⟩ := r
      refine ⟨v, by rw [es, ev], ?_⟩
      cases d with
      | F => obtain ⟨n, o⟩ := Out.chk (v := v) o; exact o v G H (Ext.refl I.gh) (noL_F n r)
      | V => exact o v G H (Ext.refl I.gh) r
      | U => exact o v G H (Ext.refl I.gh) (r.same I.G_join)
      | C => exact o v G H (Ext.refl I.gh) (.inl r)
      | B => exact o v G H (Ext.refl I.gh) (.inl (r.same I.G_join))
    | par w =>
      obtain ⟨v, ev, r⟩ := r
      refine ⟨v, by rw [es, ev], ?_⟩
      cases d with
      | F => obtain ⟨n, o⟩ := Out.chk (v := v) o; exact o v G H (Ext.refl I.gh) (noL_F n (Rep.clean I r n))
      | V => obtain ⟨n, o⟩ := Out.chk (v := v) o; exact o v G H (Ext.refl I.gh) (Rep.clean I r n)
      | U => exact o v G H (Ext.refl I.gh) r
      | C => obtain ⟨n, o⟩ := Out.chk (v := v) o; exact o v G H (Ext.refl I.gh) (.inl (Rep.clean I r n))
      | B => exact o v G H (Ext.refl I.gh) (.inl r)
    | own ws =>
      obtain ⟨a, vs, ev, ha, hg, h0, r⟩ := r
      refine ⟨.ref a, by rw [es, ev], ?_⟩
      cases d with
      | F => exact o.elim
      | V => exact o.elim
      | U => exact o.elim
      | C => exact o _ G H (Ext.refl I.gh) (.inr ⟨a, vs, ws, rfl, rfl, ha, r⟩)
      | B => exact o _ G H (Ext.refl I.gh) (.inr ⟨a, vs, ws, rfl, rfl, ha, r⟩)
    | dic ks => exact o.elim
    | dik ks => exact o.elim
    | iop p ws =>
      obtain ⟨ev, vs, h0, r⟩ := r
      refine ⟨.ref p, by rw [es, ev], ?_⟩
      have rj : Rep K (join H0 G) (.ref p) (.lst ws) := by
        refine .lst (vs := vs) ?_ (r.same I.G_join)
        unfold join
        rw [h0]; rfl
      cases d with
      | F => exact o.elim
      | V => exact o.elim
      | U => exact o _ G H (Ext.refl I.gh) rj
      | C => exact o.elim
      | B => exact o _ G H (Ext.refl I.gh) (.inl rj)
def Op2 (K : PySem.W.Frag) (b d : Mode) (r : R2) (f : W → W → R W) : Prop := ∀ (EX : EXT) (H0 Hs G H : Hp) (ρ : Rho) (σ : St) (Ha Hb : Hp) (x y : V) (u v : W) (Q : VK), PIv K H0 G ρ σ H → Same Hs H → Md K H0 Ha G H x u b → Md K H0 Hb G H y v b →
  Out EX G H (mdW K d H0 Hs) (f u v) Q → r x y H Q
theorem c_op {b : Mode} {r : R2} {f : W → W → R W} {ma mb : Rho → R W} (hr : Op2 K b d r f) (h : tM K EX d (fun ρ => ma ρ >>= fun x => mb ρ >>= fun y => f x y) σ H Q) : tOp r (tM K EX b ma) (tM K EX b mb) σ H Q := by
  obtain ⟨H0, G, ρ, I, o⟩ := h
  refine ⟨H0, G, ρ, I, Out.bind o fun x G1 H1 u e1 m1 o1 => ⟨H0, G1, ρ, I.ext e1, Out.bind o1 fun y G2 H2 v e2 m2 o2 => ?_⟩⟩
  exact hr EX H0 H G2 H2 ρ σ H H1 x y u v Q ((I.ext e1).ext e2) (e1.hh.trans e2.hh) (m1.move e2) m2 o2
def fI (C : Int → Int → Prop) [∀ i j, Decidable (C i j)] (g : Int → Int → W) : W → W → R W
  | .int i, .int j => if C i j then .ok (g i j) else .stuck
  | _, _ => .stuck
def fI0 (g : Int → Int → W) : W → W → R W
  | .int i, .int j => .ok (g i j)
  | _, _ => .stuck
theorem o2_I {C : Int → Int → Prop} [∀ i j, Decidable (C i j)] {g : Int → Int → W} {gv : Int → Int → V} (hs : ∀ i j, sca (g i j) = true) (hg : ∀ i j F, Rep K F (gv i j) (g i j)) : Op2 K .B d (rI C gv) (fI C g) := by
  intro EX H0 Hs G H ρ σ Ha Hb x y u v Q I s mx my o
  cases u <;> cases v <;> first | exact o.elim | skip
  rename_i i j
  have o' : Out EX G H (mdW K d H0 Hs) (if C i j then R.ok (g i j) else .stuck) Q := o
  by_cases c : C i j
  · rw [if_pos c] at o'
    exact ⟨i, j, mx.intB, my.intB, c, o' _ G H (Ext.refl I.gh) (Md.sca (hs i j) (hg i j) d)⟩
  · rw [if_neg c] at o'; exact o'.elim
theorem o2_I0 {g : Int → Int → W} {gv : Int → Int → V} (hs : ∀ i j, sca (g i j) = true) (hg : ∀ i j F, Rep K F (gv i j) (g i j)) : Op2 K .B d (rI0 gv) (fI0 g) := by
  intro EX H0 Hs G H ρ σ Ha Hb x y u v Q I s mx my o
  cases u <;> cases v <;> first | exact o.elim | skip
  rename_i i j
  exact ⟨i, j, mx.intB, my.intB, o _ G H (Ext.refl I.gh) (Md.sca (hs i j) (hg i j) d)⟩
def fU (g : Int → W) : W → R W
  | .int i => .ok (g i)
  | _ => .stuck
def isN : W → Bool
  | .non => true
  | _ => false
def fIsN (neg : Bool) : W → W → R W
  | u, .non => .ok (.bl (if neg then !isN u else isN u))
  | _, _ => .stuck
theorem isN_of {b : Mode} (hb : b = .B ∨ b = .U ∨ b = .V ∨ b = .C) {v : V} {w : W} {Hs : Hp} (h : Md K H0 Hs G1 H1 v w b) : decide (v = .non) = isN w := by
  have key : ∀ F, Rep K F v w → decide (v = .non) = isN w := fun F r => by
    cases r <;> first | rfl | (apply decide_eq_false; intro z; cases z)
  rcases hb with rfl | rfl | rfl | rfl
  · rcases h with h | ⟨a, vs, ws, rfl, rfl, _⟩
    · exact key _ h
    · apply decide_eq_false; intro z; cases z
  · exact key _ h
  · exact key _ h
  · rcases h with h | ⟨a, vs, ws, rfl, rfl, _⟩
    · exact key _ h
    · apply decide_eq_false; intro z; cases z
theorem o2_isN : Op2 K .B d (fun x y H Q => y = .non ∧ Q (.bl (decide (x = .non))) H) (fIsN false) := by
  intro EX H0 Hs G H ρ σ Ha Hb x y u v Q I s mx my o
  cases v <;> first | exact o.elim | skip
  refine ⟨my.nonB, ?_⟩
  rw [isN_of (.inl rfl) mx]
  exact o _ G H (Ext.refl I.gh) (Md.sca rfl (fun _ => .bl) d)
theorem o2_notN : Op2 K .B d (fun x y H Q => y = .non ∧ Q (.bl (!decide (x = .non))) H) (fIsN true) := by
  intro EX H0 Hs G H ρ σ Ha Hb x y u v Q I s mx my o
  cases v <;> first | exact o.elim | skip
  refine ⟨my.nonB, ?_⟩
  rw [isN_of (.inl rfl) mx]
  exact o _ G H (Ext.refl I.gh) (Md.sca rfl (fun _ => .bl) d)
def toB : W → R Bool
  | .bl b => .ok b
  | _ => .stuck
theorem c_test {ma : Rho → R W} {Q : Bool → Hp → Prop} (h : tT K EX (fun ρ => ma ρ >>= toB) σ H Q) : tTest (tM K EX .B ma) σ H Q := by
  obtain ⟨H0, G, ρ, I, o⟩ := h
  refine ⟨H0, G, ρ, I, Out.bind o fun x G1 H1 u e1 m1 o1 => ?_⟩
  cases u <;> first | exact o1.elim | skip
  rename_i b
  exact ⟨b, m1.blB, o1 b G1 H1 (Ext.refl e1.gh) rfl⟩
theorem c_tB {ma : Rho → R W} {Q : Bool → Hp → Prop} (h : tT K EX (fun ρ => ma ρ >>= toB) σ H Q) : tB (tM K EX .B ma) σ H Q := c_test h
def rAnd (a b : R Bool) : R Bool := a >>= fun c => if c then b else .ok false
def rOr (a b : R Bool) : R Bool := a >>= fun c => if c then .ok true else b
def rNot (a : R Bool) : R Bool := a >>= fun c => .ok (!c)
theorem c_and {ma mb : Rho → R Bool} {Q : Bool → Hp → Prop} (h : tT K EX (fun ρ => rAnd (ma ρ) (mb ρ)) σ H Q) : tAnd (tT K EX ma) (tT K EX mb) σ H Q := by
  obtain ⟨H0, G, ρ, I, o⟩ := h
  refine ⟨H0, G, ρ, I, Out.bind o fun x G1 H1 u e1 m1 o1 => ?_⟩
  cases m1
  cases x with
  | true => exact ⟨H0, G1, ρ, I.ext e1, o1⟩
  | false => exact o1 false G1 H1 (Ext.refl e1.gh) rfl
theorem c_or {ma mb : Rho → R Bool} {Q : Bool → Hp → Prop} (h : tT K EX (fun ρ => rOr (ma ρ) (mb ρ)) σ H Q) : tOr (tT K EX ma) (tT K EX mb) σ H Q := by
  obtain ⟨H0, G, ρ, I, o⟩ := h
  refine ⟨H0, G, ρ, I, Out.bind o fun x G1 H1 u e1 m1 o1 => ?_⟩
  cases m1
  cases x with
  | true => exact o1 true G1 H1 (Ext.refl e1.gh) rfl
  | false => exact ⟨H0, G1, ρ, I.ext e1, o1⟩
theorem c_not {ma : Rho → R Bool} {Q : Bool → Hp → Prop} (h : tT K EX (fun ρ => rNot (ma ρ)) σ H Q) : tNot (tT K EX ma) σ H Q := by
  obtain ⟨H0, G, ρ, I, o⟩ := h
  refine ⟨H0, G, ρ, I, Out.bind o fun x G1 H1 u e1 m1 o1 => ?_⟩
  cases m1
  exact o1 _ G1 H1 (Ext.refl e1.gh) rfl
def rAndV (a b : R W) : R W := a >>= fun x => toB x >>= fun c => if c then b else .ok (.bl false)
def rOrV (a b : R W) : R W := a >>= fun x => toB x >>= fun c => if c then .ok (.bl true) else b
def rNotV (a : R W) : R W := a >>= fun x => toB x >>= fun c => .ok (.bl (!c))
theorem c_nil {QA : List V → Hp → Prop} (h : tA K EX d (fun _ => .ok []) σ H QA) : tNil σ H QA := by
  obtain ⟨H0, G, ρ, I, o⟩ := h
  exact o [] G H (Ext.refl I.gh) .nil
theorem MdA.start (hd : d ≠ .F) (s : Same H H1) : ∀ {ws : List W} {vs : List V}, MdA K d H0 H1 G2 H2 ws vs → MdA K d H0 H G2 H2 ws vs
  | _, _, .nil => .nil
  | _, _, .cons h t => .cons (h.start s) (MdA.start hd s t)
theorem c_cons {ma : Rho → R W} {mr : Rho → R (List W)} {QA : List V → Hp → Prop} (h : tA K EX d (fun ρ => ma ρ >>= fun x => mr ρ >>= fun xs => .ok (x :: xs)) σ H QA) : tCons (tM K EX d ma) (tA K EX d mr) σ H QA := by
  obtain ⟨H0, G, ρ, I, o⟩ := h
  refine ⟨H0, G, ρ, I, Out.bind o fun x G1 H1 u e1 m1 o1 => ⟨H0, G1, ρ, I.ext e1, Out.bind o1 fun xs G2 H2 us e2 m2 o2 => ?_⟩⟩
  refine o2 (x :: xs) G2 H2 (Ext.refl e2.gh) (.cons (m1.move e2) ?_)
  have go : ∀ {ws : List W} {vs : List V}, MdA K d H0 H1 G2 H2 ws vs → MdA K d H0 H G2 H2 ws vs := fun {ws vs} q => by
    induction q with
    | nil => exact .nil
    | cons a _ ih => exact .cons (a.start e1.hh) ih
  exact go m2
theorem MdA.reps : ∀ {ws : List W} {vs : List V}, MdA K .V H0 H G1 H1 ws vs → Reps K G1 vs ws
  | _, _, .nil => .nil
  | _, _, .cons h t => .cons h (MdA.reps t)
theorem MdA.repsU : ∀ {ws : List W} {vs : List V}, MdA K .U H0 H G1 H1 ws vs → Reps K (join H0 G1) vs ws
  | _, _, .nil => .nil
  | _, _, .cons h t => .cons h (MdA.repsU t)
theorem new_ext {p : Addr} {o : HO} (hG : Same G H) (hp : H p = none) : Ext G H G (upd H p o) :=
  ⟨Same.refl G, fun b u q => by rw [upd_ne (ne_of_none q hp)]; exact q, fun b u q => by rw [upd_ne (ne_of_none (hG b u q) hp)]; exact hG b u q, fun _ _ _ _ e => e⟩
theorem new_extG {p : Addr} {o : HO} (hG : Same G H) (hp : H p = none) : Ext G H (upd G p o) (upd H p o) := by
  have gp : G p = none := hG.free hp
  refine ⟨fun b u q => by rw [upd_ne (ne_of_none q gp)]; exact q, fun b u q => by rw [upd_ne (ne_of_none q hp)]; exact q, fun b u q => ?_, fun b u q l g => ?_⟩
  · by_cases hb : b = p
    · subst hb; rw [upd_same] at q ⊢; exact q
    · rw [upd_ne hb] at q ⊢; exact hG b u q
  · rw [upd_ne (ne_of_none q hp)]; exact g
theorem Out.newL {p : Addr} {vs : List V} {ws : List W} {Hs : Hp} (I : PIv K H0 G ρ σ H) (s : Same Hs H) (r : Reps K G vs ws) (hp : H p = none) (o : Out EX G H (mdW K .F H0 Hs) (.ok (.lst ws)) Q) : Q (.ref p) (upd H p (.lst vs)) :=
  o _ G _ (new_ext I.gh hp) ⟨p, vs, rfl, upd_same, I.gh.free hp, s.free hp, r⟩
theorem Out.newTF {p : Addr} {vs : List V} {ws : List W} {Hs : Hp} (I : PIv K H0 G ρ σ H) (r : Reps K G vs ws) (hp : H p = none) (o : Out EX G H (mdW K .F H0 Hs) (.ok (.tup ws)) Q) : Q (.ref p) (upd H p (.tup vs)) :=
  o _ (upd G p (.tup vs)) _ (new_extG I.gh hp) (.tup upd_same (r.same fun b u q => by rw [upd_ne (ne_of_none q (I.gh.free hp))]; exact q))
def lim (n : Nat) (w : W) : R W := if n ≤ 1000 then .ok w else .stuck
theorem Out.lim {α : Type} {n : Nat} {w : W} {md : W → α → Hp → Hp → Prop} {Q : α → Hp → Prop} (o : Out EX G H md (lim n w) Q) : n ≤ 1000 ∧ Out EX G H md (.ok w) Q := by
  unfold TP.lim at o
  by_cases n : n ≤ 1000
  · rw [if_pos n] at o; exact ⟨n, o⟩
  · rw [if_neg n] at o; exact o.elim
theorem le_line {n : Nat} (h : n ≤ 1000) : n ≤ sizeLine := Nat.le_trans h (by decide)
theorem c_tup {ma : Rho → R (List W)} (h : tM K EX .F (fun ρ => ma ρ >>= fun ws => lim ws.length (.tup ws)) σ H Q) : tTup (tA K EX .V ma) σ H Q := by
  obtain ⟨H0, G, ρ, I, o⟩ := h
  refine ⟨H0, G, ρ, I, Out.bind o fun xs G1 H1 ws e1 m1 o1 => ?_⟩
  obtain ⟨hl, o2⟩ := Out.lim o1
  have r := MdA.reps m1
  exact ⟨by rw [r.length]; exact le_line hl, fun p hp => Out.newTF (I.ext e1) r hp o2⟩
theorem c_lst {ma : Rho → R (List W)} (h : tM K EX .F (fun ρ => ma ρ >>= fun ws => lim ws.length (.lst ws)) σ H Q) : tLst (tA K EX .V ma) σ H Q := by
  obtain ⟨H0, G, ρ, I, o⟩ := h
  refine ⟨H0, G, ρ, I, Out.bind o fun xs G1 H1 ws e1 m1 o1 => ?_⟩
  obtain ⟨hl, o2⟩ := Out.lim o1
  have r := MdA.reps m1
  exact ⟨by rw [r.length]; exact le_line hl, fun p hp => Out.newL (I.ext e1) e1.hh r hp o2⟩
theorem join_upd {p : Addr} {o : HO} (h : H0 p = none) : join H0 (upd G p o) = upd (join H0 G) p o := by
  funext b
  by_cases hb : b = p
  · subst hb; unfold join; rw [h]; dsimp only; rw [upd_same, upd_same]
  · rw [upd_ne hb]; unfold join; cases H0 b with
    | none => dsimp only; rw [upd_ne hb]
    | some u => dsimp only; rw [upd_ne hb]
theorem c_tupU {ma : Rho → R (List W)} (h : tM K EX .U (fun ρ => ma ρ >>= fun ws => lim ws.length (.tup ws)) σ H Q) : tTup (tA K EX .U ma) σ H Q := by
  obtain ⟨H0, G, ρ, I, o⟩ := h
  refine ⟨H0, G, ρ, I, Out.bind o fun xs G1 H1 ws e1 m1 o1 => ?_⟩
  obtain ⟨hl, o2⟩ := Out.lim o1
  have r := MdA.repsU m1
  have I1 := I.ext e1
  refine ⟨by rw [r.length]; exact le_line hl, fun p hp => o2 _ (upd G1 p (.tup xs)) _ (new_extG I1.gh hp) ?_⟩
  show Rep K (join H0 (upd G1 p (.tup xs))) _ _
  rw [join_upd (I1.hh.free hp)]
  exact .tup upd_same (r.same fun b u q => by rw [upd_ne (ne_of_none (I1.join_H b u q) hp)]; exact q)
end
end TP
namespace TP
open PySem L2
inductive Fl where
  | nx (ρ : Rho) | rt (w : W) | bk (ρ : Rho) | ct (ρ : Rho)
def OutS (K : PySem.W.Frag) (EX : EXT) (d : Mode) (H0 G : Hp) (r : R Fl) (D : Ends) : Prop := match r with
  | .ok (.nx ρ) => ∀ G' σ' H', Same G G' → PIv K H0 G' ρ σ' H' → D.nx σ' H'
  | .ok (.bk ρ) => ∀ G' σ' H', Same G G' → PIv K H0 G' ρ σ' H' → D.bk σ' H'
  | .ok (.ct ρ) => ∀ G' σ' H', Same G G' → PIv K H0 G' ρ σ' H' → D.ct σ' H'
  | .ok (.rt w) => ∀ v G' H', Same G' H' → Same H0 H' → (∀ a o, H0 a = some o → isL o = true → G' a = none) → Md K H0 H0 G' H' v w d → D.rt v H'
  | .ex e => ∀ H', Same H0 H' → EX e H'
  | .stuck => False
def tSt (K : PySem.W.Frag) (EX : EXT) (d : Mode) (m : Rho → R Fl) : TS := fun D σ H => ∃ H0 G ρ, PIv K H0 G ρ σ H ∧ OutS K EX d H0 G (m ρ) D
section
variable {K : PySem.W.Frag} {EX : EXT} {H0 G H G1 H1 G2 H2 : Hp} {ρ : Rho} {σ : St} {d : Mode} {D : Ends}
theorem OutS.move {r : R Fl} (s : Same G G1) (o : OutS K EX d H0 G r D) : OutS K EX d H0 G1 r D := by
  cases r with
  | stuck => exact o
  | ex e => exact o
  | ok f =>
    cases f with
    | nx ρ' => exact fun G' σ' H' s' I' => o G' σ' H' (s.trans s') I'
    | bk ρ' => exact fun G' σ' H' s' I' => o G' σ' H' (s.trans s') I'
    | ct ρ' => exact fun G' σ' H' s' I' => o G' σ' H' (s.trans s') I'
    | rt w => exact o
theorem OutS.bind {α β : Type} {md : α → β → Hp → Hp → Prop} {m : R α} {k : α → R Fl} {Q1 : β → Hp → Prop} (I : PIv K H0 G ρ σ H) (o : OutS K EX d H0 G (m >>= k) D)
    (h : ∀ x G1 H1 w, Ext G H G1 H1 → md w x G1 H1 → OutS K EX d H0 G1 (k w) D → Q1 x H1) : Out EX G H md m Q1 := by
  cases m with
  | ok w => exact fun v G' H' e q => h v G' H' w e q (OutS.move e.gg o)
  | ex e => exact fun H' s => o H' (I.hh.trans s)
  | stuck => exact o
def mSeq (m n : Rho → R Fl) : Rho → R Fl := fun ρ => m ρ >>= fun f => match f with
  | .nx ρ' => n ρ'
  | .rt w => .ok (.rt w)
  | .bk ρ' => .ok (.bk ρ')
  | .ct ρ' => .ok (.ct ρ')
theorem c_next (h : tSt K EX d (fun ρ => .ok (.nx ρ)) D σ H) : tNext D σ H := by
  obtain ⟨H0, G, ρ, I, o⟩ := h
  exact o G σ H (Same.refl G) I
theorem c_seq {m n : Rho → R Fl} (h : tSt K EX d (mSeq m n) D σ H) : tSeq (tSt K EX d m) (tSt K EX d n) D σ H := by
  obtain ⟨H0, G, ρ, I, o⟩ := h
  refine ⟨H0, G, ρ, I, ?_⟩
  unfold mSeq at o
  revert o
  cases m ρ with
  | stuck => exact id
  | ex e => exact id
  | ok f =>
    cases f with
    | nx ρ' => exact fun o G' σ' H' s' I' => ⟨H0, G', ρ', I', OutS.move s' o⟩
    | _ => exact id
theorem c_ret {m : Rho → R W} (h : tSt K EX d (fun ρ => m ρ >>= fun w => .ok (.rt w)) D σ H) : tRet (tM K EX d m) D σ H := by
  obtain ⟨H0, G, ρ, I, o⟩ := h
  refine ⟨H0, G, ρ, I, OutS.bind I o fun x G1 H1 w e1 m1 o1 => ?_⟩
  have I1 := I.ext e1
  exact o1 x G1 H1 e1.gh I1.hh I1.gl (m1.start I.hh)
def mRetVar (d : Mode) (i : Nat) : Rho → R Fl := fun ρ => match ρ[i]? with
  | some (.own ws) => .ok (.rt (.lst ws))
  | _ => mVar d i ρ >>= fun w => .ok (.rt w)
theorem c_retVar {i : Nat} (hd : d = .F ∨ d = .V) (h : tSt K EX d (mRetVar d i) D σ H) : tRet (tVar i) D σ H := by
  obtain ⟨H0, G, ρ, I, o⟩ := h
  unfold mRetVar at o
  by_cases ho : ∃ ws, ρ[i]? = some (.own ws)
  · obtain ⟨ws, e⟩ := ho
    rw [e] at o
    have hi : i < σ.length := by rw [← I.len]; exact (List.getElem?_eq_some_iff.mp e).1
    have es : σ[i]? = some σ[i] := by simp
    obtain ⟨a, vs, ev, ha, hg, h0, r⟩ := I.sl i _ _ e es
    refine ⟨.ref a, by rw [es, ev], ?_⟩
    rcases hd with rfl | rfl
    · exact o _ G H I.gh I.hh I.gl ⟨a, vs, rfl, ha, hg, h0, r⟩
    · have s1 : Same G (upd G a (.lst vs)) := fun b o q => by rw [upd_ne (ne_of_none q hg)]; exact q
      refine o _ (upd G a (.lst vs)) H (fun b o q => ?_) I.hh (fun b u q l => ?_) (.lst upd_same (r.same s1))
      · by_cases hb : b = a
        · subst hb; rw [upd_same] at q; cases q; exact ha
        · rw [upd_ne hb] at q; exact I.gh b o q
      · rw [upd_ne (ne_of_none q h0)]; exact I.gl b u q l
  · have o' : OutS K EX d H0 G (mVar d i ρ >>= fun w => .ok (.rt w)) D := by
      revert o
      split
      · rename_i ws e; exact absurd ⟨ws, e⟩ ho
      · exact id
    have c : tRet (tM K EX d (mVar d i)) D σ H := c_ret (m := mVar d i) ⟨H0, G, ρ, I, o'⟩
    exact c_var c
theorem PIv.setV {i : Nat} {v : V} {w : W} (I : PIv K H0 G ρ σ H) (r : Rep K G v w) : PIv K H0 G (ρ.set i (.val w)) (σ.set i (some v)) H where
  g0 := I.g0
  gl := I.gl
  gh := I.gh
  hh := I.hh
  len := by rw [List.length_set, List.length_set]; exact I.len
  sl j x o h1 h2 := by
    by_cases hj : i = j
    · subst hj
      rw [List.getElem?_set] at h1 h2
      simp only [if_true] at h1 h2
      split at h1 <;> split at h2 <;> simp only [Option.some.injEq, reduceCtorEq] at h1 h2
      subst h1; subst h2
      exact ⟨v, rfl, r⟩
    · rw [List.getElem?_set_ne hj] at h1 h2; exact I.sl j x o h1 h2
  ne a b ws us c hab h1 h2 h3 h4 := by
    have na : i ≠ a := by
      rintro rfl
      rw [List.getElem?_set] at h1
      simp only [if_true] at h1
      split at h1 <;> simp at h1
    have nb : i ≠ b := by
      rintro rfl
      rw [List.getElem?_set] at h2
      simp only [if_true] at h2
      split at h2 <;> simp at h2
    rw [List.getElem?_set_ne na] at h1 h3
    rw [List.getElem?_set_ne nb] at h2 h4
    exact I.ne a b ws us c hab h1 h2 h3 h4
theorem PIv.setU {i : Nat} {v : V} {w : W} (I : PIv K H0 G ρ σ H) (r : Rep K (join H0 G) v w) : PIv K H0 G (ρ.set i (.par w)) (σ.set i (some v)) H where
  g0 := I.g0
  gl := I.gl
  gh := I.gh
  hh := I.hh
  len := by rw [List.length_set, List.length_set]; exact I.len
  sl j x o h1 h2 := by
    by_cases hj : i = j
    · subst hj
      rw [List.getElem?_set] at h1 h2
      simp only [if_true] at h1 h2
      split at h1 <;> split at h2 <;> simp only [Option.some.injEq, reduceCtorEq] at h1 h2
      subst h1; subst h2
      exact ⟨v, rfl, r⟩
    · rw [List.getElem?_set_ne hj] at h1 h2; exact I.sl j x o h1 h2
  ne a b ws us c hab h1 h2 h3 h4 := by
    have na : i ≠ a := by
      rintro rfl
      rw [List.getElem?_set] at h1
      simp only [if_true] at h1
      split at h1 <;> simp at h1
    have nb : i ≠ b := by
      rintro rfl
      rw [List.getElem?_set] at h2
      simp only [if_true] at h2
      split at h2 <;> simp at h2
    rw [List.getElem?_set_ne na] at h1 h3
    rw [List.getElem?_set_ne nb] at h2 h4
    exact I.ne a b ws us c hab h1 h2 h3 h4
theorem PIv.setO {i : Nat} {a : Addr} {vs : List V} {ws : List W} (I : PIv K H0 G ρ σ H) (ha : H a = some (.lst vs)) (hg : G a = none) (h0 : H0 a = none) (r : Reps K G vs ws)
    (nw : ∀ (j : Nat) (us : List W), ρ[j]? = some (Sl.own us) → σ[j]? ≠ some (some (V.ref a))) : PIv K H0 G (ρ.set i (.own ws)) (σ.set i (some (.ref a))) H where
  g0 := I.g0
  gl := I.gl
  gh := I.gh
  hh := I.hh
  len := by rw [List.length_set, List.length_set]; exact I.len
  sl j x o h1 h2 := by
    by_cases hj : i = j
    · subst hj
      rw [List.getElem?_set] at h1 h2
      simp only [if_true] at h1 h2
      split at h1 <;> split at h2 <;> simp only [Option.some.injEq, reduceCtorEq] at h1 h2
      subst h1; subst h2
      exact ⟨a, vs, rfl, ha, hg, h0, r⟩
    · rw [List.getElem?_set_ne hj] at h1 h2; exact I.sl j x o h1 h2
  ne p q ws' us c hab h1 h2 h3 h4 := by
    by_cases hp : i = p
    · subst hp
      rw [List.getElem?_set_ne hab] at h2 h4
      rw [List.getElem?_set] at h3
      simp only [if_true] at h3
      split at h3 <;> simp only [Option.some.injEq, reduceCtorEq, V.ref.injEq] at h3
      subst h3
      exact nw q us h2 h4
    · rw [List.getElem?_set_ne hp] at h1 h3
      by_cases hq : i = q
      · subst hq
        rw [List.getElem?_set] at h4
        simp only [if_true] at h4
        split at h4 <;> simp only [Option.some.injEq, reduceCtorEq, V.ref.injEq] at h4
        subst h4
        exact nw p ws' h1 h3
      · rw [List.getElem?_set_ne hq] at h2 h4
        exact I.ne p q ws' us c hab h1 h2 h3 h4
def slotF : W → Sl
  | .lst ws => .own ws
  | w => .val w
theorem c_setV {i : Nat} {m : Rho → R W} (h : tSt K EX d (fun ρ => m ρ >>= fun w => .ok (.nx (ρ.set i (.val w)))) D σ H) : tAsg (tM K EX .V m) (gName i) D σ H := by
  obtain ⟨H0, G, ρ, I, o⟩ := h
  exact ⟨H0, G, ρ, I, OutS.bind I o fun x G1 H1 w e1 m1 o1 => o1 G1 _ H1 (Same.refl _) ((I.ext e1).setV m1)⟩
theorem c_setU {i : Nat} {m : Rho → R W} (h : tSt K EX d (fun ρ => m ρ >>= fun w => .ok (.nx (ρ.set i (.par w)))) D σ H) : tAsg (tM K EX .U m) (gName i) D σ H := by
  obtain ⟨H0, G, ρ, I, o⟩ := h
  exact ⟨H0, G, ρ, I, OutS.bind I o fun x G1 H1 w e1 m1 o1 => o1 G1 _ H1 (Same.refl _) ((I.ext e1).setU m1)⟩
theorem c_setF {i : Nat} {m : Rho → R W} (h : tSt K EX d (fun ρ => m ρ >>= fun w => .ok (.nx (ρ.set i (slotF w)))) D σ H) : tAsg (tM K EX .F m) (gName i) D σ H := by
  obtain ⟨H0, G, ρ, I, o⟩ := h
  refine ⟨H0, G, ρ, I, OutS.bind I o fun x G1 H1 w e1 m1 o1 => ?_⟩
  have I1 := I.ext e1
  cases w with
  | lst ws =>
    obtain ⟨a, vs, rfl, h1, h2, h3, r⟩ := m1
    refine o1 G1 _ H1 (Same.refl _) (I1.setO h1 h2 (I.hh.free h3) r fun j us q z => ?_)
    obtain ⟨b, us', eb, hb, _⟩ := I.sl j _ _ q z
    cases eb
    rw [h3] at hb; cases hb
  | non => exact o1 G1 _ H1 (Same.refl _) (I1.setV m1)
  | bl _ => exact o1 G1 _ H1 (Same.refl _) (I1.setV m1)
  | int _ => exact o1 G1 _ H1 (Same.refl _) (I1.setV m1)
  | str _ => exact o1 G1 _ H1 (Same.refl _) (I1.setV m1)
  | ty _ => exact o1 G1 _ H1 (Same.refl _) (I1.setV m1)
  | tup _ => exact o1 G1 _ H1 (Same.refl _) (I1.setV m1)
  | scr _ => exact o1 G1 _ H1 (Same.refl _) (I1.setV m1)
instance : DecidableEq Mode := fun a b => by cases a <;> cases b <;> first | exact isTrue rfl | exact isFalse (by intro h; cases h)
def Gt (K : PySem.W.Frag) (e : Mode) (g : TG) (mg : W → Rho → Option Rho) : Prop := ∀ (H0 Hs G : Hp) (ρ : Rho) (σ : St) (H : Hp) (v : V) (w : W) (ρ' : Rho) (Q : St → Hp → Prop), PIv K H0 G ρ σ H → Md K H0 Hs G H v w e → mg w ρ = some ρ' →
  (∀ σ', PIv K H0 G ρ' σ' H → Q σ' H) → g v σ H Q
def Gts (K : PySem.W.Frag) (e : Mode) (g : TGs) (mg : List W → Rho → Option Rho) : Prop := ∀ (H0 G : Hp) (ρ : Rho) (σ : St) (H : Hp) (vs : List V) (ws : List W) (ρ' : Rho) (Q : St → Hp → Prop), PIv K H0 G ρ σ H → Reps K (if e = .V then G else join H0 G) vs ws → mg ws ρ = some ρ' →
  (∀ σ', PIv K H0 G ρ' σ' H → Q σ' H) → g vs σ H Q
def gN (e : Mode) (i : Nat) : W → Rho → Option Rho := fun w ρ => some (ρ.set i (if e = .V then .val w else .par w))
theorem gt_U {i : Nat} : Gt K .U (gName i) (gN .U i) := fun H0 Hs G ρ σ H v w ρ' Q I m e h => by
  cases e; exact h _ (I.setU m)
def gsNil : List W → Rho → Option Rho
  | [], ρ => some ρ
  | _, _ => none
def gsCons (f : W → Rho → Option Rho) (g : List W → Rho → Option Rho) : List W → Rho → Option Rho
  | w :: ws, ρ => (f w ρ).bind (g ws)
  | [], _ => none
theorem gts_nil {e : Mode} : Gts K e gNil gsNil := fun H0 G ρ σ H vs ws ρ' Q I r e h => by
  cases r with
  | nil => cases e; exact ⟨rfl, h _ I⟩
  | cons _ _ => cases e
theorem gts_cons {e : Mode} {t : TG} {u : TGs} {f : W → Rho → Option Rho} {g : List W → Rho → Option Rho} (he : e = .V ∨ e = .U) (h1 : Gt K e t f) (h2 : Gts K e u g) : Gts K e (gCons t u) (gsCons f g) := fun H0 G ρ σ H vs ws ρ' Q I r q h => by
  cases r with
  | nil => cases q
  | cons a b =>
    unfold gsCons at q
    obtain ⟨ρ1, q1, q2⟩ := Option.bind_eq_some_iff.mp q
    refine ⟨_, _, rfl, h1 H0 H G ρ σ H _ _ ρ1 _ I ?_ q1 fun σ1 I1 => h2 H0 G ρ1 σ1 H _ _ ρ' Q I1 b q2 h⟩
    rcases he with rfl | rfl
    · exact a
    · exact a
def gT (n : Nat) (g : List W → Rho → Option Rho) : W → Rho → Option Rho
  | .tup ws, ρ => if ws.length = n then g ws ρ else none
  | _, _ => none
theorem gt_tup {e : Mode} {n : Nat} {u : TGs} {g : List W → Rho → Option Rho} (he : e = .V ∨ e = .U) (h : Gts K e u g) : Gt K e (gTup K n u) (gT n g) := fun H0 Hs G ρ σ H v w ρ' Q I m q k => by
  cases w <;> first | cases q | skip
  rename_i ws
  have q' : (if ws.length = n then g ws ρ else none) = some ρ' := q
  by_cases hn : ws.length = n
  · rw [if_pos hn] at q'
    rcases he with rfl | rfl
    · cases m with
      | tup s r => exact ⟨_, _, rfl, SqT.of (I.gh _ _ s), by rw [r.length]; exact hn, h H0 G ρ σ H _ ws ρ' Q I (by rw [if_pos rfl]; exact r) q' k⟩
    · cases m with
      | tup s r => exact ⟨_, _, rfl, SqT.of (I.join_H _ _ s), by rw [r.length]; exact hn, h H0 G ρ σ H _ ws ρ' Q I (by rw [if_neg (by intro z; cases z)]; exact r) q' k⟩
  · rw [if_neg hn] at q'; cases q'
def toR {α : Type} : Option α → R α
  | some a => .ok a
  | none => .stuck
theorem PIv.own_upd {i : Nat} {a : Addr} {vs' : List V} {ws ws' : List W} (I : PIv K H0 G ρ σ H) (e : ρ[i]? = some (.own ws)) (es : σ[i]? = some (some (.ref a))) (r : Reps K G vs' ws') : PIv K H0 G (ρ.set i (.own ws')) σ (upd H a (.lst vs')) := by
  obtain ⟨a', vs, ev, ha, hg, h0, _⟩ := I.sl i _ _ e es
  cases ev
  refine ⟨I.g0, I.gl, fun b o q => by rw [upd_ne (ne_of_none q hg)]; exact I.gh b o q, fun b o q => by rw [upd_ne (ne_of_none q h0)]; exact I.hh b o q, by rw [List.length_set]; exact I.len, fun j x o h1 h2 => ?_, fun p q ws1 us c hab h1 h2 h3 h4 => ?_⟩
  · by_cases hj : i = j
    · subst hj
      rw [List.getElem?_set] at h1
      simp only [if_true] at h1
      split at h1 <;> simp only [Option.some.injEq, reduceCtorEq] at h1
      subst h1
      rw [es] at h2; cases h2
      exact ⟨a, vs', rfl, upd_same, hg, h0, r⟩
    · rw [List.getElem?_set_ne hj] at h1
      have := I.sl j x o h1 h2
      cases x with
      | own us =>
        obtain ⟨b, us', eb, hb, hgb, h0b, rb⟩ := this
        subst eb
        have hne : b ≠ a := by
          rintro rfl
          exact I.ne i j ws us b hj e h1 es h2
        exact ⟨b, us', rfl, by rw [upd_ne hne]; exact hb, hgb, h0b, rb⟩
      | dic ks =>
        obtain ⟨b, us', eb, hb, hgb, h0b, rb⟩ := this
        have hne : b ≠ a := by
          rintro rfl
          rw [ha] at hb; cases hb
        exact ⟨b, us', eb, by rw [upd_ne hne]; exact hb, hgb, h0b, rb⟩
      | dik ks =>
        obtain ⟨b, us', eb, hb, hgb, h0b, rb⟩ := this
        have hne : b ≠ a := by
          rintro rfl
          rw [ha] at hb; cases hb
        exact ⟨b, us', eb, by rw [upd_ne hne]; exact hb, hgb, h0b, rb⟩
      | un => exact this
      | val _ => exact this
      | par _ => exact this
      | iop _ _ => exact this
  · have key : ∀ {k : Nat} {us : List W}, (ρ.set i (.own ws'))[k]? = some (.own us) → ∃ us', ρ[k]? = some (.own us') := fun {k us} hk => by
      by_cases hik : i = k
      · subst hik; exact ⟨ws, e⟩
      · rw [List.getElem?_set_ne hik] at hk; exact ⟨us, hk⟩
    obtain ⟨w1, k1⟩ := key h1
    obtain ⟨w2, k2⟩ := key h2
    exact I.ne p q w1 w2 c hab k1 k2 h3 h4
theorem PIv.own_at {i : Nat} {ws : List W} (I : PIv K H0 G ρ σ H) (e : ρ[i]? = some (.own ws)) : ∃ a vs, σ[i]? = some (some (.ref a)) ∧ H a = some (.lst vs) ∧ G a = none ∧ H0 a = none ∧ Reps K G vs ws := by
  have hi : i < σ.length := by rw [← I.len]; exact (List.getElem?_eq_some_iff.mp e).1
  have es : σ[i]? = some σ[i] := by simp
  obtain ⟨a, vs, ev, r⟩ := I.sl i _ _ e es
  exact ⟨a, vs, by rw [es, ev], r⟩
def mApp (i : Nat) (m : Rho → R W) : Rho → R Fl := fun ρ => match ρ[i]? with
  | some (.own ws) => m ρ >>= fun w => if ws.length < 1000 then .ok (.nx (ρ.set i (.own (ws ++ [w])))) else .stuck
  | _ => .stuck
theorem c_app {i : Nat} {m : Rho → R W} (h : tSt K EX d (mApp i m) D σ H) : tDrop (tApp (tVar i) (tM K EX .V m)) D σ H := by
  obtain ⟨H0, G, ρ, I, o⟩ := h
  unfold mApp at o
  split at o
  · rename_i ws e
    obtain ⟨a, vs, es, ha, hg, h0, r⟩ := I.own_at e
    refine ⟨.ref a, es, a, rfl, ⟨vs, ha⟩, H0, G, ρ, I, OutS.bind I o fun x G1 H1 w e1 m1 o1 => ?_⟩
    by_cases hl : ws.length < 1000
    · rw [if_pos hl] at o1
      have h1 := e1.hh a _ ha
      dsimp only
      rw [h1]
      dsimp only
      have hlen : vs.length = ws.length := r.length
      exact ⟨Nat.lt_of_lt_of_le (by omega : vs.length < 1000) (by decide), o1 G1 σ _ (Same.refl _) ((I.ext e1).own_upd e es ((r.same e1.gg).snoc m1))⟩
    · rw [if_neg hl] at o1; exact o1.elim
  · exact o.elim
def mSet (i : Nat) (mk me : Rho → R W) : Rho → R Fl := fun ρ => match ρ[i]? with
  | some (.own ws) => me ρ >>= fun w => mk ρ >>= fun k => (match k with
    | .int k => (match ixN ws.length k with
      | some j => .ok (.nx (ρ.set i (.own (ws.set j w))))
      | none => .stuck)
    | _ => .stuck)
  | _ => .stuck
theorem c_set {i : Nat} {mk me : Rho → R W} (h : tSt K EX d (mSet i mk me) D σ H) : tAsg (tM K EX .V me) (gSub (tVar i) (tM K EX .B mk) rSetL) D σ H := by
  obtain ⟨H0, G, ρ, I, o⟩ := h
  unfold mSet at o
  split at o
  · rename_i ws e
    obtain ⟨a, vs, es, ha, hg, h0, r⟩ := I.own_at e
    refine ⟨H0, G, ρ, I, OutS.bind I o fun x G1 H1 w e1 m1 o1 => ⟨.ref a, es, H0, G1, ρ, I.ext e1, OutS.bind (I.ext e1) o1 fun y G2 H2 k e2 m2 o2 => ?_⟩⟩
    cases k <;> first | exact o2.elim | skip
    rename_i k
    dsimp only at o2
    cases q : ixN ws.length k with
    | none => rw [q] at o2; exact o2.elim
    | some j =>
      rw [q] at o2
      refine ⟨a, vs, k, j, rfl, m2.intB, e2.hh _ _ (e1.hh _ _ ha), by rw [r.length]; exact q, ?_⟩
      exact o2 G2 σ _ (Same.refl _) (((I.ext e1).ext e2).own_upd e es (Reps.set (Rep.same e2.gg m1) j ((r.same e1.gg).same e2.gg)))
  · exact o.elim
def mAug (i : Nat) (f : Int → Int → Int) (m : Rho → R W) : Rho → R Fl := fun ρ => mVar .B i ρ >>= fun x => m ρ >>= fun y => match x, y with
  | .int a, .int b => .ok (.nx (ρ.set i (.val (.int (f a b)))))
  | _, _ => .stuck
def mIf (c : Rho → R Bool) (m n : Rho → R Fl) : Rho → R Fl := fun ρ => c ρ >>= fun b => if b then m ρ else n ρ
theorem c_ifS {c : Rho → R Bool} {m n : Rho → R Fl} (h : tSt K EX d (mIf c m n) D σ H) : tIfS (tT K EX c) (tSt K EX d m) (tSt K EX d n) D σ H := by
  obtain ⟨H0, G, ρ, I, o⟩ := h
  refine ⟨H0, G, ρ, I, OutS.bind I o fun x G1 H1 w e1 m1 o1 => ?_⟩
  cases m1
  cases x with
  | true => exact ⟨H0, G1, ρ, I.ext e1, o1⟩
  | false => exact ⟨H0, G1, ρ, I.ext e1, o1⟩
def frz (i : Nat) (ρ : Rho) : Rho := match ρ[i]? with
  | some (.own ws) => ρ.set i (.val (.lst ws))
  | _ => ρ
theorem PIv.frz {i : Nat} (I : PIv K H0 G ρ σ H) : ∃ G', Same G G' ∧ PIv K H0 G' (frz i ρ) σ H := by
  unfold TP.frz
  split
  · rename_i ws e
    obtain ⟨a, vs, es, ha, hg, h0, r⟩ := I.own_at e
    have s1 : Same G (upd G a (.lst vs)) := fun b o q => by rw [upd_ne (ne_of_none q hg)]; exact q
    refine ⟨upd G a (.lst vs), s1, ?_⟩
    have I1 : PIv K H0 G (ρ.set i .un) σ H := by
      refine ⟨I.g0, I.gl, I.gh, I.hh, by rw [List.length_set]; exact I.len, fun j x o h1 h2 => ?_, fun p q ws1 us c hab h1 h2 h3 h4 => ?_⟩
      · by_cases hj : i = j
        · subst hj
          rw [List.getElem?_set] at h1
          simp only [if_true] at h1
          split at h1 <;> simp only [Option.some.injEq, reduceCtorEq] at h1
          subst h1; trivial
        · rw [List.getElem?_set_ne hj] at h1; exact I.sl j x o h1 h2
      · have na : i ≠ p := by
          rintro rfl
          rw [List.getElem?_set] at h1
          simp only [if_true] at h1
          split at h1 <;> simp at h1
        have nb : i ≠ q := by
          rintro rfl
          rw [List.getElem?_set] at h2
          simp only [if_true] at h2
          split at h2 <;> simp at h2
        rw [List.getElem?_set_ne na] at h1
        rw [List.getElem?_set_ne nb] at h2
        exact I.ne p q ws1 us c hab h1 h2 h3 h4
    have I2 : PIv K H0 (upd G a (.lst vs)) (ρ.set i .un) σ H := by
      refine ⟨fun b o q l => s1 b o (I.g0 b o q l), fun b o q l => by rw [upd_ne (ne_of_none q h0)]; exact I.gl b o q l, fun b o q => ?_, I.hh, I1.len, fun j x o h1 h2 => ?_, I1.ne⟩
      · by_cases hb : b = a
        · subst hb; rw [upd_same] at q; cases q; exact ha
        · rw [upd_ne hb] at q; exact I.gh b o q
      · have := I1.sl j x o h1 h2
        cases x with
        | un => trivial
        | val w => obtain ⟨v, e1, r1⟩ := this; exact ⟨v, e1, r1.same s1⟩
        | par w => obtain ⟨v, e1, r1⟩ := this; exact ⟨v, e1, r1.same (join_same s1)⟩
        | own us =>
          obtain ⟨b, us', eb, hb, hgb, h0b, rb⟩ := this
          subst eb
          have hij : i ≠ j := by
            rintro rfl
            rw [List.getElem?_set] at h1
            simp only [if_true] at h1
            split at h1 <;> simp at h1
          rw [List.getElem?_set_ne hij] at h1
          have hne : b ≠ a := by
            rintro rfl
            exact I.ne i j ws us b hij e h1 es h2
          exact ⟨b, us', rfl, hb, by rw [upd_ne hne]; exact hgb, h0b, rb.same s1⟩
        | dic ks =>
          obtain ⟨b, us', eb, hb, hgb, h0b, rb⟩ := this
          have hne : b ≠ a := by
            rintro rfl
            rw [ha] at hb; cases hb
          exact ⟨b, us', eb, hb, by rw [upd_ne hne]; exact hgb, h0b, rb⟩
        | dik ks =>
          obtain ⟨b, us', eb, hb, hgb, h0b, rb⟩ := this
          have hne : b ≠ a := by
            rintro rfl
            rw [ha] at hb; cases hb
          exact ⟨b, us', eb, hb, by rw [upd_ne hne]; exact hgb, h0b, rb⟩
        | iop p us => obtain ⟨e1, vs1, h1', r1⟩ := this; exact ⟨e1, vs1, h1', r1.same s1⟩
    have I3 := I2.setV (i := i) (v := .ref a) (w := .lst ws) (.lst upd_same (r.same s1))
    have e3 : σ.set i (some (V.ref a)) = σ := by
      apply List.ext_getElem?
      intro j
      by_cases hj : i = j
      · subst hj; rw [es, List.getElem?_set]; simp only [if_true]; rw [if_pos (List.getElem?_eq_some_iff.mp es).1]
      · rw [List.getElem?_set_ne hj]
    rw [e3, List.set_set] at I3
    exact I3
  · exact ⟨G, Same.refl G, I⟩
theorem c_frz {i : Nat} {m : Rho → R Fl} (h : tSt K EX d (fun ρ => m (frz i ρ)) D σ H) : tSt K EX d m D σ H := by
  obtain ⟨H0, G, ρ, I, o⟩ := h
  obtain ⟨G', s, I'⟩ := I.frz (i := i)
  exact ⟨H0, G', _, I', OutS.move s o⟩
end
end TP
namespace TP
open PySem L2
section
variable {K : PySem.W.Frag} {EX : EXT} {H0 G H G1 H1 G2 H2 : Hp} {ρ : Rho} {σ : St} {d : Mode} {D : Ends}
structure ItOk (K : PySem.W.Frag) (e : Mode) (H0 Z G : Hp) (J : It) (ws : List W) : Prop where
  go : ∀ i H, i < ws.length → Same Z H → J.go i H
  stop : ∀ H, Same Z H → J.stop ws.length H
  yld : ∀ i H x H' w, ws[i]? = some w → Same Z H → J.yld i H x H' → ∀ G2 ρ σ, PIv K H0 G2 ρ σ H → Same G G2 → ∃ G3, Ext G2 H G3 H' ∧ Md K H0 H G3 H' x w e
def OutI (K : PySem.W.Frag) (EX : EXT) (lp : Bool) (e : Mode) (H0 G H : Hp) (r : R (List W)) (Rr : It → Hp → Prop) : Prop := match r with
  | .ok ws => ∀ J G' H', Ext G H G' H' → ItOk K e H0 (if lp then join H0 G' else H') G' J ws → Rr J H'
  | .ex x => ∀ H', Same H H' → EX x H'
  | .stuck => False
def tIt (K : PySem.W.Frag) (EX : EXT) (lp : Bool) (e : Mode) (m : Rho → R (List W)) : TI := fun σ H Rr => ∃ H0 G ρ, PIv K H0 G ρ σ H ∧ OutI K EX lp e H0 G H (m ρ) Rr
def mFor (mg : W → Rho → Option Rho) (mb : Rho → R Fl) : List W → Rho → R Fl
  | [], ρ => .ok (.nx ρ)
  | w :: ws, ρ => toR (mg w ρ) >>= fun ρ1 => mb ρ1 >>= fun f => match f with
    | .nx ρ2 => mFor mg mb ws ρ2
    | .ct ρ2 => mFor mg mb ws ρ2
    | .bk ρ2 => .ok (.nx ρ2)
    | .rt w => .ok (.rt w)
theorem c_for {e : Mode} {g : TG} {mg : W → Rho → Option Rho} {mi : Rho → R (List W)} {mb : Rho → R Fl} (hg : Gt K e g mg) (h : tSt K EX d (fun ρ => mi ρ >>= fun ws => mFor mg mb ws ρ) D σ H) :
    tFor (tIt K EX true e mi) g (tSt K EX d mb) D σ H := by
  obtain ⟨H0, G, ρ, I, o⟩ := h
  refine ⟨H0, G, ρ, I, ?_⟩
  replace o : OutS K EX d H0 G (mi ρ >>= fun ws => mFor mg mb ws ρ) D := o
  revert o
  cases mi ρ with
  | stuck => exact id
  | ex x => exact fun o H' s => o H' (I.hh.trans s)
  | ok ws =>
    intro o J G1 H1 e1 T
    have o1 : OutS K EX d H0 G1 (mFor mg mb ws ρ) D := OutS.move e1.gg o
    refine ⟨fun i m σ H => m = ws.length - i ∧ i ≤ ws.length ∧ ∃ G2 ρ2, Same G1 G2 ∧ PIv K H0 G2 ρ2 σ H ∧ OutS K EX d H0 G2 (mFor mg mb (ws.drop i) ρ2) D, ⟨_, rfl, Nat.zero_le _, G1, ρ, Same.refl _, I.ext e1, o1⟩, ?_⟩
    rintro i m σ2 Hh ⟨rfl, hi, G2, ρ2, s2, I2, o2⟩
    have hz : Same (join H0 G1) Hh := (join_same s2).trans I2.join_H
    by_cases hlt : i < ws.length
    · refine .inr ⟨T.go i Hh hlt hz, fun σ' H' => ∃ G4 ρ4, Same G1 G4 ∧ PIv K H0 G4 ρ4 σ' H' ∧ OutS K EX d H0 G4 (mFor mg mb (ws.drop (i + 1)) ρ4) D, fun σ' H' ⟨G4, ρ4, s4, I4, o4⟩ => ⟨ws.length - (i + 1), by omega, rfl, hlt, G4, ρ4, s4, I4, o4⟩, fun x H' y => ?_⟩
      obtain ⟨G3, e3, m3⟩ := T.yld i Hh x H' ws[i] (by simp) hz y G2 ρ2 σ2 I2 s2
      rw [List.drop_eq_getElem_cons hlt] at o2
      unfold mFor at o2
      cases q : mg ws[i] ρ2 with
      | none => rw [q] at o2; exact o2.elim
      | some ρ' =>
        rw [q] at o2
        refine hg H0 Hh G3 ρ2 σ2 H' x _ ρ' _ (I2.ext e3) m3 q fun σ' I' => ⟨H0, G3, ρ', I', ?_⟩
        have o3 : OutS K EX d H0 G3 (mb ρ' >>= fun f => match f with
          | .nx ρ2 => mFor mg mb (ws.drop (i + 1)) ρ2
          | .ct ρ2 => mFor mg mb (ws.drop (i + 1)) ρ2
          | .bk ρ2 => .ok (.nx ρ2)
          | .rt w => .ok (.rt w)) D := OutS.move e3.gg o2
        revert o3
        have s3 : Same G1 G3 := s2.trans e3.gg
        cases mb ρ' with
        | stuck => exact id
        | ex x => exact id
        | ok f =>
          cases f with
          | nx ρ4 => exact fun o4 G4 σ4 H4 s4 I4 => ⟨G4, ρ4, s3.trans s4, I4, OutS.move s4 o4⟩
          | ct ρ4 => exact fun o4 G4 σ4 H4 s4 I4 => ⟨G4, ρ4, s3.trans s4, I4, OutS.move s4 o4⟩
          | bk ρ4 => exact id
          | rt w => exact id
    · have e : i = ws.length := by omega
      subst e
      refine .inl ⟨T.stop Hh hz, ?_⟩
      rw [List.drop_length] at o2
      exact o2 G2 σ2 Hh (Same.refl _) I2
def iterW (c : Rho → R Bool) (b : Rho → R Fl) : Nat → Rho → Option (R Fl)
  | 0, _ => none
  | n + 1, ρ => match c ρ with
    | .ok false => some (.ok (.nx ρ))
    | .ok true => (match b ρ with
      | .ok (.nx ρ') => iterW c b n ρ'
      | .ok (.ct ρ') => iterW c b n ρ'
      | .ok (.bk ρ') => some (.ok (.nx ρ'))
      | .ok (.rt w) => some (.ok (.rt w))
      | .ex e => some (.ex e)
      | .stuck => some .stuck)
    | .ex e => some (.ex e)
    | .stuck => some .stuck
theorem iterW_more {c : Rho → R Bool} {b : Rho → R Fl} : ∀ (n : Nat) (ρ : Rho) (r : R Fl), iterW c b n ρ = some r → ∀ m, n ≤ m → iterW c b m ρ = some r
  | 0, _, _, h, _, _ => by cases h
  | n + 1, ρ, r, h, m, hm => by
    obtain ⟨k, rfl⟩ : ∃ k, m = k + 1 := ⟨m - 1, by omega⟩
    unfold iterW at h ⊢
    revert h
    cases c ρ with
    | ex e => exact id
    | stuck => exact id
    | ok t =>
      cases t with
      | false => exact id
      | true =>
        cases b ρ with
        | ex e => exact id
        | stuck => exact id
        | ok f =>
          cases f with
          | nx ρ' => exact fun h => iterW_more n ρ' r h k (by omega)
          | ct ρ' => exact fun h => iterW_more n ρ' r h k (by omega)
          | bk ρ' => exact id
          | rt w => exact id
open Classical in
noncomputable def mWhile (c : Rho → R Bool) (b : Rho → R Fl) : Rho → R Fl := fun ρ => if h : ∃ r n, iterW c b n ρ = some r then h.choose else .stuck
theorem mWhile_eq {c : Rho → R Bool} {b : Rho → R Fl} {n : Nat} {r : R Fl} (h : iterW c b n ρ = some r) : mWhile c b ρ = r := by
  unfold mWhile
  have hx : ∃ r n, iterW c b n ρ = some r := ⟨r, n, h⟩
  rw [dif_pos hx]
  obtain ⟨m, hm⟩ := hx.choose_spec
  have a := iterW_more n ρ r h (max n m) (Nat.le_max_left _ _)
  have b := iterW_more m ρ _ hm (max n m) (Nat.le_max_right _ _)
  rw [a] at b
  exact (Option.some.inj b).symm
theorem c_while {c : Rho → R Bool} {b : Rho → R Fl} (h : tSt K EX d (mWhile c b) D σ H) : tWhile (tT K EX c) (tSt K EX d b) D σ H := by
  obtain ⟨H0, G, ρ, I, o⟩ := h
  by_cases hx : ∃ r n, iterW c b n ρ = some r
  · obtain ⟨r, n, hn⟩ := hx
    rw [mWhile_eq hn] at o
    refine ⟨fun m σ2 Hh => ∃ G2 ρ2, Same G G2 ∧ PIv K H0 G2 ρ2 σ2 Hh ∧ iterW c b m ρ2 = some r, ⟨n, G, ρ, Same.refl _, I, hn⟩, ?_⟩
    rintro m σ2 Hh ⟨G2, ρ2, s2, I2, h2⟩
    have o2 : OutS K EX d H0 G2 r D := OutS.move s2 o
    refine ⟨H0, G2, ρ2, I2, ?_⟩
    cases m with
    | zero => cases h2
    | succ m =>
      unfold iterW at h2
      revert h2
      cases c ρ2 with
      | stuck => intro h2; cases h2; exact o2
      | ex x => intro h2; cases h2; exact fun H' s => o2 H' (I2.hh.trans s)
      | ok t =>
        cases t with
        | false =>
          intro h2; cases h2
          intro v G3 H3 e3 q
          cases q
          rw [if_neg Bool.false_ne_true]
          exact o2 G3 σ2 H3 e3.gg (I2.ext e3)
        | true =>
          intro h2 v G3 H3 e3 q
          cases q
          rw [if_pos rfl]
          refine ⟨fun σ' H' => ∃ G4 ρ4, Same G G4 ∧ PIv K H0 G4 ρ4 σ' H' ∧ iterW c b m ρ4 = some r, fun σ' H' ⟨G4, ρ4, s4, I4, h4⟩ => ⟨m, Nat.lt_succ_self m, G4, ρ4, s4, I4, h4⟩, H0, G3, ρ2, I2.ext e3, ?_⟩
          have o3 : OutS K EX d H0 G3 r D := OutS.move e3.gg o2
          have s3 : Same G G3 := s2.trans e3.gg
          revert h2
          cases b ρ2 with
          | stuck => intro h2; cases h2; exact o3
          | ex x => intro h2; cases h2; exact o3
          | ok f =>
            cases f with
            | nx ρ4 => exact fun h2 G4 σ4 H4 s4 I4 => ⟨G4, ρ4, s3.trans s4, I4, h2⟩
            | ct ρ4 => exact fun h2 G4 σ4 H4 s4 I4 => ⟨G4, ρ4, s3.trans s4, I4, h2⟩
            | bk ρ4 => intro h2; cases h2; exact o3
            | rt w => intro h2; cases h2; exact o3
  · unfold mWhile at o
    rw [dif_neg hx] at o
    exact o.elim
theorem Md.whole {v : V} {w : W} {Hs : Hp} (I : PIv K H0 G ρ σ H) (h : Md K H0 Hs G H v w .B) : Rep K H v w := by
  rcases h with h | ⟨a, vs, ws, rfl, rfl, h1, r⟩
  · exact h.same I.join_H
  · exact .lst h1 (r.same I.gh)
theorem MdA.whole {Hs : Hp} (I : PIv K H0 G ρ σ H) : ∀ {ws : List W} {vs : List V}, MdA K .B H0 Hs G H ws vs → Reps K H vs ws
  | _, _, .nil => .nil
  | _, _, .cons h t => .cons (h.whole I) (MdA.whole I t)
def XE (_ : XK) : EXT := fun _ _ => False
def spM (K : PySem.W.Frag) (n : Nat) (d : Mode) (f : List W → R W) : Sp := fun vs H Q E => vs.length = n ∧ ∃ ws, Reps K H vs ws ∧ match f ws with
  | .ok w => ∀ v G' H', Same H H' → Same G' H' → (∀ a o, H a = some o → isL o = true → G' a = none) → Md K H H G' H' v w d → Q v H'
  | .ex e => ∀ H', Same H H' → XE E e H'
  | .stuck => False
def runB (n N : Nat) (m : Rho → R Fl) (ws : List W) : R W := if ws.length = n then (m (ws.map Sl.par ++ List.replicate (N - n) Sl.un) >>= fun f => match f with
  | .rt w => .ok w
  | .nx _ => .ok .non
  | _ => .stuck) else .stuck
theorem runB_len {n N : Nat} {m : Rho → R Fl} (ws : List W) (h : runB n N m ws ≠ .stuck) : ws.length = n := by
  unfold runB at h
  by_cases e : ws.length = n
  · exact e
  · rw [if_neg e] at h; exact absurd rfl h
def both (G G' : Hp) : Hp := fun b => match G b with
  | some o => some o
  | none => G' b
theorem c_call {n : Nat} {f : List W → R W} {E : XK} {ma : Rho → R (List W)} {Q : VK} (hd : d = .F ∨ d = .V) (hf : ∀ ws, f ws ≠ .stuck → ws.length = n) (hE : ∀ e H, EX e H → XE E e H) (h : tM K EX d (fun ρ => ma ρ >>= fun ws => f ws) σ H Q) :
    tCall (spM K n d f) [] E (tA K EX .B ma) σ H Q := by
  obtain ⟨H0, G, ρ, I, o⟩ := h
  refine ⟨H0, G, ρ, I, Out.bind o fun xs G1 H1 ws e1 m1 o1 => ?_⟩
  have I1 := I.ext e1
  have r := MdA.whole I1 m1
  rw [List.append_nil]
  refine ⟨?_, ws, r, ?_⟩
  · rw [r.length]
    refine hf ws fun z => ?_
    rw [z] at o1; exact o1
  · revert o1
    cases f ws with
    | stuck => exact id
    | ex e => exact fun o1 H' s => hE e H' (o1 H' s)
    | ok w =>
      intro o1 v G' H' sH gH cl md
      have sB : Same G1 (both G1 G') := fun b o q => by unfold both; rw [q]
      have sB' : Same G' (both G1 G') := fun b o q => by
        unfold both
        cases q1 : G1 b with
        | none => exact q
        | some u =>
          have a1 := sH b u (I1.gh b u q1)
          rw [gH b o q] at a1
          exact a1.symm
      have sHB : Same (both G1 G') H' := fun b o q => by
        unfold both at q
        cases q1 : G1 b with
        | none => rw [q1] at q; exact gH b o q
        | some u => rw [q1] at q; cases q; exact sH b _ (I1.gh b _ q1)
      have ex : Ext G1 H1 (both G1 G') H' := ⟨sB, sH, sHB, fun b o q l g => by unfold both; rw [g]; exact cl b o q l⟩
      refine o1 v (both G1 G') H' ex ?_
      rcases hd with rfl | rfl
      · cases w with
        | lst us =>
          obtain ⟨a, vs, rfl, h1, h2, h3, r3⟩ := md
          exact ⟨a, vs, rfl, h1, by unfold both; rw [I1.gh.free h3]; exact h2, e1.hh.free h3, r3.same sB'⟩
        | non => exact Rep.same sB' md
        | bl _ => exact Rep.same sB' md
        | int _ => exact Rep.same sB' md
        | str _ => exact Rep.same sB' md
        | ty _ => exact Rep.same sB' md
        | tup _ => exact Rep.same sB' md
        | scr _ => exact Rep.same sB' md
      · exact Rep.same sB' md
def noLH (H : Hp) : Hp := fun a => match H a with
  | some o => if isL o then none else some o
  | none => none
theorem join_noLH : join H (noLH H) = H := by
  funext a
  unfold join noLH
  cases q : H a with
  | none => rfl
  | some o =>
    dsimp only
    cases isL o <;> rfl
theorem Reps.slots : ∀ {vs : List V} {ws : List W} {i : Nat} {x : Sl} {o : Option V} {k k' : Nat}, Reps K H vs ws → (ws.map Sl.par ++ List.replicate k Sl.un)[i]? = some x → (vs.map some ++ List.replicate k' none)[i]? = some o → x = .un ∨ ∃ v w, x = .par w ∧ o = some v ∧ Rep K H v w
  | _, _, i, x, o, k, k', .nil, h1, h2 => by
    simp only [List.map_nil, List.nil_append, List.getElem?_replicate] at h1
    split at h1 <;> simp only [Option.some.injEq, reduceCtorEq] at h1
    exact .inl h1.symm
  | _, _, 0, x, o, k, k', .cons r _, h1, h2 => by
    simp at h1 h2
    exact .inr ⟨_, _, h1.symm, h2.symm, r⟩
  | _, _, i + 1, x, o, k, k', .cons _ t, h1, h2 => by
    simp only [List.map_cons, List.cons_append, List.getElem?_cons_succ] at h1 h2
    exact Reps.slots t h1 h2
theorem PIv.begin {vs : List V} {ws : List W} {k k' : Nat} (r : Reps K H vs ws) (hk : k = k') : PIv K H (noLH H) (ws.map Sl.par ++ List.replicate k Sl.un) (vs.map some ++ List.replicate k' none) H where
  g0 a o e l := by unfold noLH; rw [e]; dsimp only; rw [l]; rfl
  gl a o e l := by unfold noLH; rw [e]; dsimp only; rw [l]; rfl
  gh a o e := by
    unfold noLH at e
    cases q : H a with
    | none => rw [q] at e; cases e
    | some u =>
      rw [q] at e
      dsimp only at e
      cases hl : isL u
      · rw [hl] at e; exact e
      · rw [hl] at e; cases e
  hh := Same.refl H
  len := by subst hk; simp [r.length]
  sl i x o h1 h2 := by
    rcases Reps.slots r h1 h2 with rfl | ⟨v, w, rfl, rfl, q⟩
    · trivial
    · exact ⟨v, rfl, by rw [join_noLH]; exact q⟩
  ne i j us xs a hij h1 _ _ _ := by
    have : ∀ (i : Nat) (us : List W), (ws.map Sl.par ++ List.replicate k Sl.un)[i]? ≠ some (Sl.own us) := fun i us q => by
      rw [List.getElem?_append] at q
      split at q
      · rw [List.getElem?_map] at q
        cases hh : ws[i]? <;> rw [hh] at q <;> cases q
      · rw [List.getElem?_replicate] at q
        split at q <;> cases q
    exact absurd h1 (this i us)
theorem c_body {n : Nat} {Nl : List Str} {m : Rho → R Fl} {vs : List V} {Q : VK} {E : XK} (hd : d = .F ∨ d = .V) (h : spM K n d (runB n Nl.length m) vs H Q E) : tSt K (fun _ _ => False) d m { nx := fun _ H' => Q .non H', rt := Q } (L2.start Nl vs) H := by
  obtain ⟨hl, ws, r, o⟩ := h
  have hw : ws.length = n := by rw [← r.length]; exact hl
  unfold runB at o
  rw [if_pos hw] at o
  refine ⟨H, noLH H, _, PIv.begin (k := Nl.length - n) r (by rw [hl]), ?_⟩
  revert o
  cases m (ws.map Sl.par ++ List.replicate (Nl.length - n) Sl.un) with
  | stuck => exact id
  | ex e => exact fun o => (o H (Same.refl H)).elim
  | ok f =>
    cases f with
    | nx ρ' => exact fun o G' σ' H' s' I' => o .non G' H' I'.hh I'.gh I'.gl (Md.sca rfl (fun _ => .non) d)
    | rt w => exact fun o v G' H' s1 s2 c md => o v G' H' s2 s1 c md
    | bk _ => exact fun o => o.elim
    | ct _ => exact fun o => o.elim
end
end TP
namespace TP
open PySem L2
section
variable {K : PySem.W.Frag} {EX : EXT} {H0 G H G1 H1 G2 H2 : Hp} {ρ : Rho} {σ : St} {d : Mode} {D : Ends}
def elR (mg : W → Rho → Option Rho) (mc : Rho → R Bool) (me : Rho → R W) (ρ : Rho) (w : W) : R (Option W) := match mg w ρ with
  | none => .stuck
  | some ρ1 => (match mc ρ1 with
    | .ok true => (match me ρ1 with
      | .ok y => .ok (some y)
      | _ => .stuck)
    | .ok false => .ok none
    | _ => .stuck)
def mapR (f : W → R (Option W)) : List W → R (List W)
  | [] => .ok []
  | w :: ws => match f w, mapR f ws with
    | .ok (some y), .ok ys => .ok (y :: ys)
    | .ok none, .ok ys => .ok ys
    | _, _ => .stuck
def mComp (N' : Nat) (mg : W → Rho → Option Rho) (mc : Rho → R Bool) (me : Rho → R W) (ws : List W) (ρ : Rho) : R W :=
  if ws.length ≤ 1000 then (match mapR (elR mg mc me (ρ ++ List.replicate (N' - ρ.length) Sl.un)) ws with
    | .ok ys => .ok (.lst ys)
    | _ => .stuck) else .stuck
theorem mapR_ok {f : W → R (Option W)} : ∀ {ws ys : List W}, mapR f ws = .ok ys → (∀ w ∈ ws, ∃ o, f w = .ok o) ∧ ys = ws.filterMap fun w => match f w with
    | .ok o => o
    | _ => none
  | [], ys, h => by cases h; exact ⟨by simp, rfl⟩
  | w :: ws, ys, h => by
    unfold mapR at h
    cases hf : f w with
    | stuck => rw [hf] at h; cases h
    | ex e => rw [hf] at h; cases h
    | ok o =>
      rw [hf] at h
      cases hm : mapR f ws with
      | stuck => rw [hm] at h; cases o <;> cases h
      | ex e => rw [hm] at h; cases o <;> cases h
      | ok zs =>
        rw [hm] at h
        obtain ⟨h1, h2⟩ := mapR_ok hm
        refine ⟨fun u hu => ?_, ?_⟩
        · rcases List.mem_cons.mp hu with rfl | hu
          · exact ⟨o, hf⟩
          · exact h1 u hu
        · cases o with
          | none => cases h; rw [List.filterMap_cons, hf]; exact h2
          | some y => cases h; rw [List.filterMap_cons, hf, h2]
theorem PIv.inner {N' : List Str} (I : PIv K H0 G ρ σ H) : PIv K H0 G (ρ ++ List.replicate (N'.length - ρ.length) Sl.un) (inner N' σ) H := by
  have hl := I.len
  unfold L2.inner
  rw [hl]
  refine ⟨I.g0, I.gl, I.gh, I.hh, by simp [hl], fun i x o h1 h2 => ?_, fun p q ws us c hab h1 h2 h3 h4 => ?_⟩
  · by_cases hi : i < ρ.length
    · rw [List.getElem?_append_left hi] at h1
      rw [List.getElem?_append_left (by omega)] at h2
      exact I.sl i x o h1 h2
    · rw [List.getElem?_append_right (by omega), List.getElem?_replicate] at h1
      split at h1 <;> simp only [Option.some.injEq, reduceCtorEq] at h1
      subst h1; trivial
  · have key : ∀ {k : Nat} {us : List W}, (ρ ++ List.replicate (N'.length - σ.length) Sl.un)[k]? = some (Sl.own us) → k < ρ.length ∧ ρ[k]? = some (Sl.own us) := fun {k us} hk => by
      by_cases hi : k < ρ.length
      · rw [List.getElem?_append_left hi] at hk; exact ⟨hi, hk⟩
      · rw [List.getElem?_append_right (by omega), List.getElem?_replicate] at hk
        split at hk <;> simp at hk
    obtain ⟨l1, k1⟩ := key h1
    obtain ⟨l2, k2⟩ := key h2
    rw [List.getElem?_append_left (by omega)] at h3 h4
    exact I.ne p q ws us c hab k1 k2 h3 h4
open Classical in
noncomputable def rest (G H : Hp) (Dd : Addr) (H' : Hp) : Hp := fun b => if b = Dd ∨ ∃ o, H b = some o ∧ isL o = true ∧ G b = none then none else H' b
theorem rest_none {Dd b : Addr} {H' : Hp} (h : b = Dd ∨ ∃ o, H b = some o ∧ isL o = true ∧ G b = none) : rest G H Dd H' b = none := by unfold rest; rw [if_pos h]
theorem rest_some {Dd b : Addr} {H' : Hp} (h : ¬ (b = Dd ∨ ∃ o, H b = some o ∧ isL o = true ∧ G b = none)) : rest G H Dd H' b = H' b := by unfold rest; rw [if_neg h]
theorem rest_of {Dd b : Addr} {H' : Hp} {o : HO} (h : rest G H Dd H' b = some o) : H' b = some o ∧ ¬ (b = Dd ∨ ∃ o, H b = some o ∧ isL o = true ∧ G b = none) := by
  by_cases c : b = Dd ∨ ∃ o, H b = some o ∧ isL o = true ∧ G b = none
  · rw [rest_none c] at h; cases h
  · rw [rest_some c] at h; exact ⟨h, c⟩
theorem PIv.rest {Dd : Addr} {H' : Hp} (I : PIv K H0 G ρ σ H) (hD : H Dd = none) (s : Same H H') : Same G (rest G H Dd H') ∧ PIv K H0 (rest G H Dd H') ρ σ H' := by
  have sG : Same G (TP.rest G H Dd H') := fun b o q => by
    rw [rest_some]
    · exact s b o (I.gh b o q)
    · rintro (rfl | ⟨u, h1, h2, h3⟩)
      · rw [I.gh _ _ q] at hD; cases hD
      · rw [q] at h3; cases h3
  refine ⟨sG, fun a o e l => sG a o (I.g0 a o e l), fun a o e l => rest_none (.inr ⟨o, I.hh a o e, l, I.gl a o e l⟩), fun b o q => (rest_of q).1, I.hh.trans s, I.len, fun i x o h1 h2 => ?_, I.ne⟩
  have := I.sl i x o h1 h2
  cases x with
  | un => trivial
  | val w => obtain ⟨v, e, r⟩ := this; exact ⟨v, e, r.same sG⟩
  | par w => obtain ⟨v, e, r⟩ := this; exact ⟨v, e, r.same (join_same sG)⟩
  | own ws =>
    obtain ⟨a, vs, e, h, g, h0, r⟩ := this
    exact ⟨a, vs, e, s a _ h, rest_none (.inr ⟨_, h, rfl, g⟩), h0, r.same sG⟩
  | dic ks =>
    obtain ⟨a, vs, e, h, g, h0, r⟩ := this
    exact ⟨a, vs, e, s a _ h, rest_none (.inr ⟨_, h, rfl, g⟩), h0, r⟩
  | dik ks =>
    obtain ⟨a, vs, e, h, g, h0, r⟩ := this
    exact ⟨a, vs, e, s a _ h, rest_none (.inr ⟨_, h, rfl, g⟩), h0, r⟩
  | iop p ws => obtain ⟨e1, vs1, h1', r1⟩ := this; exact ⟨e1, vs1, h1', r1.same sG⟩
theorem rest_mono {Dd : Addr} {Ha Hb : Hp} (s : ∀ b o, b ≠ Dd → Ha b = some o → Hb b = some o) : Same (rest G H Dd Ha) (rest G H Dd Hb) := fun b o q => by
  obtain ⟨h, c⟩ := rest_of q
  rw [rest_some c]
  exact s b o (fun z => c (.inl z)) h
theorem rest_ext {Dd : Addr} {Ha Hb G' : Hp} (hl : ∃ ys, Ha Dd = some (.lst ys)) (s : Same H Ha) (e : Ext (rest G H Dd Ha) Ha G' Hb) : Same G' (rest G H Dd Hb) := fun b o q => by
  rw [rest_some]
  · exact e.gh b o q
  · rintro (rfl | ⟨u, h1, h2, h3⟩)
    · obtain ⟨ys, hl⟩ := hl
      rw [e.keep _ _ hl rfl (rest_none (.inl rfl))] at q; cases q
    · rw [e.keep _ _ (s _ _ h1) h2 (rest_none (.inr ⟨u, h1, h2, h3⟩))] at q; cases q
theorem c_comp {Q : VK} {e : Mode} {N' : List Str} {g : TG} {mg : W → Rho → Option Rho} {mi : Rho → R (List W)} {mc : Rho → R Bool} {me : Rho → R W} (hg : Gt K e g mg) (h : tM K EX .F (fun ρ => mi ρ >>= fun ws => mComp N'.length mg mc me ws ρ) σ H Q) :
    tComp N' (tIt K EX false e mi) g (tT K EX mc) (tM K EX .V me) σ H Q := by
  obtain ⟨H0, G, ρ, I, o⟩ := h
  refine ⟨H0, G, ρ, I, ?_⟩
  replace o : Out EX G H (mdW K .F H0 H) (mi ρ >>= fun ws => mComp N'.length mg mc me ws ρ) Q := o
  revert o
  cases mi ρ with
  | stuck => exact id
  | ex x => exact id
  | ok ws =>
    intro o J G1 H1 e1 T Dd hD
    have I1 := I.ext e1
    replace o : Out EX G H (mdW K .F H0 H) (mComp N'.length mg mc me ws ρ) Q := o
    unfold mComp at o
    by_cases hlen : ws.length ≤ 1000
    · rw [if_pos hlen] at o
      cases hm : mapR (elR mg mc me (ρ ++ List.replicate (N'.length - ρ.length) Sl.un)) ws with
      | stuck => rw [hm] at o; exact o.elim
      | ex x => rw [hm] at o; exact o.elim
      | ok ys =>
        rw [hm] at o
        obtain ⟨hall, hys⟩ := mapR_ok hm
        have T' : ItOk K e H0 H1 G1 J ws := by
          have := T
          rw [if_neg Bool.false_ne_true] at this
          exact this
        generalize hρ : ρ ++ List.replicate (N'.length - ρ.length) Sl.un = ρi at hm hall hys
        refine ⟨fun i m H2 => m = ws.length - i ∧ i ≤ ws.length ∧ Same H1 H2 ∧ ∃ vs, H2 Dd = some (.lst vs) ∧ vs.length ≤ i ∧ Reps K (rest G1 H1 Dd H2) vs ((ws.take i).filterMap fun w => match elR mg mc me ρi w with
          | .ok o => o
          | _ => none), ⟨_, rfl, Nat.zero_le _, fun b u q => by rw [upd_ne (ne_of_none q hD)]; exact q, [], upd_same, Nat.le_refl _, .nil⟩, ?_⟩
        rintro i m H2 ⟨rfl, hi, s2, vs, hDv, hvl, r2⟩
        by_cases hlt : i < ws.length
        · refine .inr ⟨T'.go i H2 hlt s2, fun x H3 y => ?_⟩
          obtain ⟨sG, I2⟩ := I1.rest (Dd := Dd) hD s2
          have I2i := I2.inner (N' := N')
          obtain ⟨G3, e3, m3⟩ := T'.yld i H2 x H3 ws[i] (by simp) s2 y _ _ _ I2i sG
          obtain ⟨op, hop⟩ := hall ws[i] (List.getElem_mem hlt)
          have hop' := hop
          unfold elR at hop
          rw [← hρ] at hop
          have htake : ws.take (i + 1) = ws.take i ++ [ws[i]] := by rw [List.take_succ_eq_append_getElem hlt]
          cases q : mg ws[i] (ρ ++ List.replicate (N'.length - ρ.length) Sl.un) with
          | none => rw [q] at hop; cases hop
          | some ρ1 =>
            rw [q] at hop
            dsimp only at hop
            refine hg H0 H2 G3 _ _ H3 x _ ρ1 _ (I2i.ext e3) m3 q fun σ4 I4 => ⟨H0, G3, ρ1, I4, ?_⟩
            cases hc : mc ρ1 with
            | stuck => rw [hc] at hop; cases hop
            | ex x => rw [hc] at hop; cases hop
            | ok b =>
              intro b' G5 H5 e5 eb
              cases eb
              rw [hc] at hop
              cases b with
              | false =>
                rw [if_neg Bool.false_ne_true]
                have hop2 : op = none := by cases hop; rfl
                have s5 : Same H2 H5 := e3.hh.trans e5.hh
                refine ⟨ws.length - (i + 1), by omega, rfl, hlt, s2.trans s5, vs, s5 _ _ hDv, by omega, ?_⟩
                rw [htake, List.filterMap_append]
                have : ([ws[i]].filterMap fun w => match elR mg mc me ρi w with
                  | .ok o => o
                  | _ => none) = [] := by
                  rw [List.filterMap_cons, hop', hop2]; rfl
                rw [this, List.append_nil]
                exact r2.same (rest_mono fun b o _ q => s5 b o q)
              | true =>
                dsimp only at hop
                rw [if_pos rfl]
                refine ⟨H0, G5, ρ1, I4.ext e5, ?_⟩
                cases hme : me ρ1 with
                | stuck => rw [hme] at hop; cases hop
                | ex x => rw [hme] at hop; cases hop
                | ok z =>
                  rw [hme] at hop
                  have hop2 : op = some z := by cases hop; rfl
                  intro yv G6 H6 e6 m6
                  have e36 : Ext (TP.rest G1 H1 Dd H2) H2 G6 H6 := (e3.trans e5).trans e6
                  have s6 : Same H2 H6 := e36.hh
                  refine ⟨vs, s6 _ _ hDv, Nat.lt_of_le_of_lt hvl (Nat.lt_of_lt_of_le (by omega : i < 1000) (by decide)), ws.length - (i + 1), by omega, rfl, hlt, fun b u q => by rw [upd_ne (ne_of_none q hD)]; exact s6 b u (s2 b u q), vs ++ [yv], upd_same, by rw [List.length_append]; simp; omega, ?_⟩
                  rw [htake, List.filterMap_append]
                  have : ([ws[i]].filterMap fun w => match elR mg mc me ρi w with
                    | .ok o => o
                    | _ => none) = [z] := by
                    rw [List.filterMap_cons, hop', hop2]; rfl
                  rw [this]
                  have k1 : Same (TP.rest G1 H1 Dd H2) (TP.rest G1 H1 Dd (upd H6 Dd (.lst (vs ++ [yv])))) := rest_mono fun b o hb q => by rw [upd_ne hb]; exact s6 b o q
                  have k2 : Same G6 (TP.rest G1 H1 Dd (upd H6 Dd (.lst (vs ++ [yv])))) := (rest_ext ⟨vs, hDv⟩ s2 e36).trans (rest_mono fun b o hb q => by rw [upd_ne hb]; exact q)
                  exact (r2.same k1).snoc (Rep.same k2 m6)
        · have ei : i = ws.length := by omega
          subst ei
          refine .inl ⟨T'.stop H2 s2, ?_⟩
          rw [List.take_length, ← hys] at r2
          obtain ⟨sG, I2⟩ := I1.rest (Dd := Dd) hD s2
          refine o _ (TP.rest G1 H1 Dd H2) H2 ⟨e1.gg.trans sG, e1.hh.trans s2, I2.gh, fun b u q l g => rest_none (.inr ⟨u, e1.hh b u q, l, e1.keep b u q l g⟩)⟩ ⟨Dd, vs, rfl, hDv, rest_none (.inl rfl), e1.hh.free hD, r2⟩
    · rw [if_neg hlen] at o; exact o.elim
def seqW : W → R (List W)
  | .lst ws => .ok ws
  | .tup ws => .ok ws
  | .scr ws => .ok ws
  | _ => .stuck
theorem sq_same {t : Bool} {a : Addr} {xs : List V} (e : Same H H1) (h : Sq K H t a xs) : Sq K H1 t a xs := by
  unfold Sq at h ⊢
  split at h
  · rename_i ht; rw [if_pos ht]; exact sqT_same e h
  · rename_i ht; rw [if_neg ht]; exact Same.seq e h
theorem sqT {a : Addr} {xs : List V} (h : SqT K H a xs) : Sq K H true a xs := by unfold Sq; rw [if_pos rfl]; exact h
theorem sqL {a : Addr} {xs : List V} (h : SqL K H a xs) : Sq K H false a xs := by unfold Sq; rw [if_neg Bool.false_ne_true]; exact h
theorem Rep.sq {F : Hp} {x : V} {w : W} {ws : List W} (h : Rep K F x w) (hw : seqW w = .ok ws) : ∃ t a vs, x = .ref a ∧ Sq K F t a vs ∧ Reps K F vs ws := by
  cases h with
  | tup s r => cases hw; exact ⟨true, _, _, rfl, sqT (SqT.of s), r⟩
  | lst s r => cases hw; exact ⟨false, _, _, rfl, sqL (SqL.of s), r⟩
  | scr s r => cases hw; exact ⟨false, _, _, rfl, sqL s, r⟩
  | _ => cases hw
def srcM : Bool → Mode → Mode
  | true, e => e
  | false, .V => .C
  | false, _ => .B
def fz (e : Mode) (H0 G : Hp) : Hp := if e = .V then G else join H0 G
theorem Md.src {lp : Bool} {e : Mode} {Hs : Hp} {x : V} {w : W} {ws : List W} (he : e = .V ∨ e = .U) (I : PIv K H0 G ρ σ H) (m : Md K H0 Hs G H x w (srcM lp e)) (hw : seqW w = .ok ws) :
    ∃ t a vs, x = .ref a ∧ Sq K (if lp then join H0 G else H) t a vs ∧ Reps K (fz e H0 G) vs ws := by
  unfold fz
  rcases he with rfl | rfl
  · rw [if_pos rfl]
    cases lp with
    | true =>
      obtain ⟨t, a, vs, e1, e2, e3⟩ := Rep.sq m hw
      exact ⟨t, a, vs, e1, by rw [if_pos rfl]; exact sq_same I.G_join e2, e3⟩
    | false =>
      rw [if_neg Bool.false_ne_true]
      rcases m with m | ⟨a, vs, us, rfl, rfl, h1, r⟩
      · obtain ⟨t, a, vs, e1, e2, e3⟩ := Rep.sq m hw
        exact ⟨t, a, vs, e1, sq_same I.gh e2, e3⟩
      · cases hw; exact ⟨false, a, vs, rfl, sqL (SqL.of h1), r⟩
  · rw [if_neg (show ¬ (Mode.U = Mode.V) by intro z; cases z)]
    cases lp with
    | true =>
      obtain ⟨t, a, vs, e1, e2, e3⟩ := Rep.sq m hw
      exact ⟨t, a, vs, e1, by rw [if_pos rfl]; exact e2, e3⟩
    | false =>
      rw [if_neg Bool.false_ne_true]
      rcases m with m | ⟨a, vs, us, rfl, rfl, h1, r⟩
      · obtain ⟨t, a, vs, e1, e2, e3⟩ := Rep.sq m hw
        exact ⟨t, a, vs, e1, sq_same I.join_H e2, e3⟩
      · cases hw; exact ⟨false, a, vs, rfl, sqL (SqL.of h1), r.same I.G_join⟩
theorem Md.of_fz {e : Mode} {Hs : Hp} {v : V} {w : W} (he : e = .V ∨ e = .U) (h : Rep K (fz e H0 G) v w) : Md K H0 Hs G H v w e := by
  unfold fz at h
  rcases he with rfl | rfl
  · rw [if_pos rfl] at h; exact h
  · rw [if_neg (show ¬ (Mode.U = Mode.V) by intro z; cases z)] at h; exact h
theorem fz_same {e : Mode} (s : Same G G1) : Same (fz e H0 G) (fz e H0 G1) := by
  unfold fz
  split
  · exact s
  · exact join_same s
theorem itok_sq {e : Mode} {Z : Hp} {t : Bool} {a : Addr} {vs : List V} {ws : List W} (he : e = .V ∨ e = .U) (s : Sq K Z t a vs) (r : Reps K (fz e H0 G) vs ws) : ItOk K e H0 Z G (ItQ K t a) ws := by
  have hl := r.length
  cases t with
  | true =>
    have hq : ∀ H, Same Z H → SqT K H a vs := fun H z => by have := sq_same z s; unfold Sq at this; rw [if_pos rfl] at this; exact this
    refine ⟨fun i H hi z => ⟨vs, vs[i]'(by omega), hq H z, by simp⟩, fun H z => ⟨vs, hq H z, by omega⟩, fun i H x H' w hw z ⟨e1, y⟩ G2 ρ σ I sg => ?_⟩
    subst e1
    have hx := y vs (hq _ z)
    obtain ⟨v, hv, rv⟩ := Reps.get r hw
    rw [hx] at hv; cases hv
    exact ⟨G2, Ext.refl I.gh, Md.of_fz he (rv.same (fz_same sg))⟩
  | false =>
    have hq : ∀ H, Same Z H → SqL K H a vs := fun H z => by have := sq_same z s; unfold Sq at this; rw [if_neg Bool.false_ne_true] at this; exact this
    refine ⟨fun i H hi z => ⟨vs, vs[i]'(by omega), hq H z, by simp⟩, fun H z => ⟨vs, hq H z, by omega⟩, fun i H x H' w hw z ⟨e1, y⟩ G2 ρ σ I sg => ?_⟩
    subst e1
    have hx := y vs (hq _ z)
    obtain ⟨v, hv, rv⟩ := Reps.get r hw
    rw [hx] at hv; cases hv
    exact ⟨G2, Ext.refl I.gh, Md.of_fz he (rv.same (fz_same sg))⟩
theorem lp_H {lp : Bool} (I : PIv K H0 G ρ σ H) : Same (if lp then join H0 G else H) H := by
  cases lp
  · exact Same.refl H
  · exact I.join_H
theorem c_iSq {lp : Bool} {e : Mode} {ml : Rho → R W} {Rr : It → Hp → Prop} (he : e = .V ∨ e = .U) (h : tIt K EX lp e (fun ρ => ml ρ >>= seqW) σ H Rr) : iSq K (tM K EX (srcM lp e) ml) σ H Rr := by
  obtain ⟨H0, G, ρ, I, o⟩ := h
  refine ⟨H0, G, ρ, I, ?_⟩
  replace o : OutI K EX lp e H0 G H (ml ρ >>= seqW) Rr := o
  revert o
  cases ml ρ with
  | stuck => exact id
  | ex x => exact id
  | ok w =>
    intro o x G1 H1 e1 m1
    have I1 := I.ext e1
    have o' : OutI K EX lp e H0 G H (seqW w) Rr := o
    cases q : seqW w with
    | stuck => rw [q] at o'; exact o'.elim
    | ex z => cases w <;> cases q
    | ok ws =>
      rw [q] at o'
      obtain ⟨t, a, vs, ex, s, r⟩ := Md.src he I1 m1 q
      exact ⟨a, ex, t, vs, sq_same (lp_H I1) s, o' _ G1 H1 e1 (itok_sq he s r)⟩
def rngW (lo hi : Int) : R (List W) := if -1000000 ≤ lo ∧ lo ≤ 1000000 ∧ -1000000 ≤ hi ∧ hi ≤ 1000000 then .ok ((List.range (hi - lo).toNat).map fun k => W.int (lo + (k : Nat))) else .stuck
def rng1 : List W → R (List W)
  | [.int j] => rngW 0 j
  | _ => .stuck
def rng2 : List W → R (List W)
  | [.int i, .int j] => rngW i j
  | _ => .stuck
theorem itok_rng {e : Mode} {Z : Hp} {lo : Int} {n : Nat} (he : e = .V ∨ e = .U) : ItOk K e H0 Z G (Itr lo n) ((List.range n).map fun k => W.int (lo + (k : Nat))) := by
  refine ⟨fun i H hi _ => by show i < n; simpa using hi, fun H _ => by simp [Itr], fun i H x H' w hw _ ⟨e1, e2⟩ G2 ρ σ I _ => ?_⟩
  subst e1; subst e2
  rw [List.getElem?_map] at hw
  cases q : (List.range n)[i]? with
  | none => rw [q] at hw; cases hw
  | some k =>
    rw [q] at hw
    have hk : k = i := by
      have := List.getElem?_eq_some_iff.mp q
      obtain ⟨h1, h2⟩ := this
      simpa using h2.symm
    subst hk
    cases hw
    refine ⟨G2, Ext.refl I.gh, Md.sca rfl (fun _ => .int) e⟩
theorem tIt_bind {lp : Bool} {e b : Mode} {ma : Rho → R (List W)} {k : List W → R (List W)} {Rr : It → Hp → Prop} {Q : List V → Hp → Prop} (h : tIt K EX lp e (fun ρ => ma ρ >>= k) σ H Rr)
    (hq : ∀ H0 G ρ G1 H1 xs ws us, PIv K H0 G ρ σ H → Ext G H G1 H1 → MdA K b H0 H G1 H1 ws xs → k ws = .ok us → (∀ J G' H', Ext G H G' H' → ItOk K e H0 (if lp then join H0 G' else H') G' J us → Rr J H') → Q xs H1)
    (hx : ∀ ws e, k ws ≠ .ex e) : tA K EX b ma σ H Q := by
  obtain ⟨H0, G, ρ, I, o⟩ := h
  refine ⟨H0, G, ρ, I, ?_⟩
  replace o : OutI K EX lp e H0 G H (ma ρ >>= k) Rr := o
  revert o
  cases ma ρ with
  | stuck => exact id
  | ex x => exact id
  | ok ws =>
    intro o xs G1 H1 e1 m1
    have o' : OutI K EX lp e H0 G H (k ws) Rr := o
    cases q : k ws with
    | stuck => rw [q] at o'; exact o'.elim
    | ex z => exact absurd q (hx ws z)
    | ok us => rw [q] at o'; exact hq H0 G ρ G1 H1 xs ws us I e1 m1 q o'
theorem rngW_ok {lo hi : Int} {us : List W} (h : rngW lo hi = .ok us) : (-1000000 ≤ lo ∧ lo ≤ 1000000 ∧ -1000000 ≤ hi ∧ hi ≤ 1000000) ∧ us = (List.range (hi - lo).toNat).map fun k => W.int (lo + (k : Nat)) := by
  unfold rngW at h
  split at h
  · cases h; rename_i c; exact ⟨c, rfl⟩
  · cases h
theorem c_rng1 {lp : Bool} {e : Mode} {ma : Rho → R (List W)} {Rr : It → Hp → Prop} (he : e = .V ∨ e = .U) (h : tIt K EX lp e (fun ρ => ma ρ >>= rng1) σ H Rr) : iRng1 (tA K EX .B ma) σ H Rr := by
  refine tIt_bind h (fun H0 G ρ G1 H1 xs ws us I e1 m1 q o => ?_) (fun ws e z => ?_)
  · unfold rng1 at q
    split at q
    · rename_i j
      cases m1 with
      | cons a t =>
        cases t
        obtain ⟨c, rfl⟩ := rngW_ok q
        refine ⟨j, by rw [Md.intB a], by omega, by omega, ?_⟩
        have := o (Itr 0 j.toNat) G1 H1 e1
        rw [Int.sub_zero] at this
        exact this (itok_rng he)
    · cases q
  · unfold rng1 at z
    split at z
    · unfold rngW at z; split at z <;> cases z
    · cases z
theorem rep_new {e : Mode} {p : Addr} {vs : List V} {ws : List W} {Hs : Hp} (he : e = .V ∨ e = .U) (I : PIv K H0 G ρ σ H) (hp : H p = none) (r : Reps K (fz e H0 G) vs ws) : Ext G H (upd G p (.tup vs)) (upd H p (.tup vs)) ∧ Md K H0 Hs (upd G p (.tup vs)) (upd H p (.tup vs)) (.ref p) (.tup ws) e := by
  refine ⟨new_extG I.gh hp, ?_⟩
  have gp : G p = none := I.gh.free hp
  rcases he with rfl | rfl
  · unfold fz at r
    rw [if_pos rfl] at r
    exact .tup upd_same (r.same fun b u q => by rw [upd_ne (ne_of_none q gp)]; exact q)
  · unfold fz at r
    rw [if_neg (show ¬ (Mode.U = Mode.V) by intro z; cases z)] at r
    show Rep K (join H0 (upd G p (.tup vs))) _ _
    rw [join_upd (I.hh.free hp)]
    exact .tup upd_same (r.same fun b u q => by rw [upd_ne (ne_of_none (I.join_H b u q) hp)]; exact q)
end
end TP
namespace TP
open PySem L2
section
variable {K : PySem.W.Frag} {EX : EXT} {H0 G H G1 H1 G2 H2 : Hp} {ρ : Rho} {σ : St} {d : Mode} {D : Ends} {Q : VK}
theorem Reps.atI {F : Hp} {vs : List V} {ws : List W} {i : Int} {w : W} (r : Reps K F vs ws) (h : L2.atI ws i = some w) : ∃ v, L2.atI vs i = some v ∧ Rep K F v w := by
  unfold L2.atI at h ⊢
  rw [r.length]
  cases q : ixN ws.length i with
  | none => rw [q] at h; cases h
  | some j => rw [q] at h; exact Reps.get r h
def fIx : W → W → R W
  | .lst ws, .int i => toR (L2.atI ws i)
  | .tup ws, .int i => toR (L2.atI ws i)
  | .scr ws, .int i => toR (L2.atI ws i)
  | _, _ => .stuck
theorem o2_ixU : Op2 K .B .U (rIx K) fIx := by
  intro EX H0 Hs G H ρ σ Ha Hb x y u v Q I s mx my o
  cases u <;> cases v <;> first | exact o.elim | skip
  · rename_i ws i
    obtain ⟨a, vs, rfl, hs, r⟩ := mx.tupB I
    replace o : Out EX G H (mdW K .U H0 Hs) (toR (L2.atI ws i)) Q := o
    cases q : L2.atI ws i with
    | none => rw [q] at o; exact o.elim
    | some w =>
      rw [q] at o
      obtain ⟨v, hv, rv⟩ := r.atI q
      exact .inr (.inl ⟨a, vs, i, v, rfl, my.intB, SqT.of hs, hv, o v G H (Ext.refl I.gh) rv⟩)
  · rename_i ws i
    obtain ⟨a, vs, rfl, hs, r⟩ := mx.lstB I
    replace o : Out EX G H (mdW K .U H0 Hs) (toR (L2.atI ws i)) Q := o
    cases q : L2.atI ws i with
    | none => rw [q] at o; exact o.elim
    | some w =>
      rw [q] at o
      obtain ⟨v, hv, rv⟩ := r.atI q
      exact .inl ⟨a, vs, i, v, rfl, my.intB, SqL.of hs, hv, o v G H (Ext.refl I.gh) rv⟩
  · rename_i ws i
    obtain ⟨a, vs, rfl, hs, r⟩ := mx.scrB I
    replace o : Out EX G H (mdW K .U H0 Hs) (toR (L2.atI ws i)) Q := o
    cases q : L2.atI ws i with
    | none => rw [q] at o; exact o.elim
    | some w =>
      rw [q] at o
      obtain ⟨v, hv, rv⟩ := r.atI q
      exact .inl ⟨a, vs, i, v, rfl, my.intB, hs, hv, o v G H (Ext.refl I.gh) rv⟩
theorem o2_ixV : Op2 K .C .V (rIx K) fIx := by
  intro EX H0 Hs G H ρ σ Ha Hb x y u v Q I s mx my o
  cases u <;> cases v <;> first | exact o.elim | skip
  · rename_i ws i
    obtain ⟨a, vs, rfl, hs, r⟩ := mx.tupC I
    replace o : Out EX G H (mdW K .V H0 Hs) (toR (L2.atI ws i)) Q := o
    cases q : L2.atI ws i with
    | none => rw [q] at o; exact o.elim
    | some w =>
      rw [q] at o
      obtain ⟨v, hv, rv⟩ := r.atI q
      exact .inr (.inl ⟨a, vs, i, v, rfl, Md.intB (Md.CB I my), SqT.of hs, hv, o v G H (Ext.refl I.gh) rv⟩)
  · rename_i ws i
    obtain ⟨a, vs, rfl, hs, r⟩ := mx.lstC I
    replace o : Out EX G H (mdW K .V H0 Hs) (toR (L2.atI ws i)) Q := o
    cases q : L2.atI ws i with
    | none => rw [q] at o; exact o.elim
    | some w =>
      rw [q] at o
      obtain ⟨v, hv, rv⟩ := r.atI q
      exact .inl ⟨a, vs, i, v, rfl, Md.intB (Md.CB I my), SqL.of hs, hv, o v G H (Ext.refl I.gh) rv⟩
  · rename_i ws i
    have mx' : Rep K G x (.scr ws) := by
      rcases mx with m | ⟨_, _, _, _, e2, _⟩
      · exact m
      · cases e2
    cases mx' with
    | scr hs r =>
      replace o : Out EX G H (mdW K .V H0 Hs) (toR (L2.atI ws i)) Q := o
      cases q : L2.atI ws i with
      | none => rw [q] at o; exact o.elim
      | some w =>
        rw [q] at o
        obtain ⟨v, hv, rv⟩ := r.atI q
        exact .inl ⟨_, _, i, v, rfl, Md.intB (Md.CB I my), Same.seq I.gh hs, hv, o v G H (Ext.refl I.gh) rv⟩
def tOp_ (K : PySem.W.Frag) (EX : EXT) (m : Rho → R (Option Int)) : TO := fun σ H Q => ∃ H0 G ρ, PIv K H0 G ρ σ H ∧ Out EX G H (fun (b c : Option Int) _ _ => c = b) (m ρ) Q
def partW : W → R (Option Int)
  | .int i => .ok (some i)
  | _ => .stuck
theorem c_noPart {Q : Option Int → Hp → Prop} (h : tOp_ K EX (fun _ => .ok none) σ H Q) : tNoPart σ H Q := by
  obtain ⟨H0, G, ρ, I, o⟩ := h
  exact o none G H (Ext.refl I.gh) rfl
theorem c_part {m : Rho → R W} {Q : Option Int → Hp → Prop} (h : tOp_ K EX (fun ρ => m ρ >>= partW) σ H Q) : tPart (tM K EX .B m) σ H Q := by
  obtain ⟨H0, G, ρ, I, o⟩ := h
  refine ⟨H0, G, ρ, I, Out.bind o fun x G1 H1 u e1 m1 o1 => ?_⟩
  cases u <;> first | exact o1.elim | skip
  rename_i i
  exact ⟨i, m1.intB, o1 _ G1 H1 (Ext.refl e1.gh) rfl⟩
def cutW (xs : List W) (lo hi : Option Int) : List W := (xs.drop (HT.sIx xs.length 0 lo)).take (HT.sIx xs.length xs.length hi - HT.sIx xs.length 0 lo)
theorem Reps.cut {F : Hp} {vs : List V} {ws : List W} (r : Reps K F vs ws) (lo hi : Option Int) : Reps K F (cutV vs lo hi) (cutW ws lo hi) := by
  unfold cutV cutW
  rw [r.length]
  exact (r.drop _).take _
def lstOf : W → Option (List W)
  | .lst ws => some ws
  | .scr ws => some ws
  | _ => none
def chks (c : Bool) (ws : List W) : R W := if c || noLs ws then .ok (.lst ws) else .stuck
def cb (c : Bool) : Mode := if c then .C else .B
theorem Md.lstOf {c : Bool} {Ha : Hp} {x : V} {w : W} {ws : List W} (I : PIv K H0 G ρ σ H) (m : Md K H0 Ha G H x w (cb c)) (h : lstOf w = some ws) : ∃ a vs, x = .ref a ∧ SqL K H a vs ∧ Reps K (if c then G else join H0 G) vs ws := by
  cases c with
  | true =>
    rw [if_pos rfl]
    cases w <;> first | cases h | skip
    · obtain ⟨a, vs, e, hs, r⟩ := Md.lstC (H := Ha) I m
      exact ⟨a, vs, e, SqL.of hs, r⟩
    · rcases m with m | ⟨_, _, _, _, e2, _⟩
      · cases m with
        | scr hs r => exact ⟨_, _, rfl, Same.seq I.gh hs, r⟩
      · cases e2
  | false =>
    rw [if_neg Bool.false_ne_true]
    cases w <;> first | cases h | skip
    · obtain ⟨a, vs, e, hs, r⟩ := Md.lstB (H := Ha) I m
      exact ⟨a, vs, e, SqL.of hs, r⟩
    · exact Md.scrB (H := Ha) I m
theorem Out.chks {c : Bool} {Hs : Hp} {vs : List V} {ws : List W} (I : PIv K H0 G ρ σ H) (s : Same Hs H) (r : Reps K (if c then G else join H0 G) vs ws) (o : Out EX G H (mdW K .F H0 Hs) (chks c ws) Q) : ∀ p, H p = none → Q (.ref p) (upd H p (.lst vs)) := by
  unfold TP.chks at o
  by_cases n : (c || noLs ws) = true
  · rw [if_pos n] at o
    have r' : Reps K G vs ws := by
      cases c with
      | true => rw [if_pos rfl] at r; exact r
      | false => rw [if_neg Bool.false_ne_true] at r; exact Reps.clean I r (by simpa using n)
    exact fun p hp => Out.newL I s r' hp o
  · rw [if_neg n] at o; exact o.elim
theorem c_sl {c : Bool} {m : Rho → R W} {ml mh : Rho → R (Option Int)} (h : tM K EX .F (fun ρ => m ρ >>= fun x => ml ρ >>= fun l => mh ρ >>= fun u => toR (lstOf x) >>= fun ws => chks c (cutW ws l u)) σ H Q) :
    tSl (rSlL K) (tM K EX (cb c) m) (tOp_ K EX ml) (tOp_ K EX mh) σ H Q := by
  obtain ⟨H0, G, ρ, I, o⟩ := h
  refine ⟨H0, G, ρ, I, Out.bind o fun x G1 H1 w e1 m1 o1 => ⟨H0, G1, ρ, I.ext e1, Out.bind o1 fun l' G2 H2 l e2 m2 o2 => ⟨H0, G2, ρ, (I.ext e1).ext e2, Out.bind o2 fun u' G3 H3 u e3 m3 o3 => ?_⟩⟩⟩
  subst m2; subst m3
  have I3 := ((I.ext e1).ext e2).ext e3
  cases q : lstOf w with
  | none => rw [q] at o3; exact o3.elim
  | some ws =>
    rw [q] at o3
    obtain ⟨a, vs, ex, hs, r⟩ := Md.lstOf I3 ((m1.move e2).move e3) q
    refine ⟨a, vs, ex, hs, Out.chks I3 ((e1.hh.trans e2.hh).trans e3.hh) (c := c) ?_ o3⟩
    cases c with
    | true => rw [if_pos rfl] at r ⊢; exact r.cut _ _
    | false => rw [if_neg Bool.false_ne_true] at r ⊢; exact r.cut _ _
def Cal (K : PySem.W.Frag) (b d : Mode) (r : List V → Hp → VK → Prop) (f : List W → R W) : Prop := ∀ (EX : EXT) (H0 Hs G H : Hp) (ρ : Rho) (σ : St) (Ha : Hp) (vs : List V) (ws : List W) (Q : VK), PIv K H0 G ρ σ H → Same Hs H → MdA K b H0 Ha G H ws vs →
  Out EX G H (mdW K d H0 Hs) (f ws) Q → r vs H Q
theorem c_cb {b : Mode} {r : List V → Hp → VK → Prop} {f : List W → R W} {ma : Rho → R (List W)} (hr : Cal K b d r f) (h : tM K EX d (fun ρ => ma ρ >>= fun ws => f ws) σ H Q) : tCB r (tA K EX b ma) σ H Q := by
  obtain ⟨H0, G, ρ, I, o⟩ := h
  exact ⟨H0, G, ρ, I, Out.bind o fun xs G1 H1 ws e1 m1 o1 => hr EX H0 H G1 H1 ρ σ H xs ws Q (I.ext e1) e1.hh m1 o1⟩
def fLen : List W → R W
  | [w] => seqW w >>= fun ws => .ok (.int ws.length)
  | _ => .stuck
theorem b_len : Cal K .B d (fun xs H Q => ∃ p ys, xs = [.ref p] ∧ (SqL K H p ys ∨ SqT K H p ys) ∧ Q (.int ys.length) H) fLen := by
  intro EX H0 Hs G H ρ σ Ha vs ws Q I s m o
  cases m with
  | nil => exact o.elim
  | cons a t =>
    cases t with
    | cons _ _ => exact o.elim
    | nil =>
      rename_i w v
      cases w <;> first | exact o.elim | skip
      · obtain ⟨p, ys, rfl, hs, r⟩ := a.tupB I
        exact ⟨p, ys, rfl, .inr (SqT.of hs), by rw [r.length]; exact o _ G H (Ext.refl I.gh) (Md.sca rfl (fun _ => .int) d)⟩
      · obtain ⟨p, ys, rfl, hs, r⟩ := a.lstB I
        exact ⟨p, ys, rfl, .inl (SqL.of hs), by rw [r.length]; exact o _ G H (Ext.refl I.gh) (Md.sca rfl (fun _ => .int) d)⟩
      · obtain ⟨p, ys, rfl, hs, r⟩ := a.scrB I
        exact ⟨p, ys, rfl, .inl hs, by rw [r.length]; exact o _ G H (Ext.refl I.gh) (Md.sca rfl (fun _ => .int) d)⟩
def fList (c : Bool) : List W → R W
  | [w] => seqW w >>= chks c
  | _ => .stuck
theorem b_list {c : Bool} : Cal K (cb c) .F (fun xs H Q => ∃ p ys, xs = [.ref p] ∧ (SqL K H p ys ∨ SqT K H p ys) ∧ ∀ l, H l = none → Q (.ref l) (upd H l (.lst ys))) (fList c) := by
  intro EX H0 Hs G H ρ σ Ha vs ws Q I s m o
  cases m with
  | nil => exact o.elim
  | cons a t =>
    cases t with
    | cons _ _ => exact o.elim
    | nil =>
      rename_i w v
      cases w <;> first | exact o.elim | skip
      · rename_i us
        cases c with
        | true =>
          obtain ⟨p, ys, rfl, hs, r⟩ := Md.tupC (H := Ha) I a
          exact ⟨p, ys, rfl, .inr (SqT.of hs), Out.chks (c := true) I s r o⟩
        | false =>
          obtain ⟨p, ys, rfl, hs, r⟩ := Md.tupB (H := Ha) I a
          exact ⟨p, ys, rfl, .inr (SqT.of hs), Out.chks (c := false) I s r o⟩
      · obtain ⟨p, ys, rfl, hs, r⟩ := Md.lstOf I a rfl
        exact ⟨p, ys, rfl, .inl hs, Out.chks I s r o⟩
      · obtain ⟨p, ys, rfl, hs, r⟩ := Md.lstOf I a rfl
        exact ⟨p, ys, rfl, .inl hs, Out.chks I s r o⟩
def chkT (c : Bool) (ws : List W) : R W := if c || noLs ws then .ok (.tup ws) else .stuck
def fTup (c : Bool) : List W → R W
  | [w] => seqW w >>= chkT c
  | _ => .stuck
theorem b_tup {c : Bool} : Cal K (cb c) .F (fun xs H Q => ∃ p ys, xs = [.ref p] ∧ ((SqL K H p ys ∧ ∀ l, H l = none → Q (.ref l) (upd H l (.tup ys))) ∨ (SqT K H p ys ∧ Q (.ref p) H))) (fTup c) := by
  intro EX H0 Hs G H ρ σ Ha vs ws Q I s m o
  have key : ∀ {vs : List V} {us : List W}, Reps K (if c then G else join H0 G) vs us → Out EX G H (mdW K .F H0 Hs) (chkT c us) Q → Reps K G vs us ∧ Out EX G H (mdW K .F H0 Hs) (.ok (.tup us)) Q := fun {vs us} r o => by
    unfold chkT at o
    by_cases n : (c || noLs us) = true
    · rw [if_pos n] at o
      refine ⟨?_, o⟩
      cases c with
      | true => rw [if_pos rfl] at r; exact r
      | false => rw [if_neg Bool.false_ne_true] at r; exact Reps.clean I r (by simpa using n)
    · rw [if_neg n] at o; exact o.elim
  cases m with
  | nil => exact o.elim
  | cons a t =>
    cases t with
    | cons _ _ => exact o.elim
    | nil =>
      rename_i w v
      cases w <;> first | exact o.elim | skip
      · rename_i us
        have hx : ∃ p ys, v = .ref p ∧ (if c then G else join H0 G) p = some (.tup ys) ∧ Reps K (if c then G else join H0 G) ys us := by
          cases c with
          | true =>
            rw [if_pos rfl]
            rcases a with a | ⟨_, _, _, _, e2, _⟩
            · cases a with
              | tup h r => exact ⟨_, _, rfl, h, r⟩
            · cases e2
          | false =>
            rw [if_neg Bool.false_ne_true]
            rcases a with a | ⟨_, _, _, _, e2, _⟩
            · cases a with
              | tup h r => exact ⟨_, _, rfl, h, r⟩
            · cases e2
        obtain ⟨p, ys, rfl, hp, r⟩ := hx
        obtain ⟨r', o'⟩ := key r o
        have hH : H p = some (.tup ys) := by
          cases c with
          | true => rw [if_pos rfl] at hp; exact I.gh _ _ hp
          | false => rw [if_neg Bool.false_ne_true] at hp; exact I.join_H _ _ hp
        have hG : G p = some (.tup ys) := by
          cases c with
          | true => rw [if_pos rfl] at hp; exact hp
          | false =>
            rw [if_neg Bool.false_ne_true] at hp
            unfold join at hp
            cases q : H0 p with
            | none => rw [q] at hp; exact hp
            | some u =>
              rw [q] at hp
              dsimp only at hp
              by_cases hl : isL u = true
              · rw [if_pos hl] at hp; cases hp; cases hl
              · rw [if_neg hl] at hp; exact hp
        exact ⟨p, ys, rfl, .inr ⟨SqT.of hH, o' _ G H (Ext.refl I.gh) (.tup hG r')⟩⟩
      · obtain ⟨p, ys, rfl, hs, r⟩ := Md.lstOf I a rfl
        obtain ⟨r', o'⟩ := key r o
        exact ⟨p, ys, rfl, .inl ⟨hs, fun l hl => Out.newTF I r' hl o'⟩⟩
      · obtain ⟨p, ys, rfl, hs, r⟩ := Md.lstOf I a rfl
        obtain ⟨r', o'⟩ := key r o
        exact ⟨p, ys, rfl, .inl ⟨hs, fun l hl => Out.newTF I r' hl o'⟩⟩
def f2 (g : Int → Int → Int) : List W → R W
  | [.int i, .int j] => .ok (.int (g i j))
  | _ => .stuck
def tyW : W → Option String
  | .non => some "NoneType"
  | .bl _ => some "bool"
  | .int _ => some "int"
  | .str _ => some "str"
  | .tup _ => some "tuple"
  | .lst _ => some "list"
  | _ => none
def fIsi : List W → R W
  | [x, .ty T] => toR ((tyW x).bind fun A => isiB A T) >>= fun b => .ok (.bl b)
  | _ => .stuck
theorem tyW_of {Ha : Hp} {v : V} {w : W} {A : String} (I : PIv K H0 G ρ σ H) (m : Md K H0 Ha G H v w .B) (h : tyW w = some A) : L2.tyB H v = some A := by
  cases w <;> first | cases h | skip
  · rw [m.nonB]; rfl
  · rw [m.blB]; rfl
  · rw [m.intB]; rfl
  · rw [m.strB]; rfl
  · obtain ⟨a, vs, rfl, hs, r⟩ := m.tupB I
    show (match H a with
      | some (.lst _) => some "list"
      | some (.tup _) => some "tuple"
      | some (.dK _) => some "dict"
      | _ => none) = _
    rw [hs]
  · obtain ⟨a, vs, rfl, hs, r⟩ := m.lstB I
    show (match H a with
      | some (.lst _) => some "list"
      | some (.tup _) => some "tuple"
      | some (.dK _) => some "dict"
      | _ => none) = _
    rw [hs]
theorem b_isi : Cal K .B d rIsi fIsi := by
  intro EX H0 Hs G H ρ σ Ha vs ws Q I s m o
  unfold fIsi at o
  split at o
  · rename_i x T
    cases m with
    | cons a t =>
      cases t with
      | cons b t =>
        cases t
        cases q : tyW x with
        | none => rw [q] at o; exact o.elim
        | some A =>
          rw [q] at o
          replace o : Out EX G H (mdW K d H0 Hs) (toR (isiB A T) >>= fun b => .ok (.bl b)) Q := o
          cases q2 : isiB A T with
          | none => rw [q2] at o; exact o.elim
          | some c =>
            rw [q2] at o
            exact ⟨_, T, by rw [b.tyB], A, tyW_of I a q, c, q2, o _ G H (Ext.refl I.gh) (Md.sca rfl (fun _ => .bl) d)⟩
  · exact o.elim
def fCat (c : Bool) : W → W → R W
  | .lst us, .lst vs => if us.length + vs.length ≤ 1000 then chks c (us ++ vs) else .stuck
  | _, _ => .stuck
theorem o2_cat {c : Bool} : Op2 K (cb c) .F rCat (fCat c) := by
  intro EX H0 Hs G H ρ σ Ha Hb x y u v Q I s mx my o
  cases u <;> cases v <;> first | exact o.elim | skip
  rename_i us vs
  replace o : Out EX G H (mdW K .F H0 Hs) (if us.length + vs.length ≤ 1000 then chks c (us ++ vs) else .stuck) Q := o
  by_cases hn : us.length + vs.length ≤ 1000
  · rw [if_pos hn] at o
    have h1 : ∃ a ws, x = .ref a ∧ H a = some (.lst ws) ∧ Reps K (if c then G else join H0 G) ws us := by
      cases c with
      | true => exact Md.lstC (H := Ha) I mx
      | false => exact Md.lstB (H := Ha) I mx
    have h2 : ∃ a ws, y = .ref a ∧ H a = some (.lst ws) ∧ Reps K (if c then G else join H0 G) ws vs := by
      cases c with
      | true => exact Md.lstC (H := Hb) I my
      | false => exact Md.lstB (H := Hb) I my
    obtain ⟨a, xs, rfl, ha, ra⟩ := h1
    obtain ⟨b, ys, rfl, hb, rb⟩ := h2
    exact ⟨a, b, xs, ys, rfl, rfl, ha, hb, by rw [ra.length, rb.length]; exact le_line hn, Out.chks I s (ra.append rb) o⟩
  · rw [if_neg hn] at o; exact o.elim
def fRep (c : Bool) : W → W → R W
  | .lst us, .int k => if us.length * k.toNat ≤ 1000 ∧ -1000 ≤ k ∧ k ≤ 1000 then chks c (List.replicate k.toNat us).flatten else .stuck
  | _, _ => .stuck
end
end TP
set_option Elab.async false
set_option linter.all false
set_option maxRecDepth 100000
namespace TP
open PySem L2
def mC (w : W) : Rho → R W := fun _ => .ok w
def b1 (f : W → R W) (ma : Rho → R W) : Rho → R W := fun ρ => ma ρ >>= fun x => f x
def b2 (f : W → W → R W) (ma mb : Rho → R W) : Rho → R W := fun ρ => ma ρ >>= fun x => mb ρ >>= fun y => f x y
def bA (f : List W → R W) (ma : Rho → R (List W)) : Rho → R W := fun ρ => ma ρ >>= fun ws => f ws
def bI (f : List W → R (List W)) (ma : Rho → R (List W)) : Rho → R (List W) := fun ρ => ma ρ >>= f
def bS (ma : Rho → R W) : Rho → R (List W) := fun ρ => ma ρ >>= seqW
def aN : Rho → R (List W) := fun _ => .ok []
def aC (ma : Rho → R W) (mr : Rho → R (List W)) : Rho → R (List W) := fun ρ => ma ρ >>= fun x => mr ρ >>= fun xs => .ok (x :: xs)
def bChk (ma : Rho → R W) : Rho → R W := fun ρ => ma ρ >>= chk
def bTest (ma : Rho → R W) : Rho → R Bool := fun ρ => ma ρ >>= toB
def tAnd' (a b : Rho → R Bool) : Rho → R Bool := fun ρ => rAnd (a ρ) (b ρ)
def tOr' (a b : Rho → R Bool) : Rho → R Bool := fun ρ => rOr (a ρ) (b ρ)
def tNot' (a : Rho → R Bool) : Rho → R Bool := fun ρ => rNot (a ρ)
def vAnd (a b : Rho → R W) : Rho → R W := fun ρ => rAndV (a ρ) (b ρ)
def vOr (a b : Rho → R W) : Rho → R W := fun ρ => rOrV (a ρ) (b ρ)
def vNot (a : Rho → R W) : Rho → R W := fun ρ => rNotV (a ρ)
def vIf (c : Rho → R Bool) (a b : Rho → R W) : Rho → R W := fun ρ => c ρ >>= fun t => if t then a ρ else b ρ
def vChain (f f' : W → W → R W) (ma mb mc : Rho → R W) : Rho → R W := fun ρ => ma ρ >>= fun x => mb ρ >>= fun y => f x y >>= fun z => toB z >>= fun c => if c then mc ρ >>= fun u => f' y u else .ok (.bl false)
def vTup (ma : Rho → R (List W)) : Rho → R W := fun ρ => ma ρ >>= fun ws => lim ws.length (.tup ws)
def vLst (ma : Rho → R (List W)) : Rho → R W := fun ρ => ma ρ >>= fun ws => lim ws.length (.lst ws)
def pN : Rho → R (Option Int) := fun _ => .ok none
def pS (m : Rho → R W) : Rho → R (Option Int) := fun ρ => m ρ >>= partW
def vSl (c : Bool) (m : Rho → R W) (ml mh : Rho → R (Option Int)) : Rho → R W := fun ρ => m ρ >>= fun x => ml ρ >>= fun l => mh ρ >>= fun u => toR (lstOf x) >>= fun ws => chks c (cutW ws l u)
def vComp (n : Nat) (mi : Rho → R (List W)) (mg : W → Rho → Option Rho) (mc : Rho → R Bool) (me : Rho → R W) : Rho → R W := fun ρ => mi ρ >>= fun ws => mComp n mg mc me ws ρ
def yes : Rho → R Bool := fun _ => .ok true
def sNx : Rho → R Fl := fun ρ => .ok (.nx ρ)
def sDrop (m : Rho → R W) : Rho → R Fl := fun ρ => m ρ >>= fun _ => .ok (.nx ρ)
def sRet (m : Rho → R W) : Rho → R Fl := fun ρ => m ρ >>= fun w => .ok (.rt w)
def sRetN : Rho → R Fl := fun _ => .ok (.rt .non)
def sV (i : Nat) (m : Rho → R W) : Rho → R Fl := fun ρ => m ρ >>= fun w => .ok (.nx (ρ.set i (.val w)))
def sU (i : Nat) (m : Rho → R W) : Rho → R Fl := fun ρ => m ρ >>= fun w => .ok (.nx (ρ.set i (.par w)))
def sF (i : Nat) (m : Rho → R W) : Rho → R Fl := fun ρ => m ρ >>= fun w => .ok (.nx (ρ.set i (slotF w)))
def sG (mg : W → Rho → Option Rho) (m : Rho → R W) : Rho → R Fl := fun ρ => m ρ >>= fun w => toR (mg w ρ) >>= fun ρ' => .ok (.nx ρ')
def sFor (mi : Rho → R (List W)) (mg : W → Rho → Option Rho) (mb : Rho → R Fl) : Rho → R Fl := fun ρ => mi ρ >>= fun ws => mFor mg mb ws ρ
def sFrz (i : Nat) (m : Rho → R Fl) : Rho → R Fl := fun ρ => m (frz i ρ)
def sBk : Rho → R Fl := fun ρ => .ok (.bk ρ)
def sCt : Rho → R Fl := fun ρ => .ok (.ct ρ)
section
variable {X : Cx} {e : Expr} {es : List Expr} {st : Stmt} {sts : List Stmt}
theorem _root_.L2.PE.mono {t t' : TE} (h : PE X e t) (hm : ∀ σ H Q, t' σ H Q → t σ H Q) : PE X e t' := fun pins s σ H Q I q => h pins s σ H Q I (hm σ H Q q)
theorem _root_.L2.PT.mono {t t' : TT} (h : PT X e t) (hm : ∀ σ H Q, t' σ H Q → t σ H Q) : PT X e t' := fun pins s σ H Q I q => h pins s σ H Q I (hm σ H Q q)
theorem _root_.L2.PW.mono {t t' : TT} (h : PW X e t) (hm : ∀ σ H Q, t' σ H Q → t σ H Q) : PW X e t' := fun wh pins s σ H Q I q => h wh pins s σ H Q I (hm σ H Q q)
theorem _root_.L2.PA.mono {t t' : TA} (h : PA X es t) (hm : ∀ σ H Q, t' σ H Q → t σ H Q) : PA X es t' := fun pos pins s σ H Q I q => h pos pins s σ H Q I (hm σ H Q q)
theorem _root_.L2.PS.mono {t t' : TS} (h : PS X st t) (hm : ∀ D σ H, t' D σ H → t D σ H) : PS X st t' := fun pins s σ H D I q => h pins s σ H D I (hm D σ H q)
theorem _root_.L2.PSs.mono {t t' : TS} (h : PSs X sts t) (hm : ∀ D σ H, t' D σ H → t D σ H) : PSs X sts t' := fun pins s σ H D I q => h pins s σ H D I (hm D σ H q)
theorem _root_.L2.PI.mono {tg : Expr} {t t' : TI} (h : PI X tg e t) (hm : ∀ σ H Q, t' σ H Q → t σ H Q) : PI X tg e t' := fun pins s σ H Q I q => h pins s σ H Q I (hm σ H Q q)
theorem _root_.L2.PO.mono {oe : Option Expr} {t t' : TO} (h : PO X oe t) (hm : ∀ σ H Q, t' σ H Q → t σ H Q) : PO X oe t' := by
  intro pins s σ H Q I q
  exact h pins s σ H Q I (hm σ H Q q)
end
section
variable {X : Cx} {K : PySem.W.Frag} {EX : EXT} {d b : Mode} {a c e : Expr} {es rest : List Expr} {pos : Pos} {ma mb mc : Rho → R W} {ta tb : Rho → R Bool} {mr : Rho → R (List W)}
theorem q_FV (h : PE X e (tM K EX .F ma)) : PE X e (tM K EX .V ma) := h.mono fun _ _ _ q => mode_FV q
theorem q_VU (h : PE X e (tM K EX .V ma)) : PE X e (tM K EX .U ma) := h.mono fun _ _ _ q => mode_VU q
theorem q_FC (h : PE X e (tM K EX .F ma)) : PE X e (tM K EX .C ma) := h.mono fun _ _ _ q => mode_FC q
theorem q_UB (h : PE X e (tM K EX .U ma)) : PE X e (tM K EX .B ma) := h.mono fun _ _ _ q => mode_UB q
theorem q_CB (h : PE X e (tM K EX .C ma)) : PE X e (tM K EX .B ma) := h.mono fun _ _ _ q => mode_CB q
theorem q_chkV (h : PE X e (tM K EX .U ma)) : PE X e (tM K EX .V (bChk ma)) := h.mono fun _ _ _ q => mode_chk (.inr rfl) q
theorem q_chkF (h : PE X e (tM K EX .U ma)) : PE X e (tM K EX .F (bChk ma)) := h.mono fun _ _ _ q => mode_chk (.inl rfl) q
theorem qv (d : Mode) (i : Nat) {x : Str} (hN : X.N[i]? = some x := by rfl) (hv : Vis X.env.scope x := by first | exact Or.inl rfl | exact Or.inr (Or.inl rfl) | exact Or.inr (Or.inr rfl)) (hd : (x == ("__debug__" : Str)) = false := by decide)
    (hcd : (x == ("__classdict__" : Str)) = false := by decide) : PE X (.Name x pos) (tM K EX d (mVar d i)) := (pe_var hN hv hd hcd).mono fun _ _ _ q => c_var q
theorem q_int {i j} : PE X (.Constant (.int i) j pos) (tM K EX d (mC (.int i))) := pe_int.mono fun _ _ _ q => c_const rfl (fun _ => .int) q
theorem q_bl {t j} : PE X (.Constant (.bool t) j pos) (tM K EX d (mC (.bl t))) := pe_bl.mono fun _ _ _ q => c_const rfl (fun _ => .bl) q
theorem q_non {j} : PE X (.Constant .none j pos) (tM K EX d (mC .non)) := pe_non.mono fun _ _ _ q => c_const rfl (fun _ => .non) q
theorem q_ty {x : Str} {n : String} (hg : Gl X x) (hm : X.mg x = none) (hv : bootBuiltins x = some (.type n)) (hn : x ≠ "__name__" := by decide) (hd : (x == ("__debug__" : Str)) = false := by decide) : PE X (.Name x pos) (tM K EX d (mC (.ty n))) :=
  (pe_bltn (v := .ty n) hg hm hv rfl hn hd).mono fun _ _ _ q => c_const rfl (fun _ => .ty) q
theorem q_op {op : Operator} {r : R2} {f : W → W → R W} (ho : OpR X (binaryOp op) r) (hr : Op2 K b d r f) (ha : PE X a (tM K EX b ma)) (hb : PE X c (tM K EX b mb)) : PE X (.BinOp a op c pos) (tM K EX d (b2 f ma mb)) :=
  (pe_op ho ha hb).mono fun _ _ _ q => c_op hr q
theorem q_cmp {op : CmpOp} {r : R2} {f : W → W → R W} (ho : OpR X (compareOp op) r) (hr : Op2 K b d r f) (ha : PE X a (tM K EX b ma)) (hb : PE X c (tM K EX b mb)) (hm : behindInMarks op c = false := by first | exact nomark _ | rfl) : PE X (.Compare a [op] [c] pos) (tM K EX d (b2 f ma mb)) :=
  (pe_cmpR ho ha hb hm).mono fun _ _ _ q => c_op hr q
theorem q_tcmp {op : CmpOp} {r : R2} {f : W → W → R W} (ho : OpR X (compareOp op) r) (hr : Op2 K b .B r f) (ha : PE X a (tM K EX b ma)) (hb : PE X c (tM K EX b mb)) (hm : behindInMarks op c = false := by first | exact nomark _ | rfl) : PT X (.Compare a [op] [c] pos) (tT K EX (bTest (b2 f ma mb))) :=
  (pt_cmpR ho ha hb hm).mono fun σ H Q q => by
    obtain ⟨H0, G, ρ, I, o⟩ := q
    have := c_test (ma := b2 f ma mb) ⟨H0, G, ρ, I, o⟩
    exact c_op hr this
theorem q_val (ha : PE X a (tM K EX .B ma)) (he : ∀ whole, isTrue a X.env whole = (do let v ← whole; standAt a.pos; holding [v] (truthy v)) := by intro _; rfl) : PT X a (tT K EX (bTest ma)) :=
  (pt_val ha he).mono fun _ _ _ q => c_tB q
theorem q_tand1 (ha : PT X a (tT K EX ta)) : PW X (.BoolOp .And [a] pos) (tT K EX ta) := pw_and1 ha
theorem q_tor1 (ha : PT X a (tT K EX ta)) : PW X (.BoolOp .Or [a] pos) (tT K EX ta) := pw_or1 ha
theorem q_tand {b : Expr} (ha : PT X a (tT K EX ta)) (hb : PW X (.BoolOp .And (b :: rest) pos) (tT K EX tb)) : PW X (.BoolOp .And (a :: b :: rest) pos) (tT K EX (tAnd' ta tb)) := (pw_and ha hb).mono fun _ _ _ q => c_and q
theorem q_tor {b : Expr} (ha : PT X a (tT K EX ta)) (hb : PW X (.BoolOp .Or (b :: rest) pos) (tT K EX tb)) : PW X (.BoolOp .Or (a :: b :: rest) pos) (tT K EX (tOr' ta tb)) := (pw_or ha hb).mono fun _ _ _ q => c_or q
theorem q_tnot (ha : PT X a (tT K EX ta)) : PT X (.UnaryOp .Not a pos) (tT K EX (tNot' ta)) := (pt_not ha).mono fun _ _ _ q => c_not q
theorem q_anil : PA X [] (tA K EX d aN) := pa_nil.mono fun _ _ _ q => c_nil q
theorem q_acons (ha : PE X e (tM K EX d ma)) (hr : PA X es (tA K EX d mr)) (hs : starEach (e :: es) X.env = (false, eval e X.env) :: starEach es X.env := by rfl) : PA X (e :: es) (tA K EX d (aC ma mr)) := (pa_cons ha hr hs).mono fun _ _ _ q => c_cons q
theorem q_tup {x1} (h : PA X es (tA K EX .V mr)) : PE X (.Tuple es x1 pos) (tM K EX .F (vTup mr)) := (pe_tup h).mono fun _ _ _ q => c_tup q
theorem q_tupU {x1} (h : PA X es (tA K EX .U mr)) : PE X (.Tuple es x1 pos) (tM K EX .U (vTup mr)) := (pe_tup h).mono fun _ _ _ q => c_tupU q
theorem q_lst (h : PA X es (tA K EX .V mr)) : PE X (.List es pos) (tM K EX .F (vLst mr)) := (pe_lst h).mono fun _ _ _ q => c_lst q
theorem q_ixU (ha : PE X a (tM K EX .B ma)) (hb : PE X c (tM K EX .B mb)) (hs : PlainIx c := by exact fun _ _ => rfl) (hK : X.K = K := by rfl) : PE X (.Subscript a c pos) (tM K EX .U (b2 fIx ma mb)) := by
  subst hK; exact (pe_ix ix_seq ha hb hs).mono fun _ _ _ q => c_op o2_ixU q
theorem q_ixV (ha : PE X a (tM K EX .C ma)) (hb : PE X c (tM K EX .C mb)) (hs : PlainIx c := by exact fun _ _ => rfl) (hK : X.K = K := by rfl) : PE X (.Subscript a c pos) (tM K EX .V (b2 fIx ma mb)) := by
  subst hK; exact (pe_ix ix_seq ha hb hs).mono fun _ _ _ q => c_op o2_ixV q
theorem q_pN : PO X none (tOp_ K EX pN) := po_none.mono fun _ _ _ q => c_noPart q
theorem q_pS (h : PE X e (tM K EX .B ma)) : PO X (some e) (tOp_ K EX (pS ma)) := (po_some h).mono fun _ _ _ q => c_part q
theorem q_sl (k : Bool) {lo hi : Option Expr} {p2 : Pos} {ml mh : Rho → R (Option Int)} (he : PE X e (tM K EX (cb k) ma)) (hl : PO X lo (tOp_ K EX ml)) (hu : PO X hi (tOp_ K EX mh)) (hK : X.K = K := by rfl) : PE X (.Subscript e (.Slice lo hi none p2) pos) (tM K EX .F (vSl k ma ml mh)) := by
  subst hK; exact (pe_slice sl_list he hl hu).mono fun _ _ _ q => c_sl q
theorem q_cb {x : Str} {id : String} {r : List V → Hp → VK → Prop} {f : List W → R W} {p : Pos} (hc : CallR X (.builtin id) r) (hr : Cal K b d r f) (hg : Gl X x) (hm : X.mg x = none) (hv : bootBuiltins x = some (.builtin id)) (ha : PA X (e :: es) (tA K EX b mr))
    (hn : x ≠ "__name__" := by decide) (hdb : (x == ("__debug__" : Str)) = false := by decide) (he : starEach (e :: es) X.env = (false, eval e X.env) :: starEach es X.env := by rfl) (hpl : (backTo pos (starEach es X.env)).any (·.1) = false := by rfl) :
    PE X (.Call (.Name x p) (e :: es) [] pos) (tM K EX d (bA f mr)) := (pe_callB hc hg hm hv ha hn hdb he hpl).mono fun _ _ _ q => c_cb hr q
theorem q_ct {x : Str} {T : String} {r : List V → Hp → VK → Prop} {f : List W → R W} {p : Pos} (hc : CallR X (.type T) r) (hr : Cal K b d r f) (hg : Gl X x) (hm : X.mg x = none) (hv : bootBuiltins x = some (.type T)) (ha : PA X (e :: es) (tA K EX b mr))
    (hn : x ≠ "__name__" := by decide) (hdb : (x == ("__debug__" : Str)) = false := by decide) (he : starEach (e :: es) X.env = (false, eval e X.env) :: starEach es X.env := by rfl) (hpl : (backTo pos (starEach es X.env)).any (·.1) = false := by rfl) :
    PE X (.Call (.Name x p) (e :: es) [] pos) (tM K EX d (bA f mr)) := (pe_callTy hc hg hm hv ha hn hdb he hpl).mono fun _ _ _ q => c_cb hr q
theorem K_len (hK : X.K = K := by rfl) : CallR X (.builtin "len") (fun xs H Q => ∃ p ys, xs = [.ref p] ∧ (SqL K H p ys ∨ SqT K H p ys) ∧ Q (.int ys.length) H) := by subst hK; exact call_len_seq
theorem K_list (hK : X.K = K := by rfl) : CallR X (.type "list") (fun xs H Q => ∃ p ys, xs = [.ref p] ∧ (SqL K H p ys ∨ SqT K H p ys) ∧ ∀ l, H l = none → Q (.ref l) (upd H l (.lst ys))) := by subst hK; exact call_list_of
theorem K_tup (hK : X.K = K := by rfl) : CallR X (.type "tuple") (fun xs H Q => ∃ p ys, xs = [.ref p] ∧ ((SqL K H p ys ∧ ∀ l, H l = none → Q (.ref l) (upd H l (.tup ys))) ∨ (SqT K H p ys ∧ Q (.ref p) H))) := by subst hK; exact call_tuple_of
theorem q_call {k : Nat} {f : Addr} {fd : FuncData} {ps : List Str} {x : Str} {p : Pos} {n N : Nat} {m : Rho → R Fl} (F : FnOk X.prog X.w X.K X.mg X.base CX0 k f fd ps (spM K n d (runB n N m))) (hd : d = .F ∨ d = .V) (hr : Room k X.A) (hg : Gl X x) (hm : X.mg x = some (.ref f)) (hk : PySem.W.keepIn X.K (.ref f) = true) (hb : Binds X.K fd ps [])
    (ha : PA X (e :: es) (tA K (fun _ _ => False) .B mr)) (hdb : (x == ("__debug__" : Str)) = false := by decide) (he : starEach (e :: es) X.env = (false, eval e X.env) :: starEach es X.env := by rfl) (hpl : (backTo pos (starEach es X.env)).any (·.1) = false := by rfl) :
    PE X (.Call (.Name x p) (e :: es) [] pos) (tM K (fun _ _ => False) d (bA (runB n N m) mr)) :=
  (pe_call F hr hg hm hk hb .nil pass0 ha hdb he hpl).mono fun _ _ _ q => c_call hd (fun ws h => runB_len ws h) (fun _ _ z => z) q
variable {tg : Expr} {lp : Bool}
theorem q_iSq (h : PE X e (tM K EX (srcM lp .U) ma)) (hK : X.K = K := by rfl) : PI X tg e (tIt K EX lp .U (bS ma)) := by subst hK; exact (pi_sq h).mono fun _ _ _ q => c_iSq (.inr rfl) q
theorem q_rng1 {p : Pos} (hg : Gl X "range") (hm : X.mg "range" = none) (ha : PA X [a] (tA K EX .B mr)) (hs : starEach [a] X.env = [(false, eval a X.env)] := by rfl) : PI X tg (.Call (.Name "range" p) [a] [] pos) (tIt K EX lp .U (bI rng1 mr)) :=
  (pi_range1 hg hm ha hs).mono fun _ _ _ q => c_rng1 (.inr rfl) q
end
section
variable {X : Cx} {K : PySem.W.Frag} {EX : EXT} {d b : Mode} {e : Expr} {st : Stmt} {sts : List Stmt} {pos : Pos} {ma mb : Rho → R W} {ta : Rho → R Bool} {m n : Rho → R Fl}
theorem q_comp {cs : Scope} {N' : List Str} {tg iter elt : Expr} {ifs : List Expr} {dd : Mode} {g : TG} {mg : W → Rho → Option Rho} {mi : Rho → R (List W)} (S : CompScope X.env.scope cs X.N N') (hc : X.calm = true) (hi : PI X tg iter (tIt K EX false dd mi))
    (hg : ∀ cl ex s H, PG (cxComp X cs cl N' ex s H) tg g) (hgt : Gt K dd g mg) (hk : GKeep X.N.length g) (ht : ∀ cl ex s H, PIf (cxComp X cs cl N' ex s H) ifs (tT K EX ta)) (he : ∀ cl ex s H, PE (cxComp X cs cl N' ex s H) elt (tM K EX .V ma))
    (hs : ∀ x, foldedSetIterable iter X.env x = pure x := by intro _; rfl) : PE X (.ListComp elt [⟨tg, iter, ifs, 0⟩] cs pos) (tM K EX .F (vComp N'.length mi mg ta ma)) :=
  (pe_comp S hc hi hg hk ht he hs).mono fun _ _ _ q => c_comp hgt q
theorem q_setc {i : Nat} {y : Str} {py : Pos} {cs : Scope} {N' : List Str} {tg iter elt : Expr} {ifs : List Expr} {dd : Mode} {g : TG} {mg : W → Rho → Option Rho} {mi : Rho → R (List W)} {cpos : Pos} (S : CompScope X.env.scope cs X.N N') (hc : X.calm = true) (hi : PI X tg iter (tIt K EX false dd mi))
    (hg : ∀ cl ex s H, PG (cxComp X cs cl N' ex s H) tg g) (hgt : Gt K dd g mg) (hk : GKeep X.N.length g) (ht : ∀ cl ex s H, PIf (cxComp X cs cl N' ex s H) ifs (tT K EX ta)) (he : ∀ cl ex s H, PE (cxComp X cs cl N' ex s H) elt (tM K EX .V ma))
    (hN : X.N.Nodup) (hy : X.N[i]? = some y) (hl : Loc X.env.scope y)
    (hsw : swapsWith (.ListComp elt [⟨tg, iter, ifs, 0⟩] cs cpos) (some (.Name y py)) pos.line X.env = pure true := by rfl) (hf : X.fn y = true ∨ X.env.scope.names.lookup y = some .local := by first | exact .inl rfl | exact .inr rfl | assumption)
    (hs : ∀ x, foldedSetIterable iter X.env x = pure x := by intro _; rfl) : PS X (.Assign [.Name y py] (.ListComp elt [⟨tg, iter, ifs, 0⟩] cs cpos) pos) (tSt K EX d (sF i (vComp N'.length mi mg ta ma))) :=
  (ps_setc S hc hi hg hk ht he hN hy hl hsw hf hs).mono fun D σ H q => by
    have := c_setF (m := vComp N'.length mi mg ta ma) q
    exact c_comp hgt this
theorem q_pifN : PIf X [] (tT K EX yes) := fun pins s σ H Q I q => pif_nil pins s σ H Q I (by obtain ⟨H0, G, ρ, I0, o⟩ := q; exact o true G H (Ext.refl I0.gh) rfl)
theorem q_pif1 {c : Expr} (h : PT X c (tT K EX ta)) : PIf X [c] (tT K EX ta) := pif_one h
theorem q_nil : PSs X [] (tSt K EX d sNx) := pss_nil.mono fun _ _ _ q => c_next q
theorem q_cons (h1 : PS X st (tSt K EX d m)) (h2 : PSs X sts (tSt K EX d n)) : PSs X (st :: sts) (tSt K EX d (mSeq m n)) := (pss_cons h1 h2).mono fun _ _ _ q => c_seq q
theorem q_last (h1 : PS X st (tSt K EX d m)) : PSs X [st] (tSt K EX d m) := pss_one h1
theorem q_frz {i : Nat} (h : PS X st (tSt K EX d m)) : PS X st (tSt K EX d (sFrz i m)) := h.mono fun _ _ _ q => c_frz q
theorem q_ret (he : PE X e (tM K EX d ma)) : PS X (.Return (some e) pos) (tSt K EX d (sRet ma)) := (ps_ret he).mono fun _ _ _ q => c_ret q
theorem q_retv (i : Nat) {x : Str} {p : Pos} (hd : d = .F ∨ d = .V) (hN : X.N[i]? = some x := by rfl) (hv : Vis X.env.scope x := by first | exact Or.inl rfl | exact Or.inr (Or.inl rfl) | exact Or.inr (Or.inr rfl)) (hdd : (x == ("__debug__" : Str)) = false := by decide)
    (hcd : (x == ("__classdict__" : Str)) = false := by decide) : PS X (.Return (some (.Name x p)) pos) (tSt K EX d (mRetVar d i)) := (ps_ret (pe_var hN hv hdd hcd)).mono fun _ _ _ q => c_retVar hd q
theorem q_setV {i : Nat} {x : Str} {pos' : Pos} (hN : X.N.Nodup) (hi : X.N[i]? = some x) (hx : Loc X.env.scope x) (he : PE X e (tM K EX .V ma)) (hs : swapsWith e (some (.Name x pos')) pos.line X.env = pure false := by rfl) (hf : X.fn x = true ∨ X.env.scope.names.lookup x = some .local := by first | exact .inl rfl | exact .inr rfl | assumption) :
    PS X (.Assign [.Name x pos'] e pos) (tSt K EX d (sV i ma)) := (ps_set hN hi hx he hs hf).mono fun _ _ _ q => c_setV q
theorem q_setU {i : Nat} {x : Str} {pos' : Pos} (hN : X.N.Nodup) (hi : X.N[i]? = some x) (hx : Loc X.env.scope x) (he : PE X e (tM K EX .U ma)) (hs : swapsWith e (some (.Name x pos')) pos.line X.env = pure false := by rfl) (hf : X.fn x = true ∨ X.env.scope.names.lookup x = some .local := by first | exact .inl rfl | exact .inr rfl | assumption) :
    PS X (.Assign [.Name x pos'] e pos) (tSt K EX d (sU i ma)) := (ps_set hN hi hx he hs hf).mono fun _ _ _ q => c_setU q
theorem q_setF {i : Nat} {x : Str} {pos' : Pos} (hN : X.N.Nodup) (hi : X.N[i]? = some x) (hx : Loc X.env.scope x) (he : PE X e (tM K EX .F ma)) (hs : swapsWith e (some (.Name x pos')) pos.line X.env = pure false := by rfl) (hf : X.fn x = true ∨ X.env.scope.names.lookup x = some .local := by first | exact .inl rfl | exact .inr rfl | assumption) :
    PS X (.Assign [.Name x pos'] e pos) (tSt K EX d (sF i ma)) := (ps_set hN hi hx he hs hf).mono fun _ _ _ q => c_setF q
theorem q_app {i : Nat} {x : Str} {p apos cpos : Pos} (hN : X.N[i]? = some x) (hv : Vis X.env.scope x) (ha : PE X e (tM K EX .V ma)) (hd : (x == ("__debug__" : Str)) = false := by decide) (hcd : (x == ("__classdict__" : Str)) = false := by decide)
    (hbase : attributeBase (.Name x p) "append" X.env (eval (.Name x p) X.env) = eval (.Name x p) X.env := by rfl)
    (hfew : ((backTo cpos (starEach [e] X.env)).all (fun x => !x.1) && (backToKw cpos (keywordEach [] X.env)).all (fun x => x.1.isSome)
      && decide (([e] : List Expr).length + ([] : List Keyword).length + (if ([] : List Keyword).isEmpty then 0 else 1) < 30)) = true := by rfl)
    (hline : (apos.endLine == cpos.line) = true := by rfl) (hs : starEach [e] X.env = (false, eval e X.env) :: starEach [] X.env := by rfl) (hsw : swapsWith (.Call (.Attribute (.Name x p) "append" apos) [e] [] cpos) none pos.line X.env = pure false := by rfl) :
    PS X (.Expr (.Call (.Attribute (.Name x p) "append" apos) [e] [] cpos) pos) (tSt K EX d (mApp i ma)) := (ps_expr (pe_append (pe_var hN hv hd hcd) ha hbase hfew hline hs) hsw).mono fun _ _ _ q => c_app q
theorem q_if_ {c : Expr} {x y : List Stmt} (hc : PT X c (tT K EX ta)) (ha : PSs X x (tSt K EX d m)) (hb : PSs X y (tSt K EX d n)) : PS X (.If c x y pos) (tSt K EX d (mIf ta m n)) := (ps_if hc ha hb).mono fun _ _ _ q => c_ifS q
theorem q_while {c : Expr} {body : List Stmt} (hp : PassesOwn (model X.prog X.w) X.A X.env X.xe) (hc : PT X c (tT K EX ta)) (hb : PSs X body (tSt K EX d m)) : PS X (.While c body [] pos) (tSt K EX d (mWhile ta m)) := (ps_while hp hc hb).mono fun _ _ _ q => c_while q
theorem q_for {tg iter : Expr} {body : List Stmt} {dd : Mode} {g : TG} {mg : W → Rho → Option Rho} {mi : Rho → R (List W)} (hp : PassesOwn (model X.prog X.w) X.A X.env X.xe) (hc : X.calm = true) (hi : PI X tg iter (tIt K EX true dd mi)) (hg : PG X tg g) (hgt : Gt K dd g mg) (hb : PSs X body (tSt K EX d m))
    (hs : ∀ x, foldedSetIterable iter X.env x = pure x := by intro _; rfl) : PS X (.For tg iter body [] pos) (tSt K EX d (sFor mi mg m)) := (ps_for hp hc hi hg hb hs).mono fun _ _ _ q => c_for hgt q
theorem q_set {i : Nat} {x : Str} {k : Expr} {p p2 : Pos} (hN : X.N[i]? = some x) (hv : Vis X.env.scope x) (hk : PE X k (tM K EX .B mb)) (he : PE X e (tM K EX .V ma)) (hd : (x == ("__debug__" : Str)) = false := by decide) (hcd : (x == ("__classdict__" : Str)) = false := by decide)
    (hg : PG X (.Subscript (.Name x p) k p2) (gSub (tVar i) (tM K EX .B mb) rSetL))
    (hs : swapsWithSole [.Subscript (.Name x p) k p2] e pos.line X.env = pure false := by rfl) (hw : swappedStores [.Subscript (.Name x p) k p2] e X.env = pure none := by rfl) : PS X (.Assign [.Subscript (.Name x p) k p2] e pos) (tSt K EX d (mSet i mb ma)) :=
  (ps_asg he hg hs hw).mono fun _ _ _ q => c_set q
end
end TP
namespace TP
open PySem L2
abbrev gLt (i j : Int) : W := .bl (decide (i < j))
abbrev gLe (i j : Int) : W := .bl (decide (i ≤ j))
abbrev gGt (i j : Int) : W := .bl (decide (j < i))
abbrev gGe (i j : Int) : W := .bl (decide (j ≤ i))
abbrev gAdd (i j : Int) : W := .int (i + j)
abbrev gSub (i j : Int) : W := .int (i - j)
abbrev gMul (i j : Int) : W := .int (i * j)
abbrev gMod (i j : Int) : W := .int (i % j)
abbrev gDiv (i j : Int) : W := .int (i / j)
abbrev gPow (i j : Int) : W := .int (i ^ j.toNat)
abbrev gNeg (i : Int) : W := .int (-i)
abbrev gMax (i j : Int) : Int := if j > i then j else i
abbrev gMin (i j : Int) : Int := if j < i then j else i
abbrev gAdd_ (i j : Int) : Int := i + j
abbrev gSub_ (i j : Int) : Int := i - j
abbrev cMod (_ j : Int) : Prop := 0 < j
instance (i j : Int) : Decidable (CMul i j) := by unfold CMul; infer_instance
instance (i j : Int) : Decidable (CDiv i j) := by unfold CDiv; infer_instance
instance (i j : Int) : Decidable (CPow i j) := by unfold CPow; infer_instance
instance (i j : Int) : Decidable (CPowB i j) := by unfold CPowB; infer_instance
def vOf : W → Option V
  | .non => some .non
  | .bl b => some (.bl b)
  | .int i => some (.int i)
  | .str x => some (.str x)
  | _ => none
def eqSc (u v : W) : Option Bool := match vOf u, vOf v with
  | some x, some y => if scal x y then some (decide (x = y)) else none
  | _, _ => none
def fEqS (neg : Bool) (u v : W) : R W := match eqSc u v with
  | some b => .ok (.bl (if neg then !b else b))
  | none => .stuck
section
variable {K : PySem.W.Frag} {H0 G H : Hp} {ρ : Rho} {σ : St} {d : Mode}
theorem vOf_B {Ha : Hp} {v : V} {w : W} {x : V} (h : Md K H0 Ha G H v w .B) (e : vOf w = some x) : v = x := by
  cases w <;> first | cases e | skip
  · exact h.nonB
  · exact h.blB
  · exact h.intB
  · exact h.strB
theorem o2_eqS : Op2 K .B d rEq (fEqS false) := by
  intro EX H0 Hs G H ρ σ Ha Hb x y u v Q I s mx my o
  unfold fEqS eqSc at o
  cases hu : vOf u with
  | none => rw [hu] at o; exact o.elim
  | some p =>
    cases hv : vOf v with
    | none => rw [hu, hv] at o; exact o.elim
    | some q =>
      rw [hu, hv] at o
      cases vOf_B mx hu
      cases vOf_B my hv
      dsimp only at o
      by_cases c : scal x y = true
      · rw [if_pos c] at o
        exact ⟨c, o _ G H (Ext.refl I.gh) (Md.sca rfl (fun _ => .bl) d)⟩
      · rw [if_neg c] at o; exact o.elim
theorem o2_neS : Op2 K .B d rNe (fEqS true) := by
  intro EX H0 Hs G H ρ σ Ha Hb x y u v Q I s mx my o
  unfold fEqS eqSc at o
  cases hu : vOf u with
  | none => rw [hu] at o; exact o.elim
  | some p =>
    cases hv : vOf v with
    | none => rw [hu, hv] at o; exact o.elim
    | some q =>
      rw [hu, hv] at o
      cases vOf_B mx hu
      cases vOf_B my hv
      dsimp only at o
      by_cases c : scal x y = true
      · rw [if_pos c] at o
        exact ⟨c, o _ G H (Ext.refl I.gh) (Md.sca rfl (fun _ => .bl) d)⟩
      · rw [if_neg c] at o; exact o.elim
end
end TP
set_option Elab.async false
set_option linter.all false
set_option maxRecDepth 100000
namespace TP
open PySem L2
mutual
def pd : W → PyData
  | .non => .none
  | .bl b => .bool b
  | .int i => .int i
  | .str x => .str x
  | .ty _ => .none
  | .tup ws => .tuple (pds ws)
  | .lst ws => .list (pds ws)
  | .scr ws => .list (pds ws)
def pds : List W → List PyData
  | [] => []
  | w :: ws => pd w :: pds ws
end
mutual
def shp : Nat → W → Bool
  | _, .non => true
  | _, .bl _ => true
  | _, .int _ => true
  | _, .str x => PyData.strOk x
  | n + 1, .tup ws => shps n ws
  | n + 1, .lst ws => shps n ws
  | n + 1, .scr ws => shps n ws
  | _, _ => false
def shps : Nat → List W → Bool
  | _, [] => true
  | n, w :: ws => shp n w && shps n ws
end
mutual
theorem shp_ok : ∀ (w : W) (n : Nat), shp n w = true → (pd w).canLay0 = true ∧ (pd w).depth ≤ n
  | .non, n, _ => ⟨rfl, Nat.zero_le _⟩
  | .bl _, n, _ => ⟨rfl, Nat.zero_le _⟩
  | .int _, n, _ => ⟨rfl, Nat.zero_le _⟩
  | .str x, n, h => ⟨by cases n <;> simpa [pd, PyData.canLay0, shp] using h, Nat.zero_le _⟩
  | .ty _, n, h => by cases n <;> simp [shp] at h
  | .tup ws, 0, h => by simp [shp] at h
  | .lst ws, 0, h => by simp [shp] at h
  | .scr ws, 0, h => by simp [shp] at h
  | .tup ws, n + 1, h => by
    have := shps_ok ws n (by simpa [shp] using h)
    exact ⟨by simpa [pd, PyData.canLay0] using this.1, by simpa [pd, PyData.depth] using this.2⟩
  | .lst ws, n + 1, h => by
    have := shps_ok ws n (by simpa [shp] using h)
    exact ⟨by simpa [pd, PyData.canLay0] using this.1, by simpa [pd, PyData.depth] using this.2⟩
  | .scr ws, n + 1, h => by
    have := shps_ok ws n (by simpa [shp] using h)
    exact ⟨by simpa [pd, PyData.canLay0] using this.1, by simpa [pd, PyData.depth] using this.2⟩
theorem shps_ok : ∀ (ws : List W) (n : Nat), shps n ws = true → PyData.canLayAll0 (pds ws) = true ∧ PyData.depthAll (pds ws) ≤ n
  | [], n, _ => ⟨rfl, Nat.zero_le _⟩
  | w :: ws, n, h => by
    have h' : shp n w = true ∧ shps n ws = true := by simpa [shps] using h
    have a := shp_ok w n h'.1
    have b := shps_ok ws n h'.2
    exact ⟨by simp [pds, PyData.canLayAll0, a.1, b.1], by simp only [pds, PyData.depthAll]; exact Nat.max_le.mpr ⟨a.2, b.2⟩⟩
end
section
variable {X : Cx} {pins : List (Addr × Obj)} {σ : St} {H : Hp} {s : Shared}
mutual
theorem Rep.reads (I : Inv X pins σ H s) : ∀ {x : V} {w : W} {u : Value} (n : Nat), Rep X.K H x w → shp n w = true → RelV x u → ∃ as, Reads s.heap u (pd w) as
  | _, _, _, _, .non, _, r => by cases r; exact ⟨_, .none⟩
  | _, _, _, _, .bl, _, r => by cases r; exact ⟨_, .bool _⟩
  | _, _, _, _, .int, _, r => by obtain ⟨t, rfl⟩ := r; exact ⟨_, .int _ _⟩
  | _, _, _, _, .str, _, r => by obtain ⟨t, rfl⟩ := r; exact ⟨_, .str _ _⟩
  | _, _, _, n, .ty, h, _ => by cases n <;> simp [shp] at h
  | _, _, _, 0, .tup _ _, h, _ => by simp [shp] at h
  | _, _, _, 0, .lst _ _, h, _ => by simp [shp] at h
  | _, _, _, 0, .scr _ _, h, _ => by simp [shp] at h
  | _, _, _, n + 1, .tup ha hr, h, r => by
    cases r
    obtain ⟨its, rv, ⟨o, e, c, k, dd⟩, _⟩ := I.tuple (SqT.of ha)
    obtain ⟨as, q⟩ := Reps.reads I n hr (by simpa [shp] using h) rv
    exact ⟨_, .tuple e c dd (by simpa using q)⟩
  | _, _, _, n + 1, .lst ha hr, h, r => by
    cases r
    obtain ⟨its, rv, pl, _⟩ := I.list (SqL.of ha)
    obtain ⟨o, e, c, k, dd⟩ := pl.isList
    obtain ⟨as, q⟩ := Reps.reads I n hr (by simpa [shp] using h) rv
    exact ⟨_, .list e c dd (by simpa using q)⟩
  | _, _, _, n + 1, .scr ha hr, h, r => by
    cases r
    obtain ⟨its, rv, pl, _⟩ := I.list ha
    obtain ⟨o, e, c, k, dd⟩ := pl.isList
    obtain ⟨as, q⟩ := Reps.reads I n hr (by simpa [shp] using h) rv
    exact ⟨_, .list e c dd (by simpa using q)⟩
theorem Reps.reads (I : Inv X pins σ H s) : ∀ {xs : List V} {ws : List W} {us : List Value} (n : Nat), Reps X.K H xs ws → shps n ws = true → Vals xs us → ∃ as, ReadsAll s.heap us (pds ws) as
  | _, _, _, _, .nil, _, .nil => ⟨_, .nil⟩
  | _, _, _, n, .cons (w := w) (ws := ws) h1 h2, h, .cons r1 r2 => by
    have h' : shp n w = true ∧ shps n ws = true := by simpa [shps] using h
    obtain ⟨as, q1⟩ := Rep.reads I n h1 h'.1 r1
    obtain ⟨bs, q2⟩ := Reps.reads I n h2 h'.2 r2
    exact ⟨_, .cons q1 q2⟩
end
def eqW (u v : W) : Bool := PyData.eqv (pd u) (pd v)
def rEqD (K : PySem.W.Frag) (neg : Bool) : R2 := fun x y H Q => ∃ u v, Rep K H x u ∧ Rep K H y v ∧ shp 8 u = true ∧ shp 8 v = true ∧ Q (.bl (if neg then !eqW u v else eqW u v)) H
theorem shaped_of {w : W} (h : shp 8 w = true) : SeqAt.shaped (pd w) = true := by
  obtain ⟨a, b⟩ := shp_ok w 8 h
  unfold SeqAt.shaped
  rw [a, Bool.true_and]
  exact decide_eq_true (Nat.le_trans b (by decide))
theorem op_eqD (hu : X.A.units + 64 < cLine) : OpR X (compareOp .Eq) (rEqD X.K false) := by
  intro pins s σ H x y v u Q I rx ry h
  obtain ⟨a, b, ra, rb, sa, sb, q⟩ := h
  obtain ⟨as, qa⟩ := Rep.reads I 8 ra sa rx
  obtain ⟨bs, qb⟩ := Rep.reads I 8 rb sb ry
  exact PyProof.Rows.eq_dataH qa qb (shaped_of sa) (shaped_of sb) hu ⟨.bl (eqW a b), H, I, rfl, q⟩
theorem op_neD (hu : X.A.units + 64 < cLine) : OpR X (compareOp .NotEq) (rEqD X.K true) := by
  intro pins s σ H x y v u Q I rx ry h
  obtain ⟨a, b, ra, rb, sa, sb, q⟩ := h
  obtain ⟨as, qa⟩ := Rep.reads I 8 ra sa rx
  obtain ⟨bs, qb⟩ := Rep.reads I 8 rb sb ry
  exact PyProof.Rows.ne_dataH qa qb (shaped_of sa) (shaped_of sb) hu ⟨.bl (!eqW a b), H, I, rfl, q⟩
def fEq (neg : Bool) (u v : W) : R W := if shp 8 u && shp 8 v then .ok (.bl (if neg then !eqW u v else eqW u v)) else .stuck
theorem o2_eqD {K : PySem.W.Frag} {d : Mode} {neg : Bool} : Op2 K .B d (rEqD K neg) (fEq neg) := by
  intro EX H0 Hs G H ρ σ Ha Hb x y u v Q I s mx my o
  unfold fEq at o
  by_cases c : (shp 8 u && shp 8 v) = true
  · rw [if_pos c] at o
    have c' : shp 8 u = true ∧ shp 8 v = true := by simpa using c
    exact ⟨u, v, mx.whole I, my.whole I, c'.1, c'.2, o _ G H (Ext.refl I.gh) (Md.sca rfl (fun _ => .bl) d)⟩
  · rw [if_neg c] at o; exact o.elim
def isBW : W → Bool → Bool
  | .bl a, b => a == b
  | _, _ => false
def fIsB (neg : Bool) : W → W → R W
  | u, .bl b => .ok (.bl (if neg then !isBW u b else isBW u b))
  | _, _ => .stuck
end
theorem hu64 {A : Around} {k : Nat} (hr : Room k A) : A.units + 64 < cLine := hr.units
end TP
set_option Elab.async false
set_option linter.all false
set_option maxRecDepth 100000
namespace TP
open PySem L2
section
variable {X : Cx} {pins : List (Addr × Obj)} {σ : St} {H : Hp} {s : Shared}
theorem vals_one {x : V} {us : List Value} (r : Vals [x] us) : ∃ u, us = [u] ∧ RelV x u := by
  cases r with
  | cons a t => cases t; exact ⟨_, rfl, a⟩
theorem keep_push {h' : Heap} {o : Obj} (hk : ∀ b u, b ∉ [s.heap.objs.size] → (s.heap.push o).get? b = some u → h'.get? b = some u) : ∀ b u, s.heap.get? b = some u → h'.get? b = some u := fun b u e =>
  hk b u (by simp; exact Nat.ne_of_lt (Heap.lt_size e)) (Heap.get?_push_of_some _ e)
theorem val_at {α : Type} {f : α → V} {g : α → Value → Prop} (hg : ∀ a u, RelV (f a) u → g a u) {as : List α} {its : List Value} (r : Vals (as.map f) its) {i : Nat} {v : Value} (h : its.toArray[i]? = some v) : ∃ a, as[i]? = some a ∧ g a v := by
  have h' : its[i]? = some v := by simpa using h
  induction as generalizing its i with
  | nil => cases r; simp at h'
  | cons a as ih =>
    cases r with
    | cons q t =>
      cases i with
      | zero => simp at h'; subst h'; exact ⟨a, rfl, hg _ _ q⟩
      | succ i => simpa using ih t (i := i) (by simpa using h') (by simpa using h')
theorem walk_list {p : Addr} {xs : List V} (I : Inv X pins σ H s) (hc : X.calm = true) (hp : H p = some (.lst xs)) : ∃ its : List Value, Vals xs its ∧ s.heap.IsList p its.toArray ∧ xs.length = its.toArray.size ∧ p ≠ s.heap.objs.size ∧
    Walks X.prog X.w X.A.in1 s.heap.objs.size [s.heap.objs.size, p] [s.heap.objs.size] its.toArray.size (fun i v => its.toArray[i]? = some v) (fun i h => h.IsListIter s.heap.objs.size p i ∧ h.IsList p its.toArray) := by
  obtain ⟨its, rv, pl, hz⟩ := I.list (SqL.of hp)
  obtain ⟨o, e, _⟩ := pl.isList
  have hne : p ≠ s.heap.objs.size := Nat.ne_of_lt (Heap.lt_size e)
  exact ⟨its, rv, pl.isList, by rw [List.size_toArray]; exact rv.length, hne, Walks.list (show X.A.in1.handled = none from I.ok.hd hc) _ p hne _⟩
theorem all_range {bs : List Bool} : (List.range bs.length).all (fun i => bs.getD i false) = bs.all id := by
  rw [Bool.eq_iff_iff, List.all_eq_true, List.all_eq_true]
  constructor
  · intro h x hx
    obtain ⟨i, hi, e⟩ := List.mem_iff_getElem.mp hx
    have := h i (by simpa using hi)
    rw [List.getD_eq_getElem?_getD] at this
    simpa [hi, e] using this
  · intro h i hi
    have hi : i < bs.length := by simpa using hi
    rw [List.getD_eq_getElem?_getD]
    simpa [hi] using h bs[i] (List.getElem_mem hi)
theorem any_range {bs : List Bool} : (List.range bs.length).any (fun i => bs.getD i false) = bs.any id := by
  rw [Bool.eq_iff_iff, List.any_eq_true, List.any_eq_true]
  constructor
  · rintro ⟨i, hi, h⟩
    have hi : i < bs.length := by simpa using hi
    rw [List.getD_eq_getElem?_getD] at h
    exact ⟨bs[i], List.getElem_mem hi, by simpa [hi] using h⟩
  · rintro ⟨x, hx, h⟩
    obtain ⟨i, hi, e⟩ := List.mem_iff_getElem.mp hx
    refine ⟨i, by simpa using hi, ?_⟩
    rw [List.getD_eq_getElem?_getD]
    simpa [hi, e] using h
theorem truth_bl {A : Around} {bs : List Bool} {its : List Value} (rv : Vals (bs.map V.bl) its) : TruthOf X.prog X.w A (fun i v => its.toArray[i]? = some v) (fun i => bs.getD i false) := fun i v s' Q' E hv hq => by
  obtain ⟨b, hb, e⟩ := val_at (f := V.bl) (g := fun b u => u = .bool b) (fun b u r => r) rv hv
  subst e
  have : bs.getD i false = b := by rw [List.getD_eq_getElem?_getD, hb]; rfl
  have hq' : Q' (bs.getD i false) s' := hq
  rw [this] at hq'
  exact wpAny_truthy_bool hq'
theorem call_allL (hc : X.calm = true) : CallR X (.builtin "all") (fun xs H Q => ∃ (p : Addr) (bs : List Bool), xs = [.ref p] ∧ H p = some (.lst (bs.map V.bl)) ∧ Q (.bl (bs.all id)) H) := by
  intro pins s σ H xs us Q I r h
  obtain ⟨p, bs, rfl, hp, q⟩ := h
  obtain ⟨u, rfl, rx⟩ := vals_one r
  cases rx
  obtain ⟨its, rv, hl, hlen, hne, Wk⟩ := walk_list I hc hp
  rw [List.length_map] at hlen
  refine call_all_walk (wpAny_pyIter_list hl ⟨_, _, _, _, _, _, _, rfl, Wk, ⟨⟨_, Heap.get?_push_size _ rfl, rfl, rfl⟩, hl.push _⟩, truth_bl rv, fun h' tk hk => ?_⟩)
  rw [← hlen, all_range]
  exact ⟨.bl (bs.all id), H, I.kept (t' := tk) (keep_push hk), rfl, q⟩
theorem call_anyL (hc : X.calm = true) : CallR X (.builtin "any") (fun xs H Q => ∃ (p : Addr) (bs : List Bool), xs = [.ref p] ∧ H p = some (.lst (bs.map V.bl)) ∧ Q (.bl (bs.any id)) H) := by
  intro pins s σ H xs us Q I r h
  obtain ⟨p, bs, rfl, hp, q⟩ := h
  obtain ⟨u, rfl, rx⟩ := vals_one r
  cases rx
  obtain ⟨its, rv, hl, hlen, hne, Wk⟩ := walk_list I hc hp
  rw [List.length_map] at hlen
  refine call_any_walk (wpAny_pyIter_list hl ⟨_, _, _, _, _, _, _, rfl, Wk, ⟨⟨_, Heap.get?_push_size _ rfl, rfl, rfl⟩, hl.push _⟩, truth_bl rv, fun h' tk hk => ?_⟩)
  rw [← hlen, any_range]
  exact ⟨.bl (bs.any id), H, I.kept (t' := tk) (keep_push hk), rfl, q⟩
def blsW : List W → Option (List Bool)
  | [] => some []
  | .bl b :: ws => (blsW ws).map (b :: ·)
  | _ => none
theorem bls_map (bs : List Bool) : blsW (bs.map W.bl) = some bs := by
  induction bs with
  | nil => rfl
  | cons b bs ih => rw [List.map_cons, blsW, ih]; rfl
theorem Reps.bls {K : PySem.W.Frag} {F : Hp} : ∀ {vs : List V} {ws : List W} {bs : List Bool}, Reps K F vs ws → blsW ws = some bs → vs = bs.map V.bl
  | _, _, bs, .nil, h => by cases h; rfl
  | _, _, bs, .cons (w := w) (ws := ws) r t, h => by
    cases w <;> first | cases h | skip
    cases r
    rename_i b
    have h' : (blsW ws).map (b :: ·) = some bs := h
    cases q : blsW ws with
    | none => rw [q] at h'; cases h'
    | some cs => rw [q] at h'; cases h'; rw [Reps.bls t q]; rfl
def fBools (g : List Bool → Bool) : List W → R W
  | [.lst ws] => toR (blsW ws) >>= fun bs => .ok (.bl (g bs))
  | _ => .stuck
theorem b_bools {K : PySem.W.Frag} {d : Mode} {g : List Bool → Bool} : Cal K .B d (fun xs H Q => ∃ (p : Addr) (bs : List Bool), xs = [.ref p] ∧ H p = some (.lst (bs.map V.bl)) ∧ Q (.bl (g bs)) H) (fBools g) := by
  intro EX H0 Hs G H ρ σ Ha vs ws Q I s m o
  unfold fBools at o
  split at o
  · rename_i ws
    cases m with
    | cons a t =>
      cases t
      obtain ⟨p, ys, rfl, hs, r⟩ := a.lstB I
      cases q : blsW ws with
      | none => rw [q] at o; exact o.elim
      | some bs =>
        rw [q] at o
        rw [Reps.bls r q] at hs
        exact ⟨p, bs, rfl, hs, o _ G H (Ext.refl I.gh) (Md.sca rfl (fun _ => .bl) d)⟩
  · exact o.elim
def gAll (bs : List Bool) : Bool := bs.all id
def gAny (bs : List Bool) : Bool := bs.any id
end
theorem bt_all : bootBuiltins "all" = some (.builtin "all") := by decide +kernel
theorem bt_any : bootBuiltins "any" = some (.builtin "any") := by decide +kernel
theorem bt_sum : bootBuiltins "sum" = some (.builtin "sum") := by decide +kernel
section
variable {X : Cx} {K : PySem.W.Frag} {d : Mode}
theorem call_sumL (hc : X.calm = true) : CallR X (.builtin "sum") (fun xs H Q => ∃ (p : Addr) (ns : List Int), xs = [.ref p] ∧ H p = some (.lst (ns.map V.int)) ∧ Q (.int ns.sum) H) := by
  intro pins s σ H xs us Q I r h
  obtain ⟨p, ns, rfl, hp, q⟩ := h
  obtain ⟨u, rfl, rx⟩ := vals_one r
  cases rx
  obtain ⟨its, rv, hl, hlen, hne, Wk⟩ := walk_list I hc hp
  rw [List.length_map] at hlen
  have pre : ∀ (ms : List Int) (k : Nat), k ≤ ms.length → preSum (fun i => ms.getD i 0) k = (ms.take k).sum := by
    intro ms k
    induction k with
    | zero => intro _; simp [preSum]
    | succ k ih =>
      intro hk
      rw [preSum, ih (by omega), List.take_succ_eq_append_getElem (by omega : k < ms.length), List.sum_append]
      have hk' : k < ms.length := by omega
      simp [List.getD_eq_getElem?_getD, hk']
  refine call_sum_walkAnyS (wpAny_pyIter_list hl ⟨_, _, _, _, _, _, _, (fun i => ns.getD i 0), rfl, Wk.toS, ⟨⟨_, Heap.get?_push_size _ rfl, rfl, rfl⟩, hl.push _⟩, fun b hb => ?_, fun i v hv => ?_, fun s' t' mv => ?_⟩)
  · obtain ⟨o, e, _⟩ := id hl
    have hlt := Heap.lt_size e
    simp at hb
    rcases hb with rfl | rfl
    · simp [Heap.push]
    · exact Nat.lt_of_lt_of_le hlt (by simp [Heap.push])
  · obtain ⟨n, hn, t, e⟩ := val_at (f := V.int) (g := fun n u => ∃ t, u = .int n t) (fun b u r => r) rv hv
    refine ⟨t, ?_⟩
    show v = Value.int (ns.getD i 0) t
    rw [e, List.getD_eq_getElem?_getD, hn]; rfl
  · rw [← hlen, pre ns ns.length (Nat.le_refl _), List.take_length]
    obtain ⟨hh, g, dd, tk, os⟩ := s'
    obtain rfl : g = s.gens := mv.gens
    obtain rfl : dd = s.drawn := mv.drawn
    obtain rfl : os = s.os := mv.os
    exact ⟨.int ns.sum, H, I.kept (t' := tk) (keep_push mv.heap), ⟨t', rfl⟩, q⟩
def intsW : List W → Option (List Int)
  | [] => some []
  | .int b :: ws => (intsW ws).map (b :: ·)
  | _ => none
theorem ints_map (bs : List Int) : intsW (bs.map W.int) = some bs := by
  induction bs with
  | nil => rfl
  | cons b bs ih => rw [List.map_cons, intsW, ih]; rfl
theorem Reps.ints {F : Hp} : ∀ {vs : List V} {ws : List W} {bs : List Int}, Reps K F vs ws → intsW ws = some bs → vs = bs.map V.int
  | _, _, bs, .nil, h => by cases h; rfl
  | _, _, bs, .cons (w := w) (ws := ws) r t, h => by
    cases w <;> first | cases h | skip
    cases r
    rename_i b
    have h' : (intsW ws).map (b :: ·) = some bs := h
    cases q : intsW ws with
    | none => rw [q] at h'; cases h'
    | some cs => rw [q] at h'; cases h'; rw [Reps.ints t q]; rfl
def fInts (g : List Int → Int) : List W → R W
  | [.lst ws] => toR (intsW ws) >>= fun bs => .ok (.int (g bs))
  | _ => .stuck
theorem b_ints {g : List Int → Int} : Cal K .B d (fun xs H Q => ∃ (p : Addr) (ns : List Int), xs = [.ref p] ∧ H p = some (.lst (ns.map V.int)) ∧ Q (.int (g ns)) H) (fInts g) := by
  intro EX H0 Hs G H ρ σ Ha vs ws Q I s m o
  unfold fInts at o
  split at o
  · rename_i ws
    cases m with
    | cons a t =>
      cases t
      obtain ⟨p, ys, rfl, hs, r⟩ := a.lstB I
      cases q : intsW ws with
      | none => rw [q] at o; exact o.elim
      | some bs =>
        rw [q] at o
        rw [Reps.ints r q] at hs
        exact ⟨p, bs, rfl, hs, o _ G H (Ext.refl I.gh) (Md.sca rfl (fun _ => .int) d)⟩
  · exact o.elim
def gSum (ns : List Int) : Int := ns.sum
def fAbs : List W → R W
  | [.int i] => .ok (.int (if i < 0 then -i else i))
  | _ => .stuck
def fInt : List W → R W
  | [.int i] => .ok (.int i)
  | [.bl k] => .ok (.int (if k then 1 else 0))
  | _ => .stuck
def fStr : List W → R W
  | [.int i] => if i.natAbs.log2 < 1920 then .ok (.str (toString i)) else .stuck
  | _ => .stuck
end
end TP
namespace TP
open PySem L2
def mExt (i : Nat) (c : Bool) (m : Rho → R W) : Rho → R Fl := fun ρ => match ρ[i]? with
  | some (.own ws) => m ρ >>= fun w => (match w with
    | .lst us => if ws.length + us.length ≤ 1000 then (if c || noLs us then .ok (.nx (ρ.set i (.own (ws ++ us)))) else .stuck) else .stuck
    | _ => .stuck)
  | _ => .stuck
def mRev (i : Nat) : Rho → R Fl := fun ρ => match ρ[i]? with
  | some (.own ws) => .ok (.nx (ρ.set i (.own ws.reverse)))
  | _ => .stuck
section
variable {K : PySem.W.Frag} {EX : EXT} {H0 G H : Hp} {ρ : Rho} {σ : St} {d : Mode} {D : Ends}
end
section
variable {X : Cx} {K : PySem.W.Frag} {EX : EXT} {d : Mode} {e : Expr} {pos : Pos} {ma : Rho → R W}
end
section
variable {X : Cx} {K : PySem.W.Frag} {EX : EXT} {a e tg : Expr} {es : List Expr} {pos : Pos} {ma : Rho → R W} {mr : Rho → R (List W)}
theorem q_iSqB (h : PE X e (tM K EX .B ma)) (hK : X.K = K := by rfl) : PI X tg e (tIt K EX false .U (bS ma)) := q_iSq (lp := false) h hK
theorem q_iSqU (h : PE X e (tM K EX .U ma)) (hK : X.K = K := by rfl) : PI X tg e (tIt K EX true .U (bS ma)) := q_iSq (lp := true) h hK
end
end TP
namespace TP
open PySem L2
section
variable {K : PySem.W.Frag} {EX : EXT} {H0 G H G1 H1 : Hp} {ρ : Rho} {σ : St} {d : Mode} {D : Ends}
theorem c_retVarU {i : Nat} (h : tSt K EX .U (mRetVar .U i) D σ H) : tRet (tVar i) D σ H := by
  obtain ⟨H0, G, ρ, I, o⟩ := h
  unfold mRetVar at o
  by_cases ho : ∃ ws, ρ[i]? = some (.own ws)
  · obtain ⟨ws, e⟩ := ho
    rw [e] at o
    obtain ⟨a, vs, es, ha, hg, h0, r⟩ := I.own_at e
    refine ⟨.ref a, es, ?_⟩
    have s1 : Same G (upd G a (.lst vs)) := fun b o q => by rw [upd_ne (ne_of_none q hg)]; exact q
    refine o _ (upd G a (.lst vs)) H (fun b o q => ?_) I.hh (fun b u q l => ?_) ?_
    · by_cases hb : b = a
      · subst hb; rw [upd_same] at q; cases q; exact ha
      · rw [upd_ne hb] at q; exact I.gh b o q
    · rw [upd_ne (ne_of_none q h0)]; exact I.gl b u q l
    · show Rep K (join H0 (upd G a (.lst vs))) _ _
      rw [join_upd h0]
      exact .lst upd_same ((r.same I.G_join).same fun b u q => by
        by_cases hb : b = a
        · subst hb
          have := I.join_H _ _ q
          rw [ha] at this
          cases this
          rw [upd_same]
        · rw [upd_ne hb]; exact q)
  · have o' : OutS K EX .U H0 G (mVar .U i ρ >>= fun w => .ok (.rt w)) D := by
      revert o
      split
      · rename_i ws e; exact absurd ⟨ws, e⟩ ho
      · exact id
    have c : tRet (tM K EX .U (mVar .U i)) D σ H := c_ret (m := mVar .U i) ⟨H0, G, ρ, I, o'⟩
    exact c_var c
def isOwn : Sl → Bool
  | .own _ => true
  | .dic _ => true
  | .dik _ => true
  | _ => false
def noOwn (ρ : Rho) : Bool := ρ.all fun s => !isOwn s
def sCU (i : Nat) (f : List W → R W) (ma : Rho → R (List W)) : Rho → R Fl := fun ρ => if noOwn ρ then (ma ρ >>= fun ws => f ws >>= fun w => .ok (.nx (ρ.set i (.par w)))) else .stuck
def allBut (H0 H : Hp) : Hp := fun a => match H0 a with
  | some o => if isL o then none else H a
  | none => H a
theorem c_callU {i n : Nat} {f : List W → R W} {E : XK} {ma : Rho → R (List W)} (hf : ∀ ws, f ws ≠ .stuck → ws.length = n) (hE : ∀ e H, EX e H → XE E e H) (h : tSt K EX d (sCU i f ma) D σ H) :
    tAsg (tCall (spM K n .U f) [] E (tA K EX .B ma)) (gName i) D σ H := by
  obtain ⟨H0, G, ρ, I, o⟩ := h
  unfold sCU at o
  by_cases hn : noOwn ρ = true
  · rw [if_pos hn] at o
    have no : ∀ (j : Nat) (ws : List W), ρ[j]? ≠ some (Sl.own ws) := fun j ws e => by
      unfold noOwn at hn
      rw [List.all_eq_true] at hn
      have := hn _ (List.mem_of_getElem? e)
      simp [isOwn] at this
    have no2 : ∀ (j : Nat) (ks : List (List Int)), ρ[j]? ≠ some (Sl.dic ks) := fun j ks e => by
      unfold noOwn at hn
      rw [List.all_eq_true] at hn
      have := hn _ (List.mem_of_getElem? e)
      simp [isOwn] at this
    have no3 : ∀ (j : Nat) (ks : List Int), ρ[j]? ≠ some (Sl.dik ks) := fun j ks e => by
      unfold noOwn at hn
      rw [List.all_eq_true] at hn
      have := hn _ (List.mem_of_getElem? e)
      simp [isOwn] at this
    refine ⟨H0, G, ρ, I, OutS.bind I o fun xs G1 H1 ws e1 m1 o1 => ?_⟩
    have I1 := I.ext e1
    have r := MdA.whole I1 m1
    rw [List.append_nil]
    refine ⟨?_, ws, r, ?_⟩
    · rw [r.length]
      refine hf ws fun z => ?_
      rw [z] at o1; exact o1
    · revert o1
      cases f ws with
      | stuck => exact id
      | ex e => exact fun o1 H' s => hE e H' (o1 H' (I1.hh.trans s))
      | ok w =>
        intro o1 v G' H' sH gH cl md
        have h0' : Same H0 H' := I1.hh.trans sH
        have g1 : ∀ a o, H0 a = some o → isL o = true → allBut H0 H' a = none := fun a o e l => by unfold allBut; rw [e]; dsimp only; rw [if_pos l]
        have g2 : ∀ a, (∀ o, H0 a = some o → isL o = false) → allBut H0 H' a = H' a := fun a e => by
          unfold allBut
          cases q : H0 a with
          | none => rfl
          | some u => dsimp only; rw [e u q]; rfl
        have g3 : Same (allBut H0 H') H' := fun a o q => by
          unfold allBut at q
          cases q0 : H0 a with
          | none => rw [q0] at q; exact q
          | some u =>
            rw [q0] at q
            dsimp only at q
            cases hl : isL u
            · rw [hl] at q; exact q
            · rw [hl] at q; cases q
        have sG : Same G1 (allBut H0 H') := fun b o q => by
          rw [g2]
          · exact sH b o (I1.gh b o q)
          · intro u hu
            cases hl : isL u with
            | false => rfl
            | true => rw [I1.gl b u hu hl] at q; cases q
        have I2 : PIv K H0 (allBut H0 H') ρ σ H' := by
          refine ⟨fun a o e l => ?_, g1, g3, h0', I1.len, fun j x o h1 h2 => ?_, fun p q ws1 us c hab h1 _ _ _ => absurd h1 (no p ws1)⟩
          · rw [g2]
            · exact h0' a o e
            · intro u hu; rw [e] at hu; cases hu; exact l
          · have := I1.sl j x o h1 h2
            cases x with
            | un => trivial
            | val w => obtain ⟨v, e, r⟩ := this; exact ⟨v, e, r.same sG⟩
            | par w => obtain ⟨v, e, r⟩ := this; exact ⟨v, e, r.same (join_same sG)⟩
            | own ws => exact absurd h1 (no j ws)
            | dic ks => exact absurd h1 (no2 j ks)
            | dik ks => exact absurd h1 (no3 j ks)
            | iop p ws => obtain ⟨e1, vs1, h1', r1⟩ := this; exact ⟨e1, vs1, h1', r1.same sG⟩
        have sJ : Same (join H1 G') (join H0 (allBut H0 H')) := fun b o q => by
          have hb : H' b = some o := by
            unfold join at q
            cases q1 : H1 b with
            | none => rw [q1] at q; exact gH b o q
            | some u =>
              rw [q1] at q
              dsimp only at q
              cases hl : isL u
              · rw [hl] at q; exact gH b o q
              · rw [hl] at q; cases q; exact sH b _ q1
          unfold join
          cases q0 : H0 b with
          | none => dsimp only; rw [g2]; exact hb; intro u hu; rw [q0] at hu; cases hu
          | some u =>
            dsimp only
            have hu := h0' b u q0
            rw [hb] at hu
            cases hu
            cases hl : isL o with
            | true => rfl
            | false =>
              show allBut H0 H' b = some o
              rw [g2]
              · exact hb
              · intro u' hu'; rw [q0] at hu'; cases hu'; exact hl
        exact o1 (allBut H0 H') _ H' sG (I2.setU (Rep.same sJ md))
  · rw [if_neg hn] at o; exact o.elim
end
section
variable {X : Cx} {K : PySem.W.Frag} {d : Mode} {e : Expr} {es : List Expr} {pos : Pos} {mr : Rho → R (List W)}
theorem q_retvU (i : Nat) {EX : EXT} {x : Str} {p : Pos} (hN : X.N[i]? = some x := by rfl) (hv : Vis X.env.scope x := by first | exact Or.inl rfl | exact Or.inr (Or.inl rfl) | exact Or.inr (Or.inr rfl)) (hdd : (x == ("__debug__" : Str)) = false := by decide)
    (hcd : (x == ("__classdict__" : Str)) = false := by decide) : PS X (.Return (some (.Name x p)) pos) (tSt K EX .U (mRetVar .U i)) := (ps_ret (pe_var hN hv hdd hcd)).mono fun _ _ _ q => c_retVarU q
theorem q_setCU {i k : Nat} {y : Str} {pos' : Pos} {f : Addr} {fd : FuncData} {ps : List Str} {x : Str} {p cpos : Pos} {n N : Nat} {m : Rho → R Fl} (hN : X.N.Nodup) (hi : X.N[i]? = some y) (hy : Loc X.env.scope y)
    (F : FnOk X.prog X.w X.K X.mg X.base CX0 k f fd ps (spM K n .U (runB n N m))) (hr : Room k X.A) (hg : Gl X x) (hm : X.mg x = some (.ref f)) (hk : PySem.W.keepIn X.K (.ref f) = true) (hb : Binds X.K fd ps [])
    (ha : PA X (e :: es) (tA K (fun _ _ => False) .B mr)) (hdb : (x == ("__debug__" : Str)) = false := by decide) (he : starEach (e :: es) X.env = (false, eval e X.env) :: starEach es X.env := by rfl) (hpl : (backTo cpos (starEach es X.env)).any (·.1) = false := by rfl)
    (hs : swapsWith (.Call (.Name x p) (e :: es) [] cpos) (some (.Name y pos')) pos.line X.env = pure false := by rfl) (hf : X.fn y = true ∨ X.env.scope.names.lookup y = some .local := by first | exact .inl rfl | exact .inr rfl | assumption) :
    PS X (.Assign [.Name y pos'] (.Call (.Name x p) (e :: es) [] cpos) pos) (tSt K (fun _ _ => False) d (sCU i (runB n N m) mr)) :=
  (ps_set hN hi hy (pe_call F hr hg hm hk hb .nil pass0 ha hdb he hpl) hs hf).mono fun _ _ _ q => c_callU (fun ws h => runB_len ws h) (fun _ _ z => z) q
end
theorem c_bodyU {K : PySem.W.Frag} {H : Hp} {n : Nat} {Nl : List Str} {m : Rho → R Fl} {vs : List V} {Q : VK} {E : XK} (h : spM K n .U (runB n Nl.length m) vs H Q E) : tSt K (fun _ _ => False) .U m { nx := fun _ H' => Q .non H', rt := Q } (L2.start Nl vs) H := by
  obtain ⟨hl, ws, r, o⟩ := h
  have hw : ws.length = n := by rw [← r.length]; exact hl
  unfold runB at o
  rw [if_pos hw] at o
  refine ⟨H, noLH H, _, PIv.begin (k := Nl.length - n) r (by rw [hl]), ?_⟩
  revert o
  cases m (ws.map Sl.par ++ List.replicate (Nl.length - n) Sl.un) with
  | stuck => exact id
  | ex e => exact fun o => (o H (Same.refl H)).elim
  | ok f =>
    cases f with
    | nx ρ' => exact fun o G' σ' H' s' I' => o .non G' H' I'.hh I'.gh I'.gl (Md.sca rfl (fun _ => .non) .U)
    | rt w => exact fun o v G' H' s1 s2 c md => o v G' H' s2 s1 c md
    | bk _ => exact fun o => o.elim
    | ct _ => exact fun o => o.elim
end TP
set_option Elab.async false
set_option linter.all false
set_option maxRecDepth 100000
namespace TP
open PySem L2
section
variable {X : Cx} {tg : Expr}
end
def revW : List W → R (List W)
  | [.lst ws] => .ok ws.reverse
  | _ => .stuck
section
variable {K : PySem.W.Frag} {EX : EXT} {H0 G H : Hp} {ρ : Rho} {σ : St}
end
section
variable {X : Cx} {K : PySem.W.Frag} {EX : EXT} {a tg : Expr} {pos : Pos} {mr : Rho → R (List W)}
end
end TP
namespace TP
open PySem L2
def maxL (ns : List Int) : Int := ns.getD (argBest (fun i j => decide (ns.getD j 0 < ns.getD i 0)) (ns.length - 1)) 0
theorem argBest_le (bt : Nat → Nat → Bool) : ∀ k, argBest bt k ≤ k
  | 0 => Nat.le_refl _
  | k + 1 => by
    unfold argBest
    split
    · exact Nat.le_refl _
    · exact Nat.le_succ_of_le (argBest_le bt k)
theorem le_maxL {ns : List Int} : ∀ k, k < ns.length → ns.getD k 0 ≤ maxL ns := by
  have key : ∀ m k, k ≤ m → ns.getD k 0 ≤ ns.getD (argBest (fun i j => decide (ns.getD j 0 < ns.getD i 0)) m) 0 := by
    intro m
    induction m with
    | zero => intro k hk; have : k = 0 := by omega
              subst this; exact Int.le_refl _
    | succ m ih =>
      intro k hk
      unfold argBest
      split
      · rename_i h
        have h := of_decide_eq_true h
        by_cases e : k = m + 1
        · subst e; exact Int.le_refl _
        · have := ih k (by omega); omega
      · rename_i h
        by_cases e : k = m + 1
        · subst e; have : ¬ (ns.getD (argBest (fun i j => decide (ns.getD j 0 < ns.getD i 0)) m) 0 < ns.getD (m + 1) 0) := fun z => h (decide_eq_true z)
          omega
        · exact ih k (by omega)
  intro k hk
  exact key _ k (by omega)
theorem maxL_mem {ns : List Int} (h : 0 < ns.length) : maxL ns ∈ ns := by
  unfold maxL
  have := argBest_le (fun i j => decide (ns.getD j 0 < ns.getD i 0)) (ns.length - 1)
  have hi : argBest (fun i j => decide (ns.getD j 0 < ns.getD i 0)) (ns.length - 1) < ns.length := by omega
  generalize argBest (fun i j => decide (ns.getD j 0 < ns.getD i 0)) (ns.length - 1) = k at hi
  rw [List.getD_eq_getElem?_getD]
  simp [hi]
section
variable {X : Cx} {pins : List (Addr × Obj)} {σ : St} {H : Hp} {s : Shared}
theorem int_at {ns : List Int} {its : List Value} (rv : Vals (ns.map V.int) its) {i : Nat} {v : Value} (h : its.toArray[i]? = some v) : ∃ t, v = .int (ns.getD i 0) t := by
  obtain ⟨n, hn, t, e⟩ := val_at (f := V.int) (g := fun n u => ∃ t, u = .int n t) (fun b u r => r) rv h
  exact ⟨t, by rw [e, List.getD_eq_getElem?_getD, hn]; rfl⟩
theorem cmp_gt {A : Around} {ns : List Int} {its : List Value} (rv : Vals (ns.map V.int) its) : CmpOf X.prog X.w A .Gt (fun i v => its.toArray[i]? = some v) (fun i j => decide (ns.getD j 0 < ns.getD i 0)) := fun i j vi vj s' Q' E hi hj hq => by
  obtain ⟨t, rfl⟩ := int_at rv hi
  obtain ⟨u, rfl⟩ := int_at rv hj
  exact PyProof.Rows.gt_int hq
theorem lt2 {p : Addr} {o : Obj} {u : Obj} (e : s.heap.get? p = some u) : ∀ b ∈ [s.heap.objs.size, p], b < (s.heap.push o).objs.size := fun b hb => by
  have hlt := Heap.lt_size e
  simp at hb
  rcases hb with rfl | rfl
  · simp [Heap.push]
  · exact Nat.lt_of_lt_of_le hlt (by simp [Heap.push])
theorem call_maxQ (hc : X.calm = true) : CallR X (.builtin "max") (fun xs H Q => ∃ (p : Addr) (ns : List Int), xs = [.ref p] ∧ (H p = some (.lst (ns.map V.int)) ∨ H p = some (.tup (ns.map V.int))) ∧ 0 < ns.length ∧ Q (.int (maxL ns)) H) := by
  intro pins s σ H xs us Q I r h
  obtain ⟨p, ns, rfl, hp, hn, q⟩ := h
  obtain ⟨u, rfl, rx⟩ := vals_one r
  cases rx
  have hd : X.A.in1.handled = none := I.ok.hd hc
  rcases hp with hp | hp
  · obtain ⟨its, rv, hl, hlen, hne, Wk⟩ := walk_list I hc hp
    rw [List.length_map] at hlen
    obtain ⟨o, e, _⟩ := id hl
    refine call_max_walk (wpAny_pyIter_list hl ⟨_, _, _, _, _, _, _, rfl, Wk, ⟨⟨_, Heap.get?_push_size _ rfl, rfl, rfl⟩, hl.push _⟩, lt2 e, by omega, cmp_gt rv, fun v h' tk hv hk => ?_⟩)
    obtain ⟨t, rfl⟩ := int_at rv hv
    rw [← hlen]
    exact ⟨.int (maxL ns), H, I.kept (t' := tk) (keep_push hk), ⟨t, rfl⟩, q⟩
  · obtain ⟨its, rv, pl, hz⟩ := I.tuple (SqT.of hp)
    have hlen : ns.length = its.toArray.size := by rw [List.size_toArray, ← rv.length, List.length_map]
    have ht : s.heap.IsTuple p its.toArray := pl
    obtain ⟨o, e, _⟩ := id ht
    have hne : p ≠ s.heap.objs.size := Nat.ne_of_lt (Heap.lt_size e)
    refine call_max_walk (wpAny_pyIter_tuple ht ⟨_, _, _, _, _, _, _, rfl, Walks.tuple hd _ p hne its.toArray, ⟨⟨_, Heap.get?_push_size _ rfl, rfl, rfl⟩, ht.push _⟩, lt2 e, by omega, cmp_gt rv, fun v h' tk hv hk => ?_⟩)
    obtain ⟨t, rfl⟩ := int_at rv hv
    rw [← hlen]
    exact ⟨.int (maxL ns), H, I.kept (t' := tk) (keep_push hk), ⟨t, rfl⟩, q⟩
end
def seqI : W → Option (List Int)
  | .lst ws => intsW ws
  | .tup ws => intsW ws
  | _ => none
def fBest (g : List Int → Int) : List W → R W
  | [w] => toR (seqI w) >>= fun ns => if 0 < ns.length then .ok (.int (g ns)) else .stuck
  | _ => .stuck
theorem b_best {K : PySem.W.Frag} {d : Mode} {g : List Int → Int} : Cal K .B d (fun xs H Q => ∃ (p : Addr) (ns : List Int), xs = [.ref p] ∧ (H p = some (.lst (ns.map V.int)) ∨ H p = some (.tup (ns.map V.int))) ∧ 0 < ns.length ∧ Q (.int (g ns)) H) (fBest g) := by
  intro EX H0 Hs G H ρ σ Ha vs ws Q I s m o
  unfold fBest at o
  split at o
  · rename_i w
    cases m with
    | cons a t =>
      cases t
      cases q : seqI w with
      | none => rw [q] at o; exact o.elim
      | some ns =>
        rw [q] at o
        replace o : Out EX G H (mdW K d H0 Hs) (if 0 < ns.length then R.ok (W.int (g ns)) else .stuck) Q := o
        by_cases hn : 0 < ns.length
        · rw [if_pos hn] at o
          cases w <;> first | cases q | skip
          · obtain ⟨p, ys, rfl, hs, r⟩ := a.tupB I
            rw [Reps.ints r q] at hs
            exact ⟨p, ns, rfl, .inr hs, hn, o _ G H (Ext.refl I.gh) (Md.sca rfl (fun _ => .int) d)⟩
          · obtain ⟨p, ys, rfl, hs, r⟩ := a.lstB I
            rw [Reps.ints r q] at hs
            exact ⟨p, ns, rfl, .inl hs, hn, o _ G H (Ext.refl I.gh) (Md.sca rfl (fun _ => .int) d)⟩
        · rw [if_neg hn] at o; exact o.elim
  · exact o.elim
end TP
set_option Elab.async false
set_option linter.all false
set_option maxRecDepth 100000
namespace HT
open PySem PySem.Spec PyProof.Rows
end HT
namespace TP
open PySem L2 PySem.Spec PyProof.Rows
variable {X : Cx} {K : PySem.W.Frag}
end TP
set_option Elab.async false
set_option linter.all false
set_option maxRecDepth 100000
namespace TP
open PySem PySem.W PyProof.Rows
section
variable (r : Nat → Int)
def runK {α : Type} : KasT α → α
  | .ret a => a
  | .ask i j k => runK (k (decide (r i < r j)))
theorem runK_bind {α β : Type} (f : α → KasT β) : ∀ t : KasT α, runK r (t.bind f) = runK r (f (runK r t))
  | .ret _ => rfl
  | .ask i j k => by
    show runK r ((k _).bind f) = _
    exact runK_bind f _
def ky (p : Array Nat) (k : Nat) : Int := r (p.getD k 0)
theorem ky_of {p q : Array Nat} {k l : Nat} (h : p[k]? = q[l]?) : ky r p k = ky r q l := by
  unfold ky
  have : p.getD k 0 = q.getD l 0 := by rw [Array.getD_eq_getD_getElem?, Array.getD_eq_getD_getElem?, h]
  rw [this]
theorem ky_rev {p : Array Nat} {i j : Nat} (hj : j ≤ p.size) (k : Nat) : ky r (kas_rev p i j) k = if i ≤ k ∧ k < j then ky r p (i + j - 1 - k) else ky r p k := by
  have e := getElem?_mirror_all (i := i) hj k
  unfold kas_rev
  split
  · rename_i h; rw [if_pos h] at e; exact ky_of r e
  · rename_i h; rw [if_neg h] at e; exact ky_of r e
theorem ky_bub {p : Array Nat} {k d : Nat} (hs : k < p.size) (hd : d ≤ k) (i : Nat) : ky r (bubble p k d) i = if i = k - d then ky r p k else if k - d < i ∧ i ≤ k then ky r p (i - 1) else ky r p i := by
  have e := getElem?_bubble hs d hd i
  split
  · rename_i h; rw [if_pos h] at e; exact ky_of r e
  · rename_i h
    rw [if_neg h] at e
    split
    · rename_i h2; rw [if_pos h2] at e; exact ky_of r e
    · rename_i h2; rw [if_neg h2] at e; exact ky_of r e
def up (p : Array Nat) (n : Nat) : Prop := ∀ k, 1 ≤ k → k < n → ky r p (k - 1) ≤ ky r p k
def dn (p : Array Nat) (n : Nat) : Prop := ∀ k, 1 ≤ k → k < n → ky r p k ≤ ky r p (k - 1)
theorem asc_ok (p : Array Nat) : ∀ (f n : Nat), 1 ≤ n → up r p n → n ≤ runK r (kas_asc p f n) ∧ runK r (kas_asc p f n) ≤ n + f ∧ up r p (runK r (kas_asc p f n)) ∧ (runK r (kas_asc p f n) < n + f → ky r p (runK r (kas_asc p f n)) < ky r p (runK r (kas_asc p f n) - 1))
  | 0, n, h1, hu => ⟨Nat.le_refl _, Nat.le_refl _, hu, fun h => absurd h (by show ¬ n < n + 0; omega)⟩
  | f + 1, n, h1, hu => by
    show n ≤ runK r (if decide (ky r p n < ky r p (n - 1)) = true then .ret n else kas_asc p f (n + 1)) ∧ runK r (if decide (ky r p n < ky r p (n - 1)) = true then .ret n else kas_asc p f (n + 1)) ≤ n + (f + 1) ∧ up r p (runK r (if decide (ky r p n < ky r p (n - 1)) = true then .ret n else kas_asc p f (n + 1))) ∧ (runK r (if decide (ky r p n < ky r p (n - 1)) = true then .ret n else kas_asc p f (n + 1)) < n + (f + 1) → ky r p (runK r (if decide (ky r p n < ky r p (n - 1)) = true then .ret n else kas_asc p f (n + 1))) < ky r p (runK r (if decide (ky r p n < ky r p (n - 1)) = true then .ret n else kas_asc p f (n + 1)) - 1))
    by_cases h : ky r p n < ky r p (n - 1)
    · rw [if_pos (decide_eq_true h)]
      exact ⟨Nat.le_refl _, Nat.le_add_right _ _, hu, fun _ => h⟩
    · rw [if_neg (by simpa using h)]
      have ih := asc_ok p f (n + 1) (by omega) fun k hk1 hk2 => by
        by_cases e : k = n
        · subst e; omega
        · exact hu k hk1 (by omega)
      refine ⟨by omega, by omega, ih.2.2.1, fun hlt => ih.2.2.2 (by omega)⟩
theorem desc_ok : ∀ (f : Nat) (p : Array Nat) (n q : Nat), n + f ≤ p.size → q + 1 ≤ n → dn r p n → (∀ k, n - (q + 1) ≤ k → k < n → ky r p k = ky r p (n - 1)) →
    (runK r (kas_desc f p n q)).1.Perm p ∧ n ≤ (runK r (kas_desc f p n q)).2.1 ∧ (runK r (kas_desc f p n q)).2.1 ≤ n + f ∧ (runK r (kas_desc f p n q)).2.2 + 1 ≤ (runK r (kas_desc f p n q)).2.1 ∧ dn r (runK r (kas_desc f p n q)).1 (runK r (kas_desc f p n q)).2.1 ∧
      (∀ k, (runK r (kas_desc f p n q)).2.1 - ((runK r (kas_desc f p n q)).2.2 + 1) ≤ k → k < (runK r (kas_desc f p n q)).2.1 → ky r (runK r (kas_desc f p n q)).1 k = ky r (runK r (kas_desc f p n q)).1 ((runK r (kas_desc f p n q)).2.1 - 1))
  | 0, p, n, q, _, hq, hd, he => ⟨.refl _, Nat.le_refl _, Nat.le_refl _, hq, hd, he⟩
  | f + 1, p, n, q, hz, hq, hd, he => by
    generalize hR : runK r (kas_desc (f + 1) p n q) = R
    have hR' : runK r (if decide (ky r p n < ky r p (n - 1)) = true then (if q > 0 then kas_desc f (kas_rev p (n - (q + 1)) n) (n + 1) 0 else kas_desc f p (n + 1) 0) else .ask (p.getD (n - 1) 0) (p.getD n 0) fun d => if d = true then .ret (p, n, q) else kas_desc f p (n + 1) (q + 1)) = R := hR
    clear hR
    by_cases h : ky r p n < ky r p (n - 1)
    · rw [if_pos (decide_eq_true h)] at hR'
      by_cases hq0 : q > 0
      · rw [if_pos hq0] at hR'
        have key : ∀ k, ky r (kas_rev p (n - (q + 1)) n) k = ky r p k := fun k => by
          rw [ky_rev r (by omega)]
          split
          · rename_i hk; rw [he (n - (q + 1) + n - 1 - k) (by omega) (by omega), he k hk.1 hk.2]
          · rfl
        have hs : (kas_rev p (n - (q + 1)) n).size = p.size := kas_rev_size _ _
        have ih := desc_ok f (kas_rev p (n - (q + 1)) n) (n + 1) 0 (by omega) (by omega) (fun k h1 h2 => by
          rw [key, key]
          by_cases e : k = n
          · subst e; omega
          · exact hd k h1 (by omega)) fun k h1 h2 => by
            have : k = n + 1 - 1 := by omega
            rw [this]
        rw [hR'] at ih
        exact ⟨ih.1.trans (mirror_perm _ _ _ _), by omega, by omega, ih.2.2.2.1, ih.2.2.2.2⟩
      · rw [if_neg hq0] at hR'
        have ih := desc_ok f p (n + 1) 0 (by omega) (by omega) (fun k h1 h2 => by
          by_cases e : k = n
          · subst e; omega
          · exact hd k h1 (by omega)) fun k h1 h2 => by
            have : k = n + 1 - 1 := by omega
            rw [this]
        rw [hR'] at ih
        exact ⟨ih.1, by omega, by omega, ih.2.2.2.1, ih.2.2.2.2⟩
    · rw [if_neg (by simpa using h)] at hR'
      have hR2 : runK r (if decide (ky r p (n - 1) < ky r p n) = true then .ret (p, n, q) else kas_desc f p (n + 1) (q + 1)) = R := hR'
      clear hR'
      by_cases h2 : ky r p (n - 1) < ky r p n
      · rw [if_pos (decide_eq_true h2)] at hR2
        subst hR2
        exact ⟨.refl _, Nat.le_refl _, by show n ≤ n + (f + 1); omega, hq, hd, he⟩
      · rw [if_neg (by simpa using h2)] at hR2
        have ee : ky r p n = ky r p (n - 1) := by omega
        have ih := desc_ok f p (n + 1) (q + 1) (by omega) (by omega) (fun k h1 h2 => by
          by_cases e : k = n
          · subst e; omega
          · exact hd k h1 (by omega)) fun k h1 h2 => by
            show _ = ky r p n
            by_cases e : k = n
            · rw [e]
            · rw [he k (by omega) (by omega), ee]
        rw [hR2] at ih
        exact ⟨ih.1, by omega, by omega, ih.2.2.2.1, ih.2.2.2.2⟩
def cntP (nrem : Nat) (p : Array Nat) (R : Nat × Array Nat) : Prop := R.2.Perm p ∧ R.1 ≤ nrem ∧ up r R.2 R.1
theorem tail3_ok {p : Array Nat} {n nrem : Nat} (h1 : 1 ≤ n) (hn : n ≤ nrem) (hz : nrem ≤ p.size) (hd : dn r p n) : cntP r nrem p (runK r (kas_tail3 n nrem p)) := by
  unfold kas_tail3
  rw [runK_bind]
  have hu : up r (kas_rev p 0 n) n := fun k a b => by
    rw [ky_rev r (by omega), ky_rev r (by omega), if_pos (by omega), if_pos (by omega)]
    have := hd (0 + n - 1 - (k - 1)) (by omega) (by omega)
    have e : 0 + n - 1 - (k - 1) - 1 = 0 + n - 1 - k := by omega
    rw [e] at this
    exact this
  have a := asc_ok r (kas_rev p 0 n) (nrem - n) n h1 hu
  exact ⟨mirror_perm _ _ _ _, by show runK r (kas_asc _ _ _) ≤ nrem; omega, a.2.2.1⟩
theorem descPart_ok {p : Array Nat} {n nrem : Nat} (h1 : 1 ≤ n) (hn : n + 1 ≤ nrem) (hz : nrem ≤ p.size) (hd : dn r p (n + 1)) : cntP r nrem p (runK r (kas_descPart n nrem p)) := by
  unfold kas_descPart
  rw [runK_bind]
  have d := desc_ok r (nrem - (n + 1)) p (n + 1) 0 (by omega) (by omega) hd fun k a b => by
    have : k = n + 1 - 1 := by omega
    rw [this]
  generalize runK r (kas_desc (nrem - (n + 1)) p (n + 1) 0) = R at d
  have hs : R.1.size = p.size := d.1.size_eq
  by_cases hq : R.2.2 > 0
  · rw [if_pos hq]
    have key : ∀ k, ky r (kas_rev R.1 (R.2.1 - (R.2.2 + 1)) R.2.1) k = ky r R.1 k := fun k => by
      rw [ky_rev r (by omega)]
      split
      · rename_i hk; rw [d.2.2.2.2.2 (R.2.1 - (R.2.2 + 1) + R.2.1 - 1 - k) (by omega) (by omega), d.2.2.2.2.2 k hk.1 hk.2]
      · rfl
    have hs2 : (kas_rev R.1 (R.2.1 - (R.2.2 + 1)) R.2.1).size = R.1.size := kas_rev_size _ _
    have t := tail3_ok r (p := kas_rev R.1 (R.2.1 - (R.2.2 + 1)) R.2.1) (n := R.2.1) (nrem := nrem) (by omega) (by omega) (by omega) fun k a b => by rw [key, key]; exact d.2.2.2.2.1 k a b
    exact ⟨(t.1.trans (mirror_perm _ _ _ _)).trans d.1, t.2⟩
  · rw [if_neg hq]
    have t := tail3_ok r (p := R.1) (n := R.2.1) (nrem := nrem) (by omega) (by omega) (by omega) d.2.2.2.2.1
    exact ⟨t.1.trans d.1, t.2⟩
theorem up_all {p : Array Nat} {n : Nat} (h : up r p n) : ∀ j i, i ≤ j → j < n → ky r p i ≤ ky r p j
  | 0, i, a, b => by have : i = 0 := by omega
                     subst this; exact Int.le_refl _
  | j + 1, i, a, b => by
    by_cases e : i = j + 1
    · subst e; exact Int.le_refl _
    · have := up_all h j i (by omega) (by omega)
      have := h (j + 1) (by omega) b
      rw [Nat.add_sub_cancel] at this
      omega
theorem count_ok_ {p : Array Nat} {nrem : Nat} (h2 : 2 ≤ nrem) (hz : nrem ≤ p.size) : cntP r nrem p (runK r (kas_count nrem p)) := by
  unfold kas_count
  rw [runK_bind]
  have a := asc_ok r p (nrem - 1) 1 (by omega) fun k x y => by omega
  generalize runK r (kas_asc p (nrem - 1) 1) = n at a
  by_cases e : n = nrem
  · rw [if_pos (by simpa using e)]
    exact ⟨.refl _, by show n ≤ nrem; omega, a.2.2.1⟩
  · rw [if_neg (by simpa using e)]
    have hlt := a.2.2.2 (by omega)
    by_cases h1 : n > 1
    · rw [if_pos h1]
      show cntP r nrem p (runK r (if decide (ky r p 0 < ky r p (n - 1)) = true then .ret (n, p) else kas_descPart n nrem (kas_rev p 0 n)))
      by_cases h : ky r p 0 < ky r p (n - 1)
      · rw [if_pos (decide_eq_true h)]
        exact ⟨.refl _, by show n ≤ nrem; omega, a.2.2.1⟩
      · rw [if_neg (by simpa using h)]
        have hall : ∀ k, k < n → ky r p k = ky r p 0 := fun k hk => by
          have x := up_all r a.2.2.1 k 0 (by omega) hk
          have y := up_all r a.2.2.1 (n - 1) k (by omega) (by omega)
          omega
        have key : ∀ k, ky r (kas_rev p 0 n) k = ky r p k := fun k => by
          rw [ky_rev r (by omega)]
          split
          · rename_i hk; rw [hall _ (by omega), hall k hk.2]
          · rfl
        have hs : (kas_rev p 0 n).size = p.size := kas_rev_size _ _
        have t := descPart_ok r (p := kas_rev p 0 n) (n := n) (nrem := nrem) (by omega) (by omega) (by omega) fun k x y => by
          rw [key, key]
          by_cases e : k = n
          · subst e; omega
          · rw [hall k (by omega), hall (k - 1) (by omega)]; exact Int.le_refl _
        exact ⟨t.1.trans (mirror_perm _ _ _ _), t.2⟩
    · rw [if_neg h1]
      have hn1 : n = 1 := by omega
      subst hn1
      exact descPart_ok r (by omega) (by omega) hz fun k x y => by
        have : k = 1 := by omega
        subst this; omega
theorem place_ok {p : Array Nat} {k : Nat} (hu : up r p k) : ∀ (f l h : Nat), h - l ≤ f → l ≤ h → h ≤ k → (∀ i, i < l → ky r p i ≤ ky r p k) → (∀ i, h ≤ i → i < k → ky r p k < ky r p i) →
    runK r (kas_place p k f l h) ≤ k ∧ (∀ i, i < runK r (kas_place p k f l h) → ky r p i ≤ ky r p k) ∧ (∀ i, runK r (kas_place p k f l h) ≤ i → i < k → ky r p k < ky r p i)
  | 0, l, h, hf, hl, hk, a, b => ⟨by show l ≤ k; omega, a, fun i x y => b i (by have : l ≤ i := x; omega) y⟩
  | f + 1, l, h, hf, hl, hk, a, b => by
    generalize hR : runK r (kas_place p k (f + 1) l h) = R
    have hR' : runK r (if l ≥ h then .ret l else .ask (p.getD k 0) (p.getD ((l + h) / 2) 0) fun c => if c = true then kas_place p k f l ((l + h) / 2) else kas_place p k f ((l + h) / 2 + 1) h) = R := hR
    clear hR
    by_cases hlh : l ≥ h
    · rw [if_pos hlh] at hR'
      subst hR'
      exact ⟨by show l ≤ k; omega, a, fun i x y => b i (by have : l ≤ i := x; omega) y⟩
    · rw [if_neg hlh] at hR'
      have hR2 : runK r (if decide (ky r p k < ky r p ((l + h) / 2)) = true then kas_place p k f l ((l + h) / 2) else kas_place p k f ((l + h) / 2 + 1) h) = R := hR'
      clear hR'
      by_cases c : ky r p k < ky r p ((l + h) / 2)
      · rw [if_pos (decide_eq_true c)] at hR2
        have ih := place_ok hu f l ((l + h) / 2) (by omega) (by omega) (by omega) a fun i x y => by
          have := up_all r hu i ((l + h) / 2) x y
          omega
        rw [hR2] at ih; exact ih
      · rw [if_neg (by simpa using c)] at hR2
        have ih := place_ok hu f ((l + h) / 2 + 1) h (by omega) (by omega) hk (fun i x => by
          have := up_all r hu ((l + h) / 2) i (by omega) (by omega)
          omega) b
        rw [hR2] at ih; exact ih
theorem bin_ok : ∀ (f : Nat) (p : Array Nat) (k : Nat), 1 ≤ k → k + f ≤ p.size → up r p k → (runK r (kas_bin f p k)).Perm p ∧ up r (runK r (kas_bin f p k)) (k + f)
  | 0, p, k, _, _, hu => ⟨.refl _, hu⟩
  | f + 1, p, k, h1, hz, hu => by
    have pl := place_ok r hu k 0 k (by omega) (by omega) (Nat.le_refl _) (fun i x => absurd x (Nat.not_lt_zero _)) (fun i x y => by omega)
    show (runK r ((kas_place p k k 0 k).bind fun l => kas_bin f (bubble p k (k - l)) (k + 1))).Perm p ∧ up r (runK r ((kas_place p k k 0 k).bind fun l => kas_bin f (bubble p k (k - l)) (k + 1))) (k + (f + 1))
    rw [runK_bind]
    generalize runK r (kas_place p k k 0 k) = l at pl
    have hs : (bubble p k (k - l)).size = p.size := bubble_size _ _ _
    have ih := bin_ok f (bubble p k (k - l)) (k + 1) (by omega) (by omega) fun i x y => by
      rw [ky_bub r (by omega) (by omega), ky_bub r (by omega) (by omega)]
      have el : k - (k - l) = l := by omega
      rw [el]
      by_cases c1 : i = l
      · rw [if_neg (by omega), if_neg (by omega), if_pos c1]
        exact pl.2.1 _ (by omega)
      · rw [if_neg c1]
        by_cases c2 : l < i ∧ i ≤ k
        · rw [if_pos c2]
          by_cases c3 : i - 1 = l
          · rw [if_pos c3]
            have := pl.2.2 (i - 1) (by omega) (by omega)
            omega
          · rw [if_neg c3, if_pos (by omega)]
            exact hu (i - 1) (by omega) (by omega)
        · rw [if_neg c2, if_neg (by omega), if_neg (by omega)]
          exact hu i x (by omega)
    rw [show k + (f + 1) = k + 1 + f by omega]
    exact ⟨ih.1.trans (bubble_perm _ _ _), ih.2⟩
theorem sort_ok {n : Nat} (h2 : 2 ≤ n) : (runK r (kas_sort n)).Perm (List.toArray (List.range n)) ∧ up r (runK r (kas_sort n)) n := by
  unfold kas_sort
  rw [runK_bind]
  have c := count_ok_ r (p := List.toArray (List.range n)) (nrem := n) h2 (by simp)
  generalize runK r (kas_count n (List.toArray (List.range n))) = R at c
  by_cases h : R.1 < n
  · rw [if_pos h]
    have hs : R.2.size = n := by have := c.1.size_eq; simpa using this
    have b := bin_ok r (n - max R.1 1) R.2 (max R.1 1) (by omega) (by omega) fun k x y => c.2.2 k x (by omega)
    rw [show max R.1 1 + (n - max R.1 1) = n by omega] at b
    exact ⟨b.1.trans c.1, b.2⟩
  · rw [if_neg h]
    have : R.1 = n := by have := c.2.1; omega
    have c3 := c.2.2
    rw [this] at c3
    exact ⟨c.1, c3⟩
end
end TP
set_option Elab.async false
set_option linter.all false
set_option maxRecDepth 100000
namespace TP
open PySem L2
section
variable {prog : Program} {w : World} {A : Around} {E : Value → Shared → Prop} {s : Shared}
theorem sub_draws (hh : A.handled = none) (u : Sub) (hne : u.l ≠ u.i) (its : Array Value) :
    Draws prog w A u.i [u.i, u.l] its.size (fun i v => its[i]? = some v) (fun i h => u.At h i ∧ u.Src h its) where
  live := fun _ _ st => by obtain ⟨o, e, _⟩ := st.1.obj; exact ⟨o, e⟩
  frame := fun _ _ _ st hk => ⟨st.1.keep fun o e => hk u.i (by simp) o e, st.2.keep fun o e => hk u.l (by simp) o e⟩
  item := fun i s Q E hi st hQ => Sub.item st.1 st.2 (x := its[i]) (by simp [hi]) fun h' a sb => hQ _ h' s.toks (by simp [hi]) ⟨a, st.2.keep fun o e => sb.extBut _ _ hne e⟩ sb
  done := fun s Q E st hE => Sub.ends hh st.1 st.2 (by simp) hE
theorem meets_enumT (l : Addr) (its : Array Value) (m : Nat) (dct : Option Addr) (sl : Array (Option Value)) :
    Meets (Builtin.«enumerate.__new__» ⟨[.type "enumerate", .ref l], []⟩) (fun _ R s => s.heap.get? l = some { cls := .type "tuple", dict := dct, data := .seq its m, slots := sl } ∧
      R (.ok (.ret (.ref (s.heap.push { cls := .type "tuple_iterator", data := .fields #[.ref l, .int 0 0] }).objs.size)))
        { s with heap := (s.heap.push { cls := .type "tuple_iterator", data := .fields #[.ref l, .int 0 0] }).push { cls := .type "enumerate", data := .fields #[.none, .bool false, .ref s.heap.objs.size, rawInt 0, .none, .none] } }) :=
  .of_wp fun prog w A R s hyp => by
    obtain ⟨hp, g, d, tk, os⟩ := s; obtain ⟨hl, hyp⟩ := hyp
    have hsb := sub_enumerate
    have hT : Heap.IsTuple (Shared.heap ⟨hp, g, d, tk, os⟩) l its := ⟨_, hl, rfl, m, rfl⟩
    wp_walk using AutoSeq1.wpAny_loadPart' hl
    refine wpAny_stack_any fun stk => wpAny_pure ?_
    split
    · rename_i cc _ _ _ _ _
      cases (cc == Value.type "enumerate") <;>
      · wp_walk using AutoSeq1.wpAny_loadPart' hl, wpAny_pyIter_tuple hT
        exact ⟨_, rfl, hyp⟩
    · wp_walk using AutoSeq1.wpAny_loadPart' hl, wpAny_pyIter_tuple hT
      exact ⟨_, rfl, hyp⟩
theorem call_enumT {l : Addr} {its : Array Value} {Q : Value → Shared → Prop} (hL : s.heap.IsTuple l its)
    (hyp : ∀ h', IsEnum h' (s.heap.objs.size + 1) s.heap.objs.size 0 .none → h'.IsTupleIter s.heap.objs.size l 0 → (∀ b o, s.heap.get? b = some o → h'.get? b = some o) → Q (.ref (s.heap.objs.size + 1)) { s with heap := h' }) :
    wpAny (model prog w) A (call (.type "enumerate") [.ref l]) Q E s := by
  obtain ⟨⟨c, dct, dt, sl⟩, hl, hc, m, hd⟩ := hL
  have hc' : c = .type "tuple" := hc; have hd' : dt = .seq its m := hd; subst hc' hd'
  refine callType_new F.called_enumerate (by decide) (F.typeCall_enumerate_1 _) (F.newCall_enumerate_1 _) (fun obj => F.args_object_init_2 obj _) F.entry_enumerate_new (meets_enumT l its m dct sl) ⟨hl, ?_⟩
  generalize hP : s.heap.push { cls := .type "tuple_iterator", data := .fields #[.ref l, .int 0 0] } = P
  have hz : P.objs.size = s.heap.objs.size + 1 := by rw [← hP]; exact Heap.size_push ..
  have hi : P.get? s.heap.objs.size = some { cls := .type "tuple_iterator", data := .fields #[.ref l, .int 0 0] } := by rw [← hP]; exact Heap.get?_push_size _ rfl
  have hk : ∀ b o, s.heap.get? b = some o → P.get? b = some o := fun b o e => by rw [← hP]; exact Heap.get?_push_of_some _ e
  show _ ∧ _
  have en : IsEnum (P.push { cls := .type "enumerate", data := .fields #[.none, .bool false, .ref s.heap.objs.size, rawInt 0, .none, .none] }) (s.heap.objs.size + 1) s.heap.objs.size 0 .none := by rw [← hz]; exact Heap.get?_push_size _ rfl
  rw [hz]
  exact ⟨⟨_, en, rfl⟩, hyp _ en ⟨_, Heap.get?_push_of_some _ hi, rfl, rfl⟩ fun b o e => Heap.get?_push_of_some _ (hk b o e)⟩
theorem call_enum {t : Bool} {l : Addr} {its : Array Value} {Q : Value → Shared → Prop} (hL : SrcAt s.heap (t, l, its))
    (hyp : ∀ h', IsEnum h' (s.heap.objs.size + 1) s.heap.objs.size 0 .none → (L2.Sub.mk t s.heap.objs.size l).At h' 0 → (∀ b o, s.heap.get? b = some o → h'.get? b = some o) → Q (.ref (s.heap.objs.size + 1)) { s with heap := h' }) :
    wpAny (model prog w) A (call (.type "enumerate") [.ref l]) Q E s := by
  unfold SrcAt at hL
  cases t with
  | true => exact call_enumT hL fun h' a b c => hyp h' a (by unfold Sub.At; exact b) c
  | false => exact call_enumerate_list hL fun h' a b _ c => hyp h' a (by unfold Sub.At; exact b) c
end
def ItE (K : PySem.W.Frag) (t : Bool) (a : Addr) : It :=
  ⟨fun i H => ∃ xs x, Sq K H t a xs ∧ xs[i]? = some x,
   fun i H x H' => ∃ p y, x = .ref p ∧ H p = none ∧ H' = upd H p (.tup [.int (i : Int), y]) ∧ ∀ xs, Sq K H t a xs → xs[i]? = some y,
   fun i H => ∃ xs, Sq K H t a xs ∧ xs.length = i⟩
abbrev eTn (e : Addr) (u : Sub) (i : Nat) (h : Heap) : Prop := (∃ old, IsEnum h e u.i (i : Int) old) ∧ u.At h i
theorem turn_enum {P : Program} {w : World} {K : PySem.W.Frag} {elts : List Expr} {k : Nat} {tp : Pos} {e : Addr} {u : Sub} (hne : e ≠ u.i) :
    Turn P w K (.Tuple elts k tp) (ItE K u.t u.l) [e, u.i] e (eTn e u) where
  mem := by simp
  obj := fun i h st b hb => by
    obtain ⟨⟨old, he⟩, ha⟩ := st
    simp only [List.mem_cons, List.not_mem_nil, or_false] at hb
    rcases hb with rfl | rfl
    · exact ⟨_, he, fun v q => by cases q⟩
    · obtain ⟨o, q, d⟩ := ha.obj
      exact ⟨o, q, fun v z => by rw [d] at z; cases z⟩
  keep := fun i h h' st kp => ⟨st.1.imp fun old he => kp e (by simp) _ he, st.2.keep fun o q => kp u.i (by simp) o q⟩
  item := by
    intro X hP hw hK hc i pins s σ H E I hf st hg
    subst hP hw hK
    obtain ⟨⟨old, he⟩, ha⟩ := st
    obtain ⟨xs, x, hq, hx⟩ := hg
    obtain ⟨its, rv, hsrc⟩ := Sq.src I hq
    obtain ⟨v, hv, rx⟩ := rv.get hx
    have fe := hf e (by simp)
    have fi := hf u.i (by simp)
    have hli : u.l ≠ u.i := Sq.ne I hq fi
    have hle : u.l ≠ e := Sq.ne I hq fe
    have hi : i < its.toArray.size := by have := (List.getElem?_eq_some_iff.mp hv).1; simpa using this
    refine wpAny_pyNext_enum_itemD (sub_draws (prog := X.prog) (w := X.w) (show X.A.in1.handled = none from I.ok.hd hc) u hli its.toArray) he ⟨ha, hsrc⟩ hi hne (by simp only [List.mem_cons, List.not_mem_nil, or_false, not_or]; exact ⟨hne, Ne.symm hle⟩) fun y h1 tk hy z1 s1 p1 z2 k1 => ?_
    have ey : y = v := by
      have e1 : its[i]? = some y := by simpa using hy
      rw [hv] at e1; cases e1; rfl
    subst ey
    refine ⟨_, rfl, wpAny_letOwnedTupleGo_enum z1 fun h2 e2 sb2 => ?_⟩
    have hzl : e < s.heap.objs.size := Heap.lt_size he
    have hil : u.i < s.heap.objs.size := by obtain ⟨o, q, _⟩ := ha.obj; exact Heap.lt_size q
    have kp : ∀ b o, b ≠ e → b ≠ u.i → s.heap.get? b = some o → h2.get? b = some o := fun b o b1 b2 q => sb2.extBut _ _ b1 (k1 b o b1 b2 q)
    have hfr : H s.heap.objs.size = none := I.hok.fresh (Nat.le_refl _)
    have trk : ∀ b c, H b = some c → b ≠ e ∧ b ≠ u.i := fun b c q => ⟨fun z => (by subst z; rw [fe.1] at q; cases q), fun z => (by subst z; rw [fi.1] at q; cases q)⟩
    have hP2 : h2.get? s.heap.objs.size = some { cls := .type "tuple", data := .seq #[.int i tk, y] } := sb2.extBut _ _ (Nat.ne_of_gt hzl) p1
    have rel : Vals [.int (i : Int), x] [.int i tk, y] := .cons ⟨tk, rfl⟩ (.cons rx .nil)
    refine ⟨.ref s.heap.objs.size, upd H s.heap.objs.size (.tup [.int (i : Int), x]), ?_, rfl, ⟨_, _, rfl, hfr, rfl, ?_⟩, ⟨⟨y, ?_⟩, ?_⟩, fun b hb => ?_⟩
    · show Inv X pins σ _ { s with heap := h2, toks := tk + 1 }
      refine I.step (g' := s.gens) (t' := tk + 1) (d' := s.drawn) (ch := [e, u.i]) (fun b hb => ?_) (fun b o _ _ hc q _ => kp b o ?_ ?_ q) (fun b o _ _ hc q _ => ⟨o.slots, kp b o ?_ ?_ q⟩) (fun b o hc q n => ?_) (fun b o hc q => ⟨o, kp b o ?_ ?_ q⟩) (fun b ys q => ?_) (fun b o c q => ?_) (fun b ps q => ?_) (fun m hm => ?_) ?_ I.bare
      · simp only [List.mem_cons, List.not_mem_nil, or_false] at hb
        rcases hb with rfl | rfl
        · exact ⟨fe.2.2.2.1, fe.2.1, fe.2.2.2.2.1, fe.2.2.2.2.2⟩
        · exact ⟨fi.2.2.2.1, fi.2.1, fi.2.2.2.2.1, fi.2.2.2.2.2⟩
      all_goals first
        | (intro z; exact hc (by simp [z]; done))
        | skip
      · rw [upd_ne (Nat.ne_of_lt (Heap.lt_size q))]; exact n
      · rw [upd_ne (ne_of_none q hfr)]; exact q
      · rw [upd_ne (ne_of_none q hfr)]; exact q
      · exact ⟨#[], by rw [upd_ne (ne_of_none q hfr), q]; simp⟩
      · obtain ⟨o, es, ep, ho, r⟩ := hm
        exact ⟨o, es, ep, kp _ o (Ne.symm fe.2.1) (Ne.symm fi.2.1) ho, r⟩
      · intro b c q
        by_cases hb : b = s.heap.objs.size
        · subst hb
          rw [upd_same] at q; cases q
          exact ⟨(show 2 ≤ sizeLine by decide), _, rel, ⟨_, hP2, rfl, _, rfl⟩⟩
        · rw [upd_ne hb] at q
          refine (I.hok b c q).stay (fun d v hcc z => ?_) (fun d z => by rw [upd_ne (ne_of_none z hfr)]; exact z) fun d ys z => by rw [upd_ne (ne_of_none z hfr)]; exact z
          rcases hcc with rfl | hcc
          · exact kp _ v (trk _ _ q).1 (trk _ _ q).2 z
          · exact kp _ v (trk _ _ hcc).1 (trk _ _ hcc).2 z
    · intro ys hy2
      rw [Sq.inj I hy2 hq]; exact hx
    · have : ((i + 1 : Nat) : Int) = (i : Int) + 1 := by omega
      rw [this]; exact e2
    · exact s1.1.keep fun o q => sb2.extBut _ _ (Ne.symm hne) q
    · have : b ≠ s.heap.objs.size := by
        simp only [List.mem_cons, List.not_mem_nil, or_false] at hb
        rcases hb with rfl | rfl
        · exact Nat.ne_of_lt hzl
        · exact Nat.ne_of_lt hil
      rw [upd_ne this]
      exact (hf b hb).1
  done := by
    intro X hP hw hK hc i pins s σ H E I hf st hg
    subst hP hw hK
    obtain ⟨⟨old, he⟩, ha⟩ := st
    obtain ⟨xs, hq, hn⟩ := hg
    obtain ⟨its, rv, hsrc⟩ := Sq.src I hq
    have fe := hf e (by simp)
    have fi := hf u.i (by simp)
    have hli : u.l ≠ u.i := Sq.ne I hq fi
    have hsz : its.toArray.size = i := by have := rv.length; simp; omega
    subst hsz
    refine wpAny_pyNext_enum_endD (sub_draws (prog := X.prog) (w := X.w) (show X.A.in1.handled = none from I.ok.hd hc) u hli its.toArray) he ⟨ha, hsrc⟩ fun h' eb => ⟨rfl, ?_⟩
    obtain ⟨f0, f1, f2, f3, f4, f5⟩ := fi
    exact I.turned (t' := s.toks) (fun b o hb q => eb b o hb q) f0 f1 f3 f4 f5
  self := fun A i s Q E st h => by
    obtain ⟨⟨old, he⟩, _⟩ := st
    exact wpAny_pyIter_enum he h
def iEnum (K : PySem.W.Frag) (ta : TA) : TI := fun σ H R => ta σ H fun vs H1 => ∃ t a xs, vs = [.ref a] ∧ Sq K H1 t a xs ∧ R (ItE K t a) H1
theorem bt_enumerate : bootBuiltins "enumerate" = some (.type "enumerate") := by decide +kernel
section
variable {X : Cx}
theorem pi_enum {a : Expr} {elts : List Expr} {ta : TA} {p pos tp : Pos} {k : Nat} (hg : Gl X "enumerate") (hm : X.mg "enumerate" = none) (ha : PA X [a] ta) (hs : starEach [a] X.env = [(false, eval a X.env)] := by rfl) : PI X (.Tuple elts k tp) (.Call (.Name "enumerate" p) [a] [] pos) (iEnum X.K ta) := by
  intro pins s σ H R I h
  refine wpAny_Call_Name_kw (ld_blt I hg hm bt_enumerate ?_ (by decide) (by decide))
  refine PyProof.Rows.callWith_type1 (thn (ha pos pins s σ H _ I h) fun us s1 ⟨vs, H1, I1, r1, t, b, xs, e1, hq, q⟩ => ?_) hs (by rfl)
  subst e1
  obtain ⟨u, rfl, ru⟩ := vals_one r1
  cases ru
  obtain ⟨its, rv, hsrc⟩ := Sq.src I1 hq
  refine call_enum (t := t) (its := its.toArray) (by unfold SrcAt; unfold Sub.Src at hsrc; exact hsrc) fun h' he hA hk => wpAny_pyIter_enum he ?_
  have I2 : Inv X pins σ H1 { s1 with heap := h' } := I1.kept (t' := s1.toks) hk
  have TE := turn_enum (P := X.prog) (w := X.w) (K := X.K) (elts := elts) (k := k) (tp := tp) (e := s1.heap.objs.size + 1) (u := ⟨t, s1.heap.objs.size, b⟩) (neN (by show s1.heap.objs.size + 1 ≠ s1.heap.objs.size; omega))
  refine ⟨_, _, _, _, H1, rfl, I2, TE, ⟨⟨_, he⟩, hA⟩, fun c hc => ?_, q⟩
  have hb' : s1.heap.objs.size ≤ c := by
    simp only [List.mem_cons, List.not_mem_nil, or_false] at hc
    rcases hc with rfl | rfl
    · omega
    · exact Nat.le_refl _
  exact I1.fpOk (H' := H1) hb' (I1.hok.fresh hb')
end
def enuW : List W → R (List W)
  | [w] => match seqW w with
    | .ok xs => .ok (xs.mapIdx fun i x => W.tup [.int (i : Int), x])
    | _ => .stuck
  | _ => .stuck
section
variable {K : PySem.W.Frag} {EX : EXT} {H0 G H : Hp} {ρ : Rho} {σ : St}
theorem itok_enum {e : Mode} {Z : Hp} {t : Bool} {a : Addr} {xs : List V} {us : List W} (he : e = .V ∨ e = .U) (s1 : Sq K Z t a xs) (r1 : Reps K (fz e H0 G) xs us) : ItOk K e H0 Z G (ItE K t a) (us.mapIdx fun i x => W.tup [.int (i : Int), x]) := by
  have l1 := r1.length
  have hq : ∀ H, Same Z H → Sq K H t a xs := fun H z => Sq.same z s1
  refine ⟨fun i H hi z => ?_, fun H z => ⟨xs, hq H z, by rw [List.length_mapIdx, l1]⟩, fun i H x H' w hw z y G2 ρ σ I sg => ?_⟩
  · rw [List.length_mapIdx] at hi
    exact ⟨xs, xs[i]'(by omega), hq H z, by simp⟩
  · obtain ⟨p, y1, rfl, hp, rfl, hy⟩ := y
    obtain ⟨w1, e1, q1⟩ := Reps.get' r1 (hy xs (hq H z))
    have hw' : w = .tup [.int (i : Int), w1] := by
      rw [List.getElem?_mapIdx, e1] at hw
      cases hw; rfl
    subst hw'
    obtain ⟨x1, x2⟩ := rep_new (Hs := H) he I hp (.cons .int (.cons (q1.same (fz_same sg)) .nil))
    exact ⟨_, x1, x2⟩
theorem c_enum {lp : Bool} {e : Mode} {ma : Rho → R (List W)} {Rr : It → Hp → Prop} (he : e = .V ∨ e = .U) (h : tIt K EX lp e (fun ρ => ma ρ >>= enuW) σ H Rr) : iEnum K (tA K EX (srcM lp e) ma) σ H Rr := by
  refine tIt_bind h (fun H0 G ρ G1 H1 xs ws us I e1 m1 q o => ?_) (fun ws e z => ?_)
  · have I1 := I.ext e1
    unfold enuW at q
    split at q
    · rename_i w
      cases hw : seqW w with
      | stuck => rw [hw] at q; cases q
      | ex _ => rw [hw] at q; cases q
      | ok ls =>
        rw [hw] at q
        cases q
        cases m1 with
        | cons a1 m1 =>
          cases m1
          obtain ⟨t1, p1, v1, rfl, q1, r1⟩ := Md.src he I1 a1 hw
          exact ⟨t1, p1, v1, rfl, sq_same (lp_H I1) q1, o _ G1 H1 e1 (itok_enum he q1 r1)⟩
    · cases q
  · unfold enuW at z
    split at z
    · split at z <;> cases z
    · cases z
end
section
variable {X : Cx} {K : PySem.W.Frag} {EX : EXT} {a : Expr} {pos : Pos} {mr : Rho → R (List W)}
theorem q_enuU {elts : List Expr} {p tp : Pos} {k : Nat} (hg : Gl X "enumerate") (hm : X.mg "enumerate" = none) (ha : PA X [a] (tA K EX .U mr)) (hK : X.K = K := by rfl) (hs : starEach [a] X.env = [(false, eval a X.env)] := by rfl) : PI X (.Tuple elts k tp) (.Call (.Name "enumerate" p) [a] [] pos) (tIt K EX true .U (bI enuW mr)) := by
  subst hK; exact (pi_enum hg hm ha hs).mono fun _ _ _ q => c_enum (lp := true) (.inr rfl) q
end
def inW (u : W) : W → Option Bool
  | .tup ws => some ((pds ws).any fun y => PyData.eqv y (pd u))
  | .lst ws => some ((pds ws).any fun y => PyData.eqv y (pd u))
  | .scr ws => some ((pds ws).any fun y => PyData.eqv y (pd u))
  | _ => none
def rIn (K : PySem.W.Frag) (neg : Bool) : R2 := fun x y H Q => ∃ u v b, Rep K H x u ∧ Rep K H y v ∧ shp 8 u = true ∧ shp 8 v = true ∧ inW u v = some b ∧ Q (.bl (if neg then !b else b)) H
section
variable {X : Cx}
theorem op_in (hu : X.A.units + 64 < cLine) : OpR X (compareOp .In) (rIn X.K false) := by
  intro pins s σ H x y v u Q I rx ry h
  obtain ⟨a, c, b, ra, rc, sa, sc, e, q⟩ := h
  obtain ⟨as, qa⟩ := Rep.reads I 8 ra sa rx
  obtain ⟨bs, qb⟩ := Rep.reads I 8 rc sc ry
  have la := shp_ok a 8 sa
  cases c <;> first | (cases e; done) | skip
  all_goals
    rename_i ws
    have lc := shps_ok ws 7 (by simpa [shp] using sc)
    have hm : X.A.units + 1 + min (PyData.depthAll (pds ws)) (pd a).depth < cLine := by have := Nat.min_le_left (PyData.depthAll (pds ws)) (pd a).depth; omega
    cases e
  · exact SeqAt.in_tuple_reads qb qa lc.1 la.1 hm ⟨.bl _, H, I, rfl, q⟩
  · exact SeqAt.in_list_reads qb qa lc.1 la.1 hm ⟨.bl _, H, I, rfl, q⟩
  · exact SeqAt.in_list_reads qb qa lc.1 la.1 hm ⟨.bl _, H, I, rfl, q⟩
theorem op_nin (hu : X.A.units + 64 < cLine) : OpR X (compareOp .NotIn) (rIn X.K true) := by
  intro pins s σ H x y v u Q I rx ry h
  obtain ⟨a, c, b, ra, rc, sa, sc, e, q⟩ := h
  obtain ⟨as, qa⟩ := Rep.reads I 8 ra sa rx
  obtain ⟨bs, qb⟩ := Rep.reads I 8 rc sc ry
  have la := shp_ok a 8 sa
  cases c <;> first | (cases e; done) | skip
  all_goals
    rename_i ws
    have lc := shps_ok ws 7 (by simpa [shp] using sc)
    have hm : X.A.units + 1 + min (PyData.depthAll (pds ws)) (pd a).depth < cLine := by have := Nat.min_le_left (PyData.depthAll (pds ws)) (pd a).depth; omega
    cases e
  · exact SeqAt.notIn_tuple_reads qb qa lc.1 la.1 hm ⟨.bl _, H, I, rfl, q⟩
  · exact SeqAt.notIn_list_reads qb qa lc.1 la.1 hm ⟨.bl _, H, I, rfl, q⟩
  · exact SeqAt.notIn_list_reads qb qa lc.1 la.1 hm ⟨.bl _, H, I, rfl, q⟩
end
def fIn (neg : Bool) (u v : W) : R W := if shp 8 u && shp 8 v then (match inW u v with
  | some b => .ok (.bl (if neg then !b else b))
  | none => .stuck) else .stuck
theorem o2_in {K : PySem.W.Frag} {d : Mode} {neg : Bool} : Op2 K .B d (rIn K neg) (fIn neg) := by
  intro EX H0 Hs G H ρ σ Ha Hb x y u v Q I s mx my o
  unfold fIn at o
  by_cases c : (shp 8 u && shp 8 v) = true
  · rw [if_pos c] at o
    have c' : shp 8 u = true ∧ shp 8 v = true := by simpa using c
    cases hb : inW u v with
    | none => rw [hb] at o; exact o.elim
    | some b =>
      rw [hb] at o
      exact ⟨u, v, b, mx.whole I, my.whole I, c'.1, c'.2, hb, o _ G H (Ext.refl I.gh) (Md.sca rfl (fun _ => .bl) d)⟩
  · rw [if_neg c] at o; exact o.elim
end TP
set_option Elab.async false
set_option linter.all false
set_option maxRecDepth 100000
namespace TP
open PySem L2
def lexLt : List Int → List Int → Bool
  | [], [] => false
  | [], _ :: _ => true
  | _ :: _, [] => false
  | a :: as, b :: bs => if a = b then lexLt as bs else decide (a < b)
theorem lex_irr : ∀ a, lexLt a a = false
  | [] => rfl
  | x :: a => by unfold lexLt; rw [if_pos rfl]; exact lex_irr a
theorem lex_tr : ∀ a b c, lexLt a b = true → lexLt b c = true → lexLt a c = true
  | [], [], _, h, _ => by cases h
  | [], _ :: _, [], _, h => by cases h
  | [], _ :: _, _ :: _, _, _ => rfl
  | _ :: _, [], _, h, _ => by cases h
  | _ :: _, _ :: _, [], _, h => by cases h
  | x :: a, y :: b, z :: c, h1, h2 => by
    unfold lexLt at h1 h2 ⊢
    by_cases e1 : x = y
    · subst e1
      rw [if_pos rfl] at h1
      by_cases e2 : x = z
      · subst e2; rw [if_pos rfl] at h2 ⊢; exact lex_tr a b c h1 h2
      · rw [if_neg e2] at h2 ⊢; exact h2
    · rw [if_neg e1] at h1
      have h1 := of_decide_eq_true h1
      by_cases e2 : y = z
      · subst e2; rw [if_neg e1]; exact decide_eq_true h1
      · rw [if_neg e2] at h2
        have h2 := of_decide_eq_true h2
        rw [if_neg (by omega)]; exact decide_eq_true (by omega)
theorem lex_tot : ∀ a b, lexLt a b = false → lexLt b a = false → a = b
  | [], [], _, _ => rfl
  | [], _ :: _, h, _ => by cases h
  | _ :: _, [], _, h => by cases h
  | x :: a, y :: b, h1, h2 => by
    unfold lexLt at h1 h2
    by_cases e : x = y
    · subst e
      rw [if_pos rfl] at h1 h2
      rw [lex_tot a b h1 h2]
    · rw [if_neg e] at h1
      rw [if_neg (fun z => e z.symm)] at h2
      have h1 := of_decide_eq_false h1
      have h2 := of_decide_eq_false h2
      omega
def rankL (ss : List (List Int)) (i : Nat) : Int := ((ss.countP fun x => lexLt x (ss.getD i [])) : Nat)
theorem cnt_lt {α : Type} {p q : α → Bool} : ∀ {l : List α}, (∀ x ∈ l, p x = true → q x = true) → (∃ x ∈ l, q x = true ∧ p x = false) → l.countP p < l.countP q
  | [], _, ⟨_, h, _⟩ => nomatch h
  | x :: l, h, ⟨y, hy, hq, hp⟩ => by
    have h' : ∀ z ∈ l, p z = true → q z = true := fun z hz => h z (List.mem_cons_of_mem _ hz)
    have le : l.countP p ≤ l.countP q := List.countP_mono_left h'
    rw [List.countP_cons, List.countP_cons]
    rcases List.mem_cons.mp hy with e | hy
    · subst e
      rw [if_pos hq, hp, if_neg Bool.false_ne_true]; omega
    · have := cnt_lt h' ⟨y, hy, hq, hp⟩
      by_cases c : p x = true
      · rw [if_pos c, if_pos (h x List.mem_cons_self c)]; omega
      · rw [if_neg c]; split <;> omega
theorem getD_mem {ss : List (List Int)} {i : Nat} (h : i < ss.length) : ss.getD i [] ∈ ss := by
  rw [List.getD_eq_getElem?_getD]; simp [h]
theorem rank_lt {ss : List (List Int)} {i j : Nat} (hi : i < ss.length) (hj : j < ss.length) : decide (rankL ss i < rankL ss j) = lexLt (ss.getD i []) (ss.getD j []) := by
  cases h : lexLt (ss.getD i []) (ss.getD j []) with
  | true =>
    apply decide_eq_true
    unfold rankL
    have := cnt_lt (l := ss) (p := fun x => lexLt x (ss.getD i [])) (q := fun x => lexLt x (ss.getD j [])) (fun x _ hx => lex_tr _ _ _ hx h) ⟨_, getD_mem hi, h, lex_irr _⟩
    omega
  | false =>
    apply decide_eq_false
    unfold rankL
    have : ss.countP (fun x => lexLt x (ss.getD j [])) ≤ ss.countP fun x => lexLt x (ss.getD i []) := by
      apply List.countP_mono_left
      intro x _ hx
      cases h2 : lexLt (ss.getD j []) (ss.getD i []) with
      | true => exact lex_tr _ _ _ hx h2
      | false => rw [lex_tot _ _ h h2]; exact hx
    omega
def ordL (ss : List (List Int)) : List Nat := if ss.length < 2 then List.range ss.length else (runK (rankL ss) (PySem.W.kas_sort ss.length)).toList
def sortL (ss : List (List Int)) : List (List Int) := (ordL ss).map fun i => ss.getD i []
theorem ord_perm (ss : List (List Int)) : (ordL ss).Perm (List.range ss.length) := by
  unfold ordL
  split
  · exact .refl _
  · rename_i h
    have := (sort_ok (rankL ss) (n := ss.length) (by omega)).1
    exact (Array.perm_iff_toList_perm.mp this).trans (by simp)
theorem range_map (ss : List (List Int)) : (List.range ss.length).map (fun i => ss.getD i []) = ss := by
  apply List.ext_getElem
  · simp
  · intro i h1 h2; simp [h2]
theorem sort_perm (ss : List (List Int)) : (sortL ss).Perm ss := by
  have := (ord_perm ss).map fun i => ss.getD i []
  rw [range_map] at this
  exact this
theorem sort_up (ss : List (List Int)) : (sortL ss).Pairwise fun a b => lexLt b a = false := by
  unfold sortL
  rw [List.pairwise_map]
  unfold ordL
  split
  · rename_i h
    have : ss.length = 0 ∨ ss.length = 1 := by omega
    rcases this with e | e <;> rw [e] <;> simp
  · rename_i h
    have k := sort_ok (rankL ss) (n := ss.length) (by omega)
    have hp := Array.perm_iff_toList_perm.mp k.1
    have hl : (runK (rankL ss) (PySem.W.kas_sort ss.length)).toList.length = ss.length := by have := hp.length_eq; simpa using this
    have hm : ∀ x ∈ (runK (rankL ss) (PySem.W.kas_sort ss.length)).toList, x < ss.length := fun x hx => by have := hp.mem_iff.mp hx; simpa using this
    have hu := up_all (rankL ss) k.2
    generalize runK (rankL ss) (PySem.W.kas_sort ss.length) = p at hl hm hu
    rw [List.pairwise_iff_getElem]
    intro i j hi hj hij
    have := hu j i (by omega) (by omega)
    unfold ky at this
    have ei : p.getD i 0 = p.toList[i] := by rw [Array.getD_eq_getD_getElem?]; simp at hi ⊢; simp [hi]
    have ej : p.getD j 0 = p.toList[j] := by rw [Array.getD_eq_getD_getElem?]; simp at hj ⊢; simp [hj]
    rw [ei, ej] at this
    rw [← rank_lt (hm _ (List.getElem_mem hj)) (hm _ (List.getElem_mem hi))]
    exact decide_eq_false (by omega)
def askP {α : Type} (n : Nat) (P : α → Prop) : PySem.W.KasT α → Prop
  | .ret a => P a
  | .ask i j k => i < n ∧ j < n ∧ ∀ b, askP n P (k b)
theorem ask_bind {α β : Type} {n : Nat} {P : α → Prop} {P' : β → Prop} {f : α → PySem.W.KasT β} : ∀ {t : PySem.W.KasT α}, askP n P t → (∀ a, P a → askP n P' (f a)) → askP n P' (t.bind f)
  | .ret a, h, hf => hf a h
  | .ask i j k, h, hf => ⟨h.1, h.2.1, fun b => ask_bind (h.2.2 b) hf⟩
def allLt (n : Nat) (p : Array Nat) : Prop := ∀ x ∈ p, x < n
theorem allLt.perm {n : Nat} {p q : Array Nat} (h : allLt n p) (hp : q.Perm p) : allLt n q := fun x hx => h x (hp.mem_iff.mp hx)
theorem allLt.at {n : Nat} {p : Array Nat} (h : allLt n p) (h0 : 0 < n) (k : Nat) : p.getD k 0 < n := by
  rw [Array.getD_eq_getD_getElem?]
  cases e : p[k]? with
  | none => exact h0
  | some x => exact h x (Array.mem_of_getElem? e)
section
open PySem.W PyProof.Rows
variable {n : Nat} (h0 : 0 < n)
include h0
theorem ask_asc {p : Array Nat} (h : allLt n p) : ∀ f k, askP n (fun _ => True) (kas_asc p f k)
  | 0, _ => trivial
  | f + 1, k => ⟨h.at h0 _, h.at h0 _, fun b => by cases b <;> first | exact ask_asc h f (k + 1) | trivial⟩
theorem ask_desc : ∀ (f : Nat) (p : Array Nat) (k q : Nat), allLt n p → askP n (fun r : Array Nat × Nat × Nat => allLt n r.1) (kas_desc f p k q)
  | 0, p, k, q, h => h
  | f + 1, p, k, q, h => by
    refine ⟨h.at h0 _, h.at h0 _, fun b => ?_⟩
    cases b with
    | true =>
      dsimp only; rw [if_pos rfl]
      split
      · exact ask_desc f _ _ _ (h.perm (mirror_perm _ _ _ _))
      · exact ask_desc f _ _ _ h
    | false =>
      dsimp only; rw [if_neg Bool.false_ne_true]
      refine ⟨h.at h0 _, h.at h0 _, fun b => ?_⟩
      cases b with
      | true => dsimp only; rw [if_pos rfl]; exact h
      | false => dsimp only; rw [if_neg Bool.false_ne_true]; exact ask_desc f _ _ _ h
theorem ask_tail3 {p : Array Nat} {k m : Nat} (h : allLt n p) : askP n (fun r : Nat × Array Nat => allLt n r.2) (kas_tail3 k m p) :=
  ask_bind (ask_asc h0 (h.perm (mirror_perm _ _ _ _)) _ _) fun _ _ => h.perm (mirror_perm _ _ _ _)
theorem ask_descPart {p : Array Nat} {k m : Nat} (h : allLt n p) : askP n (fun r : Nat × Array Nat => allLt n r.2) (kas_descPart k m p) := by
  refine ask_bind (ask_desc h0 _ _ _ _ h) fun r hr => ?_
  split
  · exact ask_tail3 h0 (hr.perm (mirror_perm _ _ _ _))
  · exact ask_tail3 h0 hr
theorem ask_count {p : Array Nat} {m : Nat} (h : allLt n p) : askP n (fun r : Nat × Array Nat => allLt n r.2) (kas_count m p) := by
  refine ask_bind (ask_asc h0 h _ _) fun r hr => ?_
  split
  · exact h
  · split
    · refine ⟨h.at h0 _, h.at h0 _, fun b => ?_⟩
      cases b with
      | true => dsimp only; rw [if_pos rfl]; exact h
      | false => dsimp only; rw [if_neg Bool.false_ne_true]; exact ask_descPart h0 (h.perm (mirror_perm _ _ _ _))
    · exact ask_descPart h0 h
theorem ask_place {p : Array Nat} {k : Nat} (h : allLt n p) : ∀ f l m, askP n (fun _ => True) (kas_place p k f l m)
  | 0, _, _ => trivial
  | f + 1, l, m => by
    unfold kas_place
    split
    · trivial
    · refine ⟨h.at h0 _, h.at h0 _, fun b => ?_⟩
      cases b with
      | true => dsimp only; rw [if_pos rfl]; exact ask_place h f _ _
      | false => dsimp only; rw [if_neg Bool.false_ne_true]; exact ask_place h f _ _
theorem ask_bin : ∀ (f : Nat) (p : Array Nat) (k : Nat), allLt n p → askP n (fun _ => True) (kas_bin f p k)
  | 0, _, _, _ => trivial
  | f + 1, p, k, h => ask_bind (ask_place h0 h _ _ _) fun l _ => ask_bin f _ _ (h.perm (bubble_perm _ _ _))
theorem ask_sort : askP n (fun _ => True) (kas_sort n) := by
  refine ask_bind (ask_count h0 fun x hx => by simpa using hx) fun r hr => ?_
  split
  · exact ask_bin h0 _ _ _ hr
  · trivial
end
theorem wp_run {n : Nat} {r : Nat → Int} {cmp : Nat → Nat → (Bool → Shared → Prop) → Shared → Prop} {s : Shared} (hc : ∀ i j C, i < n → j < n → C (decide (r i < r j)) s → cmp i j C s) {α : Type} {P : α → Prop} {Q : α → Shared → Prop} :
    ∀ {t : PySem.W.KasT α}, askP n P t → Q (runK r t) s → t.kasWp cmp Q s
  | .ret _, _, h => h
  | .ask i j k, a, h => hc i j _ a.1 a.2.1 (wp_run hc (a.2.2 _) h)
def katL (fin : Bool) : List (Int × Int) → Bool
  | [] => fin
  | (a, b) :: r => if a = b then katL fin r else decide (a < b)
theorem katL_eq : ∀ xs ys : List Int, katL (decide (xs.length < ys.length)) (xs.zip ys) = lexLt xs ys
  | [], [] => rfl
  | [], _ :: _ => by simp [katL, lexLt]
  | _ :: _, [] => by simp [katL, lexLt]
  | x :: xs, y :: ys => by
    have := katL_eq xs ys
    simp only [List.zip_cons_cons, katL, lexLt, List.length_cons, Nat.add_lt_add_iff_right]
    rw [this]
section
open PySem.W PyProof.Rows
variable {prog : Program} {w : World} {A : Around} {E : Value → Shared → Prop} {s : Shared}
theorem lex_wp {fin : Bool} {Q : Bool → Shared → Prop} : ∀ (xs ys : List Int) (us vs : List Value) (i : Nat), Vals (xs.map V.int) us → Vals (ys.map V.int) vs → Q (katL fin (xs.zip ys)) s → KatLex prog w A true fin Q (us.zip vs) i s
  | [], _, _, _, _, .nil, _, h => h
  | _ :: _, [], _, _, _, .cons _ _, .nil, h => h
  | x :: xs, y :: ys, _, _, i, .cons r1 t1, .cons r2 t2, h => by
    obtain ⟨t, rfl⟩ := r1
    obtain ⟨u, rfl⟩ := r2
    refine kat_cons (wpAny_eqBool_int ?_)
    simp only [List.zip_cons_cons, katL] at h
    by_cases e : x = y
    · rw [if_pos e] at h
      rw [show (x == y) = true by simpa using e]
      exact kat_yes (lex_wp xs ys _ _ (i + 1) t1 t2 h)
    · rw [if_neg e] at h
      rw [show (x == y) = false by simpa using e]
      refine kat_no ?_
      cases i with
      | zero => exact oneLt_int h
      | succ i => exact kat_one _ _ (lt_int h)
def TupI (h : Heap) (v : Value) (xs : List Int) : Prop := ∃ (a : Addr) (o : Obj) (its : List Value) (m : Nat), v = .ref a ∧ h.get? a = some o ∧ o.cls = .type "tuple" ∧ o.data = .seq its.toArray m ∧ Vals (xs.map V.int) its
theorem lt_tups {v u : Value} {xs ys : List Int} {Q : Bool → Shared → Prop} (hv : TupI s.heap v xs) (hu : TupI s.heap u ys) (h : Q (lexLt xs ys) s) : wpAny (model prog w) A (keyLt' (tuples' true) v u) Q E s := by
  obtain ⟨a, o, its, m, rfl, ho, _, hd, rv⟩ := hv
  obtain ⟨b, o2, its2, m2, rfl, ho2, _, hd2, rv2⟩ := hu
  refine kat_lt ho hd ho2 hd2 ?_
  have l1 := rv.length
  have l2 := rv2.length
  rw [List.length_map] at l1 l2
  refine lex_wp xs ys _ _ 0 rv rv2 ?_
  simp only [List.size_toArray, ← l1, ← l2]
  rw [katL_eq]; exact h
theorem tup_head {h : Heap} {v : Value} {xs : List Int} (hv : TupI h v xs) (hne : xs ≠ []) : ∃ (a : Addr) (o : Obj) (its : Array Value) (m : Nat) (i : Int) (tk : Tok), v = .ref a ∧ h.get? a = some o ∧ o.cls = .type "tuple" ∧ o.data = .seq its m ∧ its[0]? = some (.int i tk) := by
  obtain ⟨a, o, its, m, e, ho, hc, hd, rv⟩ := hv
  cases xs with
  | nil => exact absurd rfl hne
  | cons x xs =>
    cases its with
    | nil => cases rv
    | cons u its =>
      cases rv with
      | cons r1 _ =>
        obtain ⟨tk, rfl⟩ := r1
        exact ⟨a, o, _, m, x, tk, e, ho, hc, hd, rfl⟩
theorem tups_kat {h : Heap} : ∀ {vs : List Value} {ss : List (List Int)}, Paired (fun v xs => TupI h v xs ∧ xs ≠ []) vs ss → ∃ fs : List Value, KatTups h vs fs ∧ fs.length = ss.length ∧ ∀ f ∈ fs, ∃ i t, f = .int i t
  | _, _, .nil => ⟨[], trivial, rfl, fun _ h => nomatch h⟩
  | _, _, .cons hv t => by
    obtain ⟨fs, k, hl, hi⟩ := tups_kat t
    obtain ⟨a, o, its, m, i, tk, e, ho, hc, hd, h0⟩ := tup_head hv.1 hv.2
    subst e
    refine ⟨.int i tk :: fs, KatTups.cons ho hc hd h0 k, by rw [List.length_cons, List.length_cons, hl], fun f hf => ?_⟩
    rcases List.mem_cons.mp hf with q | hf
    · exact ⟨i, tk, q⟩
    · exact hi f hf
end
theorem paired_get {α β : Type} {F : α → β → Prop} {d : α} : ∀ {as : List α} {bs : List β} {i : Nat}, Paired F as bs → i < as.length → ∃ b, bs[i]? = some b ∧ F (as.getD i d) b
  | _, _, _, .nil, h => absurd h (Nat.not_lt_zero _)
  | _, _, 0, .cons r _, _ => ⟨_, rfl, r⟩
  | _, _, i + 1, .cons _ t, h => by
    obtain ⟨b, e, q⟩ := paired_get (d := d) (i := i) t (by simpa using h)
    exact ⟨b, by simpa using e, by simpa using q⟩
theorem paired_swap {α β γ : Type} {F : α → β → Prop} {G : α → γ → Prop} {R : β → γ → Prop} : ∀ {as : List α} {bs : List β} {cs : List γ}, Paired F as bs → Paired G as cs → (∀ a b c, F a b → G a c → R b c) → Paired R bs cs
  | _, _, _, .nil, .nil, _ => .nil
  | _, _, _, .cons a r, .cons b t, h => .cons (h _ _ _ a b) (paired_swap r t h)
section
open PySem.W PyProof.Rows
variable {prog : Program} {w : World} {A : Around} {E : Value → Shared → Prop} {s : Shared}
def outL {α : Type} (ss : List (List Int)) (d : α) (vs : List α) : List α := (ordL ss).map fun i => vs.getD i d
theorem outL_small {α : Type} {ss : List (List Int)} {d : α} {vs : List α} (hl : vs.length = ss.length) (h : ss.length < 2) : outL ss d vs = vs := by
  unfold outL ordL
  rw [if_pos h, ← hl]
  apply List.ext_getElem
  · simp
  · intro i h1 h2; simp [h2]
theorem outL_len {α : Type} (ss : List (List Int)) (d : α) (vs : List α) : (outL ss d vs).length = ss.length := by
  unfold outL
  rw [List.length_map, (ord_perm ss).length_eq, List.length_range]
theorem sort_call {a : Addr} {vs : List Value} {ss : List (List Int)} {n : Nat} {P : PySem.Fin → Shared → Prop} (ho : s.heap.get? a = some (seqObj "list" vs.toArray n)) (hl : vs.length = ss.length) (h64 : ss.length < 64)
    (ht : ∀ h' : Heap, (∀ b o, b ≠ a → s.heap.get? b = some o → h'.get? b = some o) → Paired (fun v xs => TupI h' v xs ∧ xs ≠ []) vs ss)
    (hyp : P (.done (.ret .none)) { s with heap := sortedHeap s.heap a vs (outL ss Value.none vs).toArray }) : wpAny (model prog w) A (Builtin.«list.sort» ⟨[.ref a], []⟩) P E s := by
  rw [list_sort_plain]; have ha := Heap.lt_size ho
  refine wpAny_bind (listItems_at ho rfl (wpAny_bind (listUpdate_at ho rfl ?_ (by rw [List.size_toArray, sizeLine_eq]; omega) (Nat.zero_le _))))
  obtain ⟨ep, hp⟩ : ∃ ep, (s.heap.update a (Obj.mapSeq fun _ => (#[] : Array Value))).get? a = some (seqObj "list" #[] ep) := ⟨_, get?_update_seq ho fun _ => #[]⟩
  refine wpAny_bind (seqEpoch_at hp rfl (wpAny_bind (wpAny_newTuple (wpAny_bind (wpAny_newList (wpAny_holding ?_) (Nat.zero_le _))) (by show vs.length ≤ _; rw [sizeLine_eq]; omega))))
  generalize hh : ((s.heap.update a (Obj.mapSeq fun _ => (#[] : Array Value))).push (seqObj "tuple" vs.toArray 0)).push (seqObj "list" #[] 0) = h6
  have h6a : h6.get? a = some (seqObj "list" #[] ep) := by rw [← hh]; exact Heap.get?_push_of_some _ (Heap.get?_push_of_some _ hp)
  have h6k : ∀ b o, b ≠ a → s.heap.get? b = some o → h6.get? b = some o := fun b o hb e => by rw [← hh]; exact Heap.get?_push_of_some _ (Heap.get?_push_of_some _ (by rw [Heap.get?_update_ne _ _ _ _ hb]; exact e))
  have hfin : sortedHeap s.heap a vs (outL ss Value.none vs).toArray = h6.update a (Obj.mapSeq fun _ => (outL ss Value.none vs).toArray) := by rw [← hh]; rfl
  rw [hfin] at hyp
  show wpAny (model prog w) A _ P E { s with heap := h6 }
  dsimp only
  have hs0 : vs.toArray.size = vs.length := by simp
  have hz2 : (outL ss Value.none vs).toArray.size ≤ sizeLine + 1 := by rw [List.size_toArray, outL_len, sizeLine_eq]; omega
  by_cases c2 : vs.toArray.size < 2
  · rw [if_pos c2, if_pos c2]
    refine wpAny_bind (wpAny_pure ?_)
    rw [StateT.run_pure]
    refine wpAny_bind (wpAny_pure ?_)
    dsimp only
    have eo : Array.map (fun x => x.snd) (arrOf (SortSt.mk' general' (vs.toArray.zip vs.toArray) #[] 7 none)) = (outL ss Value.none vs).toArray := by
      rw [outL_small hl (by omega)]
      show Array.map (fun x => x.snd) (vs.toArray.zip vs.toArray) = vs.toArray
      apply Array.toList_inj.mp
      rw [Array.toList_map, Array.toList_zip]
      apply List.ext_getElem
      · simp
      · intro i h1 h2; simp
    rw [eo]
    refine wpAny_bind (seqEpoch_at h6a rfl (wpAny_bind (listUpdate_at h6a rfl ?_ (Nat.zero_le _) hz2)))
    simp only [bne_self_eq_false, Bool.false_eq_true, if_false]
    exact wpAny_pure hyp
  · rw [if_neg c2, if_neg c2]
    have tt := ht h6 h6k
    obtain ⟨fs, kt, fl, fi⟩ := tups_kat tt
    refine wpAny_bind (kat_kind (s := { s with heap := h6 }) (T := .type "int") kt (by omega) (fun v hv => ?_) (by decide) ?_)
    · obtain ⟨i, t, rfl⟩ := fi v hv
      exact Looks.of_pure rfl
    have hw : (kas_sort vs.length).kasWp (kas_ask prog w A (tuples' (Value.type "int" != Value.type "tuple")) vs) (fun p s' => s' = { s with heap := h6 } ∧ p.toList = ordL ss) { s with heap := h6 } := by
      refine wp_run (n := vs.length) (r := rankL ss) (fun i j C hi hj hC => ?_) (ask_sort (by omega)) ⟨rfl, ?_⟩
      · obtain ⟨x, hx, tx⟩ := paired_get tt hi
        obtain ⟨y, hy, ty⟩ := paired_get tt hj
        rw [rank_lt (by omega) (by omega)] at hC
        have ex : ss.getD i [] = x := by rw [List.getD_eq_getElem?_getD, hx]; rfl
        have ey : ss.getD j [] = y := by rw [List.getD_eq_getElem?_getD, hy]; rfl
        rw [ex, ey] at hC
        exact lt_tups (s := { s with heap := h6 }) tx.1 ty.1 hC
      · unfold ordL
        rw [if_neg (by omega), hl]
    refine wpAny_bind (wpAny_mono (kat_run (Q := fun st' s' => s' = { s with heap := h6 } ∧ (arrOf st').map (·.2) = (outL ss Value.none vs).toArray ∧ failedOf st' = none) rfl (by omega) (by omega) (fun p st' s' a1 a2 a3 a4 => ⟨a4.1, by rw [kat_snds rfl a2, a4.2]; rfl, a3⟩) hw) ?_ fun _ _ e => e)
    rintro ⟨⟨⟩, st'⟩ s' ⟨rfl, ho', hf'⟩
    dsimp only
    rw [ho']
    refine wpAny_bind (seqEpoch_at h6a rfl (wpAny_bind (listUpdate_at h6a rfl ?_ (Nat.zero_le _) hz2)))
    rw [hf']
    simp only [bne_self_eq_false, Bool.false_eq_true, if_false]
    exact wpAny_pure hyp
theorem sorted_call {l : Addr} {vs : List Value} {ss : List (List Int)} {Q : Value → Shared → Prop} (hL : s.heap.IsList l vs.toArray) (hl : vs.length = ss.length) (h64 : ss.length < 64)
    (ht : Paired (fun v xs => TupI s.heap v xs ∧ xs ≠ []) vs ss) (hyp : Q (.ref (s.heap.objs.size + 1)) { s with heap := sortedAll s.heap vs (outL ss Value.none vs).toArray }) : wpAny (model prog w) A (call (.builtin "sorted") [.ref l]) Q E s := by
  refine Calls.call_function_entry kind_sorted plain_sorted entry_sorted (args_sorted1 _) ?_
  unfold Builtin.«sorted»; refine wpAny_bind (m := checkCount "sorted" 1 1 _) (wpAny_pure (wpAny_bind (collect_list hL (wpAny_bind (wpAny_newList ?_ (by rw [sizeLine_eq]; omega))) (by rw [sizeLine_eq]; omega))))
  generalize hg : (s.heap.push (seqObj "list" #[] 0)).update s.heap.objs.size (Obj.mapSeq (· ++ vs.toArray)) = g
  have gz : g.objs.size = s.heap.objs.size + 1 := by rw [← hg, Heap.size_update, size_push']
  have gk : ∀ b o, s.heap.get? b = some o → g.get? b = some o := fun b o e => by
    have hlt := Heap.lt_size e
    rw [← hg, Heap.get?_update_ne _ _ _ _ (Nat.ne_of_lt hlt)]; exact Heap.get?_push_of_some _ e
  have go : (g.push (seqObj "list" vs.toArray 0)).get? (s.heap.objs.size + 1) = some (seqObj "list" vs.toArray 0) := by rw [← gz]; exact Heap.get?_push_size _ rfl
  have ea : sortedAll s.heap vs (outL ss Value.none vs).toArray = sortedHeap (g.push (seqObj "list" vs.toArray 0)) (s.heap.objs.size + 1) vs (outL ss Value.none vs).toArray := by rw [← hg]; rfl
  rw [ea] at hyp
  show wpAny _ _ _ _ _ { s with heap := g.push (seqObj "list" vs.toArray 0) }
  rw [gz]
  refine wpAny_bind (wpAny_holding (wpAny_call_entry slot_list_sort ⟨_, go, rfl⟩ entry_list_sort (sort_call go hl h64 (fun h' hk => ?_) ⟨_, rfl, wpAny_pure ⟨_, rfl, hyp⟩⟩) (args_list_sort _)))
  refine Paired.mapP ht fun v xs hv => ⟨?_, hv.2⟩
  obtain ⟨a, o, its, m, rfl, h1, h2, h3, h4⟩ := hv.1
  exact ⟨a, o, its, m, rfl, hk a o (Nat.ne_of_lt (Nat.lt_succ_of_lt (Heap.lt_size h1))) (Heap.get?_push_of_some _ (gk a o h1)), h2, h3, h4⟩
end
theorem vals_out {ss : List (List Int)} {ys : List V} {its : List Value} (r : Vals ys its) (hl : ys.length = ss.length) : Vals (outL ss V.non ys) (outL ss Value.none its) := paired_map fun i hi => by
  have hi' : i < ys.length := by have := (ord_perm ss).mem_iff.mp hi; rw [List.mem_range] at this; omega
  obtain ⟨u, e, q⟩ := paired_get (d := V.non) r hi'
  rw [show its.getD i Value.none = u by rw [List.getD_eq_getElem?_getD, e]; rfl]
  exact q
theorem bt_sorted : bootBuiltins "sorted" = some (.builtin "sorted") := by decide +kernel
section
variable {X : Cx} {K : PySem.W.Frag}
theorem call_sortT (hK : X.K = K := by rfl) : CallR X (.builtin "sorted") (fun xs H Q => ∃ p ys ss, xs = [.ref p] ∧ SqL K H p ys ∧ Paired (fun v zs => (∃ a, v = .ref a ∧ SqT K H a (zs.map V.int)) ∧ zs ≠ []) ys ss ∧ ss.length < 64 ∧ ∀ l, H l = none → Q (.ref l) (upd H l (.lst (outL ss V.non ys)))) := by
  subst hK
  intro pins s σ H xs us Q I r h
  obtain ⟨p, ys, ss, rfl, hq, ht, h64, q⟩ := h
  obtain ⟨u, rfl, ru⟩ := vals_one r
  cases ru
  obtain ⟨its, rv, pl, hz⟩ := I.list hq
  have hlen := rv.length
  have hys : ys.length = ss.length := Paired.length ht
  have tt : Paired (fun v xs => TupI s.heap v xs ∧ xs ≠ []) its ss := paired_swap rv ht fun v u zs r1 r2 => by
    obtain ⟨⟨a, rfl, hs⟩, hne⟩ := r2
    cases r1
    obtain ⟨its2, rv2, ⟨o, e, c, k, dd⟩, _⟩ := I.tuple hs
    exact ⟨⟨a, o, its2, k, rfl, e, c, dd, rv2⟩, hne⟩
  refine sorted_call pl.isList (by omega) h64 tt ?_
  obtain ⟨e, he⟩ := PyProof.Rows.sortedAll_at s.heap its (outL ss Value.none its).toArray
  have hle : s.heap.objs.size ≤ s.heap.objs.size + 1 := Nat.le_succ _
  refine ⟨.ref (s.heap.objs.size + 1), _, I.laid (t' := s.toks) (fun b o q => PyProof.Rows.sortedAll_old q) hle (show ObjOk X.prog X.w _ _ _ (.lst (outL ss V.non ys)) from ⟨by rw [outL_len]; exact Nat.le_trans (Nat.le_of_lt h64) (by decide), outL ss Value.none its, e, vals_out rv (by omega), he⟩), rfl, q _ (I.hok.fresh hle)⟩
end
def tupsW : List W → Option (List (List Int))
  | [] => some []
  | .tup ws :: r => match intsW ws, tupsW r with
    | some x, some xs => some (x :: xs)
    | _, _ => none
  | _ => none
theorem tups_map : ∀ ss : List (List Int), tupsW (ss.map fun x => W.tup (x.map W.int)) = some ss
  | [] => rfl
  | x :: ss => by
    show (match intsW (x.map W.int), tupsW (ss.map fun x => W.tup (x.map W.int)) with | some x, some xs => _ | _, _ => _) = _
    rw [ints_map, tups_map ss]
def fSort : List W → R W
  | [w] => match lstOf w with
    | some ws => match tupsW ws with
      | some ss => if ss.length < 64 ∧ ss.all (fun x => !x.isEmpty) = true then .ok (.lst ((sortL ss).map fun x => W.tup (x.map W.int))) else .stuck
      | none => .stuck
    | none => .stuck
  | _ => .stuck
theorem ints_inv : ∀ {ws : List W} {x : List Int}, intsW ws = some x → ws = x.map W.int
  | [], _, h => by cases h; rfl
  | w :: ws, x, h => by
    cases w <;> first | (cases h; done) | skip
    rename_i i
    have h' : (match intsW ws with | some bs => some (i :: bs) | none => none) = some x := by first | exact h | (simp only [intsW] at h; revert h; cases intsW ws <;> simp)
    cases hw : intsW ws with
    | none => rw [hw] at h'; cases h'
    | some bs => rw [hw] at h'; cases h'; rw [ints_inv hw]; rfl
theorem tups_inv : ∀ {ws : List W} {ss : List (List Int)}, tupsW ws = some ss → ws = ss.map fun x => W.tup (x.map W.int)
  | [], _, h => by cases h; rfl
  | w :: r, ss, h => by
    cases w <;> first | (cases h; done) | skip
    rename_i ws
    have h' : (match intsW ws, tupsW r with | some x, some xs => some (x :: xs) | _, _ => none) = some ss := h
    cases h1 : intsW ws with
    | none => rw [h1] at h'; cases h'
    | some x =>
      cases h2 : tupsW r with
      | none => rw [h1, h2] at h'; cases h'
      | some xs => rw [h1, h2] at h'; cases h'; rw [ints_inv h1, tups_inv h2]; rfl
theorem noL_ints' : ∀ ns : List Int, noLs (ns.map W.int) = true
  | [] => rfl
  | n :: ns => by rw [List.map_cons]; simp only [noLs, noL, noL_ints' ns, Bool.and_self]
theorem noL_tups : ∀ ss : List (List Int), noLs (ss.map fun x => W.tup (x.map W.int)) = true
  | [] => rfl
  | x :: ss => by rw [List.map_cons]; simp only [noLs, noL, noL_ints' x, noL_tups ss, Bool.and_self]
section
variable {K : PySem.W.Frag}
theorem reps_tups {F : Hp} : ∀ {ys : List V} {ss : List (List Int)}, Reps K F ys (ss.map fun x => W.tup (x.map W.int)) → (∀ x ∈ ss, x ≠ []) → Paired (fun v zs => (∃ a, v = .ref a ∧ F a = some (.tup (zs.map V.int))) ∧ zs ≠ []) ys ss
  | _, [], .nil, _ => .nil
  | _, x :: ss, .cons r t, hne => by
    refine .cons ⟨?_, hne x List.mem_cons_self⟩ (reps_tups t fun y hy => hne y (List.mem_cons_of_mem _ hy))
    cases r with
    | tup ha hr => exact ⟨_, rfl, by rw [ha, Reps.ints hr (ints_map x)]⟩
theorem reps_at {F : Hp} : ∀ {ys : List V} {ws : List W} {i : Nat}, Reps K F ys ws → i < ys.length → ∃ w, ws[i]? = some w ∧ Rep K F (ys.getD i .non) w
  | _, _, _, .nil, h => absurd h (Nat.not_lt_zero _)
  | _, _, 0, .cons r _, _ => ⟨_, rfl, r⟩
  | _, _, i + 1, .cons _ t, h => by
    obtain ⟨b, e, q⟩ := reps_at (i := i) t (by simpa using h)
    exact ⟨b, by simpa using e, by simpa using q⟩
theorem reps_map {F : Hp} {f : Nat → V} {g : Nat → W} : ∀ {l : List Nat}, (∀ i ∈ l, Rep K F (f i) (g i)) → Reps K F (l.map f) (l.map g)
  | [], _ => .nil
  | _ :: _, h => .cons (h _ List.mem_cons_self) (reps_map fun b hb => h b (List.mem_cons_of_mem _ hb))
theorem reps_out {F : Hp} {ys : List V} {ss : List (List Int)} (r : Reps K F ys (ss.map fun x => W.tup (x.map W.int))) : Reps K F (outL ss V.non ys) ((sortL ss).map fun x => W.tup (x.map W.int)) := by
  have hl := r.length
  rw [List.length_map] at hl
  unfold sortL outL
  rw [List.map_map]
  refine reps_map fun i hi => ?_
  have hi' : i < ss.length := by have := (ord_perm ss).mem_iff.mp hi; rwa [List.mem_range] at this
  obtain ⟨w, e, q⟩ := reps_at (i := i) r (by omega)
  rw [List.getElem?_map] at e
  have : ss[i]? = some (ss.getD i []) := by rw [List.getD_eq_getElem?_getD]; simp [hi']
  rw [this] at e
  cases e
  exact q
theorem b_sort {c : Bool} : Cal K (cb c) .F (fun xs H Q => ∃ p ys ss, xs = [.ref p] ∧ SqL K H p ys ∧ Paired (fun v zs => (∃ a, v = .ref a ∧ SqT K H a (zs.map V.int)) ∧ zs ≠ []) ys ss ∧ ss.length < 64 ∧ ∀ l, H l = none → Q (.ref l) (upd H l (.lst (outL ss V.non ys)))) fSort := by
  intro EX H0 Hs G H ρ σ Ha vs ws Q I s m o
  cases m with
  | nil => exact o.elim
  | cons a t =>
    cases t with
    | cons _ _ => exact o.elim
    | nil =>
      rename_i w v
      unfold fSort at o
      cases hl : lstOf w with
      | none => simp only [hl] at o; exact o.elim
      | some us =>
        simp only [hl] at o
        cases ht : tupsW us with
        | none => simp only [ht] at o; exact o.elim
        | some ss =>
          simp only [ht] at o
          by_cases hc : ss.length < 64 ∧ ss.all (fun x => !x.isEmpty) = true
          · rw [if_pos hc] at o
            obtain ⟨p, ys, rfl, hs, r⟩ := Md.lstOf I a hl
            rw [tups_inv ht] at r
            have hne : ∀ x ∈ ss, x ≠ [] := fun x hx => by
              have := List.all_eq_true.mp hc.2 x hx
              intro e; subst e; simp at this
            have sm : Same (if c then G else join H0 G) H := by
              cases c with
              | true => rw [if_pos rfl]; exact I.gh
              | false => rw [if_neg Bool.false_ne_true]; exact I.join_H
            refine ⟨p, ys, ss, rfl, hs, Paired.mapP (reps_tups r hne) fun v zs h => ⟨?_, h.2⟩, hc.1, Out.chks (EX := EX) (c := c) I s (reps_out r) ?_⟩
            · obtain ⟨b, e, q⟩ := h.1
              exact ⟨b, e, SqT.of (sm _ _ q)⟩
            · have e : TP.chks c ((sortL ss).map fun x => W.tup (x.map W.int)) = .ok (.lst ((sortL ss).map fun x => W.tup (x.map W.int))) := by
                unfold TP.chks
                rw [noL_tups, Bool.or_true, if_pos rfl]
              rw [e]; exact o
          · rw [if_neg hc] at o; exact o.elim
end
end TP
set_option Elab.async false
set_option linter.all false
set_option maxRecDepth 100000
namespace TP
open PySem L2
set_option maxHeartbeats 2000000
theorem tup_add0 (l b : Addr) (its2 : Array Value) (m m2 : Nat) (dd dd2 : Option Addr) (sl sl2 : Array (Option Value)) :
    Meets (Builtin.«tuple.__add__» ⟨[.ref l, .ref b], []⟩) (fun _ R s => s.heap.get? l = some { cls := .type "tuple", dict := dd, data := .seq #[] m, slots := sl } ∧ s.heap.get? b = some { cls := .type "tuple", dict := dd2, data := .seq its2 m2, slots := sl2 } ∧ R (.ok (.ret (.ref b))) s) :=
  .of_wp fun prog w A R s hyp => by
    obtain ⟨hp, g, d, tk, os⟩ := s; obtain ⟨hl, hb, hyp⟩ := hyp; have g1 := AutoSeq1.sub_tuple_tuple
    wp_walk using AutoSeq1.wpAny_loadPart' hl, AutoSeq1.wpAny_loadPart' hb
    exact ⟨_, rfl, hyp⟩
section
variable {X : Cx} {K : PySem.W.Frag}
def rCat3 (K : PySem.W.Frag) : R2 := fun x y H Q => rCatT K x y H Q ∨ ∃ a b ys, x = .ref a ∧ y = .ref b ∧ SqT K H a [] ∧ SqT K H b ys ∧ Q (.ref b) H
theorem op_cat3 (hK : X.K = K := by rfl) : OpR X (binaryOp .Add) (rCat3 K) := by
  subst hK
  intro pins s σ H x y v u Q I rx ry h
  rcases h with h | ⟨a, b, ys, rfl, rfl, ha, hb, q⟩
  · exact op_catT pins s σ H x y v u Q I rx ry h
  · cases rx
    cases ry
    obtain ⟨its, r1, ⟨⟨c1, d1, t1, sl1⟩, o1, hc1, n1, hd1⟩, _⟩ := I.tuple ha
    obtain ⟨its2, r2, ⟨⟨c2, d2, t2, sl2⟩, o2, hc2, n2, hd2⟩, _⟩ := I.tuple hb
    cases r1
    simp only at hc1 hd1 hc2 hd2
    subst hc1 hd1 hc2 hd2
    exact concat_meets ⟨_, o1, rfl⟩ ⟨_, o2, rfl⟩ noFill_tuple_add seq_tuple_add PySem.F.slot_tuple_add PySem.F.entry_tuple_add (PySem.F.args_tuple_add_2 _ _) (tup_add0 a b its2.toArray n1 n2 d1 d2 sl1 sl2) ⟨o1, o2, .ref b, H, I, rfl, q⟩
end
def fCatT : W → W → R W
  | .tup us, .tup vs => if us.length + vs.length ≤ 1000 ∧ noLs us = true ∧ noLs vs = true then .ok (.tup (us ++ vs)) else .stuck
  | _, _ => .stuck
section
variable {K : PySem.W.Frag}
theorem o2_catT : Op2 K .B .F (rCat3 K) fCatT := by
  intro EX H0 Hs G H ρ σ Ha Hb x y u v Q I s mx my o
  cases u <;> cases v <;> first | exact o.elim | skip
  rename_i us vs
  replace o : Out EX G H (mdW K .F H0 Hs) (if us.length + vs.length ≤ 1000 ∧ noLs us = true ∧ noLs vs = true then .ok (.tup (us ++ vs)) else .stuck) Q := o
  by_cases hn : us.length + vs.length ≤ 1000 ∧ noLs us = true ∧ noLs vs = true
  · rw [if_pos hn] at o
    obtain ⟨hz, n1, n2⟩ := hn
    rcases mx with mx | ⟨_, _, _, _, e2, _⟩
    · rcases my with my | ⟨_, _, _, _, e2, _⟩
      · have cx := Rep.clean I mx (by simpa [noL] using n1)
        have cy := Rep.clean I my (by simpa [noL] using n2)
        cases cx with
        | tup ha ra =>
          cases cy with
          | tup hb rb =>
            have l1 := ra.length
            have l2 := rb.length
            by_cases he : us = []
            · subst he
              cases ra
              exact .inr ⟨_, _, _, rfl, rfl, SqT.of (I.gh _ _ ha), SqT.of (I.gh _ _ hb), o _ G H (Ext.refl I.gh) (.tup hb rb)⟩
            · refine .inl ⟨_, _, _, _, rfl, rfl, SqT.of (I.gh _ _ ha), SqT.of (I.gh _ _ hb), fun z => ?_, by rw [l1, l2]; exact le_line hz, fun z => ?_, fun _ p hp => ?_⟩
              · subst z; cases ra; exact he rfl
              · subst z
                cases rb
                rw [List.append_nil] at o
                exact o _ G H (Ext.refl I.gh) (.tup ha ra)
              · exact Out.newTF I (ra.append rb) hp o
      · cases e2
    · cases e2
  · rw [if_neg hn] at o; exact o.elim
end
end TP
set_option Elab.async false
set_option linter.all false
set_option maxRecDepth 100000
namespace L2
open PySem PySem.Spec PyProof.Rows
section
variable {X : Cx} {pins : List (Addr × Obj)} {σ : St} {H : Hp} {s : Shared} {A : Around} {E : Value → Shared → Prop} {Q : Value → Shared → Prop} {b : Bool}
end
end L2
namespace TP
open PySem L2
section
variable {K : PySem.W.Frag} {d : Mode}
end
end TP
set_option Elab.async false
set_option linter.all false
set_option maxRecDepth 100000
namespace HT
open PySem PyProof.Rows
section
variable {prog : Program} {w : World} {A : Around} {E : Value → Shared → Prop} {s : Shared}
end
end HT
namespace TP
open PySem L2
section
variable {X : Cx}
end
section
variable {K : PySem.W.Frag} {EX : EXT} {H0 G H : Hp} {ρ : Rho} {σ : St} {Q : VK}
end
section
variable {X : Cx} {K : PySem.W.Frag} {EX : EXT} {e : Expr} {pos : Pos} {ma : Rho → R W}
end
end TP
set_option Elab.async false
set_option linter.all false
set_option maxRecDepth 100000
namespace TP
open PySem L2
section
variable {K : PySem.W.Frag} {EX : EXT} {H0 G H G1 H1 F : Hp} {ρ : Rho} {σ : St} {d : Mode} {D : Ends}
end
section
variable {X : Cx} {K : PySem.W.Frag} {EX : EXT} {d : Mode} {e k v : Expr} {pos : Pos} {mk me : Rho → R W}
end
end TP
namespace TP
open PySem L2
set_option maxHeartbeats 2000000
section
variable {X : Cx} {K : PySem.W.Frag}
end
section
variable {K : PySem.W.Frag}
end
end TP
namespace TP
open PySem L2
section
variable {X : Cx} {K : PySem.W.Frag} {EX : EXT} {d : Mode} {p : Pos} {es : List Expr} {mr : Rho → R (List W)}
theorem q_aint {i j} (hr : PA X es (tA K EX d mr)) : PA X (.Constant (.int i) j p :: es) (tA K EX d (aC (mC (.int i)) mr)) := q_acons q_int hr (by rfl)
theorem q_lit8 {a0 a1 a2 a3 a4 a5 a6 a7} {u0 u1 u2 u3 u4 u5 u6 u7} {p0 p1 p2 p3 p4 p5 p6 p7 : Pos} {pos : Pos} : PE X (.List [.Constant (.int a0) u0 p0, .Constant (.int a1) u1 p1, .Constant (.int a2) u2 p2, .Constant (.int a3) u3 p3, .Constant (.int a4) u4 p4, .Constant (.int a5) u5 p5, .Constant (.int a6) u6 p6, .Constant (.int a7) u7 p7] pos) (tM K EX .F (vLst (aC (mC (.int a0)) (aC (mC (.int a1)) (aC (mC (.int a2)) (aC (mC (.int a3)) (aC (mC (.int a4)) (aC (mC (.int a5)) (aC (mC (.int a6)) (aC (mC (.int a7)) aN)))))))))) := by
  refine q_lst ?_
  refine q_aint ?_
  refine q_aint ?_
  refine q_aint ?_
  refine q_aint ?_
  refine q_aint ?_
  refine q_aint ?_
  refine q_aint ?_
  refine q_aint ?_
  exact q_anil
end
end TP
set_option Elab.async false
set_option linter.all false
set_option maxRecDepth 100000
namespace TB
open PySem PySem.W
theorem bits_of {ns : List Int} (h : WData.layableAll [WData.list (ns.map WData.int)] = true) : ∀ x ∈ ns, Builtin.Int.intBits x ≤ 1048576 := fun x hx => by
  have h1 : (WData.list (ns.map WData.int)).layable = true := by simpa [WData.layableAll] using h
  have h2 : (WData.list (ns.map WData.int)).weight ≤ 2 ^ 20 := (layableW_iff.mp h1).2.2
  have key : ∀ ms : List Int, x ∈ ms → Builtin.Int.intBits x ≤ WData.weightAll (ms.map WData.int) := by
    intro ms
    induction ms with
    | nil => intro z; cases z
    | cons m ms ih =>
      intro z
      rw [List.map_cons]
      show _ ≤ WData.weight (.int m) + 1 + WData.weightAll (ms.map WData.int)
      rcases List.mem_cons.mp z with e | e
      · subst e
        have : WData.weight (.int x) = Builtin.Int.intBits x := by rfl
        omega
      · have := ih e
        omega
  exact Nat.le_trans (key ns hx) (by simpa [WData.weight] using h2)
end TB
namespace Att
open PySem PySem.W PySem.Calls PyProof.Rows
theorem attach_callB {l : OpenLaw} {n : Nat} {q : Program} {loose : List Str} {XP : (Str → Option Value) → Heap → Prop} {YP : World → Heap → Prop} {d : DefRec}
    (hn : l.most = some n) (hdf : d.params.defaults = [])
    (call : ∀ (w : World) (s₀ s₁ : Shared) (mg mb : Str → Option Value) (fa : Addr) (o : Obj) (pm cd doc : Value) (a : Addr) (vs : List Value) (ns : List Int),
      Ground q loose [] XP w s₀ mg mb s₁.heap → YP w s₁.heap →
      s₁.heap.get? fa = some o → o.data = .func (docDef d.name d.params d.body d.scope pm cd doc) → s₁.heap.CodeRec cd d.name → mg d.name = some (.ref fa) →
      s₁.heap.get? a = some { cls := .type "list", data := .seq vs.toArray } → IntsAre vs ns → ns.length ≤ n → (∀ x ∈ ns, Builtin.Int.intBits x ≤ 1048576) → s₁.gens = #[] →
      codeAny (model l.prog w) callerA (.call (.ref fa) ⟨[.ref a], []⟩) (fun r s' => r = .ok (.ret (.bool true)) ∧ OldK s₁.heap s'.heap ∧ s'.os = s₁.os ∧ AllBare s'.gens) s₁) :
    WalkO q loose XP YP l.row.toRowW d [] (fun f vs => PySem.call f vs) := by
  intro w s₀ s₁ mg mb G Y fa o pm cd doc dV kV ho hd hcd hD hmg hg args vals as hpre hlay hrd hwl hlo
  obtain rfl : dV = .none := Dflts.none hD hdf
  obtain rfl : kV = .none := Dflts.noKw hD
  obtain ⟨a, vs, ns, rfl, rfl, hobj, hints, hlen⟩ := script_of hn hpre hwl
  refine enter_call (codeAny_mono (call w s₀ s₁ mg mb fa o pm cd doc a vs ns G Y ho (fd_plain hd) hcd hmg hobj hints hlen (TB.bits_of hlay) hg) fun r s' hq => ?_)
  obtain ⟨rfl, h2, h3, h4⟩ := hq
  exact ⟨.inl ⟨.bool true, .bool true, [], rfl, fun _ => rfl, .bool true, post_true l _, fun _ => ⟨List.Pairwise.nil, fun _ hm => (nomatch hm)⟩⟩, h2, h3, h4⟩
end Att
namespace L2
open PySem PySem.Spec PyProof.Rows
theorem walk_ofB {l : PySem.W.OpenLaw} {n k : Nat} {q : Program} {loose : List Str} {XP : (Str → Option Value) → Heap → Prop} {YP : World → Heap → Prop} {d : DefRec} {K : Params → PySem.W.Frag} {CX : World → CXT} {sp : World → Sp} {x : Str}
    (hn : l.most = some n) (hn2 : n ≤ sizeLine) (hdf : d.params.defaults = []) (hr : Room k callerA)
    (hY : ∀ (w : World) (h : Heap), YP w h → (K w.params).In h)
    (F : ∀ (w : World) (mg : Str → Option Value) (fa : Addr) (h : Heap), (K w.params).In h → h.Ns mainGlobals mg → mg d.name = some (.ref fa) →
      ∃ fd : FuncData, (∀ (s : Shared) (u : Value), BindsTo s fd ⟨[u], []⟩ [(x, u)]) ∧
        ∀ base : Heap, (K w.params).In base → base.Ns mainGlobals mg → FnOk l.prog w (K w.params) mg base (CX w) k fa fd [x] (sp w))
    (hsp : ∀ (w : World) (H : Hp) (a : Addr) (ns : List Int), ns.length ≤ n → (∀ x ∈ ns, Builtin.Int.intBits x ≤ 1048576) → Only H → SqL (K w.params) H a (ns.map V.int) → sp w [.ref a] H (fun v _ => v = .bl true) fun _ _ _ => False)
    (hCX : ∀ (w : World) (H : Hp) (s : Shared) (e : Value) (s' : Shared), CX w [] H s (fun _ _ _ => False) e s' → False) :
    PySem.W.WalkO q loose XP YP l.row.toRowW d [] (fun f vs => PySem.call f vs) := by
  refine Att.attach_callB hn hdf fun w s₀ s₁ mg mb fa o pm cd doc a vs ns G Y ho hd hcd hmg hobj hints hlen hbi hg => ?_
  have KX := hY w _ Y
  obtain ⟨fd, hb, hF⟩ := F w mg fa _ KX G.T.g hmg
  exact law_call KX G.T.g G.T.b G.T.builtins G.T.nolimit hg hobj hints (Nat.le_trans hlen hn2) hr hF hb (fun H hO hS => hsp w H a ns hlen hbi hO hS) fun H e s' => hCX w H s₁ e s'
theorem walk_ofKB {l : PySem.W.OpenLaw} {n k : Nat} {q : Program} {loose : List Str} {XP : (Str → Option Value) → Heap → Prop} {YP : World → Heap → Prop} {d : DefRec} {K : Params → PySem.W.Frag} {CX : CXT} {sp : PySem.W.Frag → Sp} {x : Str}
    (hn : l.most = some n) (hn2 : n ≤ sizeLine) (hdf : d.params.defaults = []) (hr : Room k callerA)
    (hY : ∀ (w : World) (h : Heap), YP w h → (K w.params).In h)
    (F : ∀ (w : World) (mg : Str → Option Value) (fa : Addr) (h : Heap), (K w.params).In h → h.Ns mainGlobals mg → mg d.name = some (.ref fa) →
      ∃ fd : FuncData, (∀ (s : Shared) (u : Value), BindsTo s fd ⟨[u], []⟩ [(x, u)]) ∧
        ∀ base : Heap, (K w.params).In base → base.Ns mainGlobals mg → FnOk l.prog w (K w.params) mg base CX k fa fd [x] (sp (K w.params)))
    (hsp : ∀ (K : PySem.W.Frag) (H : Hp) (a : Addr) (ns : List Int), ns.length ≤ n → (∀ x ∈ ns, Builtin.Int.intBits x ≤ 1048576) → Only H → SqL K H a (ns.map V.int) → sp K [.ref a] H (fun v _ => v = .bl true) fun _ _ _ => False)
    (hCX : ∀ (H : Hp) (s : Shared) (e : Value) (s' : Shared), CX [] H s (fun _ _ _ => False) e s' → False) :
    PySem.W.WalkO q loose XP YP l.row.toRowW d [] (fun f vs => PySem.call f vs) :=
  walk_ofB (K := K) (CX := fun _ => CX) (sp := fun w => sp (K w.params)) hn hn2 hdf hr hY F (fun w H a ns h1 hb h2 h3 => hsp (K w.params) H a ns h1 hb h2 h3) fun _ H s e s' => hCX H s e s'
end L2
namespace TP
open PySem L2
def CMulB (i j : Int) : Prop := CMul i j ∨ Builtin.Int.intBits i + Builtin.Int.intBits j ≤ 134217728
instance (i j : Int) : Decidable (CMulB i j) := by unfold CMulB; infer_instance
theorem CMulB.ok {i j : Int} (h : CMulB i j) : IntMulOk i j := by
  rcases h with h | h
  · exact h.ok
  · exact IntMulOk.of_le (Nat.le_refl _) (Nat.le_refl _) h
section
variable {X : Cx}
theorem op_mulB : OpR X (binaryOp .Mult) (rI CMulB fun i j => .int (i * j)) := opI fun _ _ _ _ _ _ _ hc q => PyProof.Rows.mul_int q hc.ok
end
theorem mulB_L {i j : Int} (h : -18446744073709551616 < i ∧ i < 18446744073709551616) : fI CMulB gMul (.int i) (.int j) = .ok (.int (i * j)) := by
  show (if CMulB i j then _ else _) = _
  exact if_pos (.inl (.inl h))
theorem mulB_R {i j : Int} (h : -18446744073709551616 < j ∧ j < 18446744073709551616) : fI CMulB gMul (.int i) (.int j) = .ok (.int (i * j)) := by
  show (if CMulB i j then _ else _) = _
  exact if_pos (.inl (.inr h))
theorem mulB_b {i j : Int} (h : Builtin.Int.intBits i + Builtin.Int.intBits j ≤ 134217728) : fI CMulB gMul (.int i) (.int j) = .ok (.int (i * j)) := by
  show (if CMulB i j then _ else _) = _
  exact if_pos (.inr h)
theorem law_ofB {P : Program} {w : World} {K : PySem.W.Frag} {mg : Str → Option Value} {base : Heap} {k : Nat} {f : Addr} {fd : FuncData} {ps : List Str} {d : Mode} {F : List W → R W} (G : FnOk P w K mg base CX0 k f fd ps (spM K 1 d F))
    (h : ∀ ns : List Int, ns.length ≤ 63 → (∀ x ∈ ns, Builtin.Int.intBits x ≤ 1048576) → F [.scr (ns.map W.int)] = .ok (.bl true)) : FnOk P w K mg base CX0 k f fd ps (fun vs H Q _ => ∃ (a : Addr) (ns : List Int), vs = [.ref a] ∧ SqL K H a (ns.map V.int) ∧ ns.length ≤ 63 ∧ (∀ x ∈ ns, Builtin.Int.intBits x ≤ 1048576) ∧ ∀ H', Q (.bl true) H') :=
  G.imp fun vs H Q E ⟨a, ns, e, hs, hl, hb, q⟩ => by
    subst e
    refine ⟨rfl, [.scr (ns.map W.int)], .cons (.scr hs ?_) .nil, ?_⟩
    · clear hs hl hb
      induction ns with
      | nil => exact .nil
      | cons n ns ih => exact .cons .int ih
    · rw [h ns hl hb]
      intro v G' H' _ _ _ m
      have e : v = .bl true := by
        cases d <;> first | (cases m; rfl) | (rcases m with m | ⟨_, _, _, _, z, _⟩ <;> first | (cases m; rfl) | cases z)
      subst e
      exact q H'
end TP
set_option Elab.async false
set_option linter.all false
set_option maxRecDepth 100000
namespace TL
open PySem
section
variable {prog : Program} {w : World} {A : Around} {E : Value → Shared → Prop} {s : Shared}
end
end TL
namespace TP
open PySem L2
section
variable {X : Cx}
end
section
variable {K : PySem.W.Frag} {EX : EXT} {σ : St} {H : Hp} {Q : VK}
end
section
variable {X : Cx} {K : PySem.W.Frag} {EX : EXT} {a : Expr} {pos : Pos} {mr : Rho → R (List W)}
end
end TP
set_option Elab.async false
set_option linter.all false
set_option maxRecDepth 100000
namespace TP
open PySem L2
section
variable {X : Cx}
end
section
variable {K : PySem.W.Frag} {EX : EXT} {d : Mode} {σ : St} {H : Hp} {Q : VK}
end
section
variable {X : Cx} {K : PySem.W.Frag} {EX : EXT} {d : Mode} {o e : Expr} {apos cpos : Pos} {mo me : Rho → R W}
end
end TP
set_option Elab.async false
set_option linter.all false
set_option maxRecDepth 100000
namespace TP
open PySem L2
def OutW (K : PySem.W.Frag) (EX : EXT) (d : Mode) (H0 : Hp) (r : R Fl) (D : Ends) : Prop := match r with
  | .ok (.nx ρ) => ∀ G' σ' H', PIv K H0 G' ρ σ' H' → D.nx σ' H'
  | .ok (.bk ρ) => ∀ G' σ' H', PIv K H0 G' ρ σ' H' → D.bk σ' H'
  | .ok (.ct ρ) => ∀ G' σ' H', PIv K H0 G' ρ σ' H' → D.ct σ' H'
  | .ok (.rt w) => ∀ v G' H', Same G' H' → Same H0 H' → (∀ a o, H0 a = some o → isL o = true → G' a = none) → Md K H0 H0 G' H' v w d → D.rt v H'
  | .ex e => ∀ H', Same H0 H' → EX e H'
  | .stuck => False
def tStW (K : PySem.W.Frag) (EX : EXT) (d : Mode) (m : Rho → R Fl) : TS := fun D σ H => ∃ H0 G ρ, PIv K H0 G ρ σ H ∧ OutW K EX d H0 (m ρ) D
section
variable {K : PySem.W.Frag} {EX : EXT} {H0 G H G1 H1 G2 H2 : Hp} {ρ : Rho} {σ : St} {d : Mode} {D : Ends}
theorem OutW.toS {r : R Fl} (o : OutW K EX d H0 r D) : OutS K EX d H0 G r D := by
  cases r with
  | stuck => exact o
  | ex e => exact o
  | ok f =>
    cases f with
    | nx ρ' => exact fun G' σ' H' _ I' => o G' σ' H' I'
    | bk ρ' => exact fun G' σ' H' _ I' => o G' σ' H' I'
    | ct ρ' => exact fun G' σ' H' _ I' => o G' σ' H' I'
    | rt w => exact o
theorem tStW.toS {m : Rho → R Fl} (h : tStW K EX d m D σ H) : tSt K EX d m D σ H := by
  obtain ⟨H0, G, ρ, I, o⟩ := h
  exact ⟨H0, G, ρ, I, o.toS⟩
theorem OutW.bind {α β : Type} {md : α → β → Hp → Hp → Prop} {m : R α} {k : α → R Fl} {Q1 : β → Hp → Prop} (I : PIv K H0 G ρ σ H) (o : OutW K EX d H0 (m >>= k) D)
    (h : ∀ x G1 H1 w, Ext G H G1 H1 → md w x G1 H1 → OutW K EX d H0 (k w) D → Q1 x H1) : Out EX G H md m Q1 := by
  cases m with
  | ok w => exact fun v G' H' e q => h v G' H' w e q o
  | ex e => exact fun H' s => o H' (I.hh.trans s)
  | stuck => exact o
mutual
theorem Rep.away {l : Addr} {vs : List V} {o : HO} (gl : G l = some (.lst vs)) : ∀ {v : V} {w : W}, Rep K G v w → noL w = true → Rep K (upd G l o) v w
  | _, _, .non, _ => .non
  | _, _, .bl, _ => .bl
  | _, _, .int, _ => .int
  | _, _, .str, _ => .str
  | _, _, .ty, _ => .ty
  | _, _, .tup (a := a) h r, n => by
    refine .tup ?_ (Reps.away gl r (by simpa [noL] using n))
    rw [upd_ne]
    · exact h
    · rintro rfl; rw [gl] at h; cases h
  | _, _, .lst _ _, n => by simp [noL] at n
  | _, _, .scr _ _, n => by simp [noL] at n
theorem Reps.away {l : Addr} {vs : List V} {o : HO} (gl : G l = some (.lst vs)) : ∀ {us : List V} {ws : List W}, Reps K G us ws → noLs ws = true → Reps K (upd G l o) us ws
  | _, _, .nil, _ => .nil
  | _, _, .cons (w := w) (ws := ws) h r, n => by
    have n' : noL w = true ∧ noLs ws = true := by simpa [noLs] using n
    exact .cons (Rep.away gl h n'.1) (Reps.away gl r n'.2)
end
theorem upd_at {H : Hp} {a : Addr} {o : HO} : upd H a o a = some o := by unfold upd; rw [if_pos rfl]
theorem Reps.subst {l : Addr} {vs vs' : List V} {ws' : List W} (gl : G l = some (.lst vs)) (rv : Reps K G vs' ws') (hw : noLs ws' = true) : ∀ {us0 : List V} {us : List W} {j : Nat}, Reps K G us0 us → us0[j]? = some (.ref l) → noLs (us.set j .non) = true → Reps K (upd G l (.lst vs')) us0 (us.set j (.lst ws'))
  | _, _, _, .nil, e, _ => by simp at e
  | _, _, 0, .cons (v := v) (w := w) (ws := ws) h r, e, n => by
    have e : v = V.ref l := by simpa using e
    subst e
    have n' : noLs ws = true := by simpa [noLs, noL] using n
    exact .cons (.lst upd_at (Reps.away gl rv hw)) (Reps.away gl r n')
  | _, _, j + 1, .cons (w := w) (ws := ws) h r, e, n => by
    have n' : noL w = true ∧ noLs (ws.set j .non) = true := by simpa [noLs] using n
    exact .cons (Rep.away gl h n'.1) (Reps.subst gl rv hw r (by simpa using e) n'.2)
theorem PIv.val_at {i : Nat} {w : W} (I : PIv K H0 G ρ σ H) (e : ρ[i]? = some (.val w)) : ∃ v, σ[i]? = some (some v) ∧ Rep K G v w := by
  have hi : i < σ.length := by rw [← I.len]; exact (List.getElem?_eq_some_iff.mp e).1
  have es : σ[i]? = some σ[i] := by simp
  obtain ⟨v, ev, r⟩ := I.sl i _ _ e es
  exact ⟨v, by rw [es, ev], r⟩
theorem Reps.dropLast {vs : List V} {ws : List W} (r : Reps K G vs ws) : Reps K G vs.dropLast ws.dropLast := by
  rw [List.dropLast_eq_take, List.dropLast_eq_take, r.length]
  exact r.take _
end
section
variable {X : Cx} {K : PySem.W.Frag} {EX : EXT} {d : Mode} {e : Expr} {pos : Pos} {ma : Rho → R W} {m n : Rho → R Fl} {ta : Rho → R Bool} {st : Stmt} {sts : List Stmt}
end
end TP
namespace TP
open PySem L2
set_option maxHeartbeats 2000000
section
variable {X : Cx} {K : PySem.W.Frag}
end
section
variable {K : PySem.W.Frag}
end
end TP
set_option Elab.async false
set_option linter.all false
set_option maxRecDepth 100000
namespace TP
open PySem L2
def Hx (p : Addr) (H0 H1 : Hp) : Prop := (∀ a, a ≠ p → H1 a = H0 a) ∧ ∃ vs, H1 p = some (.lst vs)
def OutIo (K : PySem.W.Frag) (EX : EXT) (p : Addr) (H0 : Hp) (r : R Fl) (D : Ends) : Prop := match r with
  | .ok (.nx ρ) => ∀ H0' G' σ' H', Hx p H0 H0' → PIv K H0' G' ρ σ' H' → D.nx σ' H'
  | .ok (.bk ρ) => ∀ H0' G' σ' H', Hx p H0 H0' → PIv K H0' G' ρ σ' H' → D.rt .non H'
  | .ex e => ∀ H', EX e H'
  | _ => False
def tStI (K : PySem.W.Frag) (EX : EXT) (p : Addr) (m : Rho → R Fl) : TS := fun D σ H => ∃ H0 G ρ, PIv K H0 G ρ σ H ∧ (∃ vs, H0 p = some (.lst vs)) ∧ OutIo K EX p H0 (m ρ) D
def nbR : R Fl → R Fl
  | .ok (.nx ρ) => .ok (.nx ρ)
  | .ex e => .ex e
  | _ => .stuck
def nb (m : Rho → R Fl) : Rho → R Fl := fun ρ => nbR (m ρ)
section
variable {K : PySem.W.Frag} {EX : EXT} {H0 H0' G H G1 H1 G2 H2 : Hp} {ρ : Rho} {σ : St} {d : Mode} {D : Ends} {p : Addr}
theorem Hx.refl (h : ∃ vs, H0 p = some (.lst vs)) : Hx p H0 H0 := ⟨fun _ _ => rfl, h⟩
theorem Hx.trans {A B C : Hp} (h : Hx p A B) (g : Hx p B C) : Hx p A C := ⟨fun a q => (g.1 a q).trans (h.1 a q), g.2⟩
theorem OutIo.move {r : R Fl} (s : Hx p H0 H0') (o : OutIo K EX p H0 r D) : OutIo K EX p H0' r D := by
  cases r with
  | stuck => exact o
  | ex e => exact o
  | ok f =>
    cases f with
    | nx ρ' => exact fun A G' σ' H' h I' => o A G' σ' H' (s.trans h) I'
    | bk ρ' => exact fun A G' σ' H' h I' => o A G' σ' H' (s.trans h) I'
    | ct ρ' => exact o
    | rt w => exact o
theorem OutIo.bind {α β : Type} {md : α → β → Hp → Hp → Prop} {m : R α} {k : α → R Fl} {Q1 : β → Hp → Prop} (o : OutIo K EX p H0 (m >>= k) D)
    (h : ∀ x G1 H1 w, Ext G H G1 H1 → md w x G1 H1 → OutIo K EX p H0 (k w) D → Q1 x H1) : Out EX G H md m Q1 := by
  cases m with
  | ok w => exact fun v G' H' e q => h v G' H' w e q o
  | ex e => exact fun H' _ => o H'
  | stuck => exact o
theorem tStI.toS {m : Rho → R Fl} (h : tStI K EX p (nb m) D σ H) : tSt K EX d m D σ H := by
  obtain ⟨H0, G, ρ, I, hp, o⟩ := h
  refine ⟨H0, G, ρ, I, ?_⟩
  unfold nb at o
  revert o
  cases m ρ with
  | stuck => exact id
  | ex e => exact fun o H' _ => o H'
  | ok f =>
    cases f with
    | nx ρ' => exact fun o G' σ' H' _ I' => o H0 G' σ' H' (Hx.refl hp) I'
    | bk ρ' => exact fun o => o.elim
    | ct ρ' => exact fun o => o.elim
    | rt w => exact fun o => o.elim
def ioR (p : Addr) (ρ : Rho) : R (List W) := match (ρ[1]? : Option Sl) with
  | some (.iop q cs) => if q = p then .ok cs else .stuck
  | _ => .stuck
def runIO (n N : Nat) (m : Addr → Rho → R Fl) (p : Addr) (w1 : W) (cs wr : List W) : R (List W) := if wr.length + 2 = n ∧ noLs cs = true then (match m p (.par w1 :: .iop p cs :: (wr.map Sl.par ++ List.replicate (N - n) Sl.un)) with
  | .ok (.nx ρ) => ioR p ρ
  | .ok (.bk ρ) => ioR p ρ
  | _ => .stuck) else .stuck
open Classical in
noncomputable def runIOA (n N : Nat) (m : Addr → Rho → R Fl) (w1 : W) (cs wr : List W) : R (List W) := if h : ∃ cs', ∀ p, runIO n N m p w1 cs wr = .ok cs' then .ok (Classical.choose h) else .stuck
end
section
variable {X : Cx} {K : PySem.W.Frag} {EX : EXT} {d : Mode} {e : Expr} {es : List Expr} {pos : Pos} {ma : Rho → R W} {m n : Rho → R Fl} {ta : Rho → R Bool} {st : Stmt} {sts : List Stmt} {p : Addr} {mr : Rho → R (List W)}
end
end TP
namespace TP
open PySem L2
section
variable {K : PySem.W.Frag} {EX : EXT} {H0 G H : Hp} {ρ : Rho} {σ : St}
end
section
variable {X : Cx} {K : PySem.W.Frag} {e : Expr} {es : List Expr} {pos : Pos} {mr : Rho → R (List W)}
end
end TP
namespace TP
open PySem L2
section
variable {X : Cx}
end
section
variable {K : PySem.W.Frag} {EX : EXT} {H0 G H : Hp} {ρ : Rho} {σ : St} {d : Mode} {D : Ends}
end
section
variable {X : Cx} {K : PySem.W.Frag} {EX : EXT} {d : Mode} {e : Expr} {pos : Pos} {ma : Rho → R W}
end
end TP
set_option Elab.async false
set_option linter.all false
set_option maxRecDepth 100000
namespace TP
open PySem L2
section
open PySem.W PyProof.Rows
variable {prog : Program} {w : World} {A : Around} {E : Value → Shared → Prop} {s : Shared}
theorem items_int : ∀ {xs : List Int} {its : List Value}, Vals (xs.map V.int) its → ItemsAre (intKind prog w) xs its
  | [], _, .nil => .nil
  | _ :: _, _, .cons r t => by
    obtain ⟨tk, rfl⟩ := r
    exact .cons (by simp [intKind, Value.isInt]) (items_int t)
end
end TP
namespace TP
open PySem L2
section
variable {X : Cx} {pins : List (Addr × Obj)} {σ : L2.St} {H : Hp} {s : Shared}
end
section
open PySem.W PyProof.Rows
variable {Y : Cx} {K : PySem.W.Frag} {pn : List (Addr × Obj)} {σ : L2.St}
end
end TP
namespace TP
open PySem L2
section
open PySem.W PyProof.Rows
variable {Y : Cx} {K : PySem.W.Frag} {pins : List (Addr × Obj)} {σ : L2.St}
end
section
open PySem.W PyProof.Rows
variable {X : Cx} {K : PySem.W.Frag}
end
section
variable {K : PySem.W.Frag}
end
section
variable {X : Cx} {K : PySem.W.Frag} {EX : EXT} {e : Expr} {pos : Pos} {mr : Rho → R (List W)}
end
end TP
namespace TP
open PySem L2
section
open PySem.W PyProof.Rows
variable {X : Cx} {e : Expr} {te : TE} {st : Expr} {tk : TO} {pos p2 : Pos}
end
section
variable {K : PySem.W.Frag} {EX : EXT} {σ : St} {H : Hp} {Q : VK}
end
section
variable {X : Cx} {K : PySem.W.Frag} {EX : EXT} {e : Expr} {pos : Pos} {ma : Rho → R W}
end
end TP
namespace TP
open PySem L2
section
variable {K : PySem.W.Frag} {EX : EXT} {H0 G H : Hp} {ρ : Rho} {σ : St} {d : Mode} {D : Ends}
end
section
variable {X : Cx} {K : PySem.W.Frag} {EX : EXT} {d : Mode} {e : Expr} {pos : Pos} {ma : Rho → R W}
end
end TP
namespace TP
open PySem L2
section
variable {K : PySem.W.Frag} {EX : EXT} {H0 G H G1 H1 F : Hp} {ρ : Rho} {σ : St} {d : Mode} {D : Ends}
theorem any_keysK {kvs : List (Key × V)} {ks : List Int} {k : Int} (hk : kvs.map (·.1) = ks.map Sum.inl) : (kvs.any fun kv => decide (kv.1 = (Sum.inl k : Key))) = decide (k ∈ ks) := by
  rw [Bool.eq_iff_iff, List.any_eq_true, decide_eq_true_iff]
  constructor
  · rintro ⟨p, hp, q⟩
    have e := of_decide_eq_true q
    have : p.1 ∈ ks.map (Sum.inl : Int → Key) := by rw [← hk]; exact List.mem_map.mpr ⟨p, hp, rfl⟩
    obtain ⟨j, hj, ej⟩ := List.mem_map.mp this
    cases ej.trans e; exact hj
  · intro h
    have : (Sum.inl k : Key) ∈ kvs.map (·.1) := by rw [hk]; exact List.mem_map.mpr ⟨k, h, rfl⟩
    obtain ⟨p, hp, e⟩ := List.mem_map.mp this
    exact ⟨p, hp, decide_eq_true e⟩
def addI (ks : List Int) (k : Int) : List Int := if k ∈ ks then ks else ks ++ [k]
theorem keys_putK {kvs : List (Key × V)} {ks : List Int} {k : Int} {v : V} (hk : kvs.map (·.1) = ks.map Sum.inl) : (putK kvs (Sum.inl k : Key) v).map (·.1) = (addI ks k).map Sum.inl := by
  unfold putK addI
  rw [any_keysK hk]
  by_cases h : k ∈ ks
  · rw [if_pos (decide_eq_true h), if_pos h, ← hk, List.map_map]
    refine List.map_congr_left fun p _ => ?_
    show (if p.1 = (Sum.inl k : Key) then (p.1, v) else p).1 = p.1
    split <;> rfl
  · rw [if_neg (by simpa using h), if_neg h, List.map_append, List.map_append, hk]; rfl
theorem PIv.setK {i : Nat} {a : Addr} {kvs : List (Key × V)} {ks : List Int} (I : PIv K H0 G ρ σ H) (ha : H a = some (.dK kvs)) (hg : G a = none) (h0 : H0 a = none) (hk : kvs.map (·.1) = ks.map Sum.inl) : PIv K H0 G (ρ.set i (.dik ks)) (σ.set i (some (.ref a))) H where
  g0 := I.g0
  gl := I.gl
  gh := I.gh
  hh := I.hh
  len := by rw [List.length_set, List.length_set]; exact I.len
  sl j x o h1 h2 := by
    by_cases hj : i = j
    · subst hj
      rw [List.getElem?_set] at h1 h2
      simp only [if_true] at h1 h2
      split at h1 <;> split at h2 <;> simp only [Option.some.injEq, reduceCtorEq] at h1 h2
      subst h1; subst h2
      exact ⟨a, kvs, rfl, ha, hg, h0, hk⟩
    · rw [List.getElem?_set_ne hj] at h1 h2; exact I.sl j x o h1 h2
  ne a b ws us c hab h1 h2 h3 h4 := by
    have na : i ≠ a := by
      rintro rfl
      rw [List.getElem?_set] at h1
      simp only [if_true] at h1
      split at h1 <;> simp at h1
    have nb : i ≠ b := by
      rintro rfl
      rw [List.getElem?_set] at h2
      simp only [if_true] at h2
      split at h2 <;> simp at h2
    rw [List.getElem?_set_ne na] at h1 h3
    rw [List.getElem?_set_ne nb] at h2 h4
    exact I.ne a b ws us c hab h1 h2 h3 h4
theorem PIv.dik_at {i : Nat} {ks : List Int} (I : PIv K H0 G ρ σ H) (e : ρ[i]? = some (.dik ks)) : ∃ a kvs, σ[i]? = some (some (.ref a)) ∧ H a = some (.dK kvs) ∧ G a = none ∧ H0 a = none ∧ kvs.map (·.1) = ks.map Sum.inl := by
  have hi : i < σ.length := by rw [← I.len]; exact (List.getElem?_eq_some_iff.mp e).1
  have es : σ[i]? = some σ[i] := by simp
  obtain ⟨a, kvs, ev, r⟩ := I.sl i _ _ e es
  exact ⟨a, kvs, by rw [es, ev], r⟩
def isDik : Sl → Bool
  | .dik _ => true
  | _ => false
def noDik (ρ : Rho) : Bool := ρ.all fun s => !isDik s
theorem noDik_no {ρ : Rho} {i j : Nat} {ks : List Int} (h : noDik (ρ.set i .un) = true) (hj : i ≠ j) : ρ[j]? ≠ some (.dik ks) := fun e => by
  have e' : (ρ.set i .un)[j]? = some (.dik ks) := by rw [List.getElem?_set_ne hj]; exact e
  have := List.all_eq_true.mp h _ (List.mem_of_getElem? e')
  simp [isDik] at this
theorem PIv.dik_upd {i : Nat} {a : Addr} {kvs' : List (Key × V)} {ks ks' : List Int} (I : PIv K H0 G ρ σ H) (e : ρ[i]? = some (.dik ks)) (es : σ[i]? = some (some (.ref a))) (one : noDik (ρ.set i .un) = true) (hk : kvs'.map (·.1) = ks'.map Sum.inl) :
    PIv K H0 G (ρ.set i (.dik ks')) σ (upd H a (.dK kvs')) := by
  obtain ⟨a', kvs, ev, ha, hg, h0, _⟩ := I.sl i _ _ e es
  cases ev
  refine ⟨I.g0, I.gl, fun b o q => by rw [upd_ne (ne_of_none q hg)]; exact I.gh b o q, fun b o q => by rw [upd_ne (ne_of_none q h0)]; exact I.hh b o q, by rw [List.length_set]; exact I.len, fun j x o h1 h2 => ?_, fun p q ws1 us c hab h1 h2 h3 h4 => ?_⟩
  · by_cases hj : i = j
    · subst hj
      rw [List.getElem?_set] at h1
      simp only [if_true] at h1
      split at h1 <;> simp only [Option.some.injEq, reduceCtorEq] at h1
      subst h1
      rw [es] at h2; cases h2
      exact ⟨a, kvs', rfl, upd_same, hg, h0, hk⟩
    · rw [List.getElem?_set_ne hj] at h1
      have := I.sl j x o h1 h2
      cases x with
      | own us =>
        obtain ⟨b, us', eb, hb, hgb, h0b, rb⟩ := this
        have hne : b ≠ a := by
          rintro rfl
          rw [ha] at hb; cases hb
        exact ⟨b, us', eb, by rw [upd_ne hne]; exact hb, hgb, h0b, rb⟩
      | dic ks =>
        obtain ⟨b, us', eb, hb, hgb, h0b, rb⟩ := this
        have hne : b ≠ a := by
          rintro rfl
          rw [ha] at hb; cases hb
        exact ⟨b, us', eb, by rw [upd_ne hne]; exact hb, hgb, h0b, rb⟩
      | dik ls => exact absurd h1 (noDik_no one hj)
      | un => exact this
      | val _ => exact this
      | par _ => exact this
      | iop _ _ => exact this
  · have na : i ≠ p := by
      rintro rfl
      rw [List.getElem?_set] at h1
      simp only [if_true] at h1
      split at h1 <;> simp at h1
    have nb : i ≠ q := by
      rintro rfl
      rw [List.getElem?_set] at h2
      simp only [if_true] at h2
      split at h2 <;> simp at h2
    rw [List.getElem?_set_ne na] at h1
    rw [List.getElem?_set_ne nb] at h2
    exact I.ne p q ws1 us c hab h1 h2 h3 h4
def inKI (o : Option Sl) (w : W) : R Bool := match o with
  | some (.dik ks) => (match w with
    | .int k => .ok (decide (k ∈ ks))
    | _ => .stuck)
  | _ => .stuck
def mInK (i : Nat) (mk : Rho → R W) : Rho → R Bool := fun ρ => mk ρ >>= fun w => inKI ρ[i]? w
theorem c_dinK {i : Nat} {mk : Rho → R W} {Q : Bool → Hp → Prop} (h : tT K EX (mInK i mk) σ H Q) : tB (tDIn (tM K EX .B mk) (tVar i)) σ H Q := by
  obtain ⟨H0, G, ρ, I, o⟩ := h
  refine ⟨H0, G, ρ, I, Out.bind (md := mdW K .B H0 H) o fun y G1 H1 w e1 m1 o1 => ?_⟩
  have I1 := I.ext e1
  unfold inKI at o1
  split at o1
  · rename_i ks e
    split at o1
    · rename_i k
      obtain ⟨a, kvs, es, ha, hg, h0, hk⟩ := I1.dik_at e
      obtain rfl := Md.intB m1
      refine ⟨.ref a, es, a, _, rfl, DGet.k (k := .inl k) ha, _, rfl, ?_⟩
      rw [← valV_any, any_keysK hk]
      exact o1 _ G1 H1 (Ext.refl I1.gh) rfl
    · exact o1.elim
  · exact o1.elim
def putKI (ks : List Int) (i : Nat) (w : W) (ρ : Rho) : R Fl := match w with
  | .int k => if noDik (ρ.set i .un) = true ∧ ks.length < 1000 then .ok (.nx (ρ.set i (.dik (addI ks k)))) else .stuck
  | _ => .stuck
def dputK (o : Option Sl) (re rk : R W) (i : Nat) (ρ : Rho) : R Fl := match o with
  | some (.dik ks) => re >>= fun _ => rk >>= fun w => putKI ks i w ρ
  | _ => .stuck
def mDPutK (i : Nat) (mk me : Rho → R W) : Rho → R Fl := fun ρ => dputK ρ[i]? (me ρ) (mk ρ) i ρ
theorem c_dputK {i : Nat} {mk me : Rho → R W} (h : tSt K EX d (mDPutK i mk me) D σ H) : sDPut (tVar i) (tM K EX .B mk) (tM K EX .B me) D σ H := by
  obtain ⟨H0, G, ρ, I, o⟩ := h
  unfold mDPutK dputK at o
  split at o
  · rename_i ks e
    refine ⟨H0, G, ρ, I, OutS.bind I o fun v G1 H1 w1 e1 m1 o1 => ?_⟩
    have I1 := I.ext e1
    obtain ⟨a, kvs, es, ha, hg, h0, hk⟩ := I1.dik_at e
    refine ⟨.ref a, es, H0, G1, ρ, I1, OutS.bind I1 o1 fun y G2 H2 w e2 m2 o2 => ?_⟩
    have I2 := I1.ext e2
    unfold putKI at o2
    split at o2
    · rename_i k
      split at o2
      · rename_i hc
        obtain rfl := Md.intB m2
        have hl : kvs.length = ks.length := by have := congrArg List.length hk; simpa using this
        refine ⟨a, _, rfl, DPut.k (k := .inl k) (e2.hh a _ ha) (Nat.lt_of_lt_of_le (show kvs.length < 1000 by omega) (by decide)), ?_⟩
        exact o2 G2 σ _ (Same.refl _) (I2.dik_upd e es hc.1 (keys_putK hk))
      · exact o2.elim
    · exact o2.elim
  · exact o.elim
def mDNewK (i : Nat) : Rho → R Fl := fun ρ => .ok (.nx (ρ.set i (.dik [])))
theorem c_dnewK {i : Nat} (h : tSt K EX d (mDNewK i) D σ H) : tAsg tDNewK (gName i) D σ H := by
  obtain ⟨H0, G, ρ, I, o⟩ := h
  intro p hp
  have hgp : G p = none := by
    cases q : G p with
    | none => rfl
    | some u => rw [I.gh p u q] at hp; cases hp
  have h0p : H0 p = none := by
    cases q : H0 p with
    | none => rfl
    | some u => rw [I.hh p u q] at hp; cases hp
  have su : Same H (upd H p (.dK [])) := fun b u q => by rw [upd_ne (ne_of_none q hp)]; exact q
  have x0 : Ext G H G (upd H p (.dK [])) := ⟨Same.refl G, su, I.gh.trans su, fun _ _ _ _ e => e⟩
  exact o G _ _ (Same.refl _) (PIv.setK (I.ext x0) upd_same hgp h0p rfl)
def mClr (i : Nat) : Rho → R Fl := fun ρ => match ρ[i]? with
  | some (.own _) => .ok (.nx (ρ.set i (.own [])))
  | _ => .stuck
theorem c_clr {i : Nat} (h : tSt K EX d (mClr i) D σ H) : tDrop (tBM0 K "list" rClear (tVar i)) D σ H := by
  obtain ⟨H0, G, ρ, I, o⟩ := h
  unfold mClr at o
  split at o
  · rename_i ws e
    obtain ⟨a, vs, es, ha, hg, h0, r⟩ := I.own_at e
    exact ⟨.ref a, es, .inl ⟨rfl, vs, SqL.of ha⟩, a, vs, rfl, rfl, ha, o G σ _ (Same.refl _) (I.own_upd e es .nil)⟩
  · exact o.elim
end
section
variable {X : Cx} {K : PySem.W.Frag} {EX : EXT} {d : Mode} {e k v : Expr} {pos : Pos} {mk me : Rho → R W}
theorem q_dnewK {i : Nat} {x : Str} {pos' pos2 : Pos} (hN : X.N.Nodup) (hi : X.N[i]? = some x) (hx : Loc X.env.scope x)
    (hs : swapsWith (.Dict [] [] pos) (some (.Name x pos')) pos2.line X.env = pure false := by rfl) (hf : X.fn x = true ∨ X.env.scope.names.lookup x = some .local := by first | exact Or.inl rfl | exact Or.inr rfl) :
    PS X (.Assign [.Name x pos'] (.Dict [] [] pos) pos2) (tSt K EX d (mDNewK i)) := (ps_set hN hi hx pe_dnewK hs hf).mono fun _ _ _ q => c_dnewK q
theorem q_dinK {i : Nat} {x : Str} {p : Pos} (hu : X.A.units + 64 < cLine) (hN : X.N[i]? = some x) (hv : Vis X.env.scope x) (hk : PE X k (tM K EX .B mk)) (hd : (x == ("__debug__" : Str)) = false := by decide) (hcd : (x == ("__classdict__" : Str)) = false := by decide)
    (hm : behindInMarks .In (.Name x p) = false := by rfl) : PT X (.Compare k [.In] [.Name x p] pos) (tT K EX (mInK i mk)) := (pt_cmp (pc_din (by omega) hk (pe_var hN hv hd hcd)) hm).mono fun _ _ _ q => c_dinK q
theorem q_dputK {i : Nat} {x : Str} {p p2 : Pos} (hu : X.A.units + 64 < cLine) (hN : X.N[i]? = some x) (hv : Vis X.env.scope x) (hk : PE X k (tM K EX .B mk)) (he : PE X e (tM K EX .B me)) (hd : (x == ("__debug__" : Str)) = false := by decide) (hcd : (x == ("__classdict__" : Str)) = false := by decide)
    (hs : swapsWith e (some (.Subscript (.Name x p) k p2)) pos.line X.env = pure false := by rfl) : PS X (.Assign [.Subscript (.Name x p) k p2] e pos) (tSt K EX d (mDPutK i mk me)) := (ps_dput (by omega) (pe_var hN hv hd hcd) hk he hs).mono fun _ _ _ q => c_dputK q
theorem q_clr {i : Nat} {x : Str} {p apos cpos : Pos} (hN : X.N[i]? = some x) (hv : Vis X.env.scope x) (hK : X.K = K := by rfl) (hd : (x == ("__debug__" : Str)) = false := by decide) (hcd : (x == ("__classdict__" : Str)) = false := by decide)
    (hbase : attributeBase (.Name x p) "clear" X.env (eval (.Name x p) X.env) = eval (.Name x p) X.env := by rfl) (hline : (apos.endLine == cpos.line) = true := by rfl)
    (hsw : swapsWith (.Call (.Attribute (.Name x p) "clear" apos) [] [] cpos) none pos.line X.env = pure false := by rfl) :
    PS X (.Expr (.Call (.Attribute (.Name x p) "clear" apos) [] [] cpos) pos) (tSt K EX d (mClr i)) := by
  subst hK; exact (ps_expr (pe_bm0 PySem.F.plainAttrs_list PySem.F.slot_list_clear PySem.F.type_list_clear mt_clear (pe_var hN hv hd hcd) hbase hline) hsw).mono fun _ _ _ q => c_clr q
end
theorem mInK_ap (i : Nat) (mk : Rho → R W) (ρ : Rho) : mInK i mk ρ = (mk ρ >>= fun w => inKI ρ[i]? w) := rfl
theorem inKI_ok (ks : List Int) (k : Int) : inKI (some (.dik ks)) (.int k) = .ok (decide (k ∈ ks)) := rfl
theorem mDPutK_ap (i : Nat) (mk me : Rho → R W) (ρ : Rho) : mDPutK i mk me ρ = dputK ρ[i]? (me ρ) (mk ρ) i ρ := rfl
theorem dputK_ok (ks : List Int) (w : W) (k : Int) (i : Nat) (ρ : Rho) (h : noDik (ρ.set i .un) = true) (hl : ks.length < 1000) : dputK (some (.dik ks)) (.ok w) (.ok (.int k)) i ρ = .ok (.nx (ρ.set i (.dik (addI ks k)))) := if_pos ⟨h, hl⟩
theorem mDNewK_ap (i : Nat) (ρ : Rho) : mDNewK i ρ = .ok (.nx (ρ.set i (.dik []))) := rfl
theorem mClr_ok (i : Nat) (ws : List W) (ρ : Rho) (h : ρ[i]? = some (.own ws)) : mClr i ρ = .ok (.nx (ρ.set i (.own []))) := by unfold mClr; rw [h]
end TP
set_option Elab.async false
set_option linter.all false
set_option maxRecDepth 100000
namespace TP
open PySem L2
abbrev tI (ns : List Int) : W := .tup (ns.map W.int)
abbrev lI (ns : List Int) : W := .lst (ns.map W.int)
theorem noLs_ints (ns : List Int) : noLs (ns.map W.int) = true := by
  induction ns with
  | nil => rfl
  | cons n ns ih => rw [List.map_cons]; simp only [noLs, noL, ih, Bool.and_self]
theorem fEqS_ii (n : Bool) (i j : Int) : fEqS n (.int i) (.int j) = .ok (.bl (if n then !decide (i = j) else decide (i = j))) := by
  unfold fEqS eqSc vOf
  simp [scal]
theorem fEqS_bb (n : Bool) (i j : Bool) : fEqS n (.bl i) (.bl j) = .ok (.bl (if n then !decide (i = j) else decide (i = j))) := by
  unfold fEqS eqSc vOf
  simp [scal]
theorem fEqS_ss (n : Bool) (i j : Str) : fEqS n (.str i) (.str j) = .ok (.bl (if n then !decide (i = j) else decide (i = j))) := by
  unfold fEqS eqSc vOf
  simp [scal]
theorem fEqS_nn (n : Bool) : fEqS n .non .non = .ok (.bl (!n)) := by cases n <;> rfl
theorem fEqS_ni (n : Bool) (i : Int) : fEqS n .non (.int i) = .ok (.bl n) := by cases n <;> rfl
theorem fEqS_in (n : Bool) (i : Int) : fEqS n (.int i) .non = .ok (.bl n) := by cases n <;> rfl
theorem atW {ns : List Int} {i : Int} (h0 : 0 ≤ i) (h1 : i < ns.length) : L2.atI (ns.map W.int) i = some (.int (ns.getD i.toNat 0)) := by
  unfold L2.atI
  rw [List.length_map, ixN_int h0 h1]
  show (ns.map W.int)[i.toNat]? = _
  rw [List.getElem?_map, some_getD (by omega)]; rfl
def andThen (r : R Fl) (n : Rho → R Fl) : R Fl := r >>= fun f => match f with
  | .nx ρ' => n ρ'
  | .rt w => .ok (.rt w)
  | .bk ρ' => .ok (.bk ρ')
  | .ct ρ' => .ok (.ct ρ')
theorem mSeq_ap (m n : Rho → R Fl) (ρ : Rho) : mSeq m n ρ = andThen (m ρ) n := rfl
theorem andThen_nx (ρ : Rho) (n : Rho → R Fl) : andThen (.ok (.nx ρ)) n = n ρ := rfl
theorem andThen_rt (w : W) (n : Rho → R Fl) : andThen (.ok (.rt w)) n = .ok (.rt w) := rfl
theorem andThen_bk (ρ : Rho) (n : Rho → R Fl) : andThen (.ok (.bk ρ)) n = .ok (.bk ρ) := rfl
theorem andThen_ct (ρ : Rho) (n : Rho → R Fl) : andThen (.ok (.ct ρ)) n = .ok (.ct ρ) := rfl
theorem mC_ap (w : W) (ρ : Rho) : mC w ρ = .ok w := rfl
theorem b1_ap (f : W → R W) (ma : Rho → R W) (ρ : Rho) : b1 f ma ρ = (ma ρ >>= f) := rfl
def R2b (a b : R W) (f : W → W → R W) : R W := a >>= fun x => b >>= fun y => f x y
theorem b2_ap (f : W → W → R W) (ma mb : Rho → R W) (ρ : Rho) : b2 f ma mb ρ = R2b (ma ρ) (mb ρ) f := rfl
theorem R2b_ok (x y : W) (f : W → W → R W) : R2b (.ok x) (.ok y) f = f x y := rfl
theorem bA_ap (f : List W → R W) (ma : Rho → R (List W)) (ρ : Rho) : bA f ma ρ = (ma ρ >>= f) := rfl
theorem bI_ap (f : List W → R (List W)) (ma : Rho → R (List W)) (ρ : Rho) : bI f ma ρ = (ma ρ >>= f) := rfl
theorem bS_ap (ma : Rho → R W) (ρ : Rho) : bS ma ρ = (ma ρ >>= seqW) := rfl
theorem aN_ap (ρ : Rho) : aN ρ = .ok [] := rfl
def Rcons (a : R W) (b : R (List W)) : R (List W) := a >>= fun x => b >>= fun xs => .ok (x :: xs)
theorem aC_ap (ma : Rho → R W) (mr : Rho → R (List W)) (ρ : Rho) : aC ma mr ρ = Rcons (ma ρ) (mr ρ) := rfl
theorem Rcons_ok (x : W) (xs : List W) : Rcons (.ok x) (.ok xs) = .ok (x :: xs) := rfl
theorem bChk_ap (ma : Rho → R W) (ρ : Rho) : bChk ma ρ = (ma ρ >>= chk) := rfl
theorem bTest_ap (ma : Rho → R W) (ρ : Rho) : bTest ma ρ = (ma ρ >>= toB) := rfl
theorem tAnd_ap (a b : Rho → R Bool) (ρ : Rho) : tAnd' a b ρ = rAnd (a ρ) (b ρ) := rfl
theorem tOr_ap (a b : Rho → R Bool) (ρ : Rho) : tOr' a b ρ = rOr (a ρ) (b ρ) := rfl
theorem tNot_ap (a : Rho → R Bool) (ρ : Rho) : tNot' a ρ = rNot (a ρ) := rfl
theorem rAnd_ok (x y : Bool) : rAnd (.ok x) (.ok y) = .ok (x && y) := by cases x <;> rfl
theorem rAnd_ff (r : R Bool) : rAnd (.ok false) r = .ok false := rfl
theorem rAnd_tt (r : R Bool) : rAnd (.ok true) r = r := rfl
theorem rOr_ok (x y : Bool) : rOr (.ok x) (.ok y) = .ok (x || y) := by cases x <;> rfl
theorem rOr_tt (r : R Bool) : rOr (.ok true) r = .ok true := rfl
theorem rOr_ff (r : R Bool) : rOr (.ok false) r = r := rfl
theorem rNot_ok (x : Bool) : rNot (.ok x) = .ok (!x) := rfl
theorem vAnd_ap (a b : Rho → R W) (ρ : Rho) : vAnd a b ρ = rAndV (a ρ) (b ρ) := rfl
theorem vOr_ap (a b : Rho → R W) (ρ : Rho) : vOr a b ρ = rOrV (a ρ) (b ρ) := rfl
theorem vNot_ap (a : Rho → R W) (ρ : Rho) : vNot a ρ = rNotV (a ρ) := rfl
theorem rAndV_ok (x y : Bool) : rAndV (.ok (.bl x)) (.ok (.bl y)) = .ok (.bl (x && y)) := by cases x <;> rfl
theorem rAndV_ff (r : R W) : rAndV (.ok (.bl false)) r = .ok (.bl false) := rfl
theorem rAndV_tt (r : R W) : rAndV (.ok (.bl true)) r = r := rfl
theorem rOrV_ok (x y : Bool) : rOrV (.ok (.bl x)) (.ok (.bl y)) = .ok (.bl (x || y)) := by cases x <;> rfl
theorem rOrV_tt (r : R W) : rOrV (.ok (.bl true)) r = .ok (.bl true) := rfl
theorem rOrV_ff (r : R W) : rOrV (.ok (.bl false)) r = r := rfl
theorem rNotV_ok (x : Bool) : rNotV (.ok (.bl x)) = .ok (.bl (!x)) := rfl
def rIfW (c : R Bool) (a b : R W) : R W := c >>= fun t => if t then a else b
theorem vIf_ap (c : Rho → R Bool) (a b : Rho → R W) (ρ : Rho) : vIf c a b ρ = rIfW (c ρ) (a ρ) (b ρ) := rfl
theorem rIfW_tt (a b : R W) : rIfW (.ok true) a b = a := rfl
theorem rIfW_ff (a b : R W) : rIfW (.ok false) a b = b := rfl
theorem rIfW_ok (t : Bool) (x y : W) : rIfW (.ok t) (.ok x) (.ok y) = .ok (if t then x else y) := by cases t <;> rfl
def Rchain (f f' : W → W → R W) (a b c : R W) : R W := a >>= fun x => b >>= fun y => f x y >>= fun z => toB z >>= fun t => if t then c >>= fun u => f' y u else .ok (.bl false)
theorem vChain_ap (f f' : W → W → R W) (ma mb mc : Rho → R W) (ρ : Rho) : vChain f f' ma mb mc ρ = Rchain f f' (ma ρ) (mb ρ) (mc ρ) := rfl
theorem Rchain_ii (g g' : Int → Int → Bool) (i j k : Int) : Rchain (fI0 fun i j => .bl (g i j)) (fI0 fun i j => .bl (g' i j)) (.ok (.int i)) (.ok (.int j)) (.ok (.int k)) = .ok (.bl (g i j && g' j k)) := by
  unfold Rchain
  show (if g i j = true then _ else _) = _
  cases h : g i j <;> simp [fI0]
def mkTup (ws : List W) : R W := lim ws.length (.tup ws)
def mkLst (ws : List W) : R W := lim ws.length (.lst ws)
theorem vTup_ap (ma : Rho → R (List W)) (ρ : Rho) : vTup ma ρ = (ma ρ >>= mkTup) := rfl
theorem vLst_ap (ma : Rho → R (List W)) (ρ : Rho) : vLst ma ρ = (ma ρ >>= mkLst) := rfl
theorem pN_ap (ρ : Rho) : pN ρ = .ok none := rfl
theorem pS_ap (m : Rho → R W) (ρ : Rho) : pS m ρ = (m ρ >>= partW) := rfl
theorem partW_int (i : Int) : partW (.int i) = .ok (some i) := rfl
def Rsl (c : Bool) (x : R W) (l u : R (Option Int)) : R W := x >>= fun x => l >>= fun l => u >>= fun u => toR (lstOf x) >>= fun ws => chks c (cutW ws l u)
theorem vSl_ap (c : Bool) (m : Rho → R W) (ml mh : Rho → R (Option Int)) (ρ : Rho) : vSl c m ml mh ρ = Rsl c (m ρ) (ml ρ) (mh ρ) := rfl
theorem Rsl_lst (c : Bool) (ws : List W) (l u : Option Int) : Rsl c (.ok (.lst ws)) (.ok l) (.ok u) = chks c (cutW ws l u) := rfl
theorem Rsl_scr (c : Bool) (ws : List W) (l u : Option Int) : Rsl c (.ok (.scr ws)) (.ok l) (.ok u) = chks c (cutW ws l u) := rfl
def Rcomp (r : R (List W)) (n : Nat) (mg : W → Rho → Option Rho) (mc : Rho → R Bool) (me : Rho → R W) (ρ : Rho) : R W := r >>= fun ws => mComp n mg mc me ws ρ
theorem vComp_ap (n : Nat) (mi : Rho → R (List W)) (mg : W → Rho → Option Rho) (mc : Rho → R Bool) (me : Rho → R W) (ρ : Rho) : vComp n mi mg mc me ρ = Rcomp (mi ρ) n mg mc me ρ := rfl
theorem Rcomp_ok (ws : List W) (n : Nat) (mg : W → Rho → Option Rho) (mc : Rho → R Bool) (me : Rho → R W) (ρ : Rho) : Rcomp (.ok ws) n mg mc me ρ = mComp n mg mc me ws ρ := rfl
theorem sNx_ap (ρ : Rho) : sNx ρ = .ok (.nx ρ) := rfl
theorem sBk_ap (ρ : Rho) : sBk ρ = .ok (.bk ρ) := rfl
theorem sCt_ap (ρ : Rho) : sCt ρ = .ok (.ct ρ) := rfl
def Rdrop (r : R W) (ρ : Rho) : R Fl := r >>= fun _ => .ok (.nx ρ)
theorem sDrop_ap (m : Rho → R W) (ρ : Rho) : sDrop m ρ = Rdrop (m ρ) ρ := rfl
theorem Rdrop_ok (w : W) (ρ : Rho) : Rdrop (.ok w) ρ = .ok (.nx ρ) := rfl
def retK (w : W) : R Fl := .ok (.rt w)
theorem sRet_ap (m : Rho → R W) (ρ : Rho) : sRet m ρ = (m ρ >>= retK) := rfl
theorem retK_ap (w : W) : retK w = .ok (.rt w) := rfl
theorem sRetN_ap (ρ : Rho) : sRetN ρ = .ok (.rt .non) := rfl
def Rset (r : R W) (f : W → Sl) (i : Nat) (ρ : Rho) : R Fl := r >>= fun w => .ok (.nx (ρ.set i (f w)))
theorem sV_ap (i : Nat) (m : Rho → R W) (ρ : Rho) : sV i m ρ = Rset (m ρ) Sl.val i ρ := rfl
theorem sU_ap (i : Nat) (m : Rho → R W) (ρ : Rho) : sU i m ρ = Rset (m ρ) Sl.par i ρ := rfl
theorem sF_ap (i : Nat) (m : Rho → R W) (ρ : Rho) : sF i m ρ = Rset (m ρ) slotF i ρ := rfl
theorem Rset_ok (w : W) (f : W → Sl) (i : Nat) (ρ : Rho) : Rset (.ok w) f i ρ = .ok (.nx (ρ.set i (f w))) := rfl
theorem slotF_lst (ws : List W) : slotF (.lst ws) = .own ws := rfl
theorem slotF_tup (ws : List W) : slotF (.tup ws) = .val (.tup ws) := rfl
theorem slotF_int (i : Int) : slotF (.int i) = .val (.int i) := rfl
theorem slotF_bl (i : Bool) : slotF (.bl i) = .val (.bl i) := rfl
theorem slotF_non : slotF .non = .val .non := rfl
theorem slotF_str (i : Str) : slotF (.str i) = .val (.str i) := rfl
def toNx : Option Rho → R Fl
  | some ρ => .ok (.nx ρ)
  | none => .stuck
def Rasg (r : R W) (mg : W → Rho → Option Rho) (ρ : Rho) : R Fl := r >>= fun w => toR (mg w ρ) >>= fun ρ' => .ok (.nx ρ')
theorem sG_ap (mg : W → Rho → Option Rho) (m : Rho → R W) (ρ : Rho) : sG mg m ρ = Rasg (m ρ) mg ρ := rfl
theorem Rasg_ok (w : W) (mg : W → Rho → Option Rho) (ρ : Rho) : Rasg (.ok w) mg ρ = toNx (mg w ρ) := by
  show (toR (mg w ρ) >>= _) = _
  cases mg w ρ <;> rfl
theorem toNx_some (ρ : Rho) : toNx (some ρ) = .ok (.nx ρ) := rfl
def Rfor (r : R (List W)) (mg : W → Rho → Option Rho) (mb : Rho → R Fl) (ρ : Rho) : R Fl := r >>= fun ws => mFor mg mb ws ρ
theorem sFor_ap (mi : Rho → R (List W)) (mg : W → Rho → Option Rho) (mb : Rho → R Fl) (ρ : Rho) : sFor mi mg mb ρ = Rfor (mi ρ) mg mb ρ := rfl
theorem Rfor_ok (ws : List W) (mg : W → Rho → Option Rho) (mb : Rho → R Fl) (ρ : Rho) : Rfor (.ok ws) mg mb ρ = mFor mg mb ws ρ := rfl
theorem sFrz_ap (i : Nat) (m : Rho → R Fl) (ρ : Rho) : sFrz i m ρ = m (frz i ρ) := rfl
def frzS : Option Sl → Nat → Rho → Rho
  | some (.own ws), i, ρ => ρ.set i (.val (.lst ws))
  | _, _, ρ => ρ
theorem frz_ap (i : Nat) (ρ : Rho) : frz i ρ = frzS (ρ[i]?) i ρ := by
  unfold frz frzS
  rcases h : ρ[i]? with _ | s
  · rfl
  · cases s <;> rfl
theorem frzS_own (ws : List W) (i : Nat) (ρ : Rho) : frzS (some (.own ws)) i ρ = ρ.set i (.val (.lst ws)) := rfl
theorem frzS_val (w : W) (i : Nat) (ρ : Rho) : frzS (some (.val w)) i ρ = ρ := rfl
theorem frzS_par (w : W) (i : Nat) (ρ : Rho) : frzS (some (.par w)) i ρ = ρ := rfl
theorem frzS_un (i : Nat) (ρ : Rho) : frzS (some .un) i ρ = ρ := rfl
def rdS (d : Mode) : Option Sl → R W
  | some (.val w) => (match d with | .F => chk w | _ => .ok w)
  | some (.par w) => (match d with | .F => chk w | .V => chk w | .C => chk w | _ => .ok w)
  | some (.own ws) => (match d with | .C => .ok (.lst ws) | .B => .ok (.lst ws) | _ => .stuck)
  | some (.iop _ ws) => (match d with | .B => .ok (.lst ws) | .U => .ok (.lst ws) | _ => .stuck)
  | _ => .stuck
theorem mVar_ap (d : Mode) (i : Nat) (ρ : Rho) : mVar d i ρ = rdS d (ρ[i]?) := by
  unfold mVar rdS
  rfl
theorem rdS_vF (w : W) : rdS .F (some (.val w)) = chk w := rfl
theorem rdS_vV (w : W) : rdS .V (some (.val w)) = .ok w := rfl
theorem rdS_vU (w : W) : rdS .U (some (.val w)) = .ok w := rfl
theorem rdS_vC (w : W) : rdS .C (some (.val w)) = .ok w := rfl
theorem rdS_vB (w : W) : rdS .B (some (.val w)) = .ok w := rfl
theorem rdS_pF (w : W) : rdS .F (some (.par w)) = chk w := rfl
theorem rdS_pV (w : W) : rdS .V (some (.par w)) = chk w := rfl
theorem rdS_pU (w : W) : rdS .U (some (.par w)) = .ok w := rfl
theorem rdS_pC (w : W) : rdS .C (some (.par w)) = chk w := rfl
theorem rdS_pB (w : W) : rdS .B (some (.par w)) = .ok w := rfl
theorem rdS_oC (ws : List W) : rdS .C (some (.own ws)) = .ok (.lst ws) := rfl
theorem rdS_oB (ws : List W) : rdS .B (some (.own ws)) = .ok (.lst ws) := rfl
def retS (d : Mode) : Option Sl → R Fl
  | some (.own ws) => .ok (.rt (.lst ws))
  | o => rdS d o >>= retK
theorem mRetVar_ap (d : Mode) (i : Nat) (ρ : Rho) : mRetVar d i ρ = retS d (ρ[i]?) := by
  unfold mRetVar retS
  rw [mVar_ap]
  rcases h : ρ[i]? with _ | s
  · rfl
  · cases s <;> rfl
theorem retS_own (d : Mode) (ws : List W) : retS d (some (.own ws)) = .ok (.rt (.lst ws)) := rfl
theorem retS_val (d : Mode) (w : W) : retS d (some (.val w)) = (rdS d (some (.val w)) >>= retK) := rfl
theorem retS_par (d : Mode) (w : W) : retS d (some (.par w)) = (rdS d (some (.par w)) >>= retK) := rfl
def appS (o : Option Sl) (r : R W) (i : Nat) (ρ : Rho) : R Fl := match o with
  | some (.own ws) => r >>= fun w => if ws.length < 1000 then .ok (.nx (ρ.set i (.own (ws ++ [w])))) else .stuck
  | _ => .stuck
theorem mApp_ap (i : Nat) (m : Rho → R W) (ρ : Rho) : mApp i m ρ = appS (ρ[i]?) (m ρ) i ρ := rfl
theorem appS_ok (ws : List W) (w : W) (i : Nat) (ρ : Rho) : appS (some (.own ws)) (.ok w) i ρ = if ws.length < 1000 then .ok (.nx (ρ.set i (.own (ws ++ [w])))) else .stuck := rfl
def setS (o : Option Sl) (a b : R W) (i : Nat) (ρ : Rho) : R Fl := match o with
  | some (.own ws) => b >>= fun w => a >>= fun k => (match k with
    | .int k => (match ixN ws.length k with
      | some j => .ok (.nx (ρ.set i (.own (ws.set j w))))
      | none => .stuck)
    | _ => .stuck)
  | _ => .stuck
theorem mSet_ap (i : Nat) (mk me : Rho → R W) (ρ : Rho) : mSet i mk me ρ = setS (ρ[i]?) (mk ρ) (me ρ) i ρ := rfl
def setJ (o : Option Nat) (ws : List W) (w : W) (i : Nat) (ρ : Rho) : R Fl := match o with
  | some j => .ok (.nx (ρ.set i (.own (ws.set j w))))
  | none => .stuck
theorem setS_ok (ws : List W) (w : W) (k : Int) (i : Nat) (ρ : Rho) : setS (some (.own ws)) (.ok (.int k)) (.ok w) i ρ = setJ (ixN ws.length k) ws w i ρ := rfl
theorem setJ_some (j : Nat) (ws : List W) (w : W) (i : Nat) (ρ : Rho) : setJ (some j) ws w i ρ = .ok (.nx (ρ.set i (.own (ws.set j w)))) := rfl
def augS (f : Int → Int → Int) (a b : R W) (i : Nat) (ρ : Rho) : R Fl := a >>= fun x => b >>= fun y => match x, y with
  | .int a, .int b => .ok (.nx (ρ.set i (.val (.int (f a b)))))
  | _, _ => .stuck
theorem mAug_ap (i : Nat) (f : Int → Int → Int) (m : Rho → R W) (ρ : Rho) : mAug i f m ρ = augS f (rdS .B (ρ[i]?)) (m ρ) i ρ := by
  rw [← mVar_ap]; rfl
theorem augS_ok (f : Int → Int → Int) (a b : Int) (i : Nat) (ρ : Rho) : augS f (.ok (.int a)) (.ok (.int b)) i ρ = .ok (.nx (ρ.set i (.val (.int (f a b))))) := rfl
def ifS (c : R Bool) (m n : Rho → R Fl) (ρ : Rho) : R Fl := c >>= fun b => if b then m ρ else n ρ
theorem mIf_ap (c : Rho → R Bool) (m n : Rho → R Fl) (ρ : Rho) : mIf c m n ρ = ifS (c ρ) m n ρ := rfl
theorem ifS_tt (m n : Rho → R Fl) (ρ : Rho) : ifS (.ok true) m n ρ = m ρ := rfl
theorem ifS_ff (m n : Rho → R Fl) (ρ : Rho) : ifS (.ok false) m n ρ = n ρ := rfl
def endB (r : R Fl) : R W := r >>= fun f => match f with
  | .rt w => .ok w
  | .nx _ => .ok .non
  | _ => .stuck
theorem runB_ap {n N : Nat} {m : Rho → R Fl} {ws : List W} (h : ws.length = n) : runB n N m ws = endB (m (ws.map Sl.par ++ List.replicate (N - n) Sl.un)) := by unfold runB; rw [if_pos h]; rfl
theorem runB_1 {N : Nat} {m : Rho → R Fl} (a : W) : runB 1 N m [a] = endB (m (Sl.par a :: List.replicate (N - 1) Sl.un)) := runB_ap rfl
theorem runB_2 {N : Nat} {m : Rho → R Fl} (a b : W) : runB 2 N m [a, b] = endB (m (Sl.par a :: Sl.par b :: List.replicate (N - 2) Sl.un)) := runB_ap rfl
theorem runB_3 {N : Nat} {m : Rho → R Fl} (a b c : W) : runB 3 N m [a, b, c] = endB (m (Sl.par a :: Sl.par b :: Sl.par c :: List.replicate (N - 3) Sl.un)) := runB_ap rfl
theorem runB_4 {N : Nat} {m : Rho → R Fl} (a b c d : W) : runB 4 N m [a, b, c, d] = endB (m (Sl.par a :: Sl.par b :: Sl.par c :: Sl.par d :: List.replicate (N - 4) Sl.un)) := runB_ap rfl
theorem runB_5 {N : Nat} {m : Rho → R Fl} (a b c d e : W) : runB 5 N m [a, b, c, d, e] = endB (m (Sl.par a :: Sl.par b :: Sl.par c :: Sl.par d :: Sl.par e :: List.replicate (N - 5) Sl.un)) := runB_ap rfl
theorem endB_rt (w : W) : endB (.ok (.rt w)) = .ok w := rfl
theorem endB_nx (ρ : Rho) : endB (.ok (.nx ρ)) = .ok .non := rfl
theorem fI0_ii (g : Int → Int → W) (i j : Int) : fI0 g (.int i) (.int j) = .ok (g i j) := rfl
theorem fU_i (g : Int → W) (i : Int) : fU g (.int i) = .ok (g i) := rfl
theorem fIx_l (ws : List W) (i : Int) : fIx (.lst ws) (.int i) = toR (L2.atI ws i) := rfl
theorem fIx_t (ws : List W) (i : Int) : fIx (.tup ws) (.int i) = toR (L2.atI ws i) := rfl
theorem fIx_s (ws : List W) (i : Int) : fIx (.scr ws) (.int i) = toR (L2.atI ws i) := rfl
theorem toR_some {α : Type} (a : α) : toR (some a) = .ok a := rfl
theorem toB_bl (b : Bool) : toB (.bl b) = .ok b := rfl
theorem fLen_l (ws : List W) : fLen [.lst ws] = .ok (.int ws.length) := rfl
theorem fLen_t (ws : List W) : fLen [.tup ws] = .ok (.int ws.length) := rfl
theorem fLen_s (ws : List W) : fLen [.scr ws] = .ok (.int ws.length) := rfl
theorem fList_l (c : Bool) (ws : List W) : fList c [.lst ws] = chks c ws := rfl
theorem fList_t (c : Bool) (ws : List W) : fList c [.tup ws] = chks c ws := rfl
theorem fTup_l (c : Bool) (ws : List W) : fTup c [.lst ws] = chkT c ws := rfl
theorem fTup_t (c : Bool) (ws : List W) : fTup c [.tup ws] = chkT c ws := rfl
theorem chks_t (ws : List W) : chks true ws = .ok (.lst ws) := rfl
theorem chkT_t (ws : List W) : chkT true ws = .ok (.tup ws) := rfl
theorem chks_no {c : Bool} {ws : List W} (h : noLs ws = true) : chks c ws = .ok (.lst ws) := by unfold chks; rw [h, Bool.or_true, if_pos rfl]
theorem chkT_no {c : Bool} {ws : List W} (h : noLs ws = true) : chkT c ws = .ok (.tup ws) := by unfold chkT; rw [h, Bool.or_true, if_pos rfl]
theorem chks_I (c : Bool) (ns : List Int) : chks c (ns.map W.int) = .ok (.lst (ns.map W.int)) := chks_no (noLs_ints ns)
theorem chkT_I (c : Bool) (ns : List Int) : chkT c (ns.map W.int) = .ok (.tup (ns.map W.int)) := chkT_no (noLs_ints ns)
theorem chk_no {w : W} (h : noL w = true) : chk w = .ok w := by unfold chk; rw [if_pos h]
theorem chk_int (i : Int) : chk (.int i) = .ok (.int i) := rfl
theorem chk_bl (i : Bool) : chk (.bl i) = .ok (.bl i) := rfl
theorem chk_str (i : Str) : chk (.str i) = .ok (.str i) := rfl
theorem chk_non : chk .non = .ok .non := rfl
theorem chk_tI (ns : List Int) : chk (.tup (ns.map W.int)) = .ok (.tup (ns.map W.int)) := chk_no (noLs_ints ns)
theorem f2_ii (g : Int → Int → Int) (i j : Int) : f2 g [.int i, .int j] = .ok (.int (g i j)) := rfl
theorem seqW_l (ws : List W) : seqW (.lst ws) = .ok ws := rfl
theorem seqW_t (ws : List W) : seqW (.tup ws) = .ok ws := rfl
theorem seqW_s (ws : List W) : seqW (.scr ws) = .ok ws := rfl
theorem rng1_i (j : Int) : rng1 [.int j] = rngW 0 j := rfl
theorem rng2_i (i j : Int) : rng2 [.int i, .int j] = rngW i j := rfl
theorem gN_U (i : Nat) (w : W) (ρ : Rho) : gN .U i w ρ = some (ρ.set i (.par w)) := rfl
theorem gN_V (i : Nat) (w : W) (ρ : Rho) : gN .V i w ρ = some (ρ.set i (.val w)) := rfl
theorem gT_t (n : Nat) (g : List W → Rho → Option Rho) (ws : List W) (ρ : Rho) : gT n g (.tup ws) ρ = if ws.length = n then g ws ρ else none := rfl
theorem gsCons_c (f : W → Rho → Option Rho) (g : List W → Rho → Option Rho) (w : W) (ws : List W) (ρ : Rho) : gsCons f g (w :: ws) ρ = (f w ρ).bind (g ws) := rfl
theorem gsNil_n (ρ : Rho) : gsNil [] ρ = some ρ := rfl
theorem mkTup_ap (ws : List W) : mkTup ws = if ws.length ≤ 1000 then .ok (.tup ws) else .stuck := rfl
theorem mkLst_ap (ws : List W) : mkLst ws = if ws.length ≤ 1000 then .ok (.lst ws) else .stuck := rfl
theorem fIsi_ap (x : W) (T : String) : fIsi [x, .ty T] = (toR ((tyW x).bind fun A => isiB A T) >>= fun b => .ok (.bl b)) := rfl
theorem isi_nt : isiB "NoneType" "tuple" = some false := by decide
theorem isi_nl : isiB "NoneType" "list" = some false := by decide
theorem isi_lt : isiB "list" "tuple" = some false := by decide
theorem isi_tl : isiB "tuple" "list" = some false := by decide
theorem fIsN_n (n : Bool) (u : W) : fIsN n u .non = .ok (.bl (if n then !isN u else isN u)) := rfl
theorem mapR_all {f : W → R (Option W)} {α : Type} (g : α → W) (s : α → W) : ∀ (as : List α), (∀ a ∈ as, f (s a) = .ok (some (g a))) → mapR f (as.map s) = .ok (as.map g)
  | [], _ => rfl
  | a :: as, h => by
    rw [List.map_cons, mapR, h a (by simp), mapR_all g s as fun b hb => h b (by simp [hb])]
    rfl
theorem mapR_filter {f : W → R (Option W)} {α : Type} (g : α → W) (s : α → W) (c : α → Bool) : ∀ (as : List α), (∀ a ∈ as, f (s a) = .ok (if c a then some (g a) else none)) → mapR f (as.map s) = .ok ((as.filter c).map g)
  | [], _ => rfl
  | a :: as, h => by
    have ih := mapR_filter g s c as fun b hb => h b (by simp [hb])
    rw [List.map_cons, mapR, h a (by simp), ih]
    cases hc : c a
    · simp [hc]
    · simp [hc]
theorem mComp_all {N' : Nat} {mg : W → Rho → Option Rho} {me : Rho → R W} {α : Type} (g : α → W) (s : α → W) (as : List α) (ρ : Rho) (hl : as.length ≤ 1000)
    (h : ∀ a ∈ as, ∃ ρ1, mg (s a) (ρ ++ List.replicate (N' - ρ.length) Sl.un) = some ρ1 ∧ me ρ1 = .ok (g a)) : mComp N' mg yes me (as.map s) ρ = .ok (.lst (as.map g)) := by
  unfold mComp
  rw [List.length_map, if_pos hl, mapR_all g s as]
  intro a ha
  obtain ⟨ρ1, e1, e2⟩ := h a ha
  unfold elR
  rw [e1]
  have hy : yes ρ1 = .ok true := rfl
  dsimp only
  rw [hy]
  dsimp only
  rw [e2]
theorem mComp_filter {N' : Nat} {mg : W → Rho → Option Rho} {mc : Rho → R Bool} {me : Rho → R W} {α : Type} (g : α → W) (s : α → W) (c : α → Bool) (as : List α) (ρ : Rho) (hl : as.length ≤ 1000)
    (h : ∀ a ∈ as, ∃ ρ1, mg (s a) (ρ ++ List.replicate (N' - ρ.length) Sl.un) = some ρ1 ∧ mc ρ1 = .ok (c a) ∧ (c a = true → me ρ1 = .ok (g a))) : mComp N' mg mc me (as.map s) ρ = .ok (.lst ((as.filter c).map g)) := by
  unfold mComp
  rw [List.length_map, if_pos hl, mapR_filter g s c as]
  intro a ha
  obtain ⟨ρ1, e1, e2, e3⟩ := h a ha
  unfold elR
  rw [e1]
  dsimp only
  rw [e2]
  cases hc : c a with
  | false => rfl
  | true => dsimp only; rw [e3 hc]; rfl
theorem rngW_int {z : Int} (h0 : -1000000 ≤ z) (h : z ≤ 1000000) : rngW 0 z = .ok ((List.range z.toNat).map fun k => W.int (k : Nat)) := by
  unfold rngW
  rw [if_pos (by omega)]
  simp
theorem rng_at {n i : Nat} {w : W} (h : ((List.range n).map fun k => W.int (k : Nat))[i]? = some w) : i < n ∧ w = .int (i : Nat) := by
  rw [List.getElem?_map] at h
  cases q : (List.range n)[i]? with
  | none => rw [q] at h; cases h
  | some k =>
    rw [q] at h
    obtain ⟨h1, h2⟩ := List.getElem?_eq_some_iff.mp q
    simp at h1 h2
    subst h2
    cases h
    exact ⟨h1, rfl⟩
theorem map_at {ns : List Int} {i : Nat} {w : W} (h : (ns.map W.int)[i]? = some w) : i < ns.length ∧ w = .int (ns.getD i 0) := by
  rw [List.getElem?_map] at h
  cases q : ns[i]? with
  | none => rw [q] at h; cases h
  | some k =>
    rw [q] at h
    cases h
    exact ⟨(List.getElem?_eq_some_iff.mp q).1, by rw [getD_of q]⟩
def cutI (xs : List Int) (lo hi : Option Int) : List Int := (xs.drop (HT.sIx xs.length 0 lo)).take (HT.sIx xs.length xs.length hi - HT.sIx xs.length 0 lo)
theorem cutW_I (ns : List Int) (lo hi : Option Int) : cutW (ns.map W.int) lo hi = (cutI ns lo hi).map W.int := by
  unfold cutW cutI
  rw [List.length_map, ← List.map_drop, ← List.map_take]
theorem setW_I (ns : List Int) (j : Nat) (z : Int) : (ns.map W.int).set j (.int z) = (ns.set j z).map W.int := by rw [List.map_set]
theorem appW_I (ns : List Int) (z : Int) : ns.map W.int ++ [.int z] = (ns ++ [z]).map W.int := by rw [List.map_append]; rfl
theorem repW_I (k : Nat) (z : Int) : (List.replicate k [W.int z]).flatten = (List.replicate k z).map W.int := by
  induction k with
  | zero => rfl
  | succ k ih => rw [List.replicate_succ, List.flatten_cons, ih, List.replicate_succ, List.map_cons]; rfl
theorem mul_L {i j : Int} (h : -18446744073709551616 < i ∧ i < 18446744073709551616) : fI CMul gMul (.int i) (.int j) = .ok (.int (i * j)) := by
  show (if CMul i j then _ else _) = _
  rw [if_pos (.inl (by simpa using h))]
theorem mul_R {i j : Int} (h : -18446744073709551616 < j ∧ j < 18446744073709551616) : fI CMul gMul (.int i) (.int j) = .ok (.int (i * j)) := by
  show (if CMul i j then _ else _) = _
  rw [if_pos (.inr (by simpa using h))]
theorem mod_ii {i j : Int} (h : 0 < j) : fI cMod gMod (.int i) (.int j) = .ok (.int (i % j)) := by
  show (if cMod i j then _ else _) = _
  rw [if_pos h]
theorem div_ii {i j : Int} (h : 0 < j ∧ j < 1073741824) : fI CDiv gDiv (.int i) (.int j) = .ok (.int (i / j)) := by
  show (if CDiv i j then _ else _) = _
  rw [if_pos (show CDiv i j from h)]
theorem pow_ii {i j : Int} (h : 0 ≤ j ∧ j ≤ 1000000 ∧ -18446744073709551616 < i ∧ i < 18446744073709551616) : fI CPow gPow (.int i) (.int j) = .ok (.int (i ^ j.toNat)) := by
  show (if CPow i j then _ else _) = _
  rw [if_pos ⟨h.1, h.2.1, by omega⟩]
theorem appS_c {ws : List W} {w : W} {i : Nat} {ρ : Rho} (h : ws.length < 1000) : appS (some (.own ws)) (.ok w) i ρ = .ok (.nx (ρ.set i (.own (ws ++ [w])))) := by rw [appS_ok, if_pos h]
theorem mkTup_c {ws : List W} (h : ws.length ≤ 1000) : mkTup ws = .ok (.tup ws) := by rw [mkTup_ap, if_pos h]
theorem mkLst_c {ws : List W} (h : ws.length ≤ 1000) : mkLst ws = .ok (.lst ws) := by rw [mkLst_ap, if_pos h]
theorem fCat_c {c : Bool} {us vs : List W} (h : us.length + vs.length ≤ 1000) : fCat c (.lst us) (.lst vs) = chks c (us ++ vs) := by
  show (if us.length + vs.length ≤ 1000 then _ else _) = _
  rw [if_pos h]
theorem fRep_1 {c : Bool} {z : W} {k : Int} (h : 0 ≤ k ∧ k ≤ 1000) : fRep c (.lst [z]) (.int k) = chks c (List.replicate k.toNat [z]).flatten := by
  show (if [z].length * k.toNat ≤ 1000 ∧ -1000 ≤ k ∧ k ≤ 1000 then _ else _) = _
  rw [if_pos ⟨by simp only [List.length_cons, List.length_nil]; omega, by omega, h.2⟩]
theorem atW_c {ns : List Int} {i : Int} (h : 0 ≤ i ∧ i < ns.length) : L2.atI (ns.map W.int) i = some (.int (ns.getD i.toNat 0)) := atW h.1 h.2
theorem ixN_c {n : Nat} {i : Int} (h : 0 ≤ i ∧ i < n) : ixN n i = some i.toNat := ixN_int h.1 h.2
theorem rngW_c {z : Int} (h : -1000000 ≤ z ∧ z ≤ 1000000) : rngW 0 z = .ok ((List.range z.toNat).map fun k => W.int (k : Nat)) := rngW_int h.1 h.2
def Ok (r : R W) (P : W → Prop) : Prop := ∃ w, r = .ok w ∧ P w
def Po (r : R Fl) (Jn : Rho → Prop) (Jr : W → Prop) : Prop := match r with
  | .ok (.nx ρ) => Jn ρ
  | .ok (.rt w) => Jr w
  | _ => False
theorem ok_end {r : R Fl} {P : W → Prop} (h : Po r (fun _ => P .non) P) : Ok (endB r) P := by
  cases r with
  | ex _ => exact h.elim
  | stuck => exact h.elim
  | ok f => cases f with
    | nx ρ => exact ⟨_, rfl, h⟩
    | rt w => exact ⟨_, rfl, h⟩
    | bk _ => exact h.elim
    | ct _ => exact h.elim
theorem po_seq {r : R Fl} {n : Rho → R Fl} {Jn : Rho → Prop} {Jr : W → Prop} (h : Po r (fun ρ => Po (n ρ) Jn Jr) Jr) : Po (andThen r n) Jn Jr := by
  cases r with
  | ex _ => exact h.elim
  | stuck => exact h.elim
  | ok f => cases f with
    | nx ρ => exact h
    | rt w => exact h
    | bk _ => exact h.elim
    | ct _ => exact h.elim
theorem po_nx {ρ : Rho} {Jn : Rho → Prop} {Jr : W → Prop} : Po (.ok (.nx ρ)) Jn Jr = Jn ρ := rfl
theorem po_rt {w : W} {Jn : Rho → Prop} {Jr : W → Prop} : Po (.ok (.rt w)) Jn Jr = Jr w := rfl
theorem po_if {b : Bool} {m n : Rho → R Fl} {ρ : Rho} {Jn : Rho → Prop} {Jr : W → Prop} (h1 : b = true → Po (m ρ) Jn Jr) (h2 : b = false → Po (n ρ) Jn Jr) : Po (ifS (.ok b) m n ρ) Jn Jr := by
  cases b with
  | true => exact h1 rfl
  | false => exact h2 rfl
theorem po_ifs {b : Bool} {m n : Rho → R Fl} {ρ : Rho} {k : Rho → R Fl} {Jn : Rho → Prop} {Jr : W → Prop} (h1 : b = true → Po (andThen (m ρ) k) Jn Jr) (h2 : b = false → Po (andThen (n ρ) k) Jn Jr) : Po (andThen (ifS (.ok b) m n ρ) k) Jn Jr := by
  cases b with
  | true => exact h1 rfl
  | false => exact h2 rfl
theorem Po.mono {r : R Fl} {Jn Jn' : Rho → Prop} {Jr Jr' : W → Prop} (h : Po r Jn Jr) (h1 : ∀ ρ, Jn ρ → Jn' ρ) (h2 : ∀ w, Jr w → Jr' w) : Po r Jn' Jr' := by
  cases r with
  | ex _ => exact h
  | stuck => exact h
  | ok f => cases f with
    | nx ρ => exact h1 ρ h
    | rt w => exact h2 w h
    | bk _ => exact h
    | ct _ => exact h
theorem po_for_go {mg : W → Rho → Option Rho} {mb : Rho → R Fl} {Jr : W → Prop} (I : Nat → Rho → Prop) : ∀ (ws : List W) (k : Nat) (ρ : Rho), I k ρ →
    (∀ (i : Nat) (w : W) (ρ : Rho), ws[i]? = some w → I (k + i) ρ → ∃ ρ1, mg w ρ = some ρ1 ∧ Po (mb ρ1) (I (k + i + 1)) Jr) → Po (mFor mg mb ws ρ) (I (k + ws.length)) Jr
  | [], k, ρ, h, _ => h
  | w :: ws, k, ρ, h, st => by
    obtain ⟨ρ1, e1, p⟩ := st 0 w ρ rfl h
    unfold mFor
    rw [e1]
    show Po (mb ρ1 >>= _) _ _
    revert p
    cases mb ρ1 with
    | ex _ => exact fun p => p.elim
    | stuck => exact fun p => p.elim
    | ok f => cases f with
      | bk _ => exact fun p => p.elim
      | ct _ => exact fun p => p.elim
      | rt w => exact fun p => p
      | nx ρ2 =>
        intro p
        have := po_for_go (mg := mg) (mb := mb) I ws (k + 1) ρ2 p fun i w ρ hw hp => by
          have := st (i + 1) w ρ (by simpa using hw) (by rw [show k + (i + 1) = k + 1 + i by omega]; exact hp)
          rw [show k + (i + 1) + 1 = k + 1 + i + 1 by omega] at this
          exact this
        rw [List.length_cons, show k + (ws.length + 1) = k + 1 + ws.length by omega]
        exact this
theorem po_for {mg : W → Rho → Option Rho} {mb : Rho → R Fl} {ws : List W} {ρ : Rho} {Jn : Rho → Prop} {Jr : W → Prop} (I : Nat → Rho → Prop) (h0 : I 0 ρ)
    (st : ∀ (i : Nat) (w : W) (ρ : Rho), ws[i]? = some w → I i ρ → ∃ ρ1, mg w ρ = some ρ1 ∧ Po (mb ρ1) (I (i + 1)) Jr) (hn : ∀ ρ, I ws.length ρ → Jn ρ) : Po (mFor mg mb ws ρ) Jn Jr := by
  have := po_for_go (mg := mg) (mb := mb) (Jr := Jr) I ws 0 ρ h0 fun i w ρ hw hp => by rw [Nat.zero_add] at hp ⊢; exact st i w ρ hw hp
  rw [Nat.zero_add] at this
  exact this.mono hn fun _ h => h
theorem po_fors {mg : W → Rho → Option Rho} {mb n : Rho → R Fl} {ws : List W} {ρ : Rho} {Jn : Rho → Prop} {Jr : W → Prop} (I : Nat → Rho → Prop) (h0 : I 0 ρ)
    (st : ∀ (i : Nat) (w : W) (ρ : Rho), ws[i]? = some w → I i ρ → ∃ ρ1, mg w ρ = some ρ1 ∧ Po (mb ρ1) (I (i + 1)) Jr) (hn : ∀ ρ, I ws.length ρ → Po (n ρ) Jn Jr) : Po (andThen (mFor mg mb ws ρ) n) Jn Jr := po_seq (po_for I h0 st hn)
theorem po_while {c : Rho → R Bool} {b : Rho → R Fl} {Jn : Rho → Prop} {Jr : W → Prop} (I : Nat → Rho → Prop)
    (st : ∀ m ρ, I m ρ → ∃ t, c ρ = .ok t ∧ if t = true then Po (b ρ) (fun ρ' => ∃ m', m' < m ∧ I m' ρ') Jr else Jn ρ) : ∀ (m : Nat) (ρ : Rho), I m ρ → Po (mWhile c b ρ) Jn Jr := by
  have key : ∀ (m : Nat) (ρ : Rho), I m ρ → ∃ r, iterW c b (m + 1) ρ = some r ∧ Po r Jn Jr := by
    intro m
    induction m using Nat.strongRecOn with
    | ind m ih =>
      intro ρ h
      obtain ⟨t, e, q⟩ := st m ρ h
      unfold iterW
      rw [e]
      cases t with
      | false => rw [if_neg Bool.false_ne_true] at q; exact ⟨_, rfl, q⟩
      | true =>
        rw [if_pos rfl] at q
        dsimp only
        revert q
        cases b ρ with
        | ex _ => exact fun q => q.elim
        | stuck => exact fun q => q.elim
        | ok f => cases f with
          | bk _ => exact fun q => q.elim
          | ct _ => exact fun q => q.elim
          | rt w => exact fun q => ⟨_, rfl, q⟩
          | nx ρ' =>
            intro ⟨m', hm, h'⟩
            obtain ⟨r, e', q'⟩ := ih m' hm ρ' h'
            exact ⟨r, iterW_more (m' + 1) ρ' r e' m (by omega), q'⟩
  intro m ρ h
  obtain ⟨r, e, q⟩ := key m ρ h
  rw [mWhile_eq e]
  exact q
theorem Ok.mono {r : R W} {P P' : W → Prop} (h : Ok r P) (hp : ∀ w, P w → P' w) : Ok r P' := by
  obtain ⟨w, e, q⟩ := h; exact ⟨w, e, hp w q⟩
theorem ok_bind {r : R W} {f : W → R W} {P : W → Prop} (h : Ok r fun w => Ok (f w) P) : Ok (r >>= f) P := by
  obtain ⟨w, rfl, q⟩ := h; exact q
theorem gMax_max (i j : Int) : gMax i j = max i j := by unfold gMax; omega
theorem gMin_min (i j : Int) : gMin i j = min i j := by unfold gMin; omega
def oW : Option Int → W
  | none => .non
  | some i => .int i
theorem oW_n : oW none = .non := rfl
theorem oW_s (i : Int) : oW (some i) = .int i := rfl
theorem noL_oW (o : Option Int) : noL (oW o) = true := by cases o <;> rfl
theorem chk_oW (o : Option Int) : chk (oW o) = .ok (oW o) := chk_no (noL_oW o)
theorem noLs_map {α : Type} (f : α → W) (h : ∀ a, noL (f a) = true) (as : List α) : noLs (as.map f) = true := by
  induction as with
  | nil => rfl
  | cons a as ih => rw [List.map_cons]; simp only [noLs, h, ih, Bool.and_self]
theorem noLs_oW (cs : List (Option Int)) : noLs (cs.map oW) = true := noLs_map oW noL_oW cs
theorem chks_O (c : Bool) (cs : List (Option Int)) : chks c (cs.map oW) = .ok (.lst (cs.map oW)) := chks_no (noLs_oW cs)
theorem chkT_O (c : Bool) (cs : List (Option Int)) : chkT c (cs.map oW) = .ok (.tup (cs.map oW)) := chkT_no (noLs_oW cs)
theorem isN_oW (o : Option Int) : isN (oW o) = o.isNone := by cases o <;> rfl
theorem slotF_oW (o : Option Int) : slotF (oW o) = .val (oW o) := by cases o <;> rfl
theorem at_map {α : Type} (f : α → W) {as : List α} {d : α} {i : Int} (h : 0 ≤ i ∧ i < as.length) : L2.atI (as.map f) i = some (f (as.getD i.toNat d)) := by
  unfold L2.atI
  rw [List.length_map, ixN_int h.1 h.2]
  show (as.map f)[i.toNat]? = _
  have hi : i.toNat < as.length := by omega
  rw [List.getElem?_map, List.getD_eq_getElem?_getD]
  simp [hi]
theorem atO_c {cs : List (Option Int)} {i : Int} (h : 0 ≤ i ∧ i < cs.length) : L2.atI (cs.map oW) i = some (oW (cs.getD i.toNat none)) := at_map oW h
theorem appO (cs : List (Option Int)) (o : Option Int) : cs.map oW ++ [oW o] = (cs ++ [o]).map oW := by rw [List.map_append]; rfl
theorem noL_tI (ns : List Int) : noL (tI ns) = true := noLs_ints ns
theorem noLs_S (ss : List (List Int)) : noLs (ss.map tI) = true := noLs_map tI noL_tI ss
theorem chks_S (c : Bool) (ss : List (List Int)) : chks c (ss.map tI) = .ok (.lst (ss.map tI)) := chks_no (noLs_S ss)
theorem chkT_S (c : Bool) (ss : List (List Int)) : chkT c (ss.map tI) = .ok (.tup (ss.map tI)) := chkT_no (noLs_S ss)
theorem atS_c {ss : List (List Int)} {i : Int} (h : 0 ≤ i ∧ i < ss.length) : L2.atI (ss.map tI) i = some (tI (ss.getD i.toNat [])) := at_map tI h
theorem appW_S (ss : List (List Int)) (s : List Int) : ss.map tI ++ [tI s] = (ss ++ [s]).map tI := by rw [List.map_append]; rfl
def cutL {α : Type} (xs : List α) (lo hi : Option Int) : List α := (xs.drop (HT.sIx xs.length 0 lo)).take (HT.sIx xs.length xs.length hi - HT.sIx xs.length 0 lo)
theorem cutW_map {α : Type} (f : α → W) (as : List α) (lo hi : Option Int) : cutW (as.map f) lo hi = (cutL as lo hi).map f := by
  unfold cutW cutL
  rw [List.length_map, ← List.map_drop, ← List.map_take]
theorem cutW_S (ss : List (List Int)) (lo hi : Option Int) : cutW (ss.map tI) lo hi = (cutL ss lo hi).map tI := cutW_map tI ss lo hi
theorem catW_S (ss ts : List (List Int)) : ss.map tI ++ ts.map tI = (ss ++ ts).map tI := by rw [List.map_append]
theorem catW_I (ss ts : List Int) : ss.map W.int ++ ts.map W.int = (ss ++ ts).map W.int := by rw [List.map_append]
theorem rngW_2 {lo hi : Int} (h : -1000000 ≤ lo ∧ lo ≤ 1000000 ∧ -1000000 ≤ hi ∧ hi ≤ 1000000) : rngW lo hi = .ok ((List.range (hi - lo).toNat).map fun k => W.int (lo + (k : Nat))) := by
  unfold rngW
  rw [if_pos h]
theorem eqv_refl : ∀ w : W, PyData.eqv (pd w) (pd w) = true := by
  intro w
  refine W.rec (motive_1 := fun w => PyData.eqv (pd w) (pd w) = true) (motive_2 := fun ws => PyData.eqvAll (pds ws) (pds ws) = true) ?_ ?_ ?_ ?_ ?_ ?_ ?_ ?_ ?_ ?_ w
  · simp [pd, PyData.eqv]
  · intro b; simp [pd, PyData.eqv]
  · intro b; simp [pd, PyData.eqv]
  · intro b; simp [pd, PyData.eqv]
  · intro b; simp [pd, PyData.eqv]
  · intro ws h; simpa [pd, PyData.eqv] using h
  · intro ws h; simpa [pd, PyData.eqv] using h
  · intro ws h; simpa [pd, PyData.eqv] using h
  · simp [pds, PyData.eqvAll]
  · intro w ws h1 h2; simp [pds, PyData.eqvAll, h1, h2]
theorem eqW_self (w : W) : eqW w w = true := eqv_refl w
theorem shps_map {α : Type} (f : α → W) (n : Nat) (h : ∀ a, shp n (f a) = true) (as : List α) : shps n (as.map f) = true := by
  induction as with
  | nil => rfl
  | cons a as ih => rw [List.map_cons]; simp only [shps, h, ih, Bool.and_self]
theorem shp_int (n : Nat) (i : Int) : shp n (.int i) = true := by cases n <;> rfl
theorem shp_bl (n : Nat) (b : Bool) : shp n (.bl b) = true := by cases n <;> rfl
theorem shp_tI (n : Nat) (ns : List Int) : shp (n + 1) (tI ns) = true := shps_map W.int n (shp_int n) ns
theorem shp_lI (n : Nat) (ns : List Int) : shp (n + 1) (lI ns) = true := shps_map W.int n (shp_int n) ns
theorem shp_lS (n : Nat) (ss : List (List Int)) : shp (n + 2) (.lst (ss.map tI)) = true := shps_map tI (n + 1) (shp_tI n) ss
theorem fEq_self {neg : Bool} {w : W} (h : shp 8 w = true) : fEq neg w w = .ok (.bl (!neg)) := by
  unfold fEq
  rw [h, eqW_self]
  cases neg <;> rfl
theorem eqI : ∀ (a b : List Int), PyData.eqvAll (pds (a.map W.int)) (pds (b.map W.int)) = decide (a = b)
  | [], [] => by simp [pds, PyData.eqvAll]
  | [], _ :: _ => by simp [pds, PyData.eqvAll]
  | _ :: _, [] => by simp [pds, PyData.eqvAll]
  | x :: a, y :: b => by
    simp only [List.map_cons, pds, pd, PyData.eqvAll, PyData.eqv, eqI a b]
    by_cases h : x = y <;> by_cases h' : a = b <;> simp [h, h']
theorem fEq_tI (neg : Bool) (a b : List Int) : fEq neg (tI a) (tI b) = .ok (.bl (if neg then !decide (a = b) else decide (a = b))) := by
  unfold fEq
  rw [shp_tI, shp_tI]
  have : eqW (tI a) (tI b) = decide (a = b) := eqI a b
  rw [this]; rfl
theorem fEq_lI (neg : Bool) (a b : List Int) : fEq neg (lI a) (lI b) = .ok (.bl (if neg then !decide (a = b) else decide (a = b))) := by
  unfold fEq
  rw [shp_lI, shp_lI]
  have : eqW (lI a) (lI b) = decide (a = b) := eqI a b
  rw [this]; rfl
theorem eqSS : ∀ (a b : List (List Int)), PyData.eqvAll (pds (a.map tI)) (pds (b.map tI)) = decide (a = b)
  | [], [] => by simp [pds, PyData.eqvAll]
  | [], _ :: _ => by simp [pds, PyData.eqvAll]
  | _ :: _, [] => by simp [pds, PyData.eqvAll]
  | x :: a, y :: b => by
    simp only [List.map_cons, pds, pd, PyData.eqvAll, PyData.eqv, eqSS a b, eqI]
    by_cases h : x = y <;> by_cases h' : a = b <;> simp [h, h']
theorem fEq_lS (neg : Bool) (a b : List (List Int)) : fEq neg (.lst (a.map tI)) (.lst (b.map tI)) = .ok (.bl (if neg then !decide (a = b) else decide (a = b))) := by
  unfold fEq
  rw [shp_lS, shp_lS]
  have : eqW (.lst (a.map tI)) (.lst (b.map tI)) = decide (a = b) := eqSS a b
  rw [this]; rfl
theorem fEq_ii (neg : Bool) (i j : Int) : fEq neg (.int i) (.int j) = .ok (.bl (if neg then !decide (i = j) else decide (i = j))) := by
  unfold fEq
  rw [shp_int, shp_int]
  have : eqW (.int i) (.int j) = decide (i = j) := by
    by_cases h : i = j <;> simp [eqW, pd, PyData.eqv, h]
  rw [this]; rfl
theorem fEq_bb (neg : Bool) (i j : Bool) : fEq neg (.bl i) (.bl j) = .ok (.bl (if neg then !decide (i = j) else decide (i = j))) := by
  unfold fEq
  rw [shp_bl, shp_bl]
  have : eqW (.bl i) (.bl j) = decide (i = j) := by cases i <;> cases j <;> rfl
  rw [this]; rfl
theorem fEq_ni (neg : Bool) (j : Int) : fEq neg .non (.int j) = .ok (.bl neg) := by cases neg <;> rfl
theorem fEq_in (neg : Bool) (j : Int) : fEq neg (.int j) .non = .ok (.bl neg) := by cases neg <;> rfl
theorem fEq_nn (neg : Bool) : fEq neg .non .non = .ok (.bl (!neg)) := by cases neg <;> rfl
theorem fBools_m (g : List Bool → Bool) (bs : List Bool) : fBools g [.lst (bs.map W.bl)] = .ok (.bl (g bs)) := by
  show (toR (blsW (bs.map W.bl)) >>= _) = _
  rw [bls_map]; rfl
theorem fInts_m (g : List Int → Int) (ns : List Int) : fInts g [.lst (ns.map W.int)] = .ok (.int (g ns)) := by
  show (toR (intsW (ns.map W.int)) >>= _) = _
  rw [ints_map]; rfl
theorem fInt_i (i : Int) : fInt [.int i] = .ok (.int i) := rfl
theorem fInt_b (b : Bool) : fInt [.bl b] = .ok (.int (if b then 1 else 0)) := rfl
theorem fAbs_i (i : Int) : fAbs [.int i] = .ok (.int (if i < 0 then -i else i)) := rfl
def extS (o : Option Sl) (r : R W) (c : Bool) (i : Nat) (ρ : Rho) : R Fl := match o with
  | some (.own ws) => r >>= fun w => (match w with
    | .lst us => if ws.length + us.length ≤ 1000 then (if c || noLs us then .ok (.nx (ρ.set i (.own (ws ++ us)))) else .stuck) else .stuck
    | _ => .stuck)
  | _ => .stuck
theorem mExt_ap (i : Nat) (c : Bool) (m : Rho → R W) (ρ : Rho) : mExt i c m ρ = extS (ρ[i]?) (m ρ) c i ρ := rfl
theorem extS_c {ws us : List W} {c : Bool} {i : Nat} {ρ : Rho} (h : ws.length + us.length ≤ 1000) : extS (some (.own ws)) (.ok (.lst us)) c i ρ = if c || noLs us then .ok (.nx (ρ.set i (.own (ws ++ us)))) else .stuck := by
  show (if ws.length + us.length ≤ 1000 then _ else _) = _
  rw [if_pos h]
def revS (o : Option Sl) (i : Nat) (ρ : Rho) : R Fl := match o with
  | some (.own ws) => .ok (.nx (ρ.set i (.own ws.reverse)))
  | _ => .stuck
theorem mRev_ap (i : Nat) (ρ : Rho) : mRev i ρ = revS (ρ[i]?) i ρ := rfl
theorem revS_ok (ws : List W) (i : Nat) (ρ : Rho) : revS (some (.own ws)) i ρ = .ok (.nx (ρ.set i (.own ws.reverse))) := rfl
theorem gAdd_ap (i j : Int) : gAdd i j = .int (i + j) := rfl
theorem gSub_ap (i j : Int) : TP.gSub i j = .int (i - j) := rfl
theorem gLt_ap (i j : Int) : gLt i j = .bl (decide (i < j)) := rfl
theorem gLe_ap (i j : Int) : gLe i j = .bl (decide (i ≤ j)) := rfl
theorem gGt_ap (i j : Int) : gGt i j = .bl (decide (j < i)) := rfl
theorem gGe_ap (i j : Int) : gGe i j = .bl (decide (j ≤ i)) := rfl
theorem gNeg_ap (i : Int) : gNeg i = .int (-i) := rfl
theorem gAdd__ap (i j : Int) : gAdd_ i j = i + j := rfl
theorem gSub__ap (i j : Int) : gSub_ i j = i - j := rfl
theorem fStr_i {i : Int} (h : 0 ≤ i ∧ i < 1000) : fStr [.int i] = .ok (.str (toString i)) := by
  show (if i.natAbs.log2 < 1920 then _ else _) = _
  rw [if_pos]
  refine Nat.lt_of_le_of_lt (Nat.log2_le_self _) ?_
  omega
theorem fIsB_w (neg : Bool) (u : W) (b : Bool) : fIsB neg u (.bl b) = .ok (.bl (if neg then !isBW u b else isBW u b)) := rfl
theorem isBW_i (i : Int) (b : Bool) : isBW (.int i) b = false := rfl
theorem isBW_n (b : Bool) : isBW .non b = false := rfl
theorem isBW_s (x : Str) (b : Bool) : isBW (.str x) b = false := rfl
theorem isBW_t (x : List W) (b : Bool) : isBW (.tup x) b = false := rfl
theorem isBW_l (x : List W) (b : Bool) : isBW (.lst x) b = false := rfl
theorem isBW_b (a b : Bool) : isBW (.bl a) b = (a == b) := rfl
def Rcu (c : Bool) (r : R (List W)) (f : List W → R W) (i : Nat) (ρ : Rho) : R Fl := if c then (r >>= fun ws => f ws >>= fun w => .ok (.nx (ρ.set i (.par w)))) else .stuck
theorem sCU_ap (i : Nat) (f : List W → R W) (ma : Rho → R (List W)) (ρ : Rho) : sCU i f ma ρ = Rcu (noOwn ρ) (ma ρ) f i ρ := rfl
def Rcu2 (r : R W) (i : Nat) (ρ : Rho) : R Fl := r >>= fun w => .ok (.nx (ρ.set i (.par w)))
theorem Rcu_t (ws : List W) (f : List W → R W) (i : Nat) (ρ : Rho) : Rcu true (.ok ws) f i ρ = Rcu2 (f ws) i ρ := rfl
theorem Rcu2_ok (w : W) (i : Nat) (ρ : Rho) : Rcu2 (.ok w) i ρ = .ok (.nx (ρ.set i (.par w))) := rfl
theorem noOwn_nil : noOwn [] = true := rfl
theorem noOwn_v (w : W) (ρ : Rho) : noOwn (.val w :: ρ) = noOwn ρ := rfl
theorem noOwn_p (w : W) (ρ : Rho) : noOwn (.par w :: ρ) = noOwn ρ := rfl
theorem noOwn_u (ρ : Rho) : noOwn (.un :: ρ) = noOwn ρ := rfl
theorem fBest_t {g : List Int → Int} {ns : List Int} (h : 0 < ns.length) : fBest g [tI ns] = .ok (.int (g ns)) := by
  show (toR (intsW (ns.map W.int)) >>= _) = _
  rw [ints_map]
  show (if 0 < ns.length then _ else _) = _
  rw [if_pos h]
theorem fBest_l {g : List Int → Int} {ns : List Int} (h : 0 < ns.length) : fBest g [lI ns] = .ok (.int (g ns)) := by
  show (toR (intsW (ns.map W.int)) >>= _) = _
  rw [ints_map]
  show (if 0 < ns.length then _ else _) = _
  rw [if_pos h]
theorem revW_l (ws : List W) : revW [.lst ws] = .ok ws.reverse := rfl
def rp0 := And.intro (@gMax_max) (And.intro (@gMin_min) (And.intro (@po_nx) (And.intro (@po_rt) (And.intro (@mul_L) (And.intro (@mul_R) (And.intro (@mod_ii) (And.intro (@div_ii) (And.intro (@pow_ii) (And.intro (@appS_c) (And.intro (@mkTup_c) (And.intro (@mkLst_c) (And.intro (@fCat_c) (And.intro (@fRep_1) (And.intro (@atW_c) (And.intro (@ixN_c) (And.intro (@rngW_c) (And.intro (@cutW_I) (And.intro (@setW_I) (And.intro (@appW_I) (And.intro (@repW_I) (And.intro (@mSeq_ap) (And.intro (@andThen_nx) (And.intro (@andThen_rt) (@andThen_bk))))))))))))))))))))))))
def rp1 := And.intro (@andThen_ct) (And.intro (@mC_ap) (And.intro (@b1_ap) (And.intro (@b2_ap) (And.intro (@R2b_ok) (And.intro (@bA_ap) (And.intro (@bI_ap) (And.intro (@bS_ap) (And.intro (@aN_ap) (And.intro (@aC_ap) (And.intro (@Rcons_ok) (And.intro (@bChk_ap) (And.intro (@bTest_ap) (And.intro (@tAnd_ap) (And.intro (@tOr_ap) (And.intro (@tNot_ap) (And.intro (@rAnd_ok) (And.intro (@rAnd_ff) (And.intro (@rAnd_tt) (And.intro (@rOr_ok) (And.intro (@rOr_tt) (And.intro (@rOr_ff) (And.intro (@rNot_ok) (And.intro (@vAnd_ap) (@vOr_ap))))))))))))))))))))))))
def rp2 := And.intro (@vNot_ap) (And.intro (@rAndV_ok) (And.intro (@rAndV_ff) (And.intro (@rAndV_tt) (And.intro (@rOrV_ok) (And.intro (@rOrV_tt) (And.intro (@rOrV_ff) (And.intro (@rNotV_ok) (And.intro (@vIf_ap) (And.intro (@rIfW_tt) (And.intro (@rIfW_ff) (And.intro (@rIfW_ok) (And.intro (@vChain_ap) (And.intro (@Rchain_ii) (And.intro (@vTup_ap) (And.intro (@vLst_ap) (And.intro (@pN_ap) (And.intro (@pS_ap) (And.intro (@partW_int) (And.intro (@vSl_ap) (And.intro (@Rsl_lst) (And.intro (@Rsl_scr) (And.intro (@vComp_ap) (And.intro (@Rcomp_ok) (@sNx_ap))))))))))))))))))))))))
def rp3 := And.intro (@sBk_ap) (And.intro (@sCt_ap) (And.intro (@sDrop_ap) (And.intro (@Rdrop_ok) (And.intro (@sRet_ap) (And.intro (@retK_ap) (And.intro (@sRetN_ap) (And.intro (@sV_ap) (And.intro (@sU_ap) (And.intro (@sF_ap) (And.intro (@Rset_ok) (And.intro (@slotF_lst) (And.intro (@slotF_tup) (And.intro (@slotF_int) (And.intro (@slotF_bl) (And.intro (@slotF_non) (And.intro (@slotF_str) (And.intro (@sG_ap) (And.intro (@Rasg_ok) (And.intro (@toNx_some) (And.intro (@sFor_ap) (And.intro (@Rfor_ok) (And.intro (@sFrz_ap) (And.intro (@frz_ap) (@frzS_own))))))))))))))))))))))))
def rp4 := And.intro (@frzS_val) (And.intro (@frzS_par) (And.intro (@frzS_un) (And.intro (@mVar_ap) (And.intro (@rdS_vF) (And.intro (@rdS_vV) (And.intro (@rdS_vU) (And.intro (@rdS_vC) (And.intro (@rdS_vB) (And.intro (@rdS_pF) (And.intro (@rdS_pV) (And.intro (@rdS_pU) (And.intro (@rdS_pC) (And.intro (@rdS_pB) (And.intro (@rdS_oC) (And.intro (@rdS_oB) (And.intro (@mRetVar_ap) (And.intro (@retS_own) (And.intro (@retS_val) (And.intro (@retS_par) (And.intro (@mApp_ap) (And.intro (@mSet_ap) (And.intro (@setS_ok) (And.intro (@setJ_some) (@mAug_ap))))))))))))))))))))))))
def rp5 := And.intro (@augS_ok) (And.intro (@mIf_ap) (And.intro (@ifS_tt) (And.intro (@ifS_ff) ((((((And.intro (@endB_rt) (And.intro (@endB_nx) (And.intro (@fI0_ii) (And.intro (@fU_i) (And.intro (@fIx_l) (And.intro (@fIx_t) (And.intro (@fIx_s) (And.intro (@toR_some) (And.intro (@toB_bl) (And.intro (@fLen_l) (And.intro (@fLen_t) (And.intro (@fLen_s) (And.intro (@fList_l) (And.intro (@fList_t) (And.intro (@fTup_l) (@fTup_t))))))))))))))))))))))))
def rp6 := And.intro (@chks_t) (And.intro (@chkT_t) (And.intro (@chks_I) (And.intro (@chkT_I) (And.intro (@chk_int) (And.intro (@chk_bl) (And.intro (@chk_str) (And.intro (@chk_non) (And.intro (@chk_tI) (And.intro (@f2_ii) (And.intro (@seqW_l) (And.intro (@seqW_t) (And.intro (@seqW_s) (And.intro (@rng1_i) (And.intro (@rng2_i) (And.intro (@gN_U) (And.intro (@gN_V) (And.intro (@gT_t) (And.intro (@gsCons_c) (And.intro (@gsNil_n) (And.intro (@fIsi_ap) (And.intro (@isi_nt) (And.intro (@isi_nl) (And.intro (@isi_lt) (@isi_tl))))))))))))))))))))))))
def rp7 := And.intro (@fIsN_n) (And.intro (@noLs_ints) (And.intro (@fEqS_ii) (And.intro (@fEqS_bb) (And.intro (@fEqS_ss) (And.intro (@fEqS_nn) (And.intro (@fEqS_ni) (@fEqS_in)))))))
def rp8 := And.intro (@oW_n) (And.intro (@oW_s) (And.intro (@chk_oW) (And.intro (@noLs_oW) (And.intro (@chks_O) (And.intro (@chkT_O) (And.intro (@isN_oW) (And.intro (@slotF_oW) (And.intro (@atO_c) (@appO)))))))))
def rp9 := And.intro (@noLs_S) (And.intro (@chks_S) (And.intro (@chkT_S) (And.intro (@atS_c) (And.intro (@appW_S) (And.intro (@cutW_S) (And.intro (@catW_S) (And.intro (@catW_I) (And.intro (@rngW_2) (And.intro (@fEq_tI) (And.intro (@fEq_lI) (And.intro (@fEq_lS) (And.intro (@fEq_ii) (And.intro (@fEq_bb) (And.intro (@fEq_ni) (And.intro (@fEq_in) (And.intro (@fEq_nn) ((And.intro (@fBools_m) (And.intro (@fInts_m) (And.intro (@fInt_i) (And.intro (@fInt_b) (And.intro (@fAbs_i) (And.intro (@mExt_ap) (And.intro (@extS_c) (And.intro (@mRev_ap) (@revS_ok))))))))))))))))))))))))))
def rp10 := And.intro (@gAdd_ap) (And.intro (@gSub_ap) (And.intro (@gLt_ap) (And.intro (@gLe_ap) (And.intro (@gGt_ap) (And.intro (@gGe_ap) (And.intro (@gNeg_ap) (And.intro (@gAdd__ap) (@gSub__ap))))))))
def rp11 := And.intro (@fStr_i) (And.intro (@fIsB_w) (And.intro (@isBW_i) (And.intro (@isBW_n) (And.intro (@isBW_s) (And.intro (@isBW_t) (And.intro (@isBW_l) (@isBW_b)))))))
def rp12 := And.intro (@sCU_ap) (And.intro (@Rcu_t) (And.intro (@Rcu2_ok) (And.intro (@noOwn_nil) (And.intro (@noOwn_v) (And.intro (@noOwn_p) (@noOwn_u))))))
def rp13 := And.intro (@fBest_t) (And.intro (@fBest_l) (@revW_l))
end TP
set_option Elab.async false
set_option linter.all false
set_option maxRecDepth 100000
set_option maxHeartbeats 4000000
open PySem L2 TP
namespace K82
noncomputable def m_touches : Rho → R Fl :=
  (sRet (bA (fBools gAny) (aC (vComp 3 (bS (mVar .B 1)) (gN .U 2) yes (b2 (fI0 gGt) (b2 fIx (mVar .B 0) (mVar .B 2)) (mC (.int 0)))) aN)))
noncomputable abbrev f_touches : List W → R W := runB 2 2 m_touches
noncomputable def m_breaks_dry : Rho → R Fl :=
  (mSeq (sFor (bI enuW (aC (mVar .U 0) aN)) (gT 2 (gsCons (gN .U 2) (gsCons (gN .U 3) gsNil)))
      (mIf (tAnd' (bTest (bA f_touches (aC (b2 fIx (mVar .B 3) (mC (.int 1))) (aC (mVar .B 1) aN)))) (tNot' (bTest (bA f_touches (aC (b2 fIx (mVar .B 3) (mC (.int 0))) (aC (mVar .B 1) aN)))))) (mRetVar .F 2) sNx))
    (sRet (mC .non)))
noncomputable abbrev f_breaks_dry : List W → R W := runB 2 4 m_breaks_dry
noncomputable def m_is_dry : Rho → R Fl :=
  (sRet (b2 (fIsN false) (bA f_breaks_dry (aC (mVar .B 0) (aC (mVar .B 1) aN))) (mC .non)))
noncomputable abbrev f_is_dry : List W → R W := runB 2 2 m_is_dry
noncomputable def m_greatest_dry : Rho → R Fl :=
  (mSeq (sV 2 (mVar .V 1))
    (mSeq (sF 3 (bA f_breaks_dry (aC (mVar .B 0) (aC (mVar .B 2) aN))))
    (mSeq (mWhile (bTest (b2 (fIsN true) (mVar .B 3) (mC .non))) (mSeq (sF 2 (bA (fTup true) (aC (vComp 5 (bS (mVar .B 2)) (gN .U 4) (bTest (b2 (fEqS false) (b2 fIx (b2 fIx (b2 fIx (mVar .B 0) (mVar .B 3)) (mC (.int 1))) (mVar .B 4)) (mC (.int 0)))) (mVar .V 4)) aN)))
      (sF 3 (bA f_breaks_dry (aC (mVar .B 0) (aC (mVar .B 2) aN))))))
    (mRetVar .F 2))))
noncomputable abbrev f_greatest_dry : List W → R W := runB 2 4 m_greatest_dry
noncomputable def m_turned : Rho → R Fl :=
  (sRet (bA (fTup true) (aC (vComp 3 (bS (mVar .B 0)) (gT 2 (gsCons (gN .U 1) (gsCons (gN .U 2) gsNil))) yes (vTup (aC (mVar .V 2) (aC (mVar .V 1) aN)))) aN)))
noncomputable abbrev f_turned : List W → R W := runB 1 1 m_turned
noncomputable def m_greatest_wet : Rho → R Fl :=
  (sRet (bA f_greatest_dry (aC (bA f_turned (aC (mVar .B 0) aN)) (aC (mVar .B 1) aN))))
noncomputable abbrev f_greatest_wet : List W → R W := runB 2 2 m_greatest_wet
noncomputable def m_filled_sets : Rho → R Fl :=
  (mSeq (sF 1 (vLst (aC (vTup aN) aN)))
    (mSeq (sFor (bI rng1 (aC (mVar .B 0) aN)) (gN .U 2)
      (sF 1 (b2 (fCat true) (mVar .C 1) (vComp 4 (bS (mVar .B 1)) (gN .U 3) yes (b2 fCatT (mVar .B 3) (vTup (aC (mVar .U 2) aN)))))))
    (sRet (vSl true (mVar .C 1) (pS (mC (.int 1))) pN))))
noncomputable abbrev f_filled_sets : List W → R W := runB 1 3 m_filled_sets
noncomputable def m_within : Rho → R Fl :=
  (sRet (bA (fBools gAll) (aC (vComp 3 (bS (mVar .B 0)) (gN .U 2) yes (b2 (fIn false) (mVar .B 2) (mVar .B 1))) aN)))
noncomputable abbrev f_within : List W → R W := runB 2 2 m_within
noncomputable def m_least_dry : Rho → R Fl :=
  (mSeq (sF 2 (vLst aN))
    (mSeq (sFor (bS (bA f_filled_sets (aC (mVar .B 1) aN))) (gN .U 3)
      (mIf (tAnd' (bTest (bA f_is_dry (aC (mVar .B 0) (aC (mVar .B 3) aN)))) (tNot' (bTest (bA (fBools gAny) (aC (vComp 5 (bS (mVar .B 2)) (gN .U 4) yes (bA f_within (aC (mVar .B 4) (aC (mVar .B 3) aN)))) aN))))) (mApp 2 (mVar .V 3)) sNx))
    (sRet (bA fSort (aC (mVar .C 2) aN)))))
noncomputable abbrev f_least_dry : List W → R W := runB 2 4 m_least_dry
noncomputable def m_takes_singly : Rho → R Fl :=
  (sRet (bA (fBools gAll) (aC (vComp 2 (bS (mVar .B 0)) (gN .U 1) yes (b2 (fI0 gLe) (bA (fBest maxL) (aC (b2 fIx (mVar .B 1) (mC (.int 0))) aN)) (mC (.int 1)))) aN)))
noncomputable abbrev f_takes_singly : List W → R W := runB 1 1 m_takes_singly
noncomputable def m_kept : Rho → R Fl :=
  (mSeq (sU 1 (b2 fIx (mVar .B 0) (mC (.int 1))))
    (mSeq (mIf (tOr' (bTest (b2 (fEqS false) (bA fLen (aC (mVar .B 1) aN)) (mC (.int 0)))) (tNot' (bTest (bA f_takes_singly (aC (mVar .B 1) aN))))) (sRet (mC .non)) sNx)
    (mSeq (sF 2 (vComp 4 (bS (bA f_least_dry (aC (mVar .B 1) (aC (bA fLen (aC (b2 fIx (mVar .B 0) (mC (.int 0))) aN)) aN)))) (gN .U 3) yes (vTup (aC (mVar .V 3) (aC (bA f_greatest_wet (aC (mVar .B 1) (aC (mVar .B 3) aN))) aN)))))
    (mSeq (mIf (tNot' (bTest (bA (fBools gAll) (aC (vComp 5 (bS (mVar .B 2)) (gT 2 (gsCons (gN .U 3) (gsCons (gN .U 4) gsNil))) yes (bA f_touches (aC (b2 fIx (mVar .B 0) (mC (.int 0))) (aC (mVar .B 4) aN)))) aN)))) (sRet (mC .non)) sNx)
    (mRetVar .F 2)))))
noncomputable abbrev f_kept : List W → R W := runB 1 3 m_kept
noncomputable def m__law_cell : Rho → R Fl :=
  (mSeq (mIf (bTest (b2 (fI0 gLt) (mVar .B 1) (bA fLen (aC (mVar .B 0) aN)))) (sRet (bChk (b2 fIx (mVar .B 0) (mVar .B 1)))) sNx)
    (mSeq (sV 2 (b2 (fI0 gAdd) (b2 (fI CMulB gMul) (mC (.int 65537)) (mVar .B 1)) (mC (.int 29))))
    (mSeq (mIf (bTest (b2 (fI0 gGt) (bA fLen (aC (mVar .B 0) aN)) (mC (.int 0)))) (sV 2 (b2 (fI0 gAdd) (b2 (fI0 gAdd) (b2 (fI CMulB gMul) (b2 fIx (mVar .B 0) (b2 (fI cMod gMod) (b2 (fI CMulB gMul) (mVar .B 1) (mC (.int 5))) (bA fLen (aC (mVar .B 0) aN)))) (mC (.int 69621))) (b2 (fI CMulB gMul) (b2 (fI CMulB gMul) (mVar .B 1) (mVar .B 1)) (mC (.int 6007)))) (mC (.int 11)))) sNx)
    (sRet (b2 (fI cMod gMod) (b2 (fI CMulB gMul) (mVar .B 2) (mVar .B 2)) (mC (.int 2147483587)))))))
noncomputable abbrev f__law_cell : List W → R W := runB 2 3 m__law_cell
noncomputable def m__law_move : Rho → R Fl :=
  (mSeq (sF 3 (vLst aN))
    (mSeq (sF 4 (vLst aN))
    (mSeq (sFor (bI rng1 (aC (mVar .B 2) aN)) (gN .U 5)
      (mSeq (mApp 3 (b2 (fI cMod gMod) (bA f__law_cell (aC (mVar .B 0) (aC (b2 (fI0 gAdd) (mVar .B 1) (b2 (fI CMulB gMul) (mC (.int 2)) (mVar .B 5))) aN))) (mC (.int 2))))
      (mSeq (sF 6 (bA f__law_cell (aC (mVar .B 0) (aC (b2 (fI0 gAdd) (b2 (fI0 gAdd) (mVar .B 1) (b2 (fI CMulB gMul) (mC (.int 2)) (mVar .B 5))) (mC (.int 1))) aN))))
      (mIf (bTest (b2 (fEqS false) (b2 (fI cMod gMod) (mVar .B 6) (mC (.int 9))) (mC (.int 4)))) (mApp 4 (b2 (fI cMod gMod) (b2 (fI CDiv gDiv) (mVar .B 6) (mC (.int 9))) (b2 (fI0 gAdd) (b2 (fI CPow gPow) (mC (.int 10)) (mC (.int 9))) (mC (.int 1))))) (mApp 4 (b2 (fI CDiv gDiv) (b2 (fI cMod gMod) (b2 (fI CDiv gDiv) (mVar .B 6) (mC (.int 9))) (mC (.int 7))) (mC (.int 3))))))))
    (sRet (vTup (aC (bA (fTup true) (aC (mVar .C 3) aN)) (aC (bA (fTup true) (aC (mVar .C 4) aN)) aN)))))))
noncomputable abbrev f__law_move : List W → R W := runB 3 7 m__law_move
noncomputable def m__law_heavier : Rho → R Fl :=
  (mSeq (mIf (tOr' (bTest (b2 (fEqS false) (bA fLen (aC (mVar .B 0) aN)) (mC (.int 0)))) (bTest (b2 (fEqS true) (b2 (fI cMod gMod) (mVar .B 1) (mC (.int 6))) (mC (.int 2))))) (mRetVar .U 0) sNx)
    (mSeq (sV 2 (b2 (fI cMod gMod) (b2 (fI CDiv gDiv) (mVar .B 1) (mC (.int 6))) (bA fLen (aC (mVar .B 0) aN))))
    (mSeq (sF 3 (bA (fList false) (aC (b2 fIx (b2 fIx (mVar .B 0) (mVar .B 2)) (mC (.int 0))) aN)))
    (mSeq (mSet 3 (b2 (fI cMod gMod) (b2 (fI CDiv gDiv) (mVar .B 1) (mC (.int 48))) (bA fLen (aC (mVar .B 3) aN))) (b2 (fI0 gAdd) (mC (.int 2)) (b2 (fI cMod gMod) (b2 (fI CDiv gDiv) (mVar .B 1) (mC (.int 480))) (b2 (fI0 gSub) (b2 (fI CPow gPow) (mC (.int 10)) (mC (.int 9))) (mC (.int 1))))))
    (sRet (b2 (fCat false) (b2 (fCat false) (vSl false (mVar .B 0) pN (pS (mVar .B 2))) (vLst (aC (vTup (aC (bA (fTup true) (aC (mVar .C 3) aN)) (aC (bChk (b2 fIx (b2 fIx (mVar .B 0) (mVar .B 2)) (mC (.int 1)))) aN))) aN))) (vSl false (mVar .B 0) (pS (b2 (fI0 gAdd) (mVar .B 2) (mC (.int 1)))) pN)))))))
noncomputable abbrev f__law_heavier : List W → R W := runB 2 4 m__law_heavier
noncomputable def m__law_begin : Rho → R Fl :=
  (mSeq (sF 2 (vLst aN))
    (mSeq (sFor (bI rng1 (aC (mVar .B 1) aN)) (gN .U 3)
      (mSeq (sF 4 (bA f__law_cell (aC (mVar .B 0) (aC (b2 (fI0 gAdd) (mC (.int 3)) (mVar .B 3)) aN))))
      (mIf (bTest (b2 (fEqS false) (b2 (fI cMod gMod) (mVar .B 4) (mC (.int 5))) (mC (.int 3)))) (mApp 2 (b2 (fI cMod gMod) (b2 (fI CDiv gDiv) (mVar .B 4) (mC (.int 5))) (b2 (fI0 gAdd) (b2 (fI CPow gPow) (mC (.int 10)) (mC (.int 9))) (mC (.int 1))))) (mApp 2 (b2 (fI cMod gMod) (b2 (fI CDiv gDiv) (mVar .B 4) (mC (.int 5))) (mC (.int 2)))))))
    (sRet (bA (fTup true) (aC (mVar .C 2) aN)))))
noncomputable abbrev f__law_begin : List W → R W := runB 2 5 m__law_begin
noncomputable def m__law_all_sets : Rho → R Fl :=
  (mSeq (sF 1 (vLst (aC (vTup aN) aN)))
    (mSeq (sFor (bI rng1 (aC (mVar .B 0) aN)) (gN .U 2)
      (sF 1 (b2 (fCat true) (mVar .C 1) (vComp 4 (bS (mVar .B 1)) (gN .U 3) yes (b2 fCatT (mVar .B 3) (vTup (aC (mVar .U 2) aN)))))))
    (mRetVar .F 1)))
noncomputable abbrev f__law_all_sets : List W → R W := runB 1 3 m__law_all_sets
noncomputable def m__law_inside : Rho → R Fl :=
  (sRet (b2 (fEqS false) (bA fLen (aC (vComp 3 (bS (mVar .B 0)) (gN .U 2) (bTest (b2 (fIn true) (mVar .B 2) (mVar .B 1))) (mVar .V 2)) aN)) (mC (.int 0))))
noncomputable abbrev f__law_inside : List W → R W := runB 2 2 m__law_inside
noncomputable def m__law_sum : Rho → R Fl :=
  (sRet (bA (fInts gSum) (aC (vComp 3 (bS (mVar .B 1)) (gN .U 2) yes (bChk (b2 fIx (mVar .B 0) (mVar .B 2)))) aN)))
noncomputable abbrev f__law_sum : List W → R W := runB 2 2 m__law_sum
noncomputable def m__law_dry : Rho → R Fl :=
  (mSeq (sFor (bS (mVar .U 0)) (gT 2 (gsCons (gN .U 2) (gsCons (gN .U 3) gsNil)))
      (mIf (tAnd' (bTest (b2 (fI0 gGt) (bA f__law_sum (aC (mVar .B 3) (aC (mVar .B 1) aN))) (mC (.int 0)))) (bTest (b2 (fEqS false) (bA f__law_sum (aC (mVar .B 2) (aC (mVar .B 1) aN))) (mC (.int 0))))) (sRet (mC (.bl false))) sNx))
    (sRet (mC (.bl true))))
noncomputable abbrev f__law_dry : List W → R W := runB 2 4 m__law_dry
noncomputable def m__law_wet : Rho → R Fl :=
  (mSeq (sFor (bS (mVar .U 0)) (gT 2 (gsCons (gN .U 2) (gsCons (gN .U 3) gsNil)))
      (mIf (tAnd' (bTest (b2 (fI0 gGt) (bA f__law_sum (aC (mVar .B 2) (aC (mVar .B 1) aN))) (mC (.int 0)))) (bTest (b2 (fEqS false) (bA f__law_sum (aC (mVar .B 3) (aC (mVar .B 1) aN))) (mC (.int 0))))) (sRet (mC (.bl false))) sNx))
    (sRet (mC (.bl true))))
noncomputable abbrev f__law_wet : List W → R W := runB 2 4 m__law_wet
noncomputable def m__law_least : Rho → R Fl :=
  (mSeq (sF 2 (vComp 6 (bS (bA f__law_all_sets (aC (mVar .B 1) aN))) (gN .U 5) (tAnd' (bTest (b2 (fEq true) (mVar .B 5) (vTup aN))) (bTest (bA f__law_dry (aC (mVar .B 0) (aC (mVar .B 5) aN))))) (mVar .V 5)))
    (mSeq (sF 3 (vLst aN))
    (mSeq (sFrz 2 (sFor (bS (mVar .U 2)) (gN .U 4)
      (mIf (bTest (b2 (fEqS false) (bA fLen (aC (vComp 6 (bS (mVar .B 2)) (gN .U 5) (tAnd' (bTest (b2 (fEq true) (mVar .B 5) (mVar .B 4))) (bTest (bA f__law_inside (aC (mVar .B 5) (aC (mVar .B 4) aN))))) (mVar .V 5)) aN)) (mC (.int 0)))) (mApp 3 (mVar .V 4)) sNx)))
    (sRet (bA fSort (aC (mVar .C 3) aN))))))
noncomputable abbrev f__law_least : List W → R W := runB 2 5 m__law_least
noncomputable def m__law_greatest_wet : Rho → R Fl :=
  (mSeq (mDNewK 3)
    (mSeq (sFor (bS (bA f__law_all_sets (aC (mVar .B 1) aN))) (gN .U 4)
      (mIf (tAnd' (bTest (bA f__law_inside (aC (mVar .B 4) (aC (mVar .B 2) aN)))) (bTest (bA f__law_wet (aC (mVar .B 0) (aC (mVar .B 4) aN))))) (sFor (bS (mVar .U 4)) (gN .U 5)
          (mDPutK 3 (mVar .B 5) (mC (.bl true)))) sNx))
    (sRet (bA (fTup true) (aC (vComp 7 (bI rng1 (aC (mVar .B 1) aN)) (gN .U 6) (mInK 3 (mVar .B 6)) (mVar .V 6)) aN)))))
noncomputable abbrev f__law_greatest_wet : List W → R W := runB 3 6 m__law_greatest_wet
noncomputable def m__law_due : Rho → R Fl :=
  (mSeq (mIf (tOr' (bTest (b2 (fEqS false) (bA fLen (aC (mVar .B 1) aN)) (mC (.int 0)))) (bTest (b2 (fI0 gGt) (bA (fBest maxL) (aC (vComp 7 (bS (mVar .B 1)) (gT 2 (gsCons (gN .U 5) (gsCons (gN .U 6) gsNil))) yes (bA (fBest maxL) (aC (mVar .B 5) aN))) aN)) (mC (.int 1))))) (sRet (mC .non)) sNx)
    (mSeq (sF 2 (vLst aN))
    (mSeq (sFor (bS (bA f__law_least (aC (mVar .B 1) (aC (bA fLen (aC (mVar .B 0) aN)) aN)))) (gN .U 3)
      (mSeq (sF 4 (bA f__law_greatest_wet (aC (mVar .B 1) (aC (bA fLen (aC (mVar .B 0) aN)) (aC (mVar .B 3) aN)))))
      (mSeq (mIf (bTest (b2 (fEqS false) (bA f__law_sum (aC (mVar .B 0) (aC (mVar .B 4) aN))) (mC (.int 0)))) (sRet (mC .non)) sNx)
      (sFrz 4 (mApp 2 (vTup (aC (mVar .V 3) (aC (mVar .V 4) aN))))))))
    (mRetVar .F 2))))
noncomputable abbrev f__law_due : List W → R W := runB 2 5 m__law_due
noncomputable def m__law_set_told : Rho → R Fl :=
  (mSeq (mIf (tNot' (bTest (bA fIsi (aC (mVar .B 0) (aC (mC (.ty "tuple")) aN))))) (sRet (mC (.bl false))) sNx)
    (sRet (b2 (fEqS false) (bA fLen (aC (vComp 2 (bS (mVar .B 0)) (gN .U 1) (tOr' (tNot' (bTest (bA fIsi (aC (mVar .B 1) (aC (mC (.ty "int")) aN))))) (bTest (bA fIsi (aC (mVar .B 1) (aC (mC (.ty "bool")) aN))))) (mVar .V 1)) aN)) (mC (.int 0)))))
noncomputable abbrev f__law_set_told : List W → R W := runB 1 1 m__law_set_told
noncomputable def m__law_right : Rho → R Fl :=
  (mSeq (mIf (bTest (b2 (fIsN false) (mVar .B 1) (mC .non))) (sRet (b2 (fIsN false) (mVar .B 0) (mC .non))) sNx)
    (mSeq (mIf (tOr' (tNot' (bTest (bA fIsi (aC (mVar .B 0) (aC (mC (.ty "list")) aN))))) (bTest (b2 (fEqS true) (bA fLen (aC (mVar .B 0) aN)) (bA fLen (aC (mVar .B 1) aN))))) (sRet (mC (.bl false))) sNx)
    (mSeq (sFor (bS (mVar .U 0)) (gN .U 2)
      (mSeq (mIf (tOr' (tNot' (bTest (bA fIsi (aC (mVar .B 2) (aC (mC (.ty "tuple")) aN))))) (bTest (b2 (fEqS true) (bA fLen (aC (mVar .B 2) aN)) (mC (.int 2))))) (sRet (mC (.bl false))) sNx)
      (mIf (tOr' (tNot' (bTest (bA f__law_set_told (aC (b2 fIx (mVar .B 2) (mC (.int 0))) aN)))) (tNot' (bTest (bA f__law_set_told (aC (b2 fIx (mVar .B 2) (mC (.int 1))) aN))))) (sRet (mC (.bl false))) sNx)))
    (sRet (b2 (fEq false) (mVar .B 0) (mVar .B 1))))))
noncomputable abbrev f__law_right : List W → R W := runB 2 3 m__law_right
noncomputable def m_law : Rho → R Fl :=
  (mSeq (sV 1 (b2 fIx (vLst (aC (mC (.int 1)) (aC (mC (.int 2)) (aC (mC (.int 3)) (aC (mC (.int 4)) (aC (mC (.int 5)) (aC (mC (.int 2)) (aC (mC (.int 3)) (aC (mC (.int 6)) aN))))))))) (b2 (fI cMod gMod) (bA f__law_cell (aC (mVar .B 0) (aC (mC (.int 0)) aN))) (mC (.int 8)))))
    (mSeq (sF 2 (vLst aN))
    (mSeq (sFor (bI rng1 (aC (b2 (fI cMod gMod) (bA f__law_cell (aC (mVar .B 0) (aC (mC (.int 1)) aN))) (mC (.int 9))) aN)) (gN .U 3)
      (mApp 2 (bA f__law_move (aC (mVar .B 0) (aC (b2 (fI0 gAdd) (mC (.int 8)) (b2 (fI CMulB gMul) (b2 (fI CMulB gMul) (mC (.int 2)) (mVar .B 1)) (mVar .B 3))) (aC (mVar .B 1) aN))))))
    (mSeq (sFrz 8 (sFrz 2 (sFrz 7 (sFrz 5 (sFrz 4 (sCU 2 f__law_heavier (aC (mVar .B 2) (aC (bA f__law_cell (aC (mVar .B 0) (aC (mC (.int 2)) aN))) aN))))))))
    (mSeq (sF 4 (bA f__law_begin (aC (mVar .B 0) (aC (mVar .B 1) aN))))
    (mSeq (sF 5 (bA f__law_due (aC (mVar .B 4) (aC (mVar .B 2) aN))))
    (mSeq (sFrz 4 (sF 6 (vTup (aC (mVar .V 4) (aC (bA (fTup false) (aC (mVar .B 2) aN)) aN)))))
    (mSeq (sF 7 (bA f_kept (aC (mVar .B 6) aN)))
    (mSeq (mIf (tNot' (bTest (bA f__law_right (aC (mVar .B 7) (aC (mVar .B 5) aN))))) (sRet (mC (.bl false))) sNx)
    (mSeq (sF 8 (bA f_kept (aC (vTup (aC (vTup (aC (mC (.int 1)) (aC (mC (.int 0)) aN))) (aC (vTup (aC (vTup (aC (vTup (aC (mC (.int 1)) (aC (mC (.int 0)) aN))) (aC (vTup (aC (mC (.int 0)) (aC (mC (.int 1)) aN))) aN))) (aC (vTup (aC (vTup (aC (mC (.int 0)) (aC (mC (.int 1)) aN))) (aC (vTup (aC (mC (.int 1)) (aC (mC (.int 0)) aN))) aN))) aN))) aN))) aN)))
    (mSeq (mIf (tOr' (tNot' (bTest (bA f__law_right (aC (mVar .B 8) (aC (vLst (aC (vTup (aC (vTup (aC (mC (.int 0)) (aC (mC (.int 1)) aN))) (aC (vTup (aC (mC (.int 0)) (aC (mC (.int 1)) aN))) aN))) aN)) aN))))) (tNot' (bTest (bA f__law_right (aC (mVar .B 7) (aC (mVar .B 5) aN)))))) (sRet (mC (.bl false))) sNx)
    (mSeq (mIf (bTest (b2 (fIsN true) (mVar .B 7) (mC .non))) (mClr 7) sNx)
    (sRet (bA f__law_right (aC (bA f_kept (aC (mVar .B 6) aN)) (aC (mVar .B 5) aN))))))))))))))))
noncomputable abbrev f_law : List W → R W := runB 1 9 m_law
end K82
set_option Elab.async false
set_option linter.all false
set_option maxRecDepth 100000
set_option maxHeartbeats 4000000
open PySem L2 TP
namespace K82
--RPX: mulB_L, mulB_R, mulB_b
def rp14 := And.intro (@isi_bb) (And.intro (@isi_bi) (And.intro (@isi_ib) (And.intro (@isi_ii) (And.intro (@isi_tt) (And.intro (@isi_ll) (And.intro (@isi_ni) (And.intro (@isi_nb) (And.intro (@isi_si) (And.intro (@isi_sb) (And.intro (@isi_li) (And.intro (@isi_lb) (And.intro (@isi_ti) (@isi_tb)))))))))))))
def rp15 := And.intro (@Bool.not_true) (And.intro (@Bool.not_false) (And.intro (@Bool.true_or) (And.intro (@Bool.or_true) (And.intro (@Bool.false_or) (And.intro (@Bool.or_false) (And.intro (@Bool.true_and) (And.intro (@Bool.and_true) (And.intro (@Bool.false_and) (And.intro (@Bool.and_false) (And.intro (@Int.sub_zero) (And.intro (@Int.zero_add) (And.intro (@Int.toNat_natCast) (And.intro (@Bool.false_eq_true) (And.intro (@Bool.true_eq_false) (And.intro (@and_true) (And.intro (@true_and) (And.intro (@or_true) (And.intro (@true_or) (@and_self)))))))))))))))))))
def rp18 := And.intro (@List.length_cons.{0}) (And.intro (@List.length_nil.{0}) (And.intro (@List.length_map.{0, 0}) (And.intro (@List.length_append.{0}) (And.intro (@List.length_set.{0}) (@List.length_range)))))
def rp16 := And.intro rp14 (And.intro rp15 (And.intro rp13 (And.intro rp12 (And.intro rp11 (And.intro rp10 (And.intro rp9 (And.intro rp8 (And.intro rp0 (And.intro rp1 (And.intro rp2 (And.intro rp3 (And.intro rp4 (And.intro rp5 (And.intro rp6 rp7))))))))))))))
def rp17 := And.intro (@List.map_cons.{0, 0}) (And.intro (@List.map_nil.{0, 0}) (And.intro (@List.replicate_succ.{0}) (And.intro (@List.replicate_zero.{0}) (And.intro (@List.cons_append.{0}) (And.intro (@List.nil_append.{0}) (And.intro (@List.append_nil.{0}) (And.intro (@List.set_cons_succ.{0}) (And.intro (@List.set_cons_zero.{0}) (And.intro (@R.ok_bind) (And.intro (@R.stuck_bind) (@R.ex_bind)))))))))))
def rp19 := And.intro (@beq_self_eq_true.{0}) (And.intro (@Option.isNone_none.{0}) (And.intro (@Option.isNone_some.{0}) (And.intro (@List.getElem?_cons_zero.{0}) (And.intro (@List.getElem?_cons_succ.{0}) (And.intro (@Option.bind_some.{0, 0}) (And.intro (@if_true.{1}) (And.intro (@if_false.{1}) (And.intro (@decide_true) (@decide_false)))))))))
abbrev Mv := List Int × List Int
abbrev mW (m : Mv) : W := .tup [tI m.1, tI m.2]
abbrev lS (ss : List (List Int)) : W := .lst (ss.map tI)
abbrev tM_ (ms : List Mv) : W := .tup (ms.map mW)
theorem noL_mW (m : Mv) : noL (mW m) = true := by simp [noL, noLs, noLs_ints]
theorem noLs_M (ms : List Mv) : noLs (ms.map mW) = true := noLs_map mW noL_mW ms
theorem map_atM {ms : List Mv} {i : Nat} {w : W} (h : (ms.map mW)[i]? = some w) : ∃ m, m ∈ ms ∧ ms[i]? = some m ∧ w = mW m := by
  rw [List.getElem?_map] at h
  cases q : ms[i]? with
  | none => rw [q] at h; cases h
  | some m => rw [q] at h; cases h; exact ⟨m, List.mem_of_getElem? q, rfl, rfl⟩
theorem sq_le {k : Int} (h0 : 0 ≤ k) (h1 : k ≤ 1000) : 0 ≤ k * k ∧ k * k ≤ 1000000 := ⟨Int.mul_nonneg h0 h0, by
  have := Int.mul_le_mul h1 h1 h0 (by omega : (0 : Int) ≤ 1000)
  omega⟩
theorem memD {ns : List Int} {P : Int → Prop} (h : ∀ x ∈ ns, P x) {i : Nat} (hi : i < ns.length) : P (ns.getD i 0) := mem_getD h hi
def nn (xs : List Int) : Prop := ∀ x ∈ xs, 0 ≤ x
def okN (n : Nat) (m : Mv) : Prop := m.1.length = n ∧ m.2.length = n ∧ nn m.1 ∧ nn m.2
theorem nn_at {xs : List Int} (h : nn xs) (k : Nat) : 0 ≤ xs.getD k 0 := by
  by_cases hk : k < xs.length
  · exact memD h hk
  · rw [List.getD_eq_getElem?_getD]; simp [hk]
theorem atM {ms : List Mv} {r : Int} (h0 : 0 ≤ r) (h1 : r < ms.length) : L2.atI (ms.map mW) r = some (mW (ms.getD r.toNat ([], []))) := by
  unfold L2.atI
  rw [ixN_int h0 (by rw [List.length_map]; exact h1)]
  show (ms.map mW)[r.toNat]? = _
  have hi : r.toNat < ms.length := by omega
  rw [List.getElem?_map, List.getD_eq_getElem?_getD]
  simp [hi]
theorem getM {n : Nat} {ms : List Mv} {i : Nat} (hm : ∀ m ∈ ms, okN n m) (h1 : i < ms.length) : okN n (ms.getD i ([], [])) := by
  refine hm _ ?_
  rw [List.getD_eq_getElem?_getD]; simp [h1]
abbrev okP (n : Nat) (ps : List Int) : Prop := (∀ p ∈ ps, 0 ≤ p ∧ p < (n : Int)) ∧ ps.length ≤ 6
def hitB (c ps : List Int) : Bool := ps.any fun p => decide (0 < c.getD p.toNat 0)
theorem touches_ok {c ps : List Int} (hp : okP c.length ps) : f_touches [tI c, tI ps] = .ok (.bl (hitB c ps)) := by
  have e : ∀ N mg me ρ (h : ∀ p ∈ ps, ∃ ρ1, mg (.int p) (ρ ++ List.replicate (N - ρ.length) Sl.un) = some ρ1 ∧ me ρ1 = .ok (.bl (decide (0 < c.getD p.toNat 0)))), mComp N mg yes me (ps.map W.int) ρ = .ok (.lst ((ps.map fun p => decide (0 < c.getD p.toNat 0)).map W.bl)) := fun N mg me ρ h => by
    rw [mComp_all (fun p => W.bl (decide (0 < c.getD p.toNat 0))) _ _ ρ (by have := hp.2; omega) h, List.map_map]; rfl
  simp (disch := first | omega | with_reducible assumption | (simp only [rp18]; omega)) only [rp19, rp16, rp17, rp18, mulB_L, mulB_R, mulB_b, decide_eq_true_eq, tyW, isN, Nat.reduceSub, Nat.reduceAdd, Nat.reduceEqDiff, Nat.reduceLeDiff, Nat.reduceLT, reduceIte, reduceCtorEq, Int.reduceLT, Int.reduceLE, Int.reduceEq, Int.reduceAdd, Int.reduceSub, Int.reduceMul, Int.reduceNeg, Int.reduceToNat, Int.reduceMod, Int.reducePow, Int.reduceDiv, Nat.reducePow, runB_1, runB_2, runB_3, runB_4, runB_5, m_touches]
  rw [e]
  · simp (disch := first | omega | with_reducible assumption | (simp only [rp18]; omega)) only [rp19, rp16, rp17, rp18, mulB_L, mulB_R, mulB_b, decide_eq_true_eq, tyW, isN, Nat.reduceSub, Nat.reduceAdd, Nat.reduceEqDiff, Nat.reduceLeDiff, Nat.reduceLT, reduceIte, reduceCtorEq, Int.reduceLT, Int.reduceLE, Int.reduceEq, Int.reduceAdd, Int.reduceSub, Int.reduceMul, Int.reduceNeg, Int.reduceToNat, Int.reduceMod, Int.reducePow, Int.reduceDiv, Nat.reducePow]
    unfold gAny hitB
    rw [List.any_map]; rfl
  · intro p hpp
    have := hp.1 p hpp
    refine ⟨_, rfl, ?_⟩
    simp (disch := first | omega | with_reducible assumption | (simp only [rp18]; omega)) only [rp19, rp16, rp17, rp18, mulB_L, mulB_R, mulB_b, decide_eq_true_eq, tyW, isN, Nat.reduceSub, Nat.reduceAdd, Nat.reduceEqDiff, Nat.reduceLeDiff, Nat.reduceLT, reduceIte, reduceCtorEq, Int.reduceLT, Int.reduceLE, Int.reduceEq, Int.reduceAdd, Int.reduceSub, Int.reduceMul, Int.reduceNeg, Int.reduceToNat, Int.reduceMod, Int.reducePow, Int.reduceDiv, Nat.reducePow]
def brB (ps : List Int) (m : Mv) : Bool := hitB m.2 ps && !hitB m.1 ps
def nW : Option Nat → W
  | none => .non
  | some i => .int (i : Int)
theorem first_s {f : Mv → Bool} {ms : List Mv} {i : Nat} {m : Mv} (h : ms[i]? = some m) (hb : f m = true) (hall : ∀ k m, k < i → ms[k]? = some m → f m = false) : ms.findIdx? f = some i := by
  rw [List.findIdx?_eq_some_iff_getElem]
  obtain ⟨hi, he⟩ := List.getElem?_eq_some_iff.mp h
  refine ⟨hi, by rw [he]; exact hb, fun j hj => ?_⟩
  rw [hall j ms[j] hj (by simp)]
  exact Bool.false_ne_true
theorem first_n {f : Mv → Bool} {ms : List Mv} (hall : ∀ k m, k < ms.length → ms[k]? = some m → f m = false) : ms.findIdx? f = none := by
  rw [List.findIdx?_eq_none_iff]
  intro x hx
  obtain ⟨q, hq, e⟩ := List.mem_iff_getElem.mp hx
  exact hall q x hq (by simp [hq, e])
theorem enu_at {ms : List Mv} {i : Nat} {w : W} (h : ((ms.map mW).mapIdx fun i x => W.tup [.int (i : Int), x])[i]? = some w) : ∃ m, m ∈ ms ∧ ms[i]? = some m ∧ w = .tup [.int (i : Int), mW m] := by
  rw [List.getElem?_mapIdx, List.getElem?_map] at h
  cases q : ms[i]? with
  | none => rw [q] at h; cases h
  | some m => rw [q] at h; cases h; exact ⟨m, List.mem_of_getElem? q, rfl, rfl⟩
theorem breaks_ok {n : Nat} {ms : List Mv} {ps : List Int} (hm : ∀ m ∈ ms, okN n m) (hp : okP n ps) : f_breaks_dry [tM_ ms, tI ps] = .ok (nW (ms.findIdx? (brB ps))) := by
  have fin : Ok (f_breaks_dry [tM_ ms, tI ps]) fun v => v = nW (ms.findIdx? (brB ps)) := by
    have he : enuW [tM_ ms] = .ok ((ms.map mW).mapIdx fun i x => W.tup [.int (i : Int), x]) := rfl
    simp (disch := first | omega | with_reducible assumption | (simp only [rp18]; omega)) only [rp19, rp16, rp17, rp18, mulB_L, mulB_R, mulB_b, decide_eq_true_eq, tyW, isN, Nat.reduceSub, Nat.reduceAdd, Nat.reduceEqDiff, Nat.reduceLeDiff, Nat.reduceLT, reduceIte, reduceCtorEq, Int.reduceLT, Int.reduceLE, Int.reduceEq, Int.reduceAdd, Int.reduceSub, Int.reduceMul, Int.reduceNeg, Int.reduceToNat, Int.reduceMod, Int.reducePow, Int.reduceDiv, Nat.reducePow, runB_1, runB_2, runB_3, runB_4, runB_5, m_breaks_dry, he]
    refine ok_end (po_fors (fun i ρ => ∃ a b : Sl, ρ = [.par (tM_ ms), .par (tI ps), a, b] ∧ ∀ k m, k < i → ms[k]? = some m → brB ps m = false) ⟨_, _, rfl, fun k m hk => absurd hk (Nat.not_lt_zero _)⟩ ?_ ?_)
    · rintro i u ρ hu ⟨a, b, rfl, hall⟩
      obtain ⟨m, hmm, hmi, rfl⟩ := enu_at hu
      have hk := hm m hmm
      have a0 : L2.atI [tI m.1, tI m.2] 0 = some (tI m.1) := rfl
      have a1 : L2.atI [tI m.1, tI m.2] 1 = some (tI m.2) := rfl
      have k1 := touches_ok (c := m.1) (ps := ps) (by rw [hk.1]; exact hp)
      have k2 := touches_ok (c := m.2) (ps := ps) (by rw [hk.2.1]; exact hp)
      refine ⟨_, rfl, ?_⟩
      simp (disch := first | omega | with_reducible assumption | (simp only [rp18]; omega)) only [rp19, rp16, rp17, rp18, mulB_L, mulB_R, mulB_b, decide_eq_true_eq, tyW, isN, Nat.reduceSub, Nat.reduceAdd, Nat.reduceEqDiff, Nat.reduceLeDiff, Nat.reduceLT, reduceIte, reduceCtorEq, Int.reduceLT, Int.reduceLE, Int.reduceEq, Int.reduceAdd, Int.reduceSub, Int.reduceMul, Int.reduceNeg, Int.reduceToNat, Int.reduceMod, Int.reducePow, Int.reduceDiv, Nat.reducePow, a0, a1, k1, k2]
      refine po_if (fun h => ?_) (fun h => ?_)
      · simp (disch := first | omega | with_reducible assumption | (simp only [rp18]; omega)) only [rp19, rp16, rp17, rp18, mulB_L, mulB_R, mulB_b, decide_eq_true_eq, tyW, isN, Nat.reduceSub, Nat.reduceAdd, Nat.reduceEqDiff, Nat.reduceLeDiff, Nat.reduceLT, reduceIte, reduceCtorEq, Int.reduceLT, Int.reduceLE, Int.reduceEq, Int.reduceAdd, Int.reduceSub, Int.reduceMul, Int.reduceNeg, Int.reduceToNat, Int.reduceMod, Int.reducePow, Int.reduceDiv, Nat.reducePow]
        rw [first_s hmi h hall]; rfl
      · simp (disch := first | omega | with_reducible assumption | (simp only [rp18]; omega)) only [rp19, rp16, rp17, rp18, mulB_L, mulB_R, mulB_b, decide_eq_true_eq, tyW, isN, Nat.reduceSub, Nat.reduceAdd, Nat.reduceEqDiff, Nat.reduceLeDiff, Nat.reduceLT, reduceIte, reduceCtorEq, Int.reduceLT, Int.reduceLE, Int.reduceEq, Int.reduceAdd, Int.reduceSub, Int.reduceMul, Int.reduceNeg, Int.reduceToNat, Int.reduceMod, Int.reducePow, Int.reduceDiv, Nat.reducePow]
        refine ⟨_, _, rfl, fun k m' hk hm' => ?_⟩
        by_cases e : k = i
        · subst e
          rw [hmi] at hm'
          cases hm'
          exact h
        · exact hall k m' (by omega) hm'
    · rintro ρ ⟨a, b, rfl, hall⟩
      rw [List.length_mapIdx, List.length_map] at hall
      simp (disch := first | omega | with_reducible assumption | (simp only [rp18]; omega)) only [rp19, rp16, rp17, rp18, mulB_L, mulB_R, mulB_b, decide_eq_true_eq, tyW, isN, Nat.reduceSub, Nat.reduceAdd, Nat.reduceEqDiff, Nat.reduceLeDiff, Nat.reduceLT, reduceIte, reduceCtorEq, Int.reduceLT, Int.reduceLE, Int.reduceEq, Int.reduceAdd, Int.reduceSub, Int.reduceMul, Int.reduceNeg, Int.reduceToNat, Int.reduceMod, Int.reducePow, Int.reduceDiv, Nat.reducePow]
      rw [first_n hall]; rfl
  obtain ⟨v, e, rfl⟩ := fin
  exact e
theorem gIn_eq (p : Int) : ∀ qs : List Int, ((pds (qs.map W.int)).any fun y => PyData.eqv y (pd (.int p))) = decide (p ∈ qs)
  | [] => by simp [pds]
  | q :: qs => by
    simp only [List.map_cons, pds, pd, List.any_cons, gIn_eq p qs]
    have : PyData.eqv (.int q) (.int p) = decide (q = p) := by
      by_cases h : q = p <;> simp [PyData.eqv, h]
    have g := gIn_eq p qs
    simp only [pd] at g
    rw [this]
    by_cases h : q = p
    · subst h; simp
    · have h' : ¬ p = q := fun e => h e.symm
      simp [h, h', g]
theorem fIn_tI (neg : Bool) (p : Int) (qs : List Int) : fIn neg (.int p) (tI qs) = .ok (.bl (if neg then !decide (p ∈ qs) else decide (p ∈ qs))) := by
  have e : inW (.int p) (tI qs) = some (decide (p ∈ qs)) := congrArg some (gIn_eq p qs)
  unfold fIn
  rw [shp_int, shp_tI, Bool.and_self, if_pos rfl, e]
def withB (one other : List Int) : Bool := one.all fun p => decide (p ∈ other)
theorem with_t {one other : List Int} (h : ∀ p ∈ one, p ∈ other) : withB one other = true := by
  unfold withB
  rw [List.all_eq_true]
  exact fun p hp => decide_eq_true (h p hp)
theorem with_i {one other : List Int} (h : withB one other = true) : ∀ p ∈ one, p ∈ other := fun p hp => by
  unfold withB at h
  rw [List.all_eq_true] at h
  exact of_decide_eq_true (h p hp)
def dryP (ms : List Mv) (ps : List Int) : Prop := ∀ m ∈ ms, brB ps m = false
theorem br_none {ms : List Mv} {ps : List Int} : ms.findIdx? (brB ps) = none ↔ dryP ms ps := by
  rw [List.findIdx?_eq_none_iff]
  exact ⟨fun h m hm => by simpa using h m hm, fun h m hm => by simpa using h m hm⟩
theorem hit_sub {c : List Int} {ps qs : List Int} (h : ∀ p ∈ ps, p ∈ qs) (hh : hitB c ps = true) : hitB c qs = true := by
  unfold hitB at hh ⊢
  rw [List.any_eq_true] at hh ⊢
  obtain ⟨p, hp, e⟩ := hh
  exact ⟨p, h p hp, e⟩
theorem hit_mem {c : List Int} {ps : List Int} {p : Int} (hp : p ∈ ps) (h : 0 < c.getD p.toNat 0) : hitB c ps = true := by
  unfold hitB
  rw [List.any_eq_true]
  exact ⟨p, hp, decide_eq_true h⟩
def keepL (c ps : List Int) : List Int := ps.filter fun p => decide (c.getD p.toNat 0 = 0)
theorem great_ok {n : Nat} {ms : List Mv} {ps : List Int} (hm : ∀ m ∈ ms, okN n m) (hp : okP n ps) : Ok (f_greatest_dry [tM_ ms, tI ps]) fun v => ∃ qs : List Int, v = tI qs ∧ qs.Sublist ps ∧ dryP ms qs ∧ ∀ zs : List Int, (∀ p ∈ zs, p ∈ ps) → dryP ms zs → ∀ p ∈ zs, p ∈ qs := by
  have k0 := breaks_ok hm hp
  have c0 : ∀ o : Option Nat, slotF (nW o) = .val (nW o) := fun o => by cases o <;> rfl
  simp (disch := first | omega | with_reducible assumption | (simp only [rp18]; omega)) only [rp19, rp16, rp17, rp18, mulB_L, mulB_R, mulB_b, decide_eq_true_eq, tyW, isN, Nat.reduceSub, Nat.reduceAdd, Nat.reduceEqDiff, Nat.reduceLeDiff, Nat.reduceLT, reduceIte, reduceCtorEq, Int.reduceLT, Int.reduceLE, Int.reduceEq, Int.reduceAdd, Int.reduceSub, Int.reduceMul, Int.reduceNeg, Int.reduceToNat, Int.reduceMod, Int.reducePow, Int.reduceDiv, Nat.reducePow, runB_1, runB_2, runB_3, runB_4, runB_5, m_greatest_dry, k0, c0]
  refine ok_end (po_seq ?_)
  refine po_while (fun k ρ => ∃ qs : List Int, ρ = [.par (tM_ ms), .par (tI ps), .val (tI qs), .val (nW (ms.findIdx? (brB qs)))] ∧ qs.length = k ∧ qs.Sublist ps ∧ ∀ zs : List Int, (∀ p ∈ zs, p ∈ ps) → dryP ms zs → ∀ p ∈ zs, p ∈ qs) ?_ ps.length _ ⟨ps, rfl, rfl, List.Sublist.refl _, fun zs h _ => h⟩
  rintro k ρ ⟨qs, rfl, hk, hs, hz⟩
  have hq : okP n qs := ⟨fun p h => hp.1 p (hs.subset h), Nat.le_trans hs.length_le hp.2⟩
  cases hf : ms.findIdx? (brB qs) with
  | none =>
    have b0 : nW none = W.non := rfl
    refine ⟨false, ?_, ?_⟩
    · simp (disch := first | omega | with_reducible assumption | (simp only [rp18]; omega)) only [rp19, rp16, rp17, rp18, mulB_L, mulB_R, mulB_b, decide_eq_true_eq, tyW, isN, Nat.reduceSub, Nat.reduceAdd, Nat.reduceEqDiff, Nat.reduceLeDiff, Nat.reduceLT, reduceIte, reduceCtorEq, Int.reduceLT, Int.reduceLE, Int.reduceEq, Int.reduceAdd, Int.reduceSub, Int.reduceMul, Int.reduceNeg, Int.reduceToNat, Int.reduceMod, Int.reducePow, Int.reduceDiv, Nat.reducePow, b0]
    · rw [if_neg Bool.false_ne_true]
      simp (disch := first | omega | with_reducible assumption | (simp only [rp18]; omega)) only [rp19, rp16, rp17, rp18, mulB_L, mulB_R, mulB_b, decide_eq_true_eq, tyW, isN, Nat.reduceSub, Nat.reduceAdd, Nat.reduceEqDiff, Nat.reduceLeDiff, Nat.reduceLT, reduceIte, reduceCtorEq, Int.reduceLT, Int.reduceLE, Int.reduceEq, Int.reduceAdd, Int.reduceSub, Int.reduceMul, Int.reduceNeg, Int.reduceToNat, Int.reduceMod, Int.reducePow, Int.reduceDiv, Nat.reducePow]
      exact ⟨qs, rfl, hs, br_none.mp hf, hz⟩
  | some i =>
    have b0 : nW (some i) = W.int (i : Int) := rfl
    refine ⟨true, ?_, ?_⟩
    · simp (disch := first | omega | with_reducible assumption | (simp only [rp18]; omega)) only [rp19, rp16, rp17, rp18, mulB_L, mulB_R, mulB_b, decide_eq_true_eq, tyW, isN, Nat.reduceSub, Nat.reduceAdd, Nat.reduceEqDiff, Nat.reduceLeDiff, Nat.reduceLT, reduceIte, reduceCtorEq, Int.reduceLT, Int.reduceLE, Int.reduceEq, Int.reduceAdd, Int.reduceSub, Int.reduceMul, Int.reduceNeg, Int.reduceToNat, Int.reduceMod, Int.reducePow, Int.reduceDiv, Nat.reducePow, b0]
    rw [List.findIdx?_eq_some_iff_getElem] at hf
    obtain ⟨hi, hb, _⟩ := hf
    have hg : ms[i] = ms.getD i ([], []) := by rw [List.getD_eq_getElem?_getD]; simp [hi]
    have hmem : ms[i] ∈ ms := List.getElem_mem hi
    rw [hg] at hb hmem
    have e1 := atM (ms := ms) (r := (i : Int)) (by omega) (by omega)
    rw [Int.toNat_natCast] at e1
    clear hg
    generalize ms.getD i ([], []) = m at hb hmem e1
    have hok := hm m hmem
    have a1 : L2.atI [tI m.1, tI m.2] 1 = some (tI m.2) := rfl
    have b1 : hitB m.2 qs = true := by unfold brB at hb; rw [Bool.and_eq_true] at hb; exact hb.1
    have b2 : hitB m.1 qs = false := by unfold brB at hb; rw [Bool.and_eq_true] at hb; simpa using hb.2
    have hks : (keepL m.2 qs).Sublist qs := List.filter_sublist
    have hkq : okP n (keepL m.2 qs) := ⟨fun p h => hq.1 p (hks.subset h), Nat.le_trans hks.length_le hq.2⟩
    have k1 := breaks_ok hm hkq
    have e : ∀ N mg mc me ρ, (∀ p ∈ qs, ∃ ρ1, mg (.int p) (ρ ++ List.replicate (N - ρ.length) Sl.un) = some ρ1 ∧ mc ρ1 = .ok (decide (m.2.getD p.toNat 0 = 0)) ∧ me ρ1 = .ok (.int p)) →
        mComp N mg mc me (qs.map W.int) ρ = .ok (lI (keepL m.2 qs)) := fun N mg mc me ρ h => by
      refine mComp_filter W.int W.int (fun p => decide (m.2.getD p.toNat 0 = 0)) qs ρ (by have := hq.2; omega) fun p hp => ?_
      obtain ⟨ρ1, x1, x2, x3⟩ := h p hp
      exact ⟨ρ1, x1, x2, fun _ => x3⟩
    rw [if_pos rfl]
    simp (disch := first | omega | with_reducible assumption | (simp only [rp18]; omega)) only [rp19, rp16, rp17, rp18, mulB_L, mulB_R, mulB_b, decide_eq_true_eq, tyW, isN, Nat.reduceSub, Nat.reduceAdd, Nat.reduceEqDiff, Nat.reduceLeDiff, Nat.reduceLT, reduceIte, reduceCtorEq, Int.reduceLT, Int.reduceLE, Int.reduceEq, Int.reduceAdd, Int.reduceSub, Int.reduceMul, Int.reduceNeg, Int.reduceToNat, Int.reduceMod, Int.reducePow, Int.reduceDiv, Nat.reducePow, b0]
    rw [e]
    · simp (disch := first | omega | with_reducible assumption | (simp only [rp18]; omega)) only [rp19, rp16, rp17, rp18, mulB_L, mulB_R, mulB_b, decide_eq_true_eq, tyW, isN, Nat.reduceSub, Nat.reduceAdd, Nat.reduceEqDiff, Nat.reduceLeDiff, Nat.reduceLT, reduceIte, reduceCtorEq, Int.reduceLT, Int.reduceLE, Int.reduceEq, Int.reduceAdd, Int.reduceSub, Int.reduceMul, Int.reduceNeg, Int.reduceToNat, Int.reduceMod, Int.reducePow, Int.reduceDiv, Nat.reducePow, k1, c0]
      refine ⟨(keepL m.2 qs).length, ?_, keepL m.2 qs, rfl, rfl, hks.trans hs, fun zs h1 h2 p hpz => ?_⟩
      · subst hk
        unfold hitB at b1
        rw [List.any_eq_true] at b1
        obtain ⟨p, hpq, hpp⟩ := b1
        have hpp := of_decide_eq_true hpp
        unfold keepL
        refine Nat.lt_of_le_of_ne (List.length_filter_le _ _) fun e => ?_
        have := List.length_filter_eq_length_iff.mp e p hpq
        have := of_decide_eq_true this
        omega
      · have hpq := hz zs h1 h2 p hpz
        refine List.mem_filter.mpr ⟨hpq, decide_eq_true ?_⟩
        have h0 := nn_at hok.2.2.2 p.toNat
        by_cases hne : m.2.getD p.toNat 0 = 0
        · exact hne
        · exfalso
          have d := h2 m hmem
          unfold brB at d
          rw [hit_mem hpz (by omega), Bool.true_and] at d
          have d' : hitB m.1 zs = true := by simpa using d
          rw [hit_sub (hz zs h1 h2) d'] at b2
          cases b2
    · intro p hpp
      have := hq.1 p hpp
      have hl2 : p < (m.2.length : Int) := by rw [hok.2.1]; exact this.2
      refine ⟨_, rfl, ?_⟩
      simp (disch := first | omega | with_reducible assumption | (simp only [rp18]; omega)) only [rp19, rp16, rp17, rp18, mulB_L, mulB_R, mulB_b, decide_eq_true_eq, tyW, isN, Nat.reduceSub, Nat.reduceAdd, Nat.reduceEqDiff, Nat.reduceLeDiff, Nat.reduceLT, reduceIte, reduceCtorEq, Int.reduceLT, Int.reduceLE, Int.reduceEq, Int.reduceAdd, Int.reduceSub, Int.reduceMul, Int.reduceNeg, Int.reduceToNat, Int.reduceMod, Int.reducePow, Int.reduceDiv, Nat.reducePow, e1, a1]
theorem dry_ok {n : Nat} {ms : List Mv} {ps : List Int} (hm : ∀ m ∈ ms, okN n m) (hp : okP n ps) : f_is_dry [tM_ ms, tI ps] = .ok (.bl (ms.findIdx? (brB ps)).isNone) := by
  have k := breaks_ok hm hp
  simp (disch := first | omega | with_reducible assumption | (simp only [rp18]; omega)) only [rp19, rp16, rp17, rp18, mulB_L, mulB_R, mulB_b, decide_eq_true_eq, tyW, isN, Nat.reduceSub, Nat.reduceAdd, Nat.reduceEqDiff, Nat.reduceLeDiff, Nat.reduceLT, reduceIte, reduceCtorEq, Int.reduceLT, Int.reduceLE, Int.reduceEq, Int.reduceAdd, Int.reduceSub, Int.reduceMul, Int.reduceNeg, Int.reduceToNat, Int.reduceMod, Int.reducePow, Int.reduceDiv, Nat.reducePow, runB_1, runB_2, runB_3, runB_4, runB_5, m_is_dry, k]
  cases ms.findIdx? (brB ps) <;> rfl
theorem noL_tI' (ns : List Int) : noL (tI ns) = true := noLs_ints ns
abbrev swp (m : Mv) : Mv := (m.2, m.1)
theorem turned_ok {ms : List Mv} (hl : ms.length ≤ 8) : f_turned [tM_ ms] = .ok (tM_ (ms.map swp)) := by
  have e : ∀ N mg me ρ (h : ∀ m ∈ ms, ∃ ρ1, mg (mW m) (ρ ++ List.replicate (N - ρ.length) Sl.un) = some ρ1 ∧ me ρ1 = .ok (mW (swp m))), mComp N mg yes me (ms.map mW) ρ = .ok (.lst ((ms.map swp).map mW)) := fun N mg me ρ h => by
    rw [mComp_all (fun m => mW (swp m)) _ _ ρ (by omega) h, List.map_map]; rfl
  simp (disch := first | omega | with_reducible assumption | (simp only [rp18]; omega)) only [rp19, rp16, rp17, rp18, mulB_L, mulB_R, mulB_b, decide_eq_true_eq, tyW, isN, Nat.reduceSub, Nat.reduceAdd, Nat.reduceEqDiff, Nat.reduceLeDiff, Nat.reduceLT, reduceIte, reduceCtorEq, Int.reduceLT, Int.reduceLE, Int.reduceEq, Int.reduceAdd, Int.reduceSub, Int.reduceMul, Int.reduceNeg, Int.reduceToNat, Int.reduceMod, Int.reducePow, Int.reduceDiv, Nat.reducePow, runB_1, runB_2, runB_3, runB_4, runB_5, m_turned]
  rw [e]
  · simp (disch := first | omega | with_reducible assumption | (simp only [rp18]; omega)) only [rp19, rp16, rp17, rp18, mulB_L, mulB_R, mulB_b, decide_eq_true_eq, tyW, isN, Nat.reduceSub, Nat.reduceAdd, Nat.reduceEqDiff, Nat.reduceLeDiff, Nat.reduceLT, reduceIte, reduceCtorEq, Int.reduceLT, Int.reduceLE, Int.reduceEq, Int.reduceAdd, Int.reduceSub, Int.reduceMul, Int.reduceNeg, Int.reduceToNat, Int.reduceMod, Int.reducePow, Int.reduceDiv, Nat.reducePow, chkT_no (noLs_M (ms.map swp))]
  · intro m hm
    refine ⟨_, rfl, ?_⟩
    simp (disch := first | omega | with_reducible assumption | (simp only [rp18]; omega)) only [rp19, rp16, rp17, rp18, mulB_L, mulB_R, mulB_b, decide_eq_true_eq, tyW, isN, Nat.reduceSub, Nat.reduceAdd, Nat.reduceEqDiff, Nat.reduceLeDiff, Nat.reduceLT, reduceIte, reduceCtorEq, Int.reduceLT, Int.reduceLE, Int.reduceEq, Int.reduceAdd, Int.reduceSub, Int.reduceMul, Int.reduceNeg, Int.reduceToNat, Int.reduceMod, Int.reducePow, Int.reduceDiv, Nat.reducePow, chk_no (noL_tI' m.1), chk_no (noL_tI' m.2)]
theorem swp_ok {n : Nat} {ms : List Mv} (hm : ∀ m ∈ ms, okN n m) : ∀ m ∈ ms.map swp, okN n m := fun m h => by
  obtain ⟨q, hq, rfl⟩ := List.mem_map.mp h
  have := hm q hq
  exact ⟨this.2.1, this.1, this.2.2.2, this.2.2.1⟩
theorem memS {ss : List (List Int)} {i : Nat} (h : i < ss.length) : ss.getD i [] ∈ ss := TP.getD_mem h
theorem map_atS {ss : List (List Int)} {i : Nat} {w : W} (h : (ss.map tI)[i]? = some w) : i < ss.length ∧ w = tI (ss.getD i []) := by
  rw [List.getElem?_map] at h
  cases q : ss[i]? with
  | none => rw [q] at h; cases h
  | some m =>
    rw [q] at h; cases h
    refine ⟨(List.getElem?_eq_some_iff.mp q).1, ?_⟩
    rw [List.getD_eq_getElem?_getD, q]; rfl
def ft : Nat → List (List Int)
  | 0 => []
  | n + 1 => ft n ++ ([] :: ft n).map fun z => z ++ [(n : Int)]
def inP (n : Nat) (z : List Int) : Prop := z.Pairwise (· < ·) ∧ ∀ p ∈ z, 0 ≤ p ∧ p < (n : Int)
theorem ft_ok : ∀ (n : Nat), ∀ z ∈ ft n, inP n z ∧ z ≠ []
  | 0, z, h => nomatch h
  | n + 1, z, h => by
    rcases List.mem_append.mp h with h | h
    · have := ft_ok n z h
      exact ⟨⟨this.1.1, fun p hp => by have := this.1.2 p hp; omega⟩, this.2⟩
    · obtain ⟨y, hy, rfl⟩ := List.mem_map.mp h
      have hin : inP n y := by
        rcases List.mem_cons.mp hy with rfl | hy
        · exact ⟨.nil, fun _ h => nomatch h⟩
        · exact (ft_ok n y hy).1
      refine ⟨⟨?_, fun p hp => ?_⟩, by simp⟩
      · rw [List.pairwise_append]
        refine ⟨hin.1, List.pairwise_singleton _ _, fun a ha b hb => ?_⟩
        rw [List.mem_singleton.mp hb]; exact (hin.2 a ha).2
      · rcases List.mem_append.mp hp with hp | hp
        · have := hin.2 p hp; omega
        · have := List.mem_singleton.mp hp; omega
theorem ft_len : ∀ n, (ft n).length + 1 = 2 ^ n
  | 0 => rfl
  | n + 1 => by
    show (ft n ++ ([] :: ft n).map _).length + 1 = _
    rw [List.length_append, List.length_map, List.length_cons, Nat.pow_succ]
    have := ft_len n
    omega
theorem last_up {z : List Int} {n : Nat} (h : inP (n + 1) z) (hl : (n : Int) ∈ z) : ∃ y, z = y ++ [(n : Int)] ∧ inP n y := by
  have hne : z ≠ [] := fun e => by rw [e] at hl; cases hl
  have e := List.dropLast_concat_getLast hne
  have hp := h.1
  rw [← e, List.pairwise_append] at hp
  have hlast : z.getLast hne = (n : Int) := by
    rw [← e] at hl
    rcases List.mem_append.mp hl with q | q
    · have a := hp.2.2 _ q _ (List.mem_singleton.mpr rfl)
      have b := (h.2 _ (List.getLast_mem hne)).2
      omega
    · exact (List.mem_singleton.mp q).symm
  refine ⟨z.dropLast, by rw [← hlast]; exact e.symm, hp.1, fun p q => ?_⟩
  have a := hp.2.2 p q _ (List.mem_singleton.mpr rfl)
  have b := (h.2 p (List.dropLast_subset z q)).1
  omega
theorem ft_all : ∀ (n : Nat) (z : List Int), inP n z → z ≠ [] → z ∈ ft n
  | 0, z, h, hne => by
    cases z with
    | nil => exact absurd rfl hne
    | cons a z => have := h.2 a List.mem_cons_self; omega
  | n + 1, z, h, hne => by
    by_cases hl : (n : Int) ∈ z
    · obtain ⟨y, rfl, hy⟩ := last_up h hl
      refine List.mem_append_right _ (List.mem_map.mpr ⟨y, ?_, rfl⟩)
      by_cases e : y = []
      · rw [e]; exact List.mem_cons_self
      · exact List.mem_cons_of_mem _ (ft_all n y hy e)
    · refine List.mem_append_left _ (ft_all n z ⟨h.1, fun p hp => ?_⟩ hne)
      have := h.2 p hp
      have : p ≠ (n : Int) := fun e => hl (e ▸ hp)
      omega
theorem ft_ord : ∀ n, (ft n).Pairwise fun a b => ¬ ∀ p ∈ b, p ∈ a
  | 0 => .nil
  | n + 1 => by
    show (ft n ++ ([] :: ft n).map fun z => z ++ [(n : Int)]).Pairwise _
    have key : ([] :: ft n).Pairwise fun a b : List Int => ¬ ∀ p ∈ b, p ∈ a := by
      refine List.pairwise_cons.mpr ⟨fun b hb h => ?_, ft_ord n⟩
      obtain ⟨p, hp⟩ := List.exists_mem_of_ne_nil b (ft_ok n b hb).2
      exact nomatch h p hp
    rw [List.pairwise_append]
    refine ⟨ft_ord n, ?_, fun a ha b hb h => ?_⟩
    · rw [List.pairwise_map]
      refine List.Pairwise.imp_of_mem (fun {a b} ha hb h h' => h fun p hp => ?_) key
      have := h' p (List.mem_append_left _ hp)
      rcases List.mem_append.mp this with q | q
      · exact q
      · have e := List.mem_singleton.mp q
        have : inP n b := by
          rcases List.mem_cons.mp hb with rfl | hb
          · exact ⟨.nil, fun _ h => nomatch h⟩
          · exact (ft_ok n b hb).1
        have := (this.2 p hp).2
        omega
    · obtain ⟨y, hy, rfl⟩ := List.mem_map.mp hb
      have := h (n : Int) (List.mem_append_right _ (List.mem_singleton.mpr rfl))
      have := ((ft_ok n a ha).1.2 _ this).2
      omega
theorem ft_short : ∀ (n : Nat), ∀ z ∈ ft n, z.length ≤ n
  | 0, z, h => nomatch h
  | n + 1, z, h => by
    rcases List.mem_append.mp h with h | h
    · have := ft_short n z h; omega
    · obtain ⟨y, hy, rfl⟩ := List.mem_map.mp h
      rw [List.length_append, List.length_singleton]
      rcases List.mem_cons.mp hy with rfl | hy
      · simp
      · have := ft_short n y hy; omega
theorem fCatT_I (a : List Int) (z : Int) (h : a.length ≤ 900) : fCatT (tI a) (.tup [.int z]) = .ok (tI (a ++ [z])) := by
  show (if _ then _ else _) = _
  rw [if_pos ⟨by simp; omega, noLs_ints a, rfl⟩]
  rw [show a.map W.int ++ [W.int z] = (a ++ [z]).map W.int by rw [List.map_append]; rfl]
theorem cutW_1 (w : W) (ws : List W) : cutW (w :: ws) (some 1) none = ws := by
  unfold cutW
  rw [show (some (1 : Int)) = some ((1 : Nat) : Int) from rfl, HT.sIx_nat, HT.sIx_none]
  have h1 : min 1 (w :: ws).length = 1 := Nat.min_eq_left (by simp)
  have h2 : min (w :: ws).length 1 = 1 := Nat.min_eq_right (by simp)
  first | rw [h1] | rw [h2]
  simp
theorem filled_ok {n : Nat} (h6 : n ≤ 6) : f_filled_sets [.int (n : Int)] = .ok (lS (ft n)) := by
  have fin : Ok (f_filled_sets [.int (n : Int)]) fun v => v = lS (ft n) := by
    simp (disch := first | omega | with_reducible assumption | (simp only [rp18]; omega)) only [rp19, rp16, rp17, rp18, mulB_L, mulB_R, mulB_b, decide_eq_true_eq, tyW, isN, Nat.reduceSub, Nat.reduceAdd, Nat.reduceEqDiff, Nat.reduceLeDiff, Nat.reduceLT, reduceIte, reduceCtorEq, Int.reduceLT, Int.reduceLE, Int.reduceEq, Int.reduceAdd, Int.reduceSub, Int.reduceMul, Int.reduceNeg, Int.reduceToNat, Int.reduceMod, Int.reducePow, Int.reduceDiv, Nat.reducePow, runB_1, runB_2, runB_3, runB_4, runB_5, m_filled_sets]
    refine ok_end (po_fors (fun i ρ => ∃ a : Sl, ρ = [.par (.int n), .own (([] :: ft i).map tI), a] ∧ i ≤ n) ⟨_, rfl, Nat.zero_le _⟩ ?_ ?_)
    · rintro i u ρ hu ⟨a, rfl, _⟩
      obtain ⟨hi, rfl⟩ := rng_at hu
      have hlen : ([] :: ft i).length ≤ 32 := by
        have := ft_len i
        rw [List.length_cons, this]
        exact Nat.pow_le_pow_right (by decide : 0 < 2) (by omega : i ≤ 5)
      have e : ∀ N mg me ρ (h : ∀ z ∈ ([] :: ft i), ∃ ρ1, mg (tI z) (ρ ++ List.replicate (N - ρ.length) Sl.un) = some ρ1 ∧ me ρ1 = .ok (tI (z ++ [(i : Int)]))), mComp N mg yes me (([] :: ft i).map tI) ρ = .ok (lS (([] :: ft i).map fun z => z ++ [(i : Int)])) := fun N mg me ρ h => by
        rw [mComp_all (fun z => tI (z ++ [(i : Int)])) _ _ ρ (by omega) h]; exact congrArg (fun l => R.ok (W.lst l)) (by rw [List.map_map]; rfl)
      refine ⟨_, rfl, ?_⟩
      generalize hF : ([] :: ft i : List (List Int)) = F at e hlen ⊢
      simp (disch := first | omega | with_reducible assumption | (simp only [rp18]; omega)) only [rp19, rp16, rp17, rp18, mulB_L, mulB_R, mulB_b, decide_eq_true_eq, tyW, isN, Nat.reduceSub, Nat.reduceAdd, Nat.reduceEqDiff, Nat.reduceLeDiff, Nat.reduceLT, reduceIte, reduceCtorEq, Int.reduceLT, Int.reduceLE, Int.reduceEq, Int.reduceAdd, Int.reduceSub, Int.reduceMul, Int.reduceNeg, Int.reduceToNat, Int.reduceMod, Int.reducePow, Int.reduceDiv, Nat.reducePow]
      rw [e]
      · have hc : fCat true (.lst (F.map tI)) (lS (F.map fun z => z ++ [(i : Int)])) = .ok (lS (F ++ F.map fun z => z ++ [(i : Int)])) := by
          rw [fCat_c (by simp; omega)]
          show TP.chks true _ = _
          rw [← List.map_append]; rfl
        simp (disch := first | omega | with_reducible assumption | (simp only [rp18]; omega)) only [rp19, rp16, rp17, rp18, mulB_L, mulB_R, mulB_b, decide_eq_true_eq, tyW, isN, Nat.reduceSub, Nat.reduceAdd, Nat.reduceEqDiff, Nat.reduceLeDiff, Nat.reduceLT, reduceIte, reduceCtorEq, Int.reduceLT, Int.reduceLE, Int.reduceEq, Int.reduceAdd, Int.reduceSub, Int.reduceMul, Int.reduceNeg, Int.reduceToNat, Int.reduceMod, Int.reducePow, Int.reduceDiv, Nat.reducePow, hc]
        refine ⟨.par (.int (i : Nat)), ?_, by omega⟩
        rw [← hF]; rfl
      · intro z hz
        have hz6 : z.length ≤ 900 := by
          have : z.length ≤ i := by
            rw [← hF] at hz
            rcases List.mem_cons.mp hz with rfl | hz
            · exact Nat.zero_le _
            · exact ft_short i z hz
          omega
        refine ⟨_, rfl, ?_⟩
        simp (disch := first | omega | with_reducible assumption | (simp only [rp18]; omega)) only [rp19, rp16, rp17, rp18, mulB_L, mulB_R, mulB_b, decide_eq_true_eq, tyW, isN, Nat.reduceSub, Nat.reduceAdd, Nat.reduceEqDiff, Nat.reduceLeDiff, Nat.reduceLT, reduceIte, reduceCtorEq, Int.reduceLT, Int.reduceLE, Int.reduceEq, Int.reduceAdd, Int.reduceSub, Int.reduceMul, Int.reduceNeg, Int.reduceToNat, Int.reduceMod, Int.reducePow, Int.reduceDiv, Nat.reducePow, fCatT_I z (i : Int) hz6]
    · rintro ρ ⟨a, rfl, _⟩
      rw [List.length_map, List.length_range]
      simp (disch := first | omega | with_reducible assumption | (simp only [rp18]; omega)) only [rp19, rp16, rp17, rp18, mulB_L, mulB_R, mulB_b, decide_eq_true_eq, tyW, isN, Nat.reduceSub, Nat.reduceAdd, Nat.reduceEqDiff, Nat.reduceLeDiff, Nat.reduceLT, reduceIte, reduceCtorEq, Int.reduceLT, Int.reduceLE, Int.reduceEq, Int.reduceAdd, Int.reduceSub, Int.reduceMul, Int.reduceNeg, Int.reduceToNat, Int.reduceMod, Int.reducePow, Int.reduceDiv, Nat.reducePow, cutW_1]
  obtain ⟨v, e, rfl⟩ := fin
  exact e
theorem pwithin_ok {one other : List Int} (h6 : one.length ≤ 6) : f_within [tI one, tI other] = .ok (.bl (withB one other)) := by
  have e : ∀ N mg me ρ (h : ∀ p ∈ one, ∃ ρ1, mg (.int p) (ρ ++ List.replicate (N - ρ.length) Sl.un) = some ρ1 ∧ me ρ1 = .ok (.bl (decide (p ∈ other)))), mComp N mg yes me (one.map W.int) ρ = .ok (.lst ((one.map fun p => decide (p ∈ other)).map W.bl)) := fun N mg me ρ h => by
    rw [mComp_all (fun p => W.bl (decide (p ∈ other))) _ _ ρ (by omega) h, List.map_map]; rfl
  simp (disch := first | omega | with_reducible assumption | (simp only [rp18]; omega)) only [rp19, rp16, rp17, rp18, mulB_L, mulB_R, mulB_b, decide_eq_true_eq, tyW, isN, Nat.reduceSub, Nat.reduceAdd, Nat.reduceEqDiff, Nat.reduceLeDiff, Nat.reduceLT, reduceIte, reduceCtorEq, Int.reduceLT, Int.reduceLE, Int.reduceEq, Int.reduceAdd, Int.reduceSub, Int.reduceMul, Int.reduceNeg, Int.reduceToNat, Int.reduceMod, Int.reducePow, Int.reduceDiv, Nat.reducePow, runB_1, runB_2, runB_3, runB_4, runB_5, m_within]
  rw [e]
  · simp (disch := first | omega | with_reducible assumption | (simp only [rp18]; omega)) only [rp19, rp16, rp17, rp18, mulB_L, mulB_R, mulB_b, decide_eq_true_eq, tyW, isN, Nat.reduceSub, Nat.reduceAdd, Nat.reduceEqDiff, Nat.reduceLeDiff, Nat.reduceLT, reduceIte, reduceCtorEq, Int.reduceLT, Int.reduceLE, Int.reduceEq, Int.reduceAdd, Int.reduceSub, Int.reduceMul, Int.reduceNeg, Int.reduceToNat, Int.reduceMod, Int.reducePow, Int.reduceDiv, Nat.reducePow]
    unfold gAll withB
    rw [List.all_map]; rfl
  · intro p hp
    refine ⟨_, rfl, ?_⟩
    simp (disch := first | omega | with_reducible assumption | (simp only [rp18]; omega)) only [rp19, rp16, rp17, rp18, mulB_L, mulB_R, mulB_b, decide_eq_true_eq, tyW, isN, Nat.reduceSub, Nat.reduceAdd, Nat.reduceEqDiff, Nat.reduceLeDiff, Nat.reduceLT, reduceIte, reduceCtorEq, Int.reduceLT, Int.reduceLE, Int.reduceEq, Int.reduceAdd, Int.reduceSub, Int.reduceMul, Int.reduceNeg, Int.reduceToNat, Int.reduceMod, Int.reducePow, Int.reduceDiv, Nat.reducePow, fIn_tI false p other]
def dryB (ms : List Mv) (z : List Int) : Bool := (ms.findIdx? (brB z)).isNone
theorem dryB_iff {ms : List Mv} {z : List Int} : dryB ms z = true ↔ dryP ms z := by
  unfold dryB
  rw [Option.isNone_iff_eq_none]
  exact br_none
def stepF (ms : List Mv) (found : List (List Int)) (z : List Int) : List (List Int) := if dryB ms z && !(found.any fun s => withB s z) then found ++ [z] else found
theorem fold_ok (ms : List Mv) : ∀ (l acc : List (List Int)), (∀ z ∈ acc, dryP ms z) → (acc.Pairwise fun a b => ¬ ∀ p ∈ a, p ∈ b) →
    (∃ t, t.Sublist l ∧ l.foldl (stepF ms) acc = acc ++ t) ∧ (∀ z ∈ l.foldl (stepF ms) acc, dryP ms z) ∧ ((l.foldl (stepF ms) acc).Pairwise fun a b => ¬ ∀ p ∈ a, p ∈ b) ∧ ∀ z ∈ l, dryP ms z → ∃ s ∈ l.foldl (stepF ms) acc, ∀ p ∈ s, p ∈ z
  | [], acc, h1, h2 => ⟨⟨[], .slnil, by simp⟩, h1, h2, fun _ h => nomatch h⟩
  | z :: l, acc, h1, h2 => by
    rw [List.foldl_cons]
    by_cases c : (dryB ms z && !(acc.any fun s => withB s z)) = true
    · have e : stepF ms acc z = acc ++ [z] := by unfold stepF; rw [if_pos c]
      rw [Bool.and_eq_true] at c
      have hz : dryP ms z := dryB_iff.mp c.1
      have hno : ∀ s ∈ acc, ¬ ∀ p ∈ s, p ∈ z := fun s hs h => by
        have : (acc.any fun s => withB s z) = true := List.any_eq_true.mpr ⟨s, hs, with_t h⟩
        rw [this] at c; exact absurd c.2 Bool.false_ne_true
      rw [e]
      have ih := fold_ok ms l (acc ++ [z]) (fun y hy => by
        rcases List.mem_append.mp hy with q | q
        · exact h1 y q
        · rw [List.mem_singleton.mp q]; exact hz) (by
        rw [List.pairwise_append]
        refine ⟨h2, List.pairwise_singleton _ _, fun a ha b hb => ?_⟩
        rw [List.mem_singleton.mp hb]; exact hno a ha)
      obtain ⟨⟨t, ht, et⟩, i2, i3, i4⟩ := ih
      refine ⟨⟨z :: t, ht.cons₂ z, by rw [et]; simp⟩, i2, i3, fun y hy hd => ?_⟩
      rcases List.mem_cons.mp hy with rfl | hy
      · refine ⟨y, ?_, fun p h => h⟩
        rw [et]; simp
      · exact i4 y hy hd
    · have e : stepF ms acc z = acc := by unfold stepF; rw [if_neg c]
      rw [e]
      have ih := fold_ok ms l acc h1 h2
      obtain ⟨⟨t, ht, et⟩, i2, i3, i4⟩ := ih
      refine ⟨⟨t, ht.cons z, et⟩, i2, i3, fun y hy hd => ?_⟩
      rcases List.mem_cons.mp hy with rfl | hy
      · have d := dryB_iff.mpr hd
        rw [d, Bool.true_and] at c
        have c' : (acc.any fun s => withB s y) = true := by simpa using c
        obtain ⟨s, hs, hw⟩ := List.any_eq_true.mp c'
        exact ⟨s, by rw [et]; exact List.mem_append_left _ hs, with_i hw⟩
      · exact i4 y hy hd
def leastL (ms : List Mv) (n : Nat) : List (List Int) := (ft n).foldl (stepF ms) []
structure LeastP (ms : List Mv) (n : Nat) (L : List (List Int)) : Prop where
  dry : ∀ z ∈ L, dryP ms z
  inn : ∀ z ∈ L, inP n z ∧ z ≠ []
  apart : L.Pairwise fun a b => (¬ ∀ p ∈ a, p ∈ b) ∧ ¬ ∀ p ∈ b, p ∈ a
  all : ∀ z, inP n z → z ≠ [] → dryP ms z → ∃ s ∈ L, ∀ p ∈ s, p ∈ z
  len : L.length < 2 ^ n
theorem least_P (ms : List Mv) (n : Nat) : LeastP ms n (leastL ms n) := by
  obtain ⟨⟨t, ht, et⟩, h2, h3, h4⟩ := fold_ok ms (ft n) [] (fun _ h => nomatch h) .nil
  rw [List.nil_append] at et
  have es : (leastL ms n).Sublist (ft n) := by unfold leastL; rw [et]; exact ht
  refine ⟨h2, fun z hz => ft_ok n z (es.subset hz), ?_, fun z a b c => h4 z (ft_all n z a b) c, ?_⟩
  · exact List.Pairwise.and h3 ((ft_ord n).sublist es)
  · have := es.length_le
    have := ft_len n
    omega
theorem fSort_S {ss : List (List Int)} (h : ss.length < 64) (hne : ∀ z ∈ ss, z ≠ []) : fSort [lS ss] = .ok (lS (sortL ss)) := by
  have hall : ss.all (fun x => !x.isEmpty) = true := by
    rw [List.all_eq_true]
    intro x hx
    have := hne x hx
    cases x with
    | nil => exact absurd rfl this
    | cons _ _ => rfl
  show (match tupsW (ss.map fun x => W.tup (x.map W.int)) with | some ss => _ | none => _) = _
  rw [tups_map]
  show (if _ then _ else _) = _
  rw [if_pos ⟨h, hall⟩]
theorem LeastP.sort {ms : List Mv} {n : Nat} {L : List (List Int)} (h : LeastP ms n L) : LeastP ms n (sortL L) := by
  have hp := sort_perm L
  refine ⟨fun z hz => h.dry z (hp.mem_iff.mp hz), fun z hz => h.inn z (hp.mem_iff.mp hz), ?_, fun z a b c => ?_, by rw [hp.length_eq]; exact h.len⟩
  · exact (hp.pairwise_iff fun {a b} q => ⟨q.2, q.1⟩).mpr h.apart
  · obtain ⟨s, hs, hw⟩ := h.all z a b c
    exact ⟨s, hp.mem_iff.mpr hs, hw⟩
theorem pow_64 {n : Nat} (h6 : n ≤ 6) : 2 ^ n ≤ 64 := Nat.pow_le_pow_right (by decide : 0 < 2) h6
theorem okP_in {n : Nat} {z : List Int} (h6 : n ≤ 6) (h : inP n z) (hz : z ∈ ft n) : okP n z := ⟨h.2, by have := ft_short n z hz; omega⟩
theorem take_fold {ms : List Mv} {l : List (List Int)} {i : Nat} (hi : i < l.length) : (l.take (i + 1)).foldl (stepF ms) [] = stepF ms ((l.take i).foldl (stepF ms) []) (l.getD i []) := by
  rw [List.take_succ, List.foldl_append, List.getD_eq_getElem?_getD]
  simp [List.getElem?_eq_getElem hi]
theorem fold_sub {ms : List Mv} {l : List (List Int)} : (l.foldl (stepF ms) []).Sublist l := by
  obtain ⟨⟨t, ht, et⟩, _⟩ := fold_ok ms l [] (fun _ h => nomatch h) .nil
  rw [List.nil_append] at et
  rw [et]; exact ht
theorem least_ok {n : Nat} {ms : List Mv} (h6 : n ≤ 6) (hm : ∀ m ∈ ms, okN n m) : f_least_dry [tM_ ms, .int (n : Int)] = .ok (lS (sortL (leastL ms n))) := by
  have fin : Ok (f_least_dry [tM_ ms, .int (n : Int)]) fun v => v = lS (sortL (leastL ms n)) := by
    have k0 := filled_ok h6
    have p64 := pow_64 h6
    have fl := ft_len n
    simp (disch := first | omega | with_reducible assumption | (simp only [rp18]; omega)) only [rp19, rp16, rp17, rp18, mulB_L, mulB_R, mulB_b, decide_eq_true_eq, tyW, isN, Nat.reduceSub, Nat.reduceAdd, Nat.reduceEqDiff, Nat.reduceLeDiff, Nat.reduceLT, reduceIte, reduceCtorEq, Int.reduceLT, Int.reduceLE, Int.reduceEq, Int.reduceAdd, Int.reduceSub, Int.reduceMul, Int.reduceNeg, Int.reduceToNat, Int.reduceMod, Int.reducePow, Int.reduceDiv, Nat.reducePow, runB_1, runB_2, runB_3, runB_4, runB_5, m_least_dry, k0]
    refine ok_end (po_fors (fun i ρ => ∃ a : Sl, ρ = [.par (tM_ ms), .par (.int n), .own ((((ft n).take i).foldl (stepF ms) []).map tI), a] ∧ i ≤ (ft n).length) ⟨_, rfl, Nat.zero_le _⟩ ?_ ?_)
    · rintro i u ρ hu ⟨a, rfl, hil⟩
      obtain ⟨hi, rfl⟩ := map_atS hu
      have hmem := memS hi
      have hz := ft_ok n _ hmem
      have hok := okP_in h6 hz.1 hmem
      have etk := take_fold (ms := ms) hi
      have hsub : (((ft n).take i).foldl (stepF ms) []).Sublist (ft n) := fold_sub.trans (List.take_sublist _ _)
      generalize ((ft n).take i).foldl (stepF ms) [] = F at etk hsub
      generalize (ft n).getD i [] = z at hmem hz hok etk
      have hFl : F.length ≤ 63 := by have := hsub.length_le; omega
      have k1 := dry_ok hm hok
      have e : ∀ N mg me ρ (h : ∀ s ∈ F, ∃ ρ1, mg (tI s) (ρ ++ List.replicate (N - ρ.length) Sl.un) = some ρ1 ∧ me ρ1 = .ok (.bl (withB s z))), mComp N mg yes me (F.map tI) ρ = .ok (.lst ((F.map fun s => withB s z).map W.bl)) := fun N mg me ρ h => by
        rw [mComp_all (fun s => W.bl (withB s z)) _ _ ρ (by omega) h, List.map_map]; rfl
      refine ⟨_, rfl, ?_⟩
      simp (disch := first | omega | with_reducible assumption | (simp only [rp18]; omega)) only [rp19, rp16, rp17, rp18, mulB_L, mulB_R, mulB_b, decide_eq_true_eq, tyW, isN, Nat.reduceSub, Nat.reduceAdd, Nat.reduceEqDiff, Nat.reduceLeDiff, Nat.reduceLT, reduceIte, reduceCtorEq, Int.reduceLT, Int.reduceLE, Int.reduceEq, Int.reduceAdd, Int.reduceSub, Int.reduceMul, Int.reduceNeg, Int.reduceToNat, Int.reduceMod, Int.reducePow, Int.reduceDiv, Nat.reducePow, k1]
      rw [e]
      · have ea : gAny (F.map fun s => withB s z) = F.any fun s => withB s z := by unfold gAny; rw [List.any_map]; rfl
        simp (disch := first | omega | with_reducible assumption | (simp only [rp18]; omega)) only [rp19, rp16, rp17, rp18, mulB_L, mulB_R, mulB_b, decide_eq_true_eq, tyW, isN, Nat.reduceSub, Nat.reduceAdd, Nat.reduceEqDiff, Nat.reduceLeDiff, Nat.reduceLT, reduceIte, reduceCtorEq, Int.reduceLT, Int.reduceLE, Int.reduceEq, Int.reduceAdd, Int.reduceSub, Int.reduceMul, Int.reduceNeg, Int.reduceToNat, Int.reduceMod, Int.reducePow, Int.reduceDiv, Nat.reducePow, ea]
        refine po_if (fun h => ?_) (fun h => ?_)
        · simp (disch := first | omega | with_reducible assumption | (simp only [rp18]; omega)) only [rp19, rp16, rp17, rp18, mulB_L, mulB_R, mulB_b, decide_eq_true_eq, tyW, isN, Nat.reduceSub, Nat.reduceAdd, Nat.reduceEqDiff, Nat.reduceLeDiff, Nat.reduceLT, reduceIte, reduceCtorEq, Int.reduceLT, Int.reduceLE, Int.reduceEq, Int.reduceAdd, Int.reduceSub, Int.reduceMul, Int.reduceNeg, Int.reduceToNat, Int.reduceMod, Int.reducePow, Int.reduceDiv, Nat.reducePow, chk_no (noL_tI z)]
          refine ⟨.par (tI z), ?_, by omega⟩
          rw [etk]
          unfold stepF dryB
          rw [if_pos h, List.map_append]
        · simp (disch := first | omega | with_reducible assumption | (simp only [rp18]; omega)) only [rp19, rp16, rp17, rp18, mulB_L, mulB_R, mulB_b, decide_eq_true_eq, tyW, isN, Nat.reduceSub, Nat.reduceAdd, Nat.reduceEqDiff, Nat.reduceLeDiff, Nat.reduceLT, reduceIte, reduceCtorEq, Int.reduceLT, Int.reduceLE, Int.reduceEq, Int.reduceAdd, Int.reduceSub, Int.reduceMul, Int.reduceNeg, Int.reduceToNat, Int.reduceMod, Int.reducePow, Int.reduceDiv, Nat.reducePow]
          refine ⟨.par (tI z), ?_, by omega⟩
          rw [etk]
          unfold stepF dryB
          rw [if_neg (by rw [h]; exact Bool.false_ne_true)]
      · intro s hs
        have k2 := pwithin_ok (one := s) (other := z) (by have := ft_short n s (hsub.subset hs); omega)
        refine ⟨_, rfl, ?_⟩
        simp (disch := first | omega | with_reducible assumption | (simp only [rp18]; omega)) only [rp19, rp16, rp17, rp18, mulB_L, mulB_R, mulB_b, decide_eq_true_eq, tyW, isN, Nat.reduceSub, Nat.reduceAdd, Nat.reduceEqDiff, Nat.reduceLeDiff, Nat.reduceLT, reduceIte, reduceCtorEq, Int.reduceLT, Int.reduceLE, Int.reduceEq, Int.reduceAdd, Int.reduceSub, Int.reduceMul, Int.reduceNeg, Int.reduceToNat, Int.reduceMod, Int.reducePow, Int.reduceDiv, Nat.reducePow, k2]
    · rintro ρ ⟨a, rfl, _⟩
      rw [List.length_map, List.take_length]
      have P := least_P ms n
      have k3 := fSort_S (ss := leastL ms n) (by have := P.len; omega) fun z hz => (P.inn z hz).2
      unfold leastL at k3 ⊢
      simp (disch := first | omega | with_reducible assumption | (simp only [rp18]; omega)) only [rp19, rp16, rp17, rp18, mulB_L, mulB_R, mulB_b, decide_eq_true_eq, tyW, isN, Nat.reduceSub, Nat.reduceAdd, Nat.reduceEqDiff, Nat.reduceLeDiff, Nat.reduceLT, reduceIte, reduceCtorEq, Int.reduceLT, Int.reduceLE, Int.reduceEq, Int.reduceAdd, Int.reduceSub, Int.reduceMul, Int.reduceNeg, Int.reduceToNat, Int.reduceMod, Int.reducePow, Int.reduceDiv, Nat.reducePow, k3]
  obtain ⟨v, e, rfl⟩ := fin
  exact e
theorem small {z : Int} (h : -18446744073709551616 < z ∧ z < 18446744073709551616) : Builtin.Int.intBits z ≤ 64 := intBits_le_64 (by omega) (by omega)
theorem cell_ok {ns : List Int} (hb : ∀ x ∈ ns, Builtin.Int.intBits x ≤ 1048576) {k : Int} (h0 : 0 ≤ k) (h1 : k ≤ 1000) : Ok (f__law_cell [.scr (ns.map W.int), .int k]) fun w => ∃ z : Int, w = .int z := by
  have hk2 := sq_le h0 h1
  by_cases h : k < (ns.length : Int)
  · simp (disch := first | omega | with_reducible assumption | (simp only [rp18]; omega)) only [rp19, rp16, rp17, rp18, mulB_L, mulB_R, mulB_b, decide_eq_true_eq, tyW, isN, Nat.reduceSub, Nat.reduceAdd, Nat.reduceEqDiff, Nat.reduceLeDiff, Nat.reduceLT, reduceIte, reduceCtorEq, Int.reduceLT, Int.reduceLE, Int.reduceEq, Int.reduceAdd, Int.reduceSub, Int.reduceMul, Int.reduceNeg, Int.reduceToNat, Int.reduceMod, Int.reducePow, Int.reduceDiv, Nat.reducePow, runB_1, runB_2, runB_3, runB_4, runB_5, m__law_cell, decide_eq_true h]
    exact ⟨_, rfl, _, rfl⟩
  · by_cases hl : 0 < (ns.length : Int)
    · have m0 : 0 ≤ k * 5 % (ns.length : Int) := Int.emod_nonneg _ (by omega)
      have m1 : k * 5 % (ns.length : Int) < (ns.length : Int) := Int.emod_lt_of_pos _ hl
      have hz := memD (P := fun x => Builtin.Int.intBits x ≤ 1048576) hb (i := (k * 5 % (ns.length : Int)).toNat) (by omega)
      simp (disch := first | omega | with_reducible assumption | (simp only [rp18]; omega)) only [rp19, rp16, rp17, rp18, mulB_L, mulB_R, mulB_b, decide_eq_true_eq, tyW, isN, Nat.reduceSub, Nat.reduceAdd, Nat.reduceEqDiff, Nat.reduceLeDiff, Nat.reduceLT, reduceIte, reduceCtorEq, Int.reduceLT, Int.reduceLE, Int.reduceEq, Int.reduceAdd, Int.reduceSub, Int.reduceMul, Int.reduceNeg, Int.reduceToNat, Int.reduceMod, Int.reducePow, Int.reduceDiv, Nat.reducePow, runB_1, runB_2, runB_3, runB_4, runB_5, m__law_cell, decide_eq_false h, decide_eq_true hl]
      generalize ns.getD (k * 5 % (ns.length : Int)).toNat 0 = z at *
      have b1 := intBits_mul_le hz (small (z := 69621) (by omega))
      have b2 : Builtin.Int.intBits (k * k * 6007) ≤ 64 := small (by omega)
      have b3 := intBits_add_le b1 b2
      have b4 := intBits_add_le b3 (small (z := 11) (by omega))
      have b5 : Builtin.Int.intBits (z * 69621 + k * k * 6007 + 11) + Builtin.Int.intBits (z * 69621 + k * k * 6007 + 11) ≤ 134217728 := by omega
      simp (disch := first | omega | with_reducible assumption | (simp only [rp18]; omega)) only [rp19, rp16, rp17, rp18, mulB_L, mulB_R, mulB_b, decide_eq_true_eq, tyW, isN, Nat.reduceSub, Nat.reduceAdd, Nat.reduceEqDiff, Nat.reduceLeDiff, Nat.reduceLT, reduceIte, reduceCtorEq, Int.reduceLT, Int.reduceLE, Int.reduceEq, Int.reduceAdd, Int.reduceSub, Int.reduceMul, Int.reduceNeg, Int.reduceToNat, Int.reduceMod, Int.reducePow, Int.reduceDiv, Nat.reducePow]
      exact ⟨_, rfl, _, rfl⟩
    · simp (disch := first | omega | with_reducible assumption | (simp only [rp18]; omega)) only [rp19, rp16, rp17, rp18, mulB_L, mulB_R, mulB_b, decide_eq_true_eq, tyW, isN, Nat.reduceSub, Nat.reduceAdd, Nat.reduceEqDiff, Nat.reduceLeDiff, Nat.reduceLT, reduceIte, reduceCtorEq, Int.reduceLT, Int.reduceLE, Int.reduceEq, Int.reduceAdd, Int.reduceSub, Int.reduceMul, Int.reduceNeg, Int.reduceToNat, Int.reduceMod, Int.reducePow, Int.reduceDiv, Nat.reducePow, runB_1, runB_2, runB_3, runB_4, runB_5, m__law_cell, decide_eq_false h, decide_eq_false hl]
      exact ⟨_, rfl, _, rfl⟩
theorem nn_snoc {xs : List Int} {z : Int} (h : nn xs) (hz : 0 ≤ z) : nn (xs ++ [z]) := fun x hx => by
  rcases List.mem_append.mp hx with q | q
  · exact h x q
  · rw [List.mem_singleton.mp q]; exact hz
theorem move_ok {ns : List Int} (hb : ∀ x ∈ ns, Builtin.Int.intBits x ≤ 1048576) {a : Int} {n : Nat} (h6 : n ≤ 6) (a0 : 0 ≤ a) (a1 : a ≤ 200) : Ok (f__law_move [.scr (ns.map W.int), .int a, .int (n : Int)]) fun w => ∃ m : Mv, w = mW m ∧ okN n m := by
  simp (disch := first | omega | with_reducible assumption | (simp only [rp18]; omega)) only [rp19, rp16, rp17, rp18, mulB_L, mulB_R, mulB_b, decide_eq_true_eq, tyW, isN, Nat.reduceSub, Nat.reduceAdd, Nat.reduceEqDiff, Nat.reduceLeDiff, Nat.reduceLT, reduceIte, reduceCtorEq, Int.reduceLT, Int.reduceLE, Int.reduceEq, Int.reduceAdd, Int.reduceSub, Int.reduceMul, Int.reduceNeg, Int.reduceToNat, Int.reduceMod, Int.reducePow, Int.reduceDiv, Nat.reducePow, runB_1, runB_2, runB_3, runB_4, runB_5, m__law_move]
  refine ok_end (po_fors (fun i ρ => ∃ (xs ys : List Int) (a5 a6 : Sl), ρ = [.par (.scr (ns.map W.int)), .par (.int a), .par (.int (n : Int)), .own (xs.map W.int), .own (ys.map W.int), a5, a6] ∧ xs.length = i ∧ ys.length = i ∧ nn xs ∧ nn ys) ⟨[], [], _, _, rfl, rfl, rfl, fun x h => (nomatch h), fun x h => (nomatch h)⟩ ?_ ?_)
  · rintro i u ρ hu ⟨xs, ys, a5, a6, rfl, hxl, hyl, hx, hy⟩
    obtain ⟨hi, rfl⟩ := rng_at hu
    obtain ⟨_, e1, c, rfl⟩ := cell_ok hb (k := a + 2 * (i : Int)) (by omega) (by omega)
    obtain ⟨_, e2, d, rfl⟩ := cell_ok hb (k := a + 2 * (i : Int) + 1) (by omega) (by omega)
    refine ⟨_, rfl, ?_⟩
    simp (disch := first | omega | with_reducible assumption | (simp only [rp18]; omega)) only [rp19, rp16, rp17, rp18, mulB_L, mulB_R, mulB_b, decide_eq_true_eq, tyW, isN, Nat.reduceSub, Nat.reduceAdd, Nat.reduceEqDiff, Nat.reduceLeDiff, Nat.reduceLT, reduceIte, reduceCtorEq, Int.reduceLT, Int.reduceLE, Int.reduceEq, Int.reduceAdd, Int.reduceSub, Int.reduceMul, Int.reduceNeg, Int.reduceToNat, Int.reduceMod, Int.reducePow, Int.reduceDiv, Nat.reducePow]
    rw [e1]
    simp (disch := first | omega | with_reducible assumption | (simp only [rp18]; omega)) only [rp19, rp16, rp17, rp18, mulB_L, mulB_R, mulB_b, decide_eq_true_eq, tyW, isN, Nat.reduceSub, Nat.reduceAdd, Nat.reduceEqDiff, Nat.reduceLeDiff, Nat.reduceLT, reduceIte, reduceCtorEq, Int.reduceLT, Int.reduceLE, Int.reduceEq, Int.reduceAdd, Int.reduceSub, Int.reduceMul, Int.reduceNeg, Int.reduceToNat, Int.reduceMod, Int.reducePow, Int.reduceDiv, Nat.reducePow]
    rw [e2]
    simp (disch := first | omega | with_reducible assumption | (simp only [rp18]; omega)) only [rp19, rp16, rp17, rp18, mulB_L, mulB_R, mulB_b, decide_eq_true_eq, tyW, isN, Nat.reduceSub, Nat.reduceAdd, Nat.reduceEqDiff, Nat.reduceLeDiff, Nat.reduceLT, reduceIte, reduceCtorEq, Int.reduceLT, Int.reduceLE, Int.reduceEq, Int.reduceAdd, Int.reduceSub, Int.reduceMul, Int.reduceNeg, Int.reduceToNat, Int.reduceMod, Int.reducePow, Int.reduceDiv, Nat.reducePow]
    refine po_if (fun h => ?_) (fun h => ?_)
    · simp (disch := first | omega | with_reducible assumption | (simp only [rp18]; omega)) only [rp19, rp16, rp17, rp18, mulB_L, mulB_R, mulB_b, decide_eq_true_eq, tyW, isN, Nat.reduceSub, Nat.reduceAdd, Nat.reduceEqDiff, Nat.reduceLeDiff, Nat.reduceLT, reduceIte, reduceCtorEq, Int.reduceLT, Int.reduceLE, Int.reduceEq, Int.reduceAdd, Int.reduceSub, Int.reduceMul, Int.reduceNeg, Int.reduceToNat, Int.reduceMod, Int.reducePow, Int.reduceDiv, Nat.reducePow]
      exact ⟨xs ++ [c % 2], ys ++ [d / 9 % 1000000001], _, _, by rw [List.map_append, List.map_append], by simp [hxl], by simp [hyl], nn_snoc hx (by omega), nn_snoc hy (by omega)⟩
    · simp (disch := first | omega | with_reducible assumption | (simp only [rp18]; omega)) only [rp19, rp16, rp17, rp18, mulB_L, mulB_R, mulB_b, decide_eq_true_eq, tyW, isN, Nat.reduceSub, Nat.reduceAdd, Nat.reduceEqDiff, Nat.reduceLeDiff, Nat.reduceLT, reduceIte, reduceCtorEq, Int.reduceLT, Int.reduceLE, Int.reduceEq, Int.reduceAdd, Int.reduceSub, Int.reduceMul, Int.reduceNeg, Int.reduceToNat, Int.reduceMod, Int.reducePow, Int.reduceDiv, Nat.reducePow]
      exact ⟨xs ++ [c % 2], ys ++ [d / 9 % 7 / 3], _, _, by rw [List.map_append, List.map_append], by simp [hxl], by simp [hyl], nn_snoc hx (by omega), nn_snoc hy (by omega)⟩
  · rintro ρ ⟨xs, ys, a5, a6, rfl, hxl, hyl, hx, hy⟩
    rw [List.length_map, List.length_range] at hxl hyl
    simp (disch := first | omega | with_reducible assumption | (simp only [rp18]; omega)) only [rp19, rp16, rp17, rp18, mulB_L, mulB_R, mulB_b, decide_eq_true_eq, tyW, isN, Nat.reduceSub, Nat.reduceAdd, Nat.reduceEqDiff, Nat.reduceLeDiff, Nat.reduceLT, reduceIte, reduceCtorEq, Int.reduceLT, Int.reduceLE, Int.reduceEq, Int.reduceAdd, Int.reduceSub, Int.reduceMul, Int.reduceNeg, Int.reduceToNat, Int.reduceMod, Int.reducePow, Int.reduceDiv, Nat.reducePow]
    exact ⟨(xs, ys), rfl, hxl, hyl, hx, hy⟩
theorem begin_ok {ns : List Int} (hb : ∀ x ∈ ns, Builtin.Int.intBits x ≤ 1048576) {n : Nat} (h6 : n ≤ 6) : Ok (f__law_begin [.scr (ns.map W.int), .int (n : Int)]) fun w => ∃ b : List Int, w = tI b ∧ b.length = n ∧ nn b := by
  simp (disch := first | omega | with_reducible assumption | (simp only [rp18]; omega)) only [rp19, rp16, rp17, rp18, mulB_L, mulB_R, mulB_b, decide_eq_true_eq, tyW, isN, Nat.reduceSub, Nat.reduceAdd, Nat.reduceEqDiff, Nat.reduceLeDiff, Nat.reduceLT, reduceIte, reduceCtorEq, Int.reduceLT, Int.reduceLE, Int.reduceEq, Int.reduceAdd, Int.reduceSub, Int.reduceMul, Int.reduceNeg, Int.reduceToNat, Int.reduceMod, Int.reducePow, Int.reduceDiv, Nat.reducePow, runB_1, runB_2, runB_3, runB_4, runB_5, m__law_begin]
  refine ok_end (po_fors (fun i ρ => ∃ (xs : List Int) (a5 a6 : Sl), ρ = [.par (.scr (ns.map W.int)), .par (.int (n : Int)), .own (xs.map W.int), a5, a6] ∧ xs.length = i ∧ nn xs) ⟨[], _, _, rfl, rfl, fun x h => (nomatch h)⟩ ?_ ?_)
  · rintro i u ρ hu ⟨xs, a5, a6, rfl, hxl, hx⟩
    obtain ⟨hi, rfl⟩ := rng_at hu
    obtain ⟨_, e1, c, rfl⟩ := cell_ok hb (k := 3 + (i : Int)) (by omega) (by omega)
    refine ⟨_, rfl, ?_⟩
    simp (disch := first | omega | with_reducible assumption | (simp only [rp18]; omega)) only [rp19, rp16, rp17, rp18, mulB_L, mulB_R, mulB_b, decide_eq_true_eq, tyW, isN, Nat.reduceSub, Nat.reduceAdd, Nat.reduceEqDiff, Nat.reduceLeDiff, Nat.reduceLT, reduceIte, reduceCtorEq, Int.reduceLT, Int.reduceLE, Int.reduceEq, Int.reduceAdd, Int.reduceSub, Int.reduceMul, Int.reduceNeg, Int.reduceToNat, Int.reduceMod, Int.reducePow, Int.reduceDiv, Nat.reducePow]
    rw [e1]
    simp (disch := first | omega | with_reducible assumption | (simp only [rp18]; omega)) only [rp19, rp16, rp17, rp18, mulB_L, mulB_R, mulB_b, decide_eq_true_eq, tyW, isN, Nat.reduceSub, Nat.reduceAdd, Nat.reduceEqDiff, Nat.reduceLeDiff, Nat.reduceLT, reduceIte, reduceCtorEq, Int.reduceLT, Int.reduceLE, Int.reduceEq, Int.reduceAdd, Int.reduceSub, Int.reduceMul, Int.reduceNeg, Int.reduceToNat, Int.reduceMod, Int.reducePow, Int.reduceDiv, Nat.reducePow]
    refine po_if (fun h => ?_) (fun h => ?_)
    · simp (disch := first | omega | with_reducible assumption | (simp only [rp18]; omega)) only [rp19, rp16, rp17, rp18, mulB_L, mulB_R, mulB_b, decide_eq_true_eq, tyW, isN, Nat.reduceSub, Nat.reduceAdd, Nat.reduceEqDiff, Nat.reduceLeDiff, Nat.reduceLT, reduceIte, reduceCtorEq, Int.reduceLT, Int.reduceLE, Int.reduceEq, Int.reduceAdd, Int.reduceSub, Int.reduceMul, Int.reduceNeg, Int.reduceToNat, Int.reduceMod, Int.reducePow, Int.reduceDiv, Nat.reducePow]
      exact ⟨xs ++ [c / 5 % 1000000001], _, _, by rw [List.map_append], by simp [hxl], nn_snoc hx (by omega)⟩
    · simp (disch := first | omega | with_reducible assumption | (simp only [rp18]; omega)) only [rp19, rp16, rp17, rp18, mulB_L, mulB_R, mulB_b, decide_eq_true_eq, tyW, isN, Nat.reduceSub, Nat.reduceAdd, Nat.reduceEqDiff, Nat.reduceLeDiff, Nat.reduceLT, reduceIte, reduceCtorEq, Int.reduceLT, Int.reduceLE, Int.reduceEq, Int.reduceAdd, Int.reduceSub, Int.reduceMul, Int.reduceNeg, Int.reduceToNat, Int.reduceMod, Int.reducePow, Int.reduceDiv, Nat.reducePow]
      exact ⟨xs ++ [c / 5 % 2], _, _, by rw [List.map_append], by simp [hxl], nn_snoc hx (by omega)⟩
  · rintro ρ ⟨xs, a5, a6, rfl, hxl, hx⟩
    rw [List.length_map, List.length_range] at hxl
    simp (disch := first | omega | with_reducible assumption | (simp only [rp18]; omega)) only [rp19, rp16, rp17, rp18, mulB_L, mulB_R, mulB_b, decide_eq_true_eq, tyW, isN, Nat.reduceSub, Nat.reduceAdd, Nat.reduceEqDiff, Nat.reduceLeDiff, Nat.reduceLT, reduceIte, reduceCtorEq, Int.reduceLT, Int.reduceLE, Int.reduceEq, Int.reduceAdd, Int.reduceSub, Int.reduceMul, Int.reduceNeg, Int.reduceToNat, Int.reduceMod, Int.reducePow, Int.reduceDiv, Nat.reducePow]
    exact ⟨xs, rfl, hxl, hx⟩
abbrev lM (ms : List Mv) : W := .lst (ms.map mW)
theorem heavier_ok {c : Int} {n : Nat} {ms : List Mv} (hn : 1 ≤ n) (h6 : n ≤ 6) (hm : ∀ m ∈ ms, okN n m) (hl : ms.length ≤ 8) : Ok (f__law_heavier [lM ms, .int c]) fun w => ∃ ms' : List Mv, w = lM ms' ∧ (∀ m ∈ ms', okN n m) ∧ ms'.length ≤ 8 := by
  simp (disch := first | omega | with_reducible assumption | (simp only [rp18]; omega)) only [rp19, rp16, rp17, rp18, mulB_L, mulB_R, mulB_b, decide_eq_true_eq, tyW, isN, Nat.reduceSub, Nat.reduceAdd, Nat.reduceEqDiff, Nat.reduceLeDiff, Nat.reduceLT, reduceIte, reduceCtorEq, Int.reduceLT, Int.reduceLE, Int.reduceEq, Int.reduceAdd, Int.reduceSub, Int.reduceMul, Int.reduceNeg, Int.reduceToNat, Int.reduceMod, Int.reducePow, Int.reduceDiv, Nat.reducePow, runB_1, runB_2, runB_3, runB_4, runB_5, m__law_heavier]
  refine ok_end (po_ifs (fun h => ?_) (fun h => ?_))
  · simp (disch := first | omega | with_reducible assumption | (simp only [rp18]; omega)) only [rp19, rp16, rp17, rp18, mulB_L, mulB_R, mulB_b, decide_eq_true_eq, tyW, isN, Nat.reduceSub, Nat.reduceAdd, Nat.reduceEqDiff, Nat.reduceLeDiff, Nat.reduceLT, reduceIte, reduceCtorEq, Int.reduceLT, Int.reduceLE, Int.reduceEq, Int.reduceAdd, Int.reduceSub, Int.reduceMul, Int.reduceNeg, Int.reduceToNat, Int.reduceMod, Int.reducePow, Int.reduceDiv, Nat.reducePow]
    exact ⟨ms, rfl, hm, hl⟩
  rw [Bool.or_eq_false_iff] at h
  have hp : 0 < ms.length := by
    have := of_decide_eq_false h.1
    omega
  have i0 : 0 ≤ c / 6 % (ms.length : Int) := Int.emod_nonneg _ (by omega)
  have i1 : c / 6 % (ms.length : Int) < (ms.length : Int) := Int.emod_lt_of_pos _ (by omega)
  simp (disch := first | omega | with_reducible assumption | (simp only [rp18]; omega)) only [rp19, rp16, rp17, rp18, mulB_L, mulB_R, mulB_b, decide_eq_true_eq, tyW, isN, Nat.reduceSub, Nat.reduceAdd, Nat.reduceEqDiff, Nat.reduceLeDiff, Nat.reduceLT, reduceIte, reduceCtorEq, Int.reduceLT, Int.reduceLE, Int.reduceEq, Int.reduceAdd, Int.reduceSub, Int.reduceMul, Int.reduceNeg, Int.reduceToNat, Int.reduceMod, Int.reducePow, Int.reduceDiv, Nat.reducePow]
  obtain ⟨i, hi⟩ : ∃ i : Nat, c / 6 % (ms.length : Int) = (i : Int) := ⟨(c / 6 % (ms.length : Int)).toNat, by omega⟩
  rw [hi] at i0 i1 ⊢
  have ha := atM (ms := ms) (r := (i : Int)) (by omega) (by omega)
  have hk := getM (i := i) hm (by omega)
  rw [Int.toNat_natCast] at ha
  generalize ms.getD i ([], []) = m at *
  obtain ⟨take, put⟩ := m
  have q0 : L2.atI [tI take, tI put] 0 = some (tI take) := rfl
  have q1 : L2.atI [tI take, tI put] 1 = some (tI put) := rfl
  have hk1 : take.length = n := hk.1
  have hk2 : put.length = n := hk.2.1
  have j0 : 0 ≤ c / 48 % (n : Int) := Int.emod_nonneg _ (by omega)
  have j1 : c / 48 % (n : Int) < (n : Int) := Int.emod_lt_of_pos _ (by omega)
  have l1 : (cutL ms none (some (i : Int))).length ≤ i := by
    unfold cutL
    rw [HT.sIx_nat, HT.sIx_none, List.length_take, List.length_drop]
    omega
  have l2 : (cutL ms (some ((i : Int) + 1)) none).length ≤ ms.length - (i + 1) := by
    have e : (some ((i : Int) + 1)) = some (((i + 1 : Nat)) : Int) := by push_cast; rfl
    rw [e]
    unfold cutL
    rw [HT.sIx_nat, HT.sIx_none, List.length_take, List.length_drop]
    omega
  have s1 : ∀ m ∈ cutL ms none (some (i : Int)), okN n m := fun m h => hm m (List.mem_of_mem_drop (List.mem_of_mem_take h))
  have s2 : ∀ m ∈ cutL ms (some ((i : Int) + 1)) none, okN n m := fun m h => hm m (List.mem_of_mem_drop (List.mem_of_mem_take h))
  have t2 : 0 ≤ 2 + c / 480 % 999999999 := by omega
  simp (disch := first | omega | with_reducible assumption | (simp only [rp18]; omega)) only [rp19, rp16, rp17, rp18, mulB_L, mulB_R, mulB_b, decide_eq_true_eq, tyW, isN, Nat.reduceSub, Nat.reduceAdd, Nat.reduceEqDiff, Nat.reduceLeDiff, Nat.reduceLT, reduceIte, reduceCtorEq, Int.reduceLT, Int.reduceLE, Int.reduceEq, Int.reduceAdd, Int.reduceSub, Int.reduceMul, Int.reduceNeg, Int.reduceToNat, Int.reduceMod, Int.reducePow, Int.reduceDiv, Nat.reducePow, ha, q0, hk1, cutW_map]
  generalize 2 + c / 480 % 999999999 = z at t2 ⊢
  generalize (c / 48 % (n : Int)).toNat = j
  generalize cutL ms none (some (i : Int)) = A at l1 s1 ⊢
  generalize cutL ms (some ((i : Int) + 1)) none = B at l2 s2 ⊢
  have c1 : chks false (A.map mW) = .ok (.lst (A.map mW)) := chks_no (noLs_M A)
  have c2 : chks false (B.map mW) = .ok (.lst (B.map mW)) := chks_no (noLs_M B)
  have c3 : chks false (A.map mW ++ [W.tup [tI (take.set j z), tI put]]) = .ok (lM (A ++ [(take.set j z, put)])) := by
    have : A.map mW ++ [W.tup [tI (take.set j z), tI put]] = (A ++ [(take.set j z, put)]).map mW := by rw [List.map_append]; rfl
    rw [this]
    exact chks_no (noLs_M _)
  have c4 : chks false ((A ++ [(take.set j z, put)]).map mW ++ B.map mW) = .ok (lM (A ++ [(take.set j z, put)] ++ B)) := by
    rw [← List.map_append]
    exact chks_no (noLs_M _)
  rw [c1, c2, q1]
  simp (disch := first | omega | with_reducible assumption | (simp only [rp18]; omega)) only [rp19, rp16, rp17, rp18, mulB_L, mulB_R, mulB_b, decide_eq_true_eq, tyW, isN, Nat.reduceSub, Nat.reduceAdd, Nat.reduceEqDiff, Nat.reduceLeDiff, Nat.reduceLT, reduceIte, reduceCtorEq, Int.reduceLT, Int.reduceLE, Int.reduceEq, Int.reduceAdd, Int.reduceSub, Int.reduceMul, Int.reduceNeg, Int.reduceToNat, Int.reduceMod, Int.reducePow, Int.reduceDiv, Nat.reducePow, c3]
  generalize hX : A ++ [(take.set j z, put)] = X at c3 c4 ⊢
  have lX : X.length = A.length + 1 := by rw [← hX]; simp
  have fin : okN n (take.set j z, put) := by
    refine ⟨by simp [hk1], hk2, fun x hx => ?_, hk.2.2.2⟩
    rcases List.mem_or_eq_of_mem_set hx with q | q
    · exact hk.2.2.1 x q
    · rw [q]; exact t2
  simp (disch := first | omega | with_reducible assumption | (simp only [rp18]; omega)) only [rp19, rp16, rp17, rp18, mulB_L, mulB_R, mulB_b, decide_eq_true_eq, tyW, isN, Nat.reduceSub, Nat.reduceAdd, Nat.reduceEqDiff, Nat.reduceLeDiff, Nat.reduceLT, reduceIte, reduceCtorEq, Int.reduceLT, Int.reduceLE, Int.reduceEq, Int.reduceAdd, Int.reduceSub, Int.reduceMul, Int.reduceNeg, Int.reduceToNat, Int.reduceMod, Int.reducePow, Int.reduceDiv, Nat.reducePow, c4]
  refine ⟨X ++ B, rfl, fun m h => ?_, by rw [List.length_append]; omega⟩
  rcases List.mem_append.mp h with q | q
  · rw [← hX] at q
    rcases List.mem_append.mp q with q | q
    · exact s1 m q
    · rw [List.mem_singleton.mp q]; exact fin
  · exact s2 m q
theorem allsets_ok {n : Nat} (h6 : n ≤ 6) : f__law_all_sets [.int (n : Int)] = .ok (lS ([] :: ft n)) := by
  have fin : Ok (f__law_all_sets [.int (n : Int)]) fun v => v = lS ([] :: ft n) := by
    simp (disch := first | omega | with_reducible assumption | (simp only [rp18]; omega)) only [rp19, rp16, rp17, rp18, mulB_L, mulB_R, mulB_b, decide_eq_true_eq, tyW, isN, Nat.reduceSub, Nat.reduceAdd, Nat.reduceEqDiff, Nat.reduceLeDiff, Nat.reduceLT, reduceIte, reduceCtorEq, Int.reduceLT, Int.reduceLE, Int.reduceEq, Int.reduceAdd, Int.reduceSub, Int.reduceMul, Int.reduceNeg, Int.reduceToNat, Int.reduceMod, Int.reducePow, Int.reduceDiv, Nat.reducePow, runB_1, runB_2, runB_3, runB_4, runB_5, m__law_all_sets]
    refine ok_end (po_fors (fun i ρ => ∃ a : Sl, ρ = [.par (.int n), .own (([] :: ft i).map tI), a] ∧ i ≤ n) ⟨_, rfl, Nat.zero_le _⟩ ?_ ?_)
    · rintro i u ρ hu ⟨a, rfl, _⟩
      obtain ⟨hi, rfl⟩ := rng_at hu
      have hlen : ([] :: ft i).length ≤ 32 := by
        have := ft_len i
        rw [List.length_cons, this]
        exact Nat.pow_le_pow_right (by decide : 0 < 2) (by omega : i ≤ 5)
      have e : ∀ N mg me ρ (h : ∀ z ∈ ([] :: ft i), ∃ ρ1, mg (tI z) (ρ ++ List.replicate (N - ρ.length) Sl.un) = some ρ1 ∧ me ρ1 = .ok (tI (z ++ [(i : Int)]))), mComp N mg yes me (([] :: ft i).map tI) ρ = .ok (lS (([] :: ft i).map fun z => z ++ [(i : Int)])) := fun N mg me ρ h => by
        rw [mComp_all (fun z => tI (z ++ [(i : Int)])) _ _ ρ (by omega) h]; exact congrArg (fun l => R.ok (W.lst l)) (by rw [List.map_map]; rfl)
      refine ⟨_, rfl, ?_⟩
      generalize hF : ([] :: ft i : List (List Int)) = F at e hlen ⊢
      simp (disch := first | omega | with_reducible assumption | (simp only [rp18]; omega)) only [rp19, rp16, rp17, rp18, mulB_L, mulB_R, mulB_b, decide_eq_true_eq, tyW, isN, Nat.reduceSub, Nat.reduceAdd, Nat.reduceEqDiff, Nat.reduceLeDiff, Nat.reduceLT, reduceIte, reduceCtorEq, Int.reduceLT, Int.reduceLE, Int.reduceEq, Int.reduceAdd, Int.reduceSub, Int.reduceMul, Int.reduceNeg, Int.reduceToNat, Int.reduceMod, Int.reducePow, Int.reduceDiv, Nat.reducePow]
      rw [e]
      · have hc : fCat true (.lst (F.map tI)) (lS (F.map fun z => z ++ [(i : Int)])) = .ok (lS (F ++ F.map fun z => z ++ [(i : Int)])) := by
          rw [fCat_c (by simp; omega)]
          show TP.chks true _ = _
          rw [← List.map_append]; rfl
        simp (disch := first | omega | with_reducible assumption | (simp only [rp18]; omega)) only [rp19, rp16, rp17, rp18, mulB_L, mulB_R, mulB_b, decide_eq_true_eq, tyW, isN, Nat.reduceSub, Nat.reduceAdd, Nat.reduceEqDiff, Nat.reduceLeDiff, Nat.reduceLT, reduceIte, reduceCtorEq, Int.reduceLT, Int.reduceLE, Int.reduceEq, Int.reduceAdd, Int.reduceSub, Int.reduceMul, Int.reduceNeg, Int.reduceToNat, Int.reduceMod, Int.reducePow, Int.reduceDiv, Nat.reducePow, hc]
        refine ⟨.par (.int (i : Nat)), ?_, by omega⟩
        rw [← hF]; rfl
      · intro z hz
        have hz6 : z.length ≤ 900 := by
          have : z.length ≤ i := by
            rw [← hF] at hz
            rcases List.mem_cons.mp hz with rfl | hz
            · exact Nat.zero_le _
            · exact ft_short i z hz
          omega
        refine ⟨_, rfl, ?_⟩
        simp (disch := first | omega | with_reducible assumption | (simp only [rp18]; omega)) only [rp19, rp16, rp17, rp18, mulB_L, mulB_R, mulB_b, decide_eq_true_eq, tyW, isN, Nat.reduceSub, Nat.reduceAdd, Nat.reduceEqDiff, Nat.reduceLeDiff, Nat.reduceLT, reduceIte, reduceCtorEq, Int.reduceLT, Int.reduceLE, Int.reduceEq, Int.reduceAdd, Int.reduceSub, Int.reduceMul, Int.reduceNeg, Int.reduceToNat, Int.reduceMod, Int.reducePow, Int.reduceDiv, Nat.reducePow, fCatT_I z (i : Int) hz6]
    · rintro ρ ⟨a, rfl, _⟩
      rw [List.length_map, List.length_range]
      simp (disch := first | omega | with_reducible assumption | (simp only [rp18]; omega)) only [rp19, rp16, rp17, rp18, mulB_L, mulB_R, mulB_b, decide_eq_true_eq, tyW, isN, Nat.reduceSub, Nat.reduceAdd, Nat.reduceEqDiff, Nat.reduceLeDiff, Nat.reduceLT, reduceIte, reduceCtorEq, Int.reduceLT, Int.reduceLE, Int.reduceEq, Int.reduceAdd, Int.reduceSub, Int.reduceMul, Int.reduceNeg, Int.reduceToNat, Int.reduceMod, Int.reducePow, Int.reduceDiv, Nat.reducePow]
      rfl
  obtain ⟨v, e, rfl⟩ := fin
  exact e
theorem inside_ok {one other : List Int} (h6 : one.length ≤ 6) : f__law_inside [tI one, tI other] = .ok (.bl (withB one other)) := by
  have e : ∀ N mg mc me ρ (h : ∀ p ∈ one, ∃ ρ1, mg (.int p) (ρ ++ List.replicate (N - ρ.length) Sl.un) = some ρ1 ∧ mc ρ1 = .ok (!decide (p ∈ other)) ∧ ((!decide (p ∈ other)) = true → me ρ1 = .ok (.int p))), mComp N mg mc me (one.map W.int) ρ = .ok (lI (one.filter fun p => !decide (p ∈ other))) := fun N mg mc me ρ h => by
    rw [mComp_filter W.int W.int (fun p => !decide (p ∈ other)) _ ρ (by omega) h]
  simp (disch := first | omega | with_reducible assumption | (simp only [rp18]; omega)) only [rp19, rp16, rp17, rp18, mulB_L, mulB_R, mulB_b, decide_eq_true_eq, tyW, isN, Nat.reduceSub, Nat.reduceAdd, Nat.reduceEqDiff, Nat.reduceLeDiff, Nat.reduceLT, reduceIte, reduceCtorEq, Int.reduceLT, Int.reduceLE, Int.reduceEq, Int.reduceAdd, Int.reduceSub, Int.reduceMul, Int.reduceNeg, Int.reduceToNat, Int.reduceMod, Int.reducePow, Int.reduceDiv, Nat.reducePow, runB_1, runB_2, runB_3, runB_4, runB_5, m__law_inside]
  rw [e]
  · simp (disch := first | omega | with_reducible assumption | (simp only [rp18]; omega)) only [rp19, rp16, rp17, rp18, mulB_L, mulB_R, mulB_b, decide_eq_true_eq, tyW, isN, Nat.reduceSub, Nat.reduceAdd, Nat.reduceEqDiff, Nat.reduceLeDiff, Nat.reduceLT, reduceIte, reduceCtorEq, Int.reduceLT, Int.reduceLE, Int.reduceEq, Int.reduceAdd, Int.reduceSub, Int.reduceMul, Int.reduceNeg, Int.reduceToNat, Int.reduceMod, Int.reducePow, Int.reduceDiv, Nat.reducePow]
    congr 2
    unfold withB
    rw [Bool.eq_iff_iff, decide_eq_true_iff, List.all_eq_true]
    have : ((((one.filter fun p => !decide (p ∈ other)).length : Nat) : Int) = 0) ↔ (one.filter fun p => !decide (p ∈ other)) = [] := by rw [← List.length_eq_zero_iff]; omega
    rw [this, List.filter_eq_nil_iff]
    refine forall_congr' fun p => forall_congr' fun _ => ?_
    by_cases q : p ∈ other <;> simp [q]
  · intro p hp
    refine ⟨_, rfl, ?_, fun _ => ?_⟩
    · simp (disch := first | omega | with_reducible assumption | (simp only [rp18]; omega)) only [rp19, rp16, rp17, rp18, mulB_L, mulB_R, mulB_b, decide_eq_true_eq, tyW, isN, Nat.reduceSub, Nat.reduceAdd, Nat.reduceEqDiff, Nat.reduceLeDiff, Nat.reduceLT, reduceIte, reduceCtorEq, Int.reduceLT, Int.reduceLE, Int.reduceEq, Int.reduceAdd, Int.reduceSub, Int.reduceMul, Int.reduceNeg, Int.reduceToNat, Int.reduceMod, Int.reducePow, Int.reduceDiv, Nat.reducePow, fIn_tI true p other]
    · simp (disch := first | omega | with_reducible assumption | (simp only [rp18]; omega)) only [rp19, rp16, rp17, rp18, mulB_L, mulB_R, mulB_b, decide_eq_true_eq, tyW, isN, Nat.reduceSub, Nat.reduceAdd, Nat.reduceEqDiff, Nat.reduceLeDiff, Nat.reduceLT, reduceIte, reduceCtorEq, Int.reduceLT, Int.reduceLE, Int.reduceEq, Int.reduceAdd, Int.reduceSub, Int.reduceMul, Int.reduceNeg, Int.reduceToNat, Int.reduceMod, Int.reducePow, Int.reduceDiv, Nat.reducePow]
def sumN (c ps : List Int) : Int := gSum (ps.map fun p => c.getD p.toNat 0)
theorem sum_ok {c ps : List Int} (hp : okP c.length ps) : f__law_sum [tI c, tI ps] = .ok (.int (sumN c ps)) := by
  have e : ∀ N mg me ρ (h : ∀ p ∈ ps, ∃ ρ1, mg (.int p) (ρ ++ List.replicate (N - ρ.length) Sl.un) = some ρ1 ∧ me ρ1 = .ok (.int (c.getD p.toNat 0))), mComp N mg yes me (ps.map W.int) ρ = .ok (.lst ((ps.map fun p => c.getD p.toNat 0).map W.int)) := fun N mg me ρ h => by
    rw [mComp_all (fun p => W.int (c.getD p.toNat 0)) _ _ ρ (by have := hp.2; omega) h, List.map_map]; rfl
  simp (disch := first | omega | with_reducible assumption | (simp only [rp18]; omega)) only [rp19, rp16, rp17, rp18, mulB_L, mulB_R, mulB_b, decide_eq_true_eq, tyW, isN, Nat.reduceSub, Nat.reduceAdd, Nat.reduceEqDiff, Nat.reduceLeDiff, Nat.reduceLT, reduceIte, reduceCtorEq, Int.reduceLT, Int.reduceLE, Int.reduceEq, Int.reduceAdd, Int.reduceSub, Int.reduceMul, Int.reduceNeg, Int.reduceToNat, Int.reduceMod, Int.reducePow, Int.reduceDiv, Nat.reducePow, runB_1, runB_2, runB_3, runB_4, runB_5, m__law_sum]
  rw [e]
  · simp (disch := first | omega | with_reducible assumption | (simp only [rp18]; omega)) only [rp19, rp16, rp17, rp18, mulB_L, mulB_R, mulB_b, decide_eq_true_eq, tyW, isN, Nat.reduceSub, Nat.reduceAdd, Nat.reduceEqDiff, Nat.reduceLeDiff, Nat.reduceLT, reduceIte, reduceCtorEq, Int.reduceLT, Int.reduceLE, Int.reduceEq, Int.reduceAdd, Int.reduceSub, Int.reduceMul, Int.reduceNeg, Int.reduceToNat, Int.reduceMod, Int.reducePow, Int.reduceDiv, Nat.reducePow]
    rfl
  · intro p hpp
    have := hp.1 p hpp
    refine ⟨_, rfl, ?_⟩
    simp (disch := first | omega | with_reducible assumption | (simp only [rp18]; omega)) only [rp19, rp16, rp17, rp18, mulB_L, mulB_R, mulB_b, decide_eq_true_eq, tyW, isN, Nat.reduceSub, Nat.reduceAdd, Nat.reduceEqDiff, Nat.reduceLeDiff, Nat.reduceLT, reduceIte, reduceCtorEq, Int.reduceLT, Int.reduceLE, Int.reduceEq, Int.reduceAdd, Int.reduceSub, Int.reduceMul, Int.reduceNeg, Int.reduceToNat, Int.reduceMod, Int.reducePow, Int.reduceDiv, Nat.reducePow]
theorem sum_hit {c : List Int} (hn : nn c) : ∀ ps : List Int, 0 ≤ sumN c ps ∧ (hitB c ps = true ↔ 0 < sumN c ps)
  | [] => ⟨Int.le_refl 0, Iff.intro (fun h => absurd h Bool.false_ne_true) fun h => absurd h (show ¬ (0 : Int) < 0 by decide)⟩
  | p :: ps => by
    have ih := sum_hit hn ps
    have h0 := nn_at hn p.toNat
    have e : sumN c (p :: ps) = c.getD p.toNat 0 + sumN c ps := rfl
    have e2 : hitB c (p :: ps) = (decide (0 < c.getD p.toNat 0) || hitB c ps) := rfl
    rw [e, e2, Bool.or_eq_true, ih.2, decide_eq_true_iff]
    have := ih.1
    omega
theorem sum_pos {c : List Int} (hn : nn c) {ps : List Int} : decide (0 < sumN c ps) = hitB c ps := by
  rw [Bool.eq_iff_iff, decide_eq_true_iff]
  exact (sum_hit hn ps).2.symm
theorem sum_zer {c : List Int} (hn : nn c) {ps : List Int} : decide (sumN c ps = 0) = !hitB c ps := by
  have := sum_hit hn ps
  cases q : hitB c ps with
  | true => rw [q] at this; have := this.2.mp rfl; exact decide_eq_false (by omega)
  | false => rw [q] at this; have h : ¬ 0 < sumN c ps := fun z => Bool.false_ne_true (this.2.mpr z); exact decide_eq_true (by omega)
theorem lwet_ok0 {n : Nat} {ms : List Mv} {ps : List Int} (hm : ∀ m ∈ ms, okN n m) (hp : okP n ps) : Ok (f__law_wet [lM ms, tI ps]) fun v => ∃ b, v = .bl b ∧ (b = true ↔ dryP (ms.map swp) ps) := by
  simp (disch := first | omega | with_reducible assumption | (simp only [rp18]; omega)) only [rp19, rp16, rp17, rp18, mulB_L, mulB_R, mulB_b, decide_eq_true_eq, tyW, isN, Nat.reduceSub, Nat.reduceAdd, Nat.reduceEqDiff, Nat.reduceLeDiff, Nat.reduceLT, reduceIte, reduceCtorEq, Int.reduceLT, Int.reduceLE, Int.reduceEq, Int.reduceAdd, Int.reduceSub, Int.reduceMul, Int.reduceNeg, Int.reduceToNat, Int.reduceMod, Int.reducePow, Int.reduceDiv, Nat.reducePow, runB_1, runB_2, runB_3, runB_4, runB_5, m__law_wet]
  refine ok_end (po_fors (fun i ρ => ∃ a b : Sl, ρ = [.par (lM ms), .par (tI ps), a, b] ∧ ∀ k m, k < i → ms[k]? = some m → brB ps (swp m) = false) ⟨_, _, rfl, fun k m hk => absurd hk (Nat.not_lt_zero _)⟩ ?_ ?_)
  · rintro i u ρ hu ⟨a, b, rfl, hall⟩
    obtain ⟨m, hmm, hmi, rfl⟩ := map_atM hu
    have hk := hm m hmm
    have k1 := sum_ok (c := m.1) (ps := ps) (by rw [hk.1]; exact hp)
    have k2 := sum_ok (c := m.2) (ps := ps) (by rw [hk.2.1]; exact hp)
    refine ⟨_, rfl, ?_⟩
    simp (disch := first | omega | with_reducible assumption | (simp only [rp18]; omega)) only [rp19, rp16, rp17, rp18, mulB_L, mulB_R, mulB_b, decide_eq_true_eq, tyW, isN, Nat.reduceSub, Nat.reduceAdd, Nat.reduceEqDiff, Nat.reduceLeDiff, Nat.reduceLT, reduceIte, reduceCtorEq, Int.reduceLT, Int.reduceLE, Int.reduceEq, Int.reduceAdd, Int.reduceSub, Int.reduceMul, Int.reduceNeg, Int.reduceToNat, Int.reduceMod, Int.reducePow, Int.reduceDiv, Nat.reducePow, k1, k2, sum_pos (ps := ps) hk.2.2.1, sum_pos (ps := ps) hk.2.2.2, sum_zer (ps := ps) hk.2.2.1, sum_zer (ps := ps) hk.2.2.2]
    refine po_if (fun h => ?_) (fun h => ?_)
    · simp (disch := first | omega | with_reducible assumption | (simp only [rp18]; omega)) only [rp19, rp16, rp17, rp18, mulB_L, mulB_R, mulB_b, decide_eq_true_eq, tyW, isN, Nat.reduceSub, Nat.reduceAdd, Nat.reduceEqDiff, Nat.reduceLeDiff, Nat.reduceLT, reduceIte, reduceCtorEq, Int.reduceLT, Int.reduceLE, Int.reduceEq, Int.reduceAdd, Int.reduceSub, Int.reduceMul, Int.reduceNeg, Int.reduceToNat, Int.reduceMod, Int.reducePow, Int.reduceDiv, Nat.reducePow]
      refine ⟨_, rfl, Iff.intro (fun z => absurd z Bool.false_ne_true) fun z => ?_⟩
      have := z (swp m) (List.mem_map.mpr ⟨m, hmm, rfl⟩)
      unfold brB at this
      rw [this] at h; cases h
    · simp (disch := first | omega | with_reducible assumption | (simp only [rp18]; omega)) only [rp19, rp16, rp17, rp18, mulB_L, mulB_R, mulB_b, decide_eq_true_eq, tyW, isN, Nat.reduceSub, Nat.reduceAdd, Nat.reduceEqDiff, Nat.reduceLeDiff, Nat.reduceLT, reduceIte, reduceCtorEq, Int.reduceLT, Int.reduceLE, Int.reduceEq, Int.reduceAdd, Int.reduceSub, Int.reduceMul, Int.reduceNeg, Int.reduceToNat, Int.reduceMod, Int.reducePow, Int.reduceDiv, Nat.reducePow]
      refine ⟨_, _, rfl, fun k m' hk hm' => ?_⟩
      by_cases e : k = i
      · subst e
        rw [hmi] at hm'
        cases hm'
        exact h
      · exact hall k m' (by omega) hm'
  · rintro ρ ⟨a, b, rfl, hall⟩
    rw [List.length_map] at hall
    simp (disch := first | omega | with_reducible assumption | (simp only [rp18]; omega)) only [rp19, rp16, rp17, rp18, mulB_L, mulB_R, mulB_b, decide_eq_true_eq, tyW, isN, Nat.reduceSub, Nat.reduceAdd, Nat.reduceEqDiff, Nat.reduceLeDiff, Nat.reduceLT, reduceIte, reduceCtorEq, Int.reduceLT, Int.reduceLE, Int.reduceEq, Int.reduceAdd, Int.reduceSub, Int.reduceMul, Int.reduceNeg, Int.reduceToNat, Int.reduceMod, Int.reducePow, Int.reduceDiv, Nat.reducePow]
    refine ⟨_, rfl, Iff.intro (fun _ m hm => ?_) fun _ => rfl⟩
    obtain ⟨q, hq, rfl⟩ := List.mem_map.mp hm
    obtain ⟨k, hk, e⟩ := List.mem_iff_getElem.mp hq
    exact hall k q hk (by simp [hk, e])
theorem ldry_ok0 {n : Nat} {ms : List Mv} {ps : List Int} (hm : ∀ m ∈ ms, okN n m) (hp : okP n ps) : Ok (f__law_dry [lM ms, tI ps]) fun v => ∃ b, v = .bl b ∧ (b = true ↔ dryP ms ps) := by
  simp (disch := first | omega | with_reducible assumption | (simp only [rp18]; omega)) only [rp19, rp16, rp17, rp18, mulB_L, mulB_R, mulB_b, decide_eq_true_eq, tyW, isN, Nat.reduceSub, Nat.reduceAdd, Nat.reduceEqDiff, Nat.reduceLeDiff, Nat.reduceLT, reduceIte, reduceCtorEq, Int.reduceLT, Int.reduceLE, Int.reduceEq, Int.reduceAdd, Int.reduceSub, Int.reduceMul, Int.reduceNeg, Int.reduceToNat, Int.reduceMod, Int.reducePow, Int.reduceDiv, Nat.reducePow, runB_1, runB_2, runB_3, runB_4, runB_5, m__law_dry]
  refine ok_end (po_fors (fun i ρ => ∃ a b : Sl, ρ = [.par (lM ms), .par (tI ps), a, b] ∧ ∀ k m, k < i → ms[k]? = some m → brB ps m = false) ⟨_, _, rfl, fun k m hk => absurd hk (Nat.not_lt_zero _)⟩ ?_ ?_)
  · rintro i u ρ hu ⟨a, b, rfl, hall⟩
    obtain ⟨m, hmm, hmi, rfl⟩ := map_atM hu
    have hk := hm m hmm
    have k1 := sum_ok (c := m.1) (ps := ps) (by rw [hk.1]; exact hp)
    have k2 := sum_ok (c := m.2) (ps := ps) (by rw [hk.2.1]; exact hp)
    refine ⟨_, rfl, ?_⟩
    simp (disch := first | omega | with_reducible assumption | (simp only [rp18]; omega)) only [rp19, rp16, rp17, rp18, mulB_L, mulB_R, mulB_b, decide_eq_true_eq, tyW, isN, Nat.reduceSub, Nat.reduceAdd, Nat.reduceEqDiff, Nat.reduceLeDiff, Nat.reduceLT, reduceIte, reduceCtorEq, Int.reduceLT, Int.reduceLE, Int.reduceEq, Int.reduceAdd, Int.reduceSub, Int.reduceMul, Int.reduceNeg, Int.reduceToNat, Int.reduceMod, Int.reducePow, Int.reduceDiv, Nat.reducePow, k1, k2, sum_pos (ps := ps) hk.2.2.1, sum_pos (ps := ps) hk.2.2.2, sum_zer (ps := ps) hk.2.2.1, sum_zer (ps := ps) hk.2.2.2]
    refine po_if (fun h => ?_) (fun h => ?_)
    · simp (disch := first | omega | with_reducible assumption | (simp only [rp18]; omega)) only [rp19, rp16, rp17, rp18, mulB_L, mulB_R, mulB_b, decide_eq_true_eq, tyW, isN, Nat.reduceSub, Nat.reduceAdd, Nat.reduceEqDiff, Nat.reduceLeDiff, Nat.reduceLT, reduceIte, reduceCtorEq, Int.reduceLT, Int.reduceLE, Int.reduceEq, Int.reduceAdd, Int.reduceSub, Int.reduceMul, Int.reduceNeg, Int.reduceToNat, Int.reduceMod, Int.reducePow, Int.reduceDiv, Nat.reducePow]
      refine ⟨_, rfl, Iff.intro (fun z => absurd z Bool.false_ne_true) fun z => ?_⟩
      have := z m hmm
      unfold brB at this
      rw [this] at h; cases h
    · simp (disch := first | omega | with_reducible assumption | (simp only [rp18]; omega)) only [rp19, rp16, rp17, rp18, mulB_L, mulB_R, mulB_b, decide_eq_true_eq, tyW, isN, Nat.reduceSub, Nat.reduceAdd, Nat.reduceEqDiff, Nat.reduceLeDiff, Nat.reduceLT, reduceIte, reduceCtorEq, Int.reduceLT, Int.reduceLE, Int.reduceEq, Int.reduceAdd, Int.reduceSub, Int.reduceMul, Int.reduceNeg, Int.reduceToNat, Int.reduceMod, Int.reducePow, Int.reduceDiv, Nat.reducePow]
      refine ⟨_, _, rfl, fun k m' hk hm' => ?_⟩
      by_cases e : k = i
      · subst e
        rw [hmi] at hm'
        cases hm'
        exact h
      · exact hall k m' (by omega) hm'
  · rintro ρ ⟨a, b, rfl, hall⟩
    rw [List.length_map] at hall
    simp (disch := first | omega | with_reducible assumption | (simp only [rp18]; omega)) only [rp19, rp16, rp17, rp18, mulB_L, mulB_R, mulB_b, decide_eq_true_eq, tyW, isN, Nat.reduceSub, Nat.reduceAdd, Nat.reduceEqDiff, Nat.reduceLeDiff, Nat.reduceLT, reduceIte, reduceCtorEq, Int.reduceLT, Int.reduceLE, Int.reduceEq, Int.reduceAdd, Int.reduceSub, Int.reduceMul, Int.reduceNeg, Int.reduceToNat, Int.reduceMod, Int.reducePow, Int.reduceDiv, Nat.reducePow]
    exact ⟨_, rfl, Iff.intro (fun _ => br_none.mp (first_n hall)) fun _ => rfl⟩
theorem lwet_ok {n : Nat} {ms : List Mv} {ps : List Int} (hm : ∀ m ∈ ms, okN n m) (hp : okP n ps) : f__law_wet [lM ms, tI ps] = .ok (.bl (dryB (ms.map swp) ps)) := by
  obtain ⟨_, e, b, rfl, h⟩ := lwet_ok0 hm hp
  rw [e, Bool.eq_iff_iff.mpr (h.trans dryB_iff.symm)]
theorem ldry_ok {n : Nat} {ms : List Mv} {ps : List Int} (hm : ∀ m ∈ ms, okN n m) (hp : okP n ps) : f__law_dry [lM ms, tI ps] = .ok (.bl (dryB ms ps)) := by
  obtain ⟨_, e, b, rfl, h⟩ := ldry_ok0 hm hp
  rw [e, Bool.eq_iff_iff.mpr (h.trans dryB_iff.symm)]
theorem up_eq {a b : List Int} (ha : a.Pairwise (· < ·)) (hb : b.Pairwise (· < ·)) (h : ∀ p, p ∈ a ↔ p ∈ b) : a = b :=
  List.Perm.eq_of_pairwise (le := (· < ·)) (fun a b _ _ x y => absurd x (by omega)) ha hb ((List.perm_ext_iff_of_nodup (ha.imp fun h => by omega) (hb.imp fun h => by omega)).mpr h)
def dryL (ms : List Mv) (n : Nat) : List (List Int) := (ft n).filter (dryB ms)
def minD (D : List (List Int)) (z : List Int) : Bool := decide ((D.filter fun y => !decide (y = z) && withB y z) = [])
theorem ft_nd (n : Nat) : (ft n).Nodup := (ft_ord n).imp fun h e => h (by rw [e]; exact fun p q => q)
theorem apart_eq {L : List (List Int)} (h : L.Pairwise fun a b => (¬ ∀ p ∈ a, p ∈ b) ∧ ¬ ∀ p ∈ b, p ∈ a) {a b : List Int} (ha : a ∈ L) (hb : b ∈ L) (hs : ∀ p ∈ a, p ∈ b) : a = b := by
  obtain ⟨j, hj, rfl⟩ := List.mem_iff_getElem.mp ha
  obtain ⟨k, hk, rfl⟩ := List.mem_iff_getElem.mp hb
  by_cases e : j = k
  · subst e; rfl
  exfalso
  rcases Nat.lt_or_gt_of_ne e with q | q
  · exact (List.pairwise_iff_getElem.mp h j k hj hk q).1 hs
  · exact (List.pairwise_iff_getElem.mp h k j hk hj q).2 hs
theorem least_eq (ms : List Mv) (n : Nat) : sortL ((dryL ms n).filter (minD (dryL ms n))) = sortL (leastL ms n) := by
  have P := least_P ms n
  have memD : ∀ z, z ∈ dryL ms n ↔ (inP n z ∧ z ≠ []) ∧ dryP ms z := fun z => by
    unfold dryL
    rw [List.mem_filter, dryB_iff]
    exact ⟨fun h => ⟨ft_ok n z h.1, h.2⟩, fun h => ⟨ft_all n z h.1.1 h.1.2, h.2⟩⟩
  have hp : ((dryL ms n).filter (minD (dryL ms n))).Perm (leastL ms n) := by
    refine (List.perm_ext_iff_of_nodup (((ft_nd n).sublist List.filter_sublist).sublist List.filter_sublist) ((ft_nd n).sublist fold_sub)).mpr fun z => ?_
    rw [List.mem_filter]
    unfold minD
    rw [decide_eq_true_iff, List.filter_eq_nil_iff]
    constructor
    · rintro ⟨h1, h2⟩
      have h3 := (memD z).mp h1
      obtain ⟨s, hs, hsz⟩ := P.all z h3.1.1 h3.1.2 h3.2
      by_cases e : s = z
      · rw [← e]; exact hs
      · exfalso
        refine h2 s ((memD s).mpr ⟨P.inn s hs, P.dry s hs⟩) ?_
        rw [with_t hsz, decide_eq_false e]; rfl
    · intro hz
      refine ⟨(memD z).mpr ⟨P.inn z hz, P.dry z hz⟩, fun y hy q => ?_⟩
      rw [Bool.and_eq_true, Bool.not_eq_true', decide_eq_false_iff_not] at q
      have h3 := (memD y).mp hy
      obtain ⟨s, hs, hsy⟩ := P.all y h3.1.1 h3.1.2 h3.2
      have hyz := with_i q.2
      have e := apart_eq P.apart hs hz fun p hp => hyz p (hsy p hp)
      subst e
      exact q.1 (up_eq h3.1.1.1 (P.inn s hs).1.1 fun p => ⟨hyz p, hsy p⟩)
  exact List.Perm.eq_of_pairwise (le := fun a b => TP.lexLt b a = false) (fun a b _ _ x y => lex_tot _ _ y x) (sort_up _) (sort_up _) ((sort_perm _).trans (hp.trans (sort_perm _).symm))
theorem lleast_ok {n : Nat} {ms : List Mv} (h6 : n ≤ 6) (hm : ∀ m ∈ ms, okN n m) : f__law_least [lM ms, .int (n : Int)] = .ok (lS (sortL (leastL ms n))) := by
  have okz : ∀ z ∈ ft n, okP n z := fun z hz => okP_in h6 (ft_ok n z hz).1 hz
  have lenF : (ft n).length < 64 := by
    have := ft_len n
    have := pow_64 h6
    omega
  have lenD : (dryL ms n).length < 64 := Nat.lt_of_le_of_lt (List.length_filter_le _ _) lenF
  have subD : ∀ z ∈ dryL ms n, z ∈ ft n := fun z hz => (List.mem_filter.mp hz).1
  have fin : Ok (f__law_least [lM ms, .int (n : Int)]) fun v => v = lS (sortL (leastL ms n)) := by
    have k1 := allsets_ok h6
    have e : ∀ N mg mc me ρ (h : ∀ z ∈ ([] :: ft n), ∃ ρ1, mg (tI z) (ρ ++ List.replicate (N - ρ.length) Sl.un) = some ρ1 ∧ mc ρ1 = .ok (!decide (z = []) && dryB ms z) ∧ ((!decide (z = []) && dryB ms z) = true → me ρ1 = .ok (tI z))), mComp N mg mc me (([] :: ft n).map tI) ρ = .ok (lS (dryL ms n)) := fun N mg mc me ρ h => by
      rw [mComp_filter tI tI (fun z => !decide (z = []) && dryB ms z) _ ρ (by rw [List.length_cons]; omega) h]
      have e1 : ([] :: ft n).filter (fun z => !decide (z = []) && dryB ms z) = dryL ms n := by
        rw [List.filter_cons_of_neg (by simp)]
        refine List.filter_congr fun z hz => ?_
        rw [decide_eq_false (ft_ok n z hz).2]; rfl
      rw [e1]
    have okA : ∀ z ∈ ([] :: ft n), okP n z := fun z hz => by
      rcases List.mem_cons.mp hz with rfl | hz
      · exact ⟨fun p h => (nomatch h), Nat.zero_le _⟩
      · exact okz z hz
    generalize ([] :: ft n : List (List Int)) = A at e k1 okA
    simp (disch := first | omega | with_reducible assumption | (simp only [rp18]; omega)) only [rp19, rp16, rp17, rp18, mulB_L, mulB_R, mulB_b, decide_eq_true_eq, tyW, isN, Nat.reduceSub, Nat.reduceAdd, Nat.reduceEqDiff, Nat.reduceLeDiff, Nat.reduceLT, reduceIte, reduceCtorEq, Int.reduceLT, Int.reduceLE, Int.reduceEq, Int.reduceAdd, Int.reduceSub, Int.reduceMul, Int.reduceNeg, Int.reduceToNat, Int.reduceMod, Int.reducePow, Int.reduceDiv, Nat.reducePow, runB_1, runB_2, runB_3, runB_4, runB_5, m__law_least, k1]
    rw [e]
    rotate_left
    · intro z hz
      have k2 := ldry_ok hm (okA z hz)
      have k3 : fEq true (tI z) (.tup []) = .ok (.bl (!decide (z = []))) := fEq_tI true z []
      refine ⟨_, rfl, ?_, fun _ => ?_⟩
      · simp (disch := first | omega | with_reducible assumption | (simp only [rp18]; omega)) only [rp19, rp16, rp17, rp18, mulB_L, mulB_R, mulB_b, decide_eq_true_eq, tyW, isN, Nat.reduceSub, Nat.reduceAdd, Nat.reduceEqDiff, Nat.reduceLeDiff, Nat.reduceLT, reduceIte, reduceCtorEq, Int.reduceLT, Int.reduceLE, Int.reduceEq, Int.reduceAdd, Int.reduceSub, Int.reduceMul, Int.reduceNeg, Int.reduceToNat, Int.reduceMod, Int.reducePow, Int.reduceDiv, Nat.reducePow, k3, k2]
      · simp (disch := first | omega | with_reducible assumption | (simp only [rp18]; omega)) only [rp19, rp16, rp17, rp18, mulB_L, mulB_R, mulB_b, decide_eq_true_eq, tyW, isN, Nat.reduceSub, Nat.reduceAdd, Nat.reduceEqDiff, Nat.reduceLeDiff, Nat.reduceLT, reduceIte, reduceCtorEq, Int.reduceLT, Int.reduceLE, Int.reduceEq, Int.reduceAdd, Int.reduceSub, Int.reduceMul, Int.reduceNeg, Int.reduceToNat, Int.reduceMod, Int.reducePow, Int.reduceDiv, Nat.reducePow]
    simp (disch := first | omega | with_reducible assumption | (simp only [rp18]; omega)) only [rp19, rp16, rp17, rp18, mulB_L, mulB_R, mulB_b, decide_eq_true_eq, tyW, isN, Nat.reduceSub, Nat.reduceAdd, Nat.reduceEqDiff, Nat.reduceLeDiff, Nat.reduceLT, reduceIte, reduceCtorEq, Int.reduceLT, Int.reduceLE, Int.reduceEq, Int.reduceAdd, Int.reduceSub, Int.reduceMul, Int.reduceNeg, Int.reduceToNat, Int.reduceMod, Int.reducePow, Int.reduceDiv, Nat.reducePow]
    have eL := least_eq ms n
    generalize dryL ms n = D at lenD subD eL ⊢
    refine ok_end (po_fors (fun i ρ => ∃ a : Sl, ρ = [.par (lM ms), .par (.int (n : Int)), .val (.lst (D.map tI)), .own (((D.take i).filter (minD D)).map tI), a]) ⟨_, rfl⟩ ?_ ?_)
    · rintro i u ρ hu ⟨a, rfl⟩
      obtain ⟨hi, rfl⟩ := map_atS hu
      have hmem := memS hi
      have et : (D.take (i + 1)).filter (minD D) = (D.take i).filter (minD D) ++ (if minD D (D.getD i []) then [D.getD i []] else []) := by
        rw [List.take_succ, List.filter_append]
        congr 1
        have : D[i]? = some (D.getD i []) := by rw [List.getD_eq_getElem?_getD]; simp [hi]
        rw [this, Option.toList_some, List.filter_cons, List.filter_nil]
      have lt : ((D.take i).filter (minD D)).length < 64 := by
        have h1 := List.length_filter_le (minD D) (D.take i)
        rw [List.length_take] at h1
        omega
      generalize (D.take i).filter (minD D) = T at et lt ⊢
      generalize D.getD i [] = z at et hmem ⊢
      have e2 : ∀ N mg mc me ρ (h : ∀ y ∈ D, ∃ ρ1, mg (tI y) (ρ ++ List.replicate (N - ρ.length) Sl.un) = some ρ1 ∧ mc ρ1 = .ok (!decide (y = z) && withB y z) ∧ ((!decide (y = z) && withB y z) = true → me ρ1 = .ok (tI y))), mComp N mg mc me (D.map tI) ρ = .ok (lS (D.filter fun y => !decide (y = z) && withB y z)) := fun N mg mc me ρ h => by
        rw [mComp_filter tI tI (fun y => !decide (y = z) && withB y z) _ ρ (by omega) h]
      have ez : decide ((((D.filter fun y => !decide (y = z) && withB y z).length : Nat) : Int) = 0) = minD D z := by
        unfold minD
        rw [decide_eq_decide, ← List.length_eq_zero_iff]
        omega
      refine ⟨_, rfl, ?_⟩
      simp (disch := first | omega | with_reducible assumption | (simp only [rp18]; omega)) only [rp19, rp16, rp17, rp18, mulB_L, mulB_R, mulB_b, decide_eq_true_eq, tyW, isN, Nat.reduceSub, Nat.reduceAdd, Nat.reduceEqDiff, Nat.reduceLeDiff, Nat.reduceLT, reduceIte, reduceCtorEq, Int.reduceLT, Int.reduceLE, Int.reduceEq, Int.reduceAdd, Int.reduceSub, Int.reduceMul, Int.reduceNeg, Int.reduceToNat, Int.reduceMod, Int.reducePow, Int.reduceDiv, Nat.reducePow]
      rw [e2]
      · simp (disch := first | omega | with_reducible assumption | (simp only [rp18]; omega)) only [rp19, rp16, rp17, rp18, mulB_L, mulB_R, mulB_b, decide_eq_true_eq, tyW, isN, Nat.reduceSub, Nat.reduceAdd, Nat.reduceEqDiff, Nat.reduceLeDiff, Nat.reduceLT, reduceIte, reduceCtorEq, Int.reduceLT, Int.reduceLE, Int.reduceEq, Int.reduceAdd, Int.reduceSub, Int.reduceMul, Int.reduceNeg, Int.reduceToNat, Int.reduceMod, Int.reducePow, Int.reduceDiv, Nat.reducePow, ez]
        refine po_if (fun h => ?_) (fun h => ?_)
        · simp (disch := first | omega | with_reducible assumption | (simp only [rp18]; omega)) only [rp19, rp16, rp17, rp18, mulB_L, mulB_R, mulB_b, decide_eq_true_eq, tyW, isN, Nat.reduceSub, Nat.reduceAdd, Nat.reduceEqDiff, Nat.reduceLeDiff, Nat.reduceLT, reduceIte, reduceCtorEq, Int.reduceLT, Int.reduceLE, Int.reduceEq, Int.reduceAdd, Int.reduceSub, Int.reduceMul, Int.reduceNeg, Int.reduceToNat, Int.reduceMod, Int.reducePow, Int.reduceDiv, Nat.reducePow]
          refine ⟨.par (tI z), ?_⟩
          rw [et, h]
          rw [if_pos rfl, List.map_append]
        · simp (disch := first | omega | with_reducible assumption | (simp only [rp18]; omega)) only [rp19, rp16, rp17, rp18, mulB_L, mulB_R, mulB_b, decide_eq_true_eq, tyW, isN, Nat.reduceSub, Nat.reduceAdd, Nat.reduceEqDiff, Nat.reduceLeDiff, Nat.reduceLT, reduceIte, reduceCtorEq, Int.reduceLT, Int.reduceLE, Int.reduceEq, Int.reduceAdd, Int.reduceSub, Int.reduceMul, Int.reduceNeg, Int.reduceToNat, Int.reduceMod, Int.reducePow, Int.reduceDiv, Nat.reducePow]
          refine ⟨.par (tI z), ?_⟩
          rw [et, h]
          rw [if_neg Bool.false_ne_true, List.append_nil]
      · intro y hy
        have k2 := inside_ok (one := y) (other := z) (okz y (subD y hy)).2
        refine ⟨_, rfl, ?_, fun _ => ?_⟩
        · simp (disch := first | omega | with_reducible assumption | (simp only [rp18]; omega)) only [rp19, rp16, rp17, rp18, mulB_L, mulB_R, mulB_b, decide_eq_true_eq, tyW, isN, Nat.reduceSub, Nat.reduceAdd, Nat.reduceEqDiff, Nat.reduceLeDiff, Nat.reduceLT, reduceIte, reduceCtorEq, Int.reduceLT, Int.reduceLE, Int.reduceEq, Int.reduceAdd, Int.reduceSub, Int.reduceMul, Int.reduceNeg, Int.reduceToNat, Int.reduceMod, Int.reducePow, Int.reduceDiv, Nat.reducePow, fEq_tI, k2]
        · simp (disch := first | omega | with_reducible assumption | (simp only [rp18]; omega)) only [rp19, rp16, rp17, rp18, mulB_L, mulB_R, mulB_b, decide_eq_true_eq, tyW, isN, Nat.reduceSub, Nat.reduceAdd, Nat.reduceEqDiff, Nat.reduceLeDiff, Nat.reduceLT, reduceIte, reduceCtorEq, Int.reduceLT, Int.reduceLE, Int.reduceEq, Int.reduceAdd, Int.reduceSub, Int.reduceMul, Int.reduceNeg, Int.reduceToNat, Int.reduceMod, Int.reducePow, Int.reduceDiv, Nat.reducePow]
    · rintro ρ ⟨a, rfl⟩
      rw [List.length_map, List.take_length]
      have ks : fSort [lS (D.filter (minD D))] = .ok (lS (sortL (D.filter (minD D)))) := fSort_S (Nat.lt_of_le_of_lt (List.length_filter_le _ _) lenD) fun z hz => (ft_ok n z (subD z (List.mem_filter.mp hz).1)).2
      rw [eL] at ks
      simp (disch := first | omega | with_reducible assumption | (simp only [rp18]; omega)) only [rp19, rp16, rp17, rp18, mulB_L, mulB_R, mulB_b, decide_eq_true_eq, tyW, isN, Nat.reduceSub, Nat.reduceAdd, Nat.reduceEqDiff, Nat.reduceLeDiff, Nat.reduceLT, reduceIte, reduceCtorEq, Int.reduceLT, Int.reduceLE, Int.reduceEq, Int.reduceAdd, Int.reduceSub, Int.reduceMul, Int.reduceNeg, Int.reduceToNat, Int.reduceMod, Int.reducePow, Int.reduceDiv, Nat.reducePow, ks]
  obtain ⟨v, e, rfl⟩ := fin
  exact e
def gwN (ms : List Mv) (n : Nat) (z : List Int) : List Nat := (List.range n).filter fun k => ([] :: ft n).any fun s => (withB s z && dryB (ms.map swp) s) && decide ((k : Int) ∈ s)
def gwL (ms : List Mv) (n : Nat) (z : List Int) : List Int := (gwN ms n z).map fun (k : Nat) => (k : Int)
theorem gw_up (ms : List Mv) (n : Nat) (z : List Int) : (gwL ms n z).Pairwise (· < ·) := by
  unfold gwL gwN
  rw [List.pairwise_map]
  exact (List.pairwise_lt_range.sublist List.filter_sublist).imp fun h => by omega
theorem gw_mem {ms : List Mv} {n : Nat} {z : List Int} {p : Int} : p ∈ gwL ms n z ↔ (0 ≤ p ∧ p < (n : Int)) ∧ ∃ s ∈ ([] :: ft n), (withB s z = true ∧ dryB (ms.map swp) s = true) ∧ p ∈ s := by
  unfold gwL gwN
  rw [List.mem_map]
  constructor
  · rintro ⟨k, hk, rfl⟩
    obtain ⟨h1, h2⟩ := List.mem_filter.mp hk
    rw [List.mem_range] at h1
    obtain ⟨s, hs, q⟩ := List.any_eq_true.mp h2
    rw [Bool.and_eq_true, Bool.and_eq_true, decide_eq_true_iff] at q
    exact ⟨by omega, s, hs, q⟩
  · rintro ⟨h1, s, hs, q⟩
    have e : ((p.toNat : Nat) : Int) = p := by omega
    refine ⟨p.toNat, List.mem_filter.mpr ⟨List.mem_range.mpr (by omega), List.any_eq_true.mpr ⟨s, hs, ?_⟩⟩, e⟩
    rw [e, Bool.and_eq_true, Bool.and_eq_true, decide_eq_true_iff]
    exact q
theorem pgreat_ok {n : Nat} {ms : List Mv} {z : List Int} (hm : ∀ m ∈ ms, okN n m) (hl : ms.length ≤ 8) (hp : okP n z) (hu : inP n z) : f_greatest_wet [tM_ ms, tI z] = .ok (tI (gwL ms n z)) := by
  obtain ⟨_, k1, qs, rfl, hs, hd, hg⟩ := great_ok (swp_ok hm) hp
  have k2 := turned_ok hl
  have e : qs = gwL ms n z := by
    have hq : inP n qs := ⟨hu.1.sublist hs, fun p h => hu.2 p (hs.subset h)⟩
    refine up_eq hq.1 (gw_up ms n z) fun p => ?_
    rw [gw_mem]
    constructor
    · intro h
      refine ⟨hq.2 p h, qs, ?_, ⟨with_t hs.subset, dryB_iff.mpr hd⟩, h⟩
      exact List.mem_cons.mpr (Or.inr (ft_all n qs hq (List.ne_nil_of_mem h)))
    · rintro ⟨_, s, _, ⟨h1, h2⟩, h3⟩
      exact hg s (with_i h1) (dryB_iff.mp h2) p h3
  rw [← e]
  simp (disch := first | omega | with_reducible assumption | (simp only [rp18]; omega)) only [rp19, rp16, rp17, rp18, mulB_L, mulB_R, mulB_b, decide_eq_true_eq, tyW, isN, Nat.reduceSub, Nat.reduceAdd, Nat.reduceEqDiff, Nat.reduceLeDiff, Nat.reduceLT, reduceIte, reduceCtorEq, Int.reduceLT, Int.reduceLE, Int.reduceEq, Int.reduceAdd, Int.reduceSub, Int.reduceMul, Int.reduceNeg, Int.reduceToNat, Int.reduceMod, Int.reducePow, Int.reduceDiv, Nat.reducePow, runB_1, runB_2, runB_3, runB_4, runB_5, m_greatest_wet, k2, k1]
theorem addI_mem {ks : List Int} {k p : Int} : p ∈ TP.addI ks k ↔ p ∈ ks ∨ p = k := by
  unfold TP.addI
  split
  · rename_i h
    exact ⟨Or.inl, fun q => q.elim id fun e => by rw [e]; exact h⟩
  · rw [List.mem_append, List.mem_singleton]
theorem addI_len {ks : List Int} {k : Int} : (TP.addI ks k).length ≤ ks.length + 1 := by
  unfold TP.addI
  split
  · omega
  · simp
theorem lgreat_ok {n : Nat} {ms : List Mv} {z : List Int} (h6 : n ≤ 6) (hm : ∀ m ∈ ms, okN n m) : f__law_greatest_wet [lM ms, .int (n : Int), tI z] = .ok (tI (gwL ms n z)) := by
  have fin : Ok (f__law_greatest_wet [lM ms, .int (n : Int), tI z]) fun v => v = tI (gwL ms n z) := by
    have k1 := allsets_ok h6
    have hl : ([] :: ft n).length ≤ 64 := by
      have := ft_len n
      have := pow_64 h6
      rw [List.length_cons]; omega
    have okA : ∀ s ∈ ([] :: ft n), okP n s := fun s hs => by
      rcases List.mem_cons.mp hs with rfl | hs
      · exact ⟨fun p h => (nomatch h), Nat.zero_le _⟩
      · exact okP_in h6 (ft_ok n s hs).1 hs
    have eG : ∀ ks : List Int, (∀ p, p ∈ ks ↔ ∃ s ∈ ([] :: ft n), (withB s z = true ∧ dryB (ms.map swp) s = true) ∧ p ∈ s) → (List.range n).filter (fun (k : Nat) => decide ((k : Int) ∈ ks)) = gwN ms n z := fun ks h => by
      unfold gwN
      refine List.filter_congr fun k hk => ?_
      rw [Bool.eq_iff_iff, decide_eq_true_iff, h, List.any_eq_true]
      refine exists_congr fun s => and_congr_right fun _ => ?_
      rw [Bool.and_eq_true, Bool.and_eq_true, decide_eq_true_iff]
    generalize ([] :: ft n : List (List Int)) = A at k1 hl okA eG
    simp (disch := first | omega | with_reducible assumption | (simp only [rp18]; omega)) only [rp19, rp16, rp17, rp18, mulB_L, mulB_R, mulB_b, decide_eq_true_eq, tyW, isN, Nat.reduceSub, Nat.reduceAdd, Nat.reduceEqDiff, Nat.reduceLeDiff, Nat.reduceLT, reduceIte, reduceCtorEq, Int.reduceLT, Int.reduceLE, Int.reduceEq, Int.reduceAdd, Int.reduceSub, Int.reduceMul, Int.reduceNeg, Int.reduceToNat, Int.reduceMod, Int.reducePow, Int.reduceDiv, Nat.reducePow, runB_1, runB_2, runB_3, runB_4, runB_5, m__law_greatest_wet, k1, mDNewK_ap]
    refine ok_end (po_fors (fun i ρ => ∃ (ks : List Int) (a4 a5 : Sl), ρ = [.par (lM ms), .par (.int (n : Int)), .par (tI z), .dik ks, a4, a5] ∧ TP.isDik a5 = false ∧ ks.length ≤ 6 * i ∧ ∀ p, p ∈ ks ↔ ∃ s ∈ A.take i, (withB s z = true ∧ dryB (ms.map swp) s = true) ∧ p ∈ s) ⟨[], _, _, rfl, rfl, Nat.zero_le _, fun p => ⟨fun h => (nomatch h), fun ⟨s, hs, _⟩ => (nomatch hs)⟩⟩ ?_ ?_)
    · rintro i u ρ hu ⟨ks, a4, a5, rfl, h5, hkl, hk⟩
      obtain ⟨hi, rfl⟩ := map_atS hu
      have hmem := memS hi
      have et : ∀ s, s ∈ A.take (i + 1) ↔ s ∈ A.take i ∨ s = A.getD i [] := fun s => by
        have : A[i]? = some (A.getD i []) := by rw [List.getD_eq_getElem?_getD]; simp [hi]
        rw [List.take_succ, this, List.mem_append, Option.toList_some, List.mem_singleton]
      generalize A.getD i [] = s at hmem et ⊢
      have ok := okA s hmem
      have k2 := inside_ok (one := s) (other := z) ok.2
      have k3 := lwet_ok hm ok
      refine ⟨_, rfl, ?_⟩
      simp (disch := first | omega | with_reducible assumption | (simp only [rp18]; omega)) only [rp19, rp16, rp17, rp18, mulB_L, mulB_R, mulB_b, decide_eq_true_eq, tyW, isN, Nat.reduceSub, Nat.reduceAdd, Nat.reduceEqDiff, Nat.reduceLeDiff, Nat.reduceLT, reduceIte, reduceCtorEq, Int.reduceLT, Int.reduceLE, Int.reduceEq, Int.reduceAdd, Int.reduceSub, Int.reduceMul, Int.reduceNeg, Int.reduceToNat, Int.reduceMod, Int.reducePow, Int.reduceDiv, Nat.reducePow, k2, k3]
      refine po_if (fun h => ?_) (fun h => ?_)
      · rw [Bool.and_eq_true] at h
        simp (disch := first | omega | with_reducible assumption | (simp only [rp18]; omega)) only [rp19, rp16, rp17, rp18, mulB_L, mulB_R, mulB_b, decide_eq_true_eq, tyW, isN, Nat.reduceSub, Nat.reduceAdd, Nat.reduceEqDiff, Nat.reduceLeDiff, Nat.reduceLT, reduceIte, reduceCtorEq, Int.reduceLT, Int.reduceLE, Int.reduceEq, Int.reduceAdd, Int.reduceSub, Int.reduceMul, Int.reduceNeg, Int.reduceToNat, Int.reduceMod, Int.reducePow, Int.reduceDiv, Nat.reducePow]
        refine po_for (fun j ρ => ∃ (ls : List Int) (a5 : Sl), ρ = [.par (lM ms), .par (.int (n : Int)), .par (tI z), .dik ls, .par (tI s), a5] ∧ TP.isDik a5 = false ∧ ls.length ≤ 6 * i + j ∧ ∀ p, p ∈ ls ↔ p ∈ ks ∨ p ∈ s.take j) ⟨ks, _, rfl, h5, by omega, fun p => ⟨Or.inl, fun q => q.elim id fun q => (nomatch q)⟩⟩ ?_ ?_
        · rintro j u ρ hu ⟨ls, a5, rfl, h5, hll, hl⟩
          obtain ⟨hj, rfl⟩ := map_at hu
          have es : ∀ p, p ∈ s.take (j + 1) ↔ p ∈ s.take j ∨ p = s.getD j 0 := fun p => by
            have : s[j]? = some (s.getD j 0) := by rw [List.getD_eq_getElem?_getD]; simp [hj]
            rw [List.take_succ, this, List.mem_append, Option.toList_some, List.mem_singleton]
          have := ok.2
          generalize s.getD j 0 = p at es ⊢
          have hput := dputK_ok ls (.bl true) p 3 [.par (lM ms), .par (.int (n : Int)), .par (tI z), .dik ls, .par (tI s), .par (.int p)] (by rfl) (by omega)
          refine ⟨_, rfl, ?_⟩
          simp (disch := first | omega | with_reducible assumption | (simp only [rp18]; omega)) only [rp19, rp16, rp17, rp18, mulB_L, mulB_R, mulB_b, decide_eq_true_eq, tyW, isN, Nat.reduceSub, Nat.reduceAdd, Nat.reduceEqDiff, Nat.reduceLeDiff, Nat.reduceLT, reduceIte, reduceCtorEq, Int.reduceLT, Int.reduceLE, Int.reduceEq, Int.reduceAdd, Int.reduceSub, Int.reduceMul, Int.reduceNeg, Int.reduceToNat, Int.reduceMod, Int.reducePow, Int.reduceDiv, Nat.reducePow, mDPutK_ap, hput]
          refine ⟨_, _, rfl, rfl, ?_, fun q => ?_⟩
          · have := addI_len (ks := ls) (k := p)
            omega
          · rw [addI_mem, hl, es, or_assoc]
        · rintro ρ ⟨ls, a5, rfl, h5, hll, hl⟩
          rw [List.length_map] at hll hl
          have := ok.2
          refine ⟨_, _, _, rfl, h5, by omega, fun p => ?_⟩
          rw [hl, hk, List.take_length]
          constructor
          · rintro (⟨t, ht, q⟩ | q)
            · exact ⟨t, (et t).mpr (Or.inl ht), q⟩
            · exact ⟨s, (et s).mpr (Or.inr rfl), h, q⟩
          · rintro ⟨t, ht, q⟩
            rcases (et t).mp ht with ht | rfl
            · exact Or.inl ⟨t, ht, q⟩
            · exact Or.inr q.2
      · simp (disch := first | omega | with_reducible assumption | (simp only [rp18]; omega)) only [rp19, rp16, rp17, rp18, mulB_L, mulB_R, mulB_b, decide_eq_true_eq, tyW, isN, Nat.reduceSub, Nat.reduceAdd, Nat.reduceEqDiff, Nat.reduceLeDiff, Nat.reduceLT, reduceIte, reduceCtorEq, Int.reduceLT, Int.reduceLE, Int.reduceEq, Int.reduceAdd, Int.reduceSub, Int.reduceMul, Int.reduceNeg, Int.reduceToNat, Int.reduceMod, Int.reducePow, Int.reduceDiv, Nat.reducePow]
        refine ⟨_, _, _, rfl, h5, by omega, fun p => ?_⟩
        rw [hk]
        constructor
        · rintro ⟨t, ht, q⟩
          exact ⟨t, (et t).mpr (Or.inl ht), q⟩
        · rintro ⟨t, ht, q⟩
          rcases (et t).mp ht with ht | rfl
          · exact ⟨t, ht, q⟩
          · rw [q.1.1, q.1.2] at h; cases h
    · rintro ρ ⟨ks, a4, a5, rfl, h5, hkl, hk⟩
      rw [List.length_map, List.take_length] at hk
      have e := eG ks hk
      have e2 : ∀ N mg mc me ρ, (∀ k, k < n → ∃ ρ1, mg (.int (k : Nat)) (ρ ++ List.replicate (N - ρ.length) Sl.un) = some ρ1 ∧ mc ρ1 = .ok (decide ((k : Int) ∈ ks)) ∧ me ρ1 = .ok (.int (k : Nat))) →
          mComp N mg mc me ((List.range n).map fun k => W.int (k : Nat)) ρ = .ok (lI (gwL ms n z)) := fun N mg mc me ρ h => by
        have := mComp_filter (N' := N) (mg := mg) (mc := mc) (me := me) (fun k => W.int (k : Nat)) (fun k => W.int (k : Nat)) (fun (k : Nat) => decide ((k : Int) ∈ ks)) (List.range n) ρ (by simp; omega) fun k hk => by
          obtain ⟨ρ1, e1, e2, e3⟩ := h k (by simpa using hk)
          exact ⟨ρ1, e1, e2, fun _ => e3⟩
        rw [this, e]
        unfold lI gwL
        rw [List.map_map]; rfl
      simp (disch := first | omega | with_reducible assumption | (simp only [rp18]; omega)) only [rp19, rp16, rp17, rp18, mulB_L, mulB_R, mulB_b, decide_eq_true_eq, tyW, isN, Nat.reduceSub, Nat.reduceAdd, Nat.reduceEqDiff, Nat.reduceLeDiff, Nat.reduceLT, reduceIte, reduceCtorEq, Int.reduceLT, Int.reduceLE, Int.reduceEq, Int.reduceAdd, Int.reduceSub, Int.reduceMul, Int.reduceNeg, Int.reduceToNat, Int.reduceMod, Int.reducePow, Int.reduceDiv, Nat.reducePow]
      rw [e2]
      · simp (disch := first | omega | with_reducible assumption | (simp only [rp18]; omega)) only [rp19, rp16, rp17, rp18, mulB_L, mulB_R, mulB_b, decide_eq_true_eq, tyW, isN, Nat.reduceSub, Nat.reduceAdd, Nat.reduceEqDiff, Nat.reduceLeDiff, Nat.reduceLT, reduceIte, reduceCtorEq, Int.reduceLT, Int.reduceLE, Int.reduceEq, Int.reduceAdd, Int.reduceSub, Int.reduceMul, Int.reduceNeg, Int.reduceToNat, Int.reduceMod, Int.reducePow, Int.reduceDiv, Nat.reducePow]
      · intro k hk
        refine ⟨_, rfl, ?_⟩
        simp (disch := first | omega | with_reducible assumption | (simp only [rp18]; omega)) only [rp19, rp16, rp17, rp18, mulB_L, mulB_R, mulB_b, decide_eq_true_eq, tyW, isN, Nat.reduceSub, Nat.reduceAdd, Nat.reduceEqDiff, Nat.reduceLeDiff, Nat.reduceLT, reduceIte, reduceCtorEq, Int.reduceLT, Int.reduceLE, Int.reduceEq, Int.reduceAdd, Int.reduceSub, Int.reduceMul, Int.reduceNeg, Int.reduceToNat, Int.reduceMod, Int.reducePow, Int.reduceDiv, Nat.reducePow, mInK_ap, inKI_ok]
  obtain ⟨v, e, rfl⟩ := fin
  exact e
def onceB (ms : List Mv) : Bool := ms.all fun m => decide (maxL m.1 ≤ 1)
theorem takes_ok {n : Nat} {ms : List Mv} (hn : 1 ≤ n) (hm : ∀ m ∈ ms, okN n m) (hl : ms.length ≤ 8) : f_takes_singly [tM_ ms] = .ok (.bl (onceB ms)) := by
  have e : ∀ N mg me ρ (h : ∀ m ∈ ms, ∃ ρ1, mg (mW m) (ρ ++ List.replicate (N - ρ.length) Sl.un) = some ρ1 ∧ me ρ1 = .ok (.bl (decide (maxL m.1 ≤ 1)))), mComp N mg yes me (ms.map mW) ρ = .ok (.lst ((ms.map fun m => decide (maxL m.1 ≤ 1)).map W.bl)) := fun N mg me ρ h => by
    rw [mComp_all (fun m => W.bl (decide (maxL m.1 ≤ 1))) _ _ ρ (by omega) h, List.map_map]; rfl
  simp (disch := first | omega | with_reducible assumption | (simp only [rp18]; omega)) only [rp19, rp16, rp17, rp18, mulB_L, mulB_R, mulB_b, decide_eq_true_eq, tyW, isN, Nat.reduceSub, Nat.reduceAdd, Nat.reduceEqDiff, Nat.reduceLeDiff, Nat.reduceLT, reduceIte, reduceCtorEq, Int.reduceLT, Int.reduceLE, Int.reduceEq, Int.reduceAdd, Int.reduceSub, Int.reduceMul, Int.reduceNeg, Int.reduceToNat, Int.reduceMod, Int.reducePow, Int.reduceDiv, Nat.reducePow, runB_1, runB_2, runB_3, runB_4, runB_5, m_takes_singly]
  rw [e]
  · simp (disch := first | omega | with_reducible assumption | (simp only [rp18]; omega)) only [rp19, rp16, rp17, rp18, mulB_L, mulB_R, mulB_b, decide_eq_true_eq, tyW, isN, Nat.reduceSub, Nat.reduceAdd, Nat.reduceEqDiff, Nat.reduceLeDiff, Nat.reduceLT, reduceIte, reduceCtorEq, Int.reduceLT, Int.reduceLE, Int.reduceEq, Int.reduceAdd, Int.reduceSub, Int.reduceMul, Int.reduceNeg, Int.reduceToNat, Int.reduceMod, Int.reducePow, Int.reduceDiv, Nat.reducePow]
    unfold gAll onceB
    rw [List.all_map]; rfl
  · intro m hmm
    have hk := hm m hmm
    have a0 : L2.atI [tI m.1, tI m.2] 0 = some (tI m.1) := rfl
    have kb : fBest maxL [tI m.1] = .ok (.int (maxL m.1)) := fBest_t (by have := hk.1; omega)
    refine ⟨_, rfl, ?_⟩
    simp (disch := first | omega | with_reducible assumption | (simp only [rp18]; omega)) only [rp19, rp16, rp17, rp18, mulB_L, mulB_R, mulB_b, decide_eq_true_eq, tyW, isN, Nat.reduceSub, Nat.reduceAdd, Nat.reduceEqDiff, Nat.reduceLeDiff, Nat.reduceLT, reduceIte, reduceCtorEq, Int.reduceLT, Int.reduceLE, Int.reduceEq, Int.reduceAdd, Int.reduceSub, Int.reduceMul, Int.reduceNeg, Int.reduceToNat, Int.reduceMod, Int.reducePow, Int.reduceDiv, Nat.reducePow, a0, kb]
def prs (ms : List Mv) (n : Nat) : List Mv := (sortL (leastL ms n)).map fun z => (z, gwL ms n z)
def keptW (b : List Int) (ms : List Mv) : W := if (decide ((ms.length : Int) = 0) || !onceB ms) = true then .non else if ((prs ms b.length).all fun p => hitB b p.2) = true then lM (prs ms b.length) else .non
theorem gw_ok {n : Nat} {ms : List Mv} {z : List Int} (h6 : n ≤ 6) : okP n (gwL ms n z) := by
  constructor
  · intro p hp; exact (gw_mem.mp hp).1
  · unfold gwL gwN
    rw [List.length_map]
    exact Nat.le_trans (List.length_filter_le _ _) (by rw [List.length_range]; exact h6)
theorem sl_ok {n : Nat} {ms : List Mv} (h6 : n ≤ 6) : ∀ z ∈ sortL (leastL ms n), inP n z ∧ okP n z := fun z hz => by
  have h := ((least_P ms n).sort).inn z hz
  exact ⟨h.1, okP_in h6 h.1 (ft_all n z h.1 h.2)⟩
theorem sl_len {n : Nat} {ms : List Mv} (h6 : n ≤ 6) : (sortL (leastL ms n)).length < 64 := by
  have := ((least_P ms n).sort).len
  have := pow_64 h6
  omega
theorem kept_ok {b : List Int} {ms : List Mv} {n : Nat} (hn : 1 ≤ n) (h6 : n ≤ 6) (hb : b.length = n) (hm : ∀ m ∈ ms, okN n m) (hl : ms.length ≤ 8) : f_kept [.tup [tI b, tM_ ms]] = .ok (keptW b ms) := by
  subst hb
  have fin : Ok (f_kept [.tup [tI b, tM_ ms]]) fun v => v = keptW b ms := by
    have a0 : L2.atI [tI b, tM_ ms] 0 = some (tI b) := rfl
    have a1 : L2.atI [tI b, tM_ ms] 1 = some (tM_ ms) := rfl
    have k1 := takes_ok hn hm hl
    have k2 := least_ok h6 hm
    have hls := sl_len (ms := ms) h6
    have hso := sl_ok (ms := ms) h6
    have e : ∀ N mg me ρ (h : ∀ z ∈ sortL (leastL ms b.length), ∃ ρ1, mg (tI z) (ρ ++ List.replicate (N - ρ.length) Sl.un) = some ρ1 ∧ me ρ1 = .ok (mW (z, gwL ms b.length z))), mComp N mg yes me ((sortL (leastL ms b.length)).map tI) ρ = .ok (lM (prs ms b.length)) := fun N mg me ρ h => by
      rw [mComp_all (fun z => mW (z, gwL ms b.length z)) _ _ ρ (by omega) h]; exact congrArg (fun l => R.ok (W.lst l)) (by unfold prs; rw [List.map_map]; rfl)
    simp (disch := first | omega | with_reducible assumption | (simp only [rp18]; omega)) only [rp19, rp16, rp17, rp18, mulB_L, mulB_R, mulB_b, decide_eq_true_eq, tyW, isN, Nat.reduceSub, Nat.reduceAdd, Nat.reduceEqDiff, Nat.reduceLeDiff, Nat.reduceLT, reduceIte, reduceCtorEq, Int.reduceLT, Int.reduceLE, Int.reduceEq, Int.reduceAdd, Int.reduceSub, Int.reduceMul, Int.reduceNeg, Int.reduceToNat, Int.reduceMod, Int.reducePow, Int.reduceDiv, Nat.reducePow, runB_1, runB_2, runB_3, runB_4, runB_5, m_kept, a1, k1]
    refine ok_end (po_ifs (fun h => ?_) (fun h => ?_))
    · simp (disch := first | omega | with_reducible assumption | (simp only [rp18]; omega)) only [rp19, rp16, rp17, rp18, mulB_L, mulB_R, mulB_b, decide_eq_true_eq, tyW, isN, Nat.reduceSub, Nat.reduceAdd, Nat.reduceEqDiff, Nat.reduceLeDiff, Nat.reduceLT, reduceIte, reduceCtorEq, Int.reduceLT, Int.reduceLE, Int.reduceEq, Int.reduceAdd, Int.reduceSub, Int.reduceMul, Int.reduceNeg, Int.reduceToNat, Int.reduceMod, Int.reducePow, Int.reduceDiv, Nat.reducePow]
      unfold keptW
      rw [if_pos h]
    have h' : ¬ ((decide ((ms.length : Int) = 0) || !onceB ms) = true) := by rw [h]; exact Bool.false_ne_true
    simp (disch := first | omega | with_reducible assumption | (simp only [rp18]; omega)) only [rp19, rp16, rp17, rp18, mulB_L, mulB_R, mulB_b, decide_eq_true_eq, tyW, isN, Nat.reduceSub, Nat.reduceAdd, Nat.reduceEqDiff, Nat.reduceLeDiff, Nat.reduceLT, reduceIte, reduceCtorEq, Int.reduceLT, Int.reduceLE, Int.reduceEq, Int.reduceAdd, Int.reduceSub, Int.reduceMul, Int.reduceNeg, Int.reduceToNat, Int.reduceMod, Int.reducePow, Int.reduceDiv, Nat.reducePow, a0, k2]
    rw [e]
    · have hP : ∀ p ∈ prs ms b.length, okP b.length p.2 := fun p hp => by
        obtain ⟨z, _, rfl⟩ := List.mem_map.mp hp
        exact gw_ok h6
      have hPl : (prs ms b.length).length < 64 := by unfold prs; rw [List.length_map]; exact hls
      have eK : keptW b ms = if ((prs ms b.length).all fun p => hitB b p.2) = true then lM (prs ms b.length) else .non := by
        unfold keptW
        rw [if_neg h']
      rw [eK]
      generalize prs ms b.length = P at hP hPl ⊢
      have e2 : ∀ N mg me ρ (h : ∀ p ∈ P, ∃ ρ1, mg (mW p) (ρ ++ List.replicate (N - ρ.length) Sl.un) = some ρ1 ∧ me ρ1 = .ok (.bl (hitB b p.2))), mComp N mg yes me (P.map mW) ρ = .ok (.lst ((P.map fun p => hitB b p.2).map W.bl)) := fun N mg me ρ h => by
        rw [mComp_all (fun p => W.bl (hitB b p.2)) _ _ ρ (by omega) h, List.map_map]; rfl
      simp (disch := first | omega | with_reducible assumption | (simp only [rp18]; omega)) only [rp19, rp16, rp17, rp18, mulB_L, mulB_R, mulB_b, decide_eq_true_eq, tyW, isN, Nat.reduceSub, Nat.reduceAdd, Nat.reduceEqDiff, Nat.reduceLeDiff, Nat.reduceLT, reduceIte, reduceCtorEq, Int.reduceLT, Int.reduceLE, Int.reduceEq, Int.reduceAdd, Int.reduceSub, Int.reduceMul, Int.reduceNeg, Int.reduceToNat, Int.reduceMod, Int.reducePow, Int.reduceDiv, Nat.reducePow]
      rw [e2]
      · have ea : gAll (P.map fun p => hitB b p.2) = P.all fun p => hitB b p.2 := by unfold gAll; rw [List.all_map]; rfl
        simp (disch := first | omega | with_reducible assumption | (simp only [rp18]; omega)) only [rp19, rp16, rp17, rp18, mulB_L, mulB_R, mulB_b, decide_eq_true_eq, tyW, isN, Nat.reduceSub, Nat.reduceAdd, Nat.reduceEqDiff, Nat.reduceLeDiff, Nat.reduceLT, reduceIte, reduceCtorEq, Int.reduceLT, Int.reduceLE, Int.reduceEq, Int.reduceAdd, Int.reduceSub, Int.reduceMul, Int.reduceNeg, Int.reduceToNat, Int.reduceMod, Int.reducePow, Int.reduceDiv, Nat.reducePow, ea]
        refine po_ifs (fun h2 => ?_) (fun h2 => ?_)
        · simp (disch := first | omega | with_reducible assumption | (simp only [rp18]; omega)) only [rp19, rp16, rp17, rp18, mulB_L, mulB_R, mulB_b, decide_eq_true_eq, tyW, isN, Nat.reduceSub, Nat.reduceAdd, Nat.reduceEqDiff, Nat.reduceLeDiff, Nat.reduceLT, reduceIte, reduceCtorEq, Int.reduceLT, Int.reduceLE, Int.reduceEq, Int.reduceAdd, Int.reduceSub, Int.reduceMul, Int.reduceNeg, Int.reduceToNat, Int.reduceMod, Int.reducePow, Int.reduceDiv, Nat.reducePow]
          rw [if_neg (by intro q; rw [q] at h2; cases h2)]
        · simp (disch := first | omega | with_reducible assumption | (simp only [rp18]; omega)) only [rp19, rp16, rp17, rp18, mulB_L, mulB_R, mulB_b, decide_eq_true_eq, tyW, isN, Nat.reduceSub, Nat.reduceAdd, Nat.reduceEqDiff, Nat.reduceLeDiff, Nat.reduceLT, reduceIte, reduceCtorEq, Int.reduceLT, Int.reduceLE, Int.reduceEq, Int.reduceAdd, Int.reduceSub, Int.reduceMul, Int.reduceNeg, Int.reduceToNat, Int.reduceMod, Int.reducePow, Int.reduceDiv, Nat.reducePow]
          rw [if_pos (by simpa using h2)]
      · intro p hp
        have k3 := touches_ok (c := b) (ps := p.2) (hP p hp)
        refine ⟨_, rfl, ?_⟩
        simp (disch := first | omega | with_reducible assumption | (simp only [rp18]; omega)) only [rp19, rp16, rp17, rp18, mulB_L, mulB_R, mulB_b, decide_eq_true_eq, tyW, isN, Nat.reduceSub, Nat.reduceAdd, Nat.reduceEqDiff, Nat.reduceLeDiff, Nat.reduceLT, reduceIte, reduceCtorEq, Int.reduceLT, Int.reduceLE, Int.reduceEq, Int.reduceAdd, Int.reduceSub, Int.reduceMul, Int.reduceNeg, Int.reduceToNat, Int.reduceMod, Int.reducePow, Int.reduceDiv, Nat.reducePow, a0, k3]
    · intro z hz
      have k3 := pgreat_ok (z := z) hm hl (hso z hz).2 (hso z hz).1
      refine ⟨_, rfl, ?_⟩
      simp (disch := first | omega | with_reducible assumption | (simp only [rp18]; omega)) only [rp19, rp16, rp17, rp18, mulB_L, mulB_R, mulB_b, decide_eq_true_eq, tyW, isN, Nat.reduceSub, Nat.reduceAdd, Nat.reduceEqDiff, Nat.reduceLeDiff, Nat.reduceLT, reduceIte, reduceCtorEq, Int.reduceLT, Int.reduceLE, Int.reduceEq, Int.reduceAdd, Int.reduceSub, Int.reduceMul, Int.reduceNeg, Int.reduceToNat, Int.reduceMod, Int.reducePow, Int.reduceDiv, Nat.reducePow, k3, chk_no (noL_tI z)]
  obtain ⟨v, e, rfl⟩ := fin
  exact e
theorem max_once {ms : List Mv} (h0 : 0 < ms.length) : decide (1 < maxL (ms.map fun m => maxL m.1)) = !onceB ms := by
  have hl : 0 < (ms.map fun m => maxL m.1).length := by rw [List.length_map]; exact h0
  by_cases q : 1 < maxL (ms.map fun m => maxL m.1)
  · rw [decide_eq_true q]
    obtain ⟨m, hm, e⟩ := List.mem_map.mp (maxL_mem hl)
    have e : maxL m.1 = maxL (ms.map fun m => maxL m.1) := e
    have : onceB ms = false := by
      unfold onceB
      rw [List.all_eq_false]
      exact ⟨m, hm, by simp; omega⟩
    rw [this]; rfl
  · rw [decide_eq_false q]
    have : onceB ms = true := by
      unfold onceB
      rw [List.all_eq_true]
      intro m hm
      obtain ⟨k, hk, e⟩ := List.mem_iff_getElem.mp hm
      have := le_maxL (ns := ms.map fun m => maxL m.1) k (by rw [List.length_map]; exact hk)
      rw [List.getD_eq_getElem?_getD, List.getElem?_map, List.getElem?_eq_getElem hk, e] at this
      have this : maxL m.1 ≤ maxL (ms.map fun m => maxL m.1) := this
      exact decide_eq_true (by omega)
    rw [this]; rfl
theorem due_ok {b : List Int} {ms : List Mv} {n : Nat} (hn : 1 ≤ n) (h6 : n ≤ 6) (hb : b.length = n) (hbn : nn b) (hm : ∀ m ∈ ms, okN n m) (hl : ms.length ≤ 8) : f__law_due [tI b, lM ms] = .ok (keptW b ms) := by
  subst hb
  have fin : Ok (f__law_due [tI b, lM ms]) fun v => v = keptW b ms := by
    by_cases h0 : ms = []
    · subst h0
      have d0 : decide (((0 : Nat) : Int) = 0) = true := rfl
      have s0 : ∀ r : R Bool, TP.rOr (.ok true) r = .ok true := fun r => rfl
      simp (disch := first | omega | with_reducible assumption | (simp only [rp18]; omega)) only [rp19, rp16, rp17, rp18, mulB_L, mulB_R, mulB_b, decide_eq_true_eq, tyW, isN, Nat.reduceSub, Nat.reduceAdd, Nat.reduceEqDiff, Nat.reduceLeDiff, Nat.reduceLT, reduceIte, reduceCtorEq, Int.reduceLT, Int.reduceLE, Int.reduceEq, Int.reduceAdd, Int.reduceSub, Int.reduceMul, Int.reduceNeg, Int.reduceToNat, Int.reduceMod, Int.reducePow, Int.reduceDiv, Nat.reducePow, runB_1, runB_2, runB_3, runB_4, runB_5, m__law_due, d0, s0]
      exact ⟨_, rfl, rfl⟩
    have hp : 0 < ms.length := List.length_pos_iff.mpr h0
    have k2 := lleast_ok h6 hm
    have hls := sl_len (ms := ms) h6
    have hso := sl_ok (ms := ms) h6
    have e : ∀ N mg me ρ (h : ∀ m ∈ ms, ∃ ρ1, mg (mW m) (ρ ++ List.replicate (N - ρ.length) Sl.un) = some ρ1 ∧ me ρ1 = .ok (.int (maxL m.1))), mComp N mg yes me (ms.map mW) ρ = .ok (lI (ms.map fun m => maxL m.1)) := fun N mg me ρ h => by
      rw [mComp_all (fun m => W.int (maxL m.1)) _ _ ρ (by omega) h]; exact congrArg (fun l => R.ok (W.lst l)) (by rw [List.map_map]; rfl)
    have kb : fBest maxL [lI (ms.map fun m => maxL m.1)] = .ok (.int (maxL (ms.map fun m => maxL m.1))) := fBest_l (by rw [List.length_map]; exact hp)
    have km := max_once hp
    simp (disch := first | omega | with_reducible assumption | (simp only [rp18]; omega)) only [rp19, rp16, rp17, rp18, mulB_L, mulB_R, mulB_b, decide_eq_true_eq, tyW, isN, Nat.reduceSub, Nat.reduceAdd, Nat.reduceEqDiff, Nat.reduceLeDiff, Nat.reduceLT, reduceIte, reduceCtorEq, Int.reduceLT, Int.reduceLE, Int.reduceEq, Int.reduceAdd, Int.reduceSub, Int.reduceMul, Int.reduceNeg, Int.reduceToNat, Int.reduceMod, Int.reducePow, Int.reduceDiv, Nat.reducePow, runB_1, runB_2, runB_3, runB_4, runB_5, m__law_due]
    rw [e]
    · simp (disch := first | omega | with_reducible assumption | (simp only [rp18]; omega)) only [rp19, rp16, rp17, rp18, mulB_L, mulB_R, mulB_b, decide_eq_true_eq, tyW, isN, Nat.reduceSub, Nat.reduceAdd, Nat.reduceEqDiff, Nat.reduceLeDiff, Nat.reduceLT, reduceIte, reduceCtorEq, Int.reduceLT, Int.reduceLE, Int.reduceEq, Int.reduceAdd, Int.reduceSub, Int.reduceMul, Int.reduceNeg, Int.reduceToNat, Int.reduceMod, Int.reducePow, Int.reduceDiv, Nat.reducePow, kb, km]
      refine ok_end (po_ifs (fun h => ?_) (fun h => ?_))
      · simp (disch := first | omega | with_reducible assumption | (simp only [rp18]; omega)) only [rp19, rp16, rp17, rp18, mulB_L, mulB_R, mulB_b, decide_eq_true_eq, tyW, isN, Nat.reduceSub, Nat.reduceAdd, Nat.reduceEqDiff, Nat.reduceLeDiff, Nat.reduceLT, reduceIte, reduceCtorEq, Int.reduceLT, Int.reduceLE, Int.reduceEq, Int.reduceAdd, Int.reduceSub, Int.reduceMul, Int.reduceNeg, Int.reduceToNat, Int.reduceMod, Int.reducePow, Int.reduceDiv, Nat.reducePow]
        unfold keptW
        rw [if_pos h]
      have h' : ¬ ((decide ((ms.length : Int) = 0) || !onceB ms) = true) := by rw [h]; exact Bool.false_ne_true
      have eK : keptW b ms = if ((prs ms b.length).all fun p => hitB b p.2) = true then lM (prs ms b.length) else .non := by
        unfold keptW
        rw [if_neg h']
      rw [eK]
      have ePl : (prs ms b.length).length = (sortL (leastL ms b.length)).length := List.length_map _
      simp (disch := first | omega | with_reducible assumption | (simp only [rp18]; omega)) only [rp19, rp16, rp17, rp18, mulB_L, mulB_R, mulB_b, decide_eq_true_eq, tyW, isN, Nat.reduceSub, Nat.reduceAdd, Nat.reduceEqDiff, Nat.reduceLeDiff, Nat.reduceLT, reduceIte, reduceCtorEq, Int.reduceLT, Int.reduceLE, Int.reduceEq, Int.reduceAdd, Int.reduceSub, Int.reduceMul, Int.reduceNeg, Int.reduceToNat, Int.reduceMod, Int.reducePow, Int.reduceDiv, Nat.reducePow, k2]
      have eAt : ∀ i, i < (sortL (leastL ms b.length)).length → (prs ms b.length).take (i + 1) = (prs ms b.length).take i ++ [((sortL (leastL ms b.length)).getD i [], gwL ms b.length ((sortL (leastL ms b.length)).getD i []))] := fun i hi => by
        unfold prs
        rw [List.take_succ, List.getElem?_map, List.getD_eq_getElem?_getD, List.getElem?_eq_getElem hi]; rfl
      have hin : ∀ i, i < (sortL (leastL ms b.length)).length → ((sortL (leastL ms b.length)).getD i [], gwL ms b.length ((sortL (leastL ms b.length)).getD i [])) ∈ prs ms b.length := fun i hi => List.mem_map.mpr ⟨_, memS hi, rfl⟩
      generalize sortL (leastL ms b.length) = L at hls hso ePl eAt hin ⊢
      generalize prs ms b.length = P at ePl eAt hin ⊢
      refine po_fors (fun i ρ => ∃ (a3 a4 : Sl), ρ = [.par (tI b), .par (lM ms), .own ((P.take i).map mW), a3, a4] ∧ ∀ p ∈ P.take i, hitB b p.2 = true) ⟨_, _, rfl, fun p hp => (nomatch hp)⟩ ?_ ?_
      · rintro i u ρ hu ⟨a3, a4, rfl, hh⟩
        obtain ⟨hi, rfl⟩ := map_atS hu
        have ez := hso _ (memS hi)
        have eT := eAt i hi
        have hi2 := hin i hi
        generalize L.getD i [] = z at ez eT hi2 ⊢
        have k3 := lgreat_ok (z := z) h6 hm
        have gk := gw_ok (ms := ms) (z := z) h6
        have k4 := sum_ok (c := b) gk
        have k5 := sum_zer hbn (ps := gwL ms b.length z)
        have tl : (P.take i).length < 1000 := by rw [List.length_take]; omega
        generalize gwL ms b.length z = g at k3 k4 k5 eT hi2 gk
        refine ⟨_, rfl, ?_⟩
        simp (disch := first | omega | with_reducible assumption | (simp only [rp18]; omega)) only [rp19, rp16, rp17, rp18, mulB_L, mulB_R, mulB_b, decide_eq_true_eq, tyW, isN, Nat.reduceSub, Nat.reduceAdd, Nat.reduceEqDiff, Nat.reduceLeDiff, Nat.reduceLT, reduceIte, reduceCtorEq, Int.reduceLT, Int.reduceLE, Int.reduceEq, Int.reduceAdd, Int.reduceSub, Int.reduceMul, Int.reduceNeg, Int.reduceToNat, Int.reduceMod, Int.reducePow, Int.reduceDiv, Nat.reducePow, k3, k4, k5]
        refine po_ifs (fun h2 => ?_) (fun h2 => ?_)
        · simp (disch := first | omega | with_reducible assumption | (simp only [rp18]; omega)) only [rp19, rp16, rp17, rp18, mulB_L, mulB_R, mulB_b, decide_eq_true_eq, tyW, isN, Nat.reduceSub, Nat.reduceAdd, Nat.reduceEqDiff, Nat.reduceLeDiff, Nat.reduceLT, reduceIte, reduceCtorEq, Int.reduceLT, Int.reduceLE, Int.reduceEq, Int.reduceAdd, Int.reduceSub, Int.reduceMul, Int.reduceNeg, Int.reduceToNat, Int.reduceMod, Int.reducePow, Int.reduceDiv, Nat.reducePow]
          rw [if_neg]
          intro q
          have := List.all_eq_true.mp q _ hi2
          rw [this] at h2
          cases h2
        · simp (disch := first | omega | with_reducible assumption | (simp only [rp18]; omega)) only [rp19, rp16, rp17, rp18, mulB_L, mulB_R, mulB_b, decide_eq_true_eq, tyW, isN, Nat.reduceSub, Nat.reduceAdd, Nat.reduceEqDiff, Nat.reduceLeDiff, Nat.reduceLT, reduceIte, reduceCtorEq, Int.reduceLT, Int.reduceLE, Int.reduceEq, Int.reduceAdd, Int.reduceSub, Int.reduceMul, Int.reduceNeg, Int.reduceToNat, Int.reduceMod, Int.reducePow, Int.reduceDiv, Nat.reducePow, chk_no (noL_tI z), chk_no (noL_tI g)]
          refine ⟨_, _, by rw [eT, List.map_append]; rfl, fun p hp => ?_⟩
          rw [eT] at hp
          rcases List.mem_append.mp hp with q | q
          · exact hh p q
          · rw [List.mem_singleton.mp q]; simpa using h2
      · rintro ρ ⟨a3, a4, rfl, hh⟩
        rw [List.length_map, ← ePl, List.take_length] at hh ⊢
        simp (disch := first | omega | with_reducible assumption | (simp only [rp18]; omega)) only [rp19, rp16, rp17, rp18, mulB_L, mulB_R, mulB_b, decide_eq_true_eq, tyW, isN, Nat.reduceSub, Nat.reduceAdd, Nat.reduceEqDiff, Nat.reduceLeDiff, Nat.reduceLT, reduceIte, reduceCtorEq, Int.reduceLT, Int.reduceLE, Int.reduceEq, Int.reduceAdd, Int.reduceSub, Int.reduceMul, Int.reduceNeg, Int.reduceToNat, Int.reduceMod, Int.reducePow, Int.reduceDiv, Nat.reducePow]
        rw [if_pos (List.all_eq_true.mpr hh)]
    · intro m hmm
      have hk := hm m hmm
      have kb : fBest maxL [tI m.1] = .ok (.int (maxL m.1)) := fBest_t (by have := hk.1; omega)
      refine ⟨_, rfl, ?_⟩
      simp (disch := first | omega | with_reducible assumption | (simp only [rp18]; omega)) only [rp19, rp16, rp17, rp18, mulB_L, mulB_R, mulB_b, decide_eq_true_eq, tyW, isN, Nat.reduceSub, Nat.reduceAdd, Nat.reduceEqDiff, Nat.reduceLeDiff, Nat.reduceLT, reduceIte, reduceCtorEq, Int.reduceLT, Int.reduceLE, Int.reduceEq, Int.reduceAdd, Int.reduceSub, Int.reduceMul, Int.reduceNeg, Int.reduceToNat, Int.reduceMod, Int.reducePow, Int.reduceDiv, Nat.reducePow, kb]
  obtain ⟨v, e, rfl⟩ := fin
  exact e
theorem told_ok {z : List Int} (h6 : z.length ≤ 6) : f__law_set_told [tI z] = .ok (.bl true) := by
  have e : ∀ N mg mc me ρ, (∀ p ∈ z, ∃ ρ1, mg (.int p) (ρ ++ List.replicate (N - ρ.length) Sl.un) = some ρ1 ∧ mc ρ1 = .ok false ∧ me ρ1 = .ok (.int p)) → mComp N mg mc me (z.map W.int) ρ = .ok (.lst []) := fun N mg mc me ρ h => by
    have := mComp_filter (N' := N) (mg := mg) (mc := mc) (me := me) W.int W.int (fun _ => false) z ρ (by omega) fun p hp => by
      obtain ⟨ρ1, e1, e2, e3⟩ := h p hp
      exact ⟨ρ1, e1, e2, fun _ => e3⟩
    have hf : z.filter (fun _ => false) = [] := List.filter_eq_nil_iff.mpr fun _ _ h => nomatch h
    rw [this, hf]; rfl
  have d0 : decide (((0 : Nat) : Int) = 0) = true := rfl
  simp (disch := first | omega | with_reducible assumption | (simp only [rp18]; omega)) only [rp19, rp16, rp17, rp18, mulB_L, mulB_R, mulB_b, decide_eq_true_eq, tyW, isN, Nat.reduceSub, Nat.reduceAdd, Nat.reduceEqDiff, Nat.reduceLeDiff, Nat.reduceLT, reduceIte, reduceCtorEq, Int.reduceLT, Int.reduceLE, Int.reduceEq, Int.reduceAdd, Int.reduceSub, Int.reduceMul, Int.reduceNeg, Int.reduceToNat, Int.reduceMod, Int.reducePow, Int.reduceDiv, Nat.reducePow, runB_1, runB_2, runB_3, runB_4, runB_5, m__law_set_told]
  rw [e]
  · simp (disch := first | omega | with_reducible assumption | (simp only [rp18]; omega)) only [rp19, rp16, rp17, rp18, mulB_L, mulB_R, mulB_b, decide_eq_true_eq, tyW, isN, Nat.reduceSub, Nat.reduceAdd, Nat.reduceEqDiff, Nat.reduceLeDiff, Nat.reduceLT, reduceIte, reduceCtorEq, Int.reduceLT, Int.reduceLE, Int.reduceEq, Int.reduceAdd, Int.reduceSub, Int.reduceMul, Int.reduceNeg, Int.reduceToNat, Int.reduceMod, Int.reducePow, Int.reduceDiv, Nat.reducePow, d0]
  · intro p hp
    refine ⟨_, rfl, ?_⟩
    simp (disch := first | omega | with_reducible assumption | (simp only [rp18]; omega)) only [rp19, rp16, rp17, rp18, mulB_L, mulB_R, mulB_b, decide_eq_true_eq, tyW, isN, Nat.reduceSub, Nat.reduceAdd, Nat.reduceEqDiff, Nat.reduceLeDiff, Nat.reduceLT, reduceIte, reduceCtorEq, Int.reduceLT, Int.reduceLE, Int.reduceEq, Int.reduceAdd, Int.reduceSub, Int.reduceMul, Int.reduceNeg, Int.reduceToNat, Int.reduceMod, Int.reducePow, Int.reduceDiv, Nat.reducePow]
theorem shps_I (n : Nat) : ∀ xs : List Int, shps n (xs.map W.int) = true
  | [] => by cases n <;> rfl
  | x :: xs => by
    show (shp n (.int x) && shps n (xs.map W.int)) = true
    rw [shps_I n xs]; cases n <;> rfl
theorem shps_M : ∀ P : List Mv, shps 7 (P.map mW) = true
  | [] => rfl
  | p :: P => by
    show ((shps 5 (p.1.map W.int) && (shps 5 (p.2.map W.int) && true)) && shps 7 (P.map mW)) = true
    rw [shps_M P, shps_I, shps_I]; rfl
theorem rightN_ok : f__law_right [.non, .non] = .ok (.bl true) := by
  simp (disch := first | omega | with_reducible assumption | (simp only [rp18]; omega)) only [rp19, rp16, rp17, rp18, mulB_L, mulB_R, mulB_b, decide_eq_true_eq, tyW, isN, Nat.reduceSub, Nat.reduceAdd, Nat.reduceEqDiff, Nat.reduceLeDiff, Nat.reduceLT, reduceIte, reduceCtorEq, Int.reduceLT, Int.reduceLE, Int.reduceEq, Int.reduceAdd, Int.reduceSub, Int.reduceMul, Int.reduceNeg, Int.reduceToNat, Int.reduceMod, Int.reducePow, Int.reduceDiv, Nat.reducePow, runB_1, runB_2, runB_3, runB_4, runB_5, m__law_right]
theorem right_ok {P : List Mv} (h6 : ∀ p ∈ P, p.1.length ≤ 6 ∧ p.2.length ≤ 6) : f__law_right [lM P, lM P] = .ok (.bl true) := by
  have fin : Ok (f__law_right [lM P, lM P]) fun v => v = .bl true := by
    have k3 : fEq false (lM P) (lM P) = .ok (.bl true) := fEq_self (shps_M P)
    have d2 : decide (((2 : Nat) : Int) = 2) = true := rfl
    simp (disch := first | omega | with_reducible assumption | (simp only [rp18]; omega)) only [rp19, rp16, rp17, rp18, mulB_L, mulB_R, mulB_b, decide_eq_true_eq, tyW, isN, Nat.reduceSub, Nat.reduceAdd, Nat.reduceEqDiff, Nat.reduceLeDiff, Nat.reduceLT, reduceIte, reduceCtorEq, Int.reduceLT, Int.reduceLE, Int.reduceEq, Int.reduceAdd, Int.reduceSub, Int.reduceMul, Int.reduceNeg, Int.reduceToNat, Int.reduceMod, Int.reducePow, Int.reduceDiv, Nat.reducePow, runB_1, runB_2, runB_3, runB_4, runB_5, m__law_right]
    refine ok_end (po_fors (fun i ρ => ∃ a : Sl, ρ = [.par (lM P), .par (lM P), a]) ⟨_, rfl⟩ ?_ ?_)
    · rintro i u ρ hu ⟨a, rfl⟩
      obtain ⟨p, hp, _, rfl⟩ := map_atM hu
      have a0 : L2.atI [tI p.1, tI p.2] 0 = some (tI p.1) := rfl
      have a1 : L2.atI [tI p.1, tI p.2] 1 = some (tI p.2) := rfl
      have k1 := told_ok (h6 p hp).1
      have k2 := told_ok (h6 p hp).2
      refine ⟨_, rfl, ?_⟩
      simp (disch := first | omega | with_reducible assumption | (simp only [rp18]; omega)) only [rp19, rp16, rp17, rp18, mulB_L, mulB_R, mulB_b, decide_eq_true_eq, tyW, isN, Nat.reduceSub, Nat.reduceAdd, Nat.reduceEqDiff, Nat.reduceLeDiff, Nat.reduceLT, reduceIte, reduceCtorEq, Int.reduceLT, Int.reduceLE, Int.reduceEq, Int.reduceAdd, Int.reduceSub, Int.reduceMul, Int.reduceNeg, Int.reduceToNat, Int.reduceMod, Int.reducePow, Int.reduceDiv, Nat.reducePow, a0, a1, k1, k2, d2]
      exact ⟨_, rfl⟩
    · rintro ρ ⟨a, rfl⟩
      simp (disch := first | omega | with_reducible assumption | (simp only [rp18]; omega)) only [rp19, rp16, rp17, rp18, mulB_L, mulB_R, mulB_b, decide_eq_true_eq, tyW, isN, Nat.reduceSub, Nat.reduceAdd, Nat.reduceEqDiff, Nat.reduceLeDiff, Nat.reduceLT, reduceIte, reduceCtorEq, Int.reduceLT, Int.reduceLE, Int.reduceEq, Int.reduceAdd, Int.reduceSub, Int.reduceMul, Int.reduceNeg, Int.reduceToNat, Int.reduceMod, Int.reducePow, Int.reduceDiv, Nat.reducePow, k3]
  obtain ⟨v, e, rfl⟩ := fin
  exact e
theorem kept_cases (b : List Int) (ms : List Mv) {n : Nat} (h6 : n ≤ 6) (hb : b.length = n) : keptW b ms = .non ∨ ∃ P : List Mv, keptW b ms = lM P ∧ ∀ p ∈ P, p.1.length ≤ 6 ∧ p.2.length ≤ 6 := by
  subst hb
  unfold keptW
  split
  · exact Or.inl rfl
  split
  · refine Or.inr ⟨_, rfl, fun p hp => ?_⟩
    obtain ⟨z, hz, rfl⟩ := List.mem_map.mp hp
    exact ⟨(sl_ok h6 z hz).2.2, (gw_ok h6).2⟩
  · exact Or.inl rfl
theorem pl8 {d : Int} (h0 : 0 ≤ d) (h : d < 8) : ∃ p : Nat, L2.atI [W.int 1, W.int 2, W.int 3, W.int 4, W.int 5, W.int 2, W.int 3, W.int 6] d = some (.int (p : Int)) ∧ (1 ≤ p ∧ p ≤ 6) := by
  have : d = 0 ∨ d = 1 ∨ d = 2 ∨ d = 3 ∨ d = 4 ∨ d = 5 ∨ d = 6 ∨ d = 7 := by omega
  rcases this with rfl | rfl | rfl | rfl | rfl | rfl | rfl | rfl
  · exact ⟨1, rfl, by decide⟩
  · exact ⟨2, rfl, by decide⟩
  · exact ⟨3, rfl, by decide⟩
  · exact ⟨4, rfl, by decide⟩
  · exact ⟨5, rfl, by decide⟩
  · exact ⟨2, rfl, by decide⟩
  · exact ⟨3, rfl, by decide⟩
  · exact ⟨6, rfl, by decide⟩
theorem ex_kept : keptW [1, 0] [([1, 0], [0, 1]), ([0, 1], [1, 0])] = lM [([0, 1], [0, 1])] := by
  have es : sortL (leastL [([1, 0], [0, 1]), ([0, 1], [1, 0])] 2) = [[0, 1]] := by
    have : leastL [([1, 0], [0, 1]), ([0, 1], [1, 0])] 2 = [[0, 1]] := by decide
    rw [this]
    exact List.perm_singleton.mp (sort_perm _)
  have ep : prs [([1, 0], [0, 1]), ([0, 1], [1, 0])] 2 = [([0, 1], [0, 1])] := by
    unfold prs
    rw [es]
    decide
  unfold keptW
  rw [if_neg (by decide)]
  show (if ((prs [([1, 0], [0, 1]), ([0, 1], [1, 0])] 2).all fun p => hitB [1, 0] p.2) = true then lM (prs [([1, 0], [0, 1]), ([0, 1], [1, 0])] 2) else .non) = _
  rw [ep]
  rfl
theorem law_pure (ns : List Int) (h : ns.length ≤ 63) (hb : ∀ x ∈ ns, Builtin.Int.intBits x ≤ 1048576) : f_law [.scr (ns.map W.int)] = .ok (.bl true) := by
  have fin : Ok (f_law [.scr (ns.map W.int)]) fun v => v = .bl true := by
    obtain ⟨_, e0, c0, rfl⟩ := cell_ok hb (k := 0) (by omega) (by omega)
    obtain ⟨_, e1, c1, rfl⟩ := cell_ok hb (k := 1) (by omega) (by omega)
    obtain ⟨_, e2, c2, rfl⟩ := cell_ok hb (k := 2) (by omega) (by omega)
    obtain ⟨n, en, h1, h6⟩ := pl8 (d := c0 % 8) (by omega) (by omega)
    simp (disch := first | omega | with_reducible assumption | (simp only [rp18]; omega)) only [rp19, rp16, rp17, rp18, mulB_L, mulB_R, mulB_b, decide_eq_true_eq, tyW, isN, Nat.reduceSub, Nat.reduceAdd, Nat.reduceEqDiff, Nat.reduceLeDiff, Nat.reduceLT, reduceIte, reduceCtorEq, Int.reduceLT, Int.reduceLE, Int.reduceEq, Int.reduceAdd, Int.reduceSub, Int.reduceMul, Int.reduceNeg, Int.reduceToNat, Int.reduceMod, Int.reducePow, Int.reduceDiv, Nat.reducePow, runB_1, runB_2, runB_3, runB_4, runB_5, m_law, e0, e1, en]
    refine ok_end (po_fors (fun i ρ => ∃ (ms : List Mv) (a : Sl), ρ = [.par (.scr (ns.map W.int)), .val (.int n), .own (ms.map mW), a, .un, .un, .un, .un, .un] ∧ (∀ m ∈ ms, okN n m) ∧ ms.length = i ∧ ∀ r, noOwn (a :: r) = noOwn r) ⟨[], _, rfl, by simp, rfl, fun r => noOwn_u r⟩ ?_ ?_)
    · rintro i u ρ hu ⟨ms, a, rfl, hms, hml, _⟩
      obtain ⟨hi, rfl⟩ := rng_at hu
      have hpr : 0 ≤ 2 * (n : Int) * (i : Int) ∧ 2 * (n : Int) * (i : Int) ≤ 12 * 8 := ⟨Int.mul_nonneg (by omega) (by omega), Int.mul_le_mul (by omega) (by omega) (by omega) (by omega)⟩
      obtain ⟨_, e3, m, rfl, hm⟩ := move_ok hb (a := 8 + 2 * (n : Int) * (i : Int)) h6 (by omega) (by omega)
      refine ⟨_, rfl, ?_⟩
      simp (disch := first | omega | with_reducible assumption | (simp only [rp18]; omega)) only [rp19, rp16, rp17, rp18, mulB_L, mulB_R, mulB_b, decide_eq_true_eq, tyW, isN, Nat.reduceSub, Nat.reduceAdd, Nat.reduceEqDiff, Nat.reduceLeDiff, Nat.reduceLT, reduceIte, reduceCtorEq, Int.reduceLT, Int.reduceLE, Int.reduceEq, Int.reduceAdd, Int.reduceSub, Int.reduceMul, Int.reduceNeg, Int.reduceToNat, Int.reduceMod, Int.reducePow, Int.reduceDiv, Nat.reducePow, e3]
      refine ⟨ms ++ [m], _, by rw [List.map_append]; rfl, fun x hx => ?_, by simp [hml], fun r => noOwn_p _ r⟩
      rcases List.mem_append.mp hx with q | q
      · exact hms x q
      · rw [List.mem_singleton.mp q]; exact hm
    rintro ρ ⟨ms, a, rfl, hms, hml, ha⟩
    rw [List.length_map, List.length_range] at hml
    have hml8 : ms.length ≤ 8 := by omega
    obtain ⟨_, e3, ms', rfl, hm', hl'⟩ := heavier_ok (c := c2) h1 h6 hms hml8
    obtain ⟨_, e4, b, rfl, hbl, hbn⟩ := begin_ok hb h6
    have e5 := due_ok h1 h6 hbl hbn hm' hl'
    have e6 := kept_ok h1 h6 hbl hm' hl'
    have e7 : f_kept [.tup [.tup [.int 1, .int 0], .tup [.tup [.tup [.int 1, .int 0], .tup [.int 0, .int 1]], .tup [.tup [.int 0, .int 1], .tup [.int 1, .int 0]]]]] = .ok (.lst [.tup [.tup [.int 0, .int 1], .tup [.int 0, .int 1]]]) :=
      (kept_ok (b := [1, 0]) (ms := [([1, 0], [0, 1]), ([0, 1], [1, 0])]) (n := 2) (by decide) (by decide) rfl (fun m hm => by simp at hm; rcases hm with rfl | rfl <;> (refine ⟨rfl, rfl, ?_, ?_⟩ <;> (unfold nn; decide))) (by decide)).trans (congrArg R.ok ex_kept)
    have r1 : f__law_right [.lst [.tup [.tup [.int 0, .int 1], .tup [.int 0, .int 1]]], .lst [.tup [.tup [.int 0, .int 1], .tup [.int 0, .int 1]]]] = .ok (.bl true) := right_ok (P := [([0, 1], [0, 1])]) (by decide)
    rcases kept_cases b ms' h6 hbl with eK | ⟨P, eK, hP⟩
    · rw [eK] at e5 e6
      simp (disch := first | omega | with_reducible assumption | (simp only [rp18]; omega)) only [rp19, rp16, rp17, rp18, mulB_L, mulB_R, mulB_b, decide_eq_true_eq, tyW, isN, Nat.reduceSub, Nat.reduceAdd, Nat.reduceEqDiff, Nat.reduceLeDiff, Nat.reduceLT, reduceIte, reduceCtorEq, Int.reduceLT, Int.reduceLE, Int.reduceEq, Int.reduceAdd, Int.reduceSub, Int.reduceMul, Int.reduceNeg, Int.reduceToNat, Int.reduceMod, Int.reducePow, Int.reduceDiv, Nat.reducePow, ha, e2]
      rw [e3]
      simp (disch := first | omega | with_reducible assumption | (simp only [rp18]; omega)) only [rp19, rp16, rp17, rp18, mulB_L, mulB_R, mulB_b, decide_eq_true_eq, tyW, isN, Nat.reduceSub, Nat.reduceAdd, Nat.reduceEqDiff, Nat.reduceLeDiff, Nat.reduceLT, reduceIte, reduceCtorEq, Int.reduceLT, Int.reduceLE, Int.reduceEq, Int.reduceAdd, Int.reduceSub, Int.reduceMul, Int.reduceNeg, Int.reduceToNat, Int.reduceMod, Int.reducePow, Int.reduceDiv, Nat.reducePow, e4, e5]
      simp (disch := first | omega | with_reducible assumption | (simp only [rp18]; omega)) only [rp19, rp16, rp17, rp18, mulB_L, mulB_R, mulB_b, decide_eq_true_eq, tyW, isN, Nat.reduceSub, Nat.reduceAdd, Nat.reduceEqDiff, Nat.reduceLeDiff, Nat.reduceLT, reduceIte, reduceCtorEq, Int.reduceLT, Int.reduceLE, Int.reduceEq, Int.reduceAdd, Int.reduceSub, Int.reduceMul, Int.reduceNeg, Int.reduceToNat, Int.reduceMod, Int.reducePow, Int.reduceDiv, Nat.reducePow, chk_no (noL_tI b), chkT_no (noLs_M ms')]
      simp (disch := first | omega | with_reducible assumption | (simp only [rp18]; omega)) only [rp19, rp16, rp17, rp18, mulB_L, mulB_R, mulB_b, decide_eq_true_eq, tyW, isN, Nat.reduceSub, Nat.reduceAdd, Nat.reduceEqDiff, Nat.reduceLeDiff, Nat.reduceLT, reduceIte, reduceCtorEq, Int.reduceLT, Int.reduceLE, Int.reduceEq, Int.reduceAdd, Int.reduceSub, Int.reduceMul, Int.reduceNeg, Int.reduceToNat, Int.reduceMod, Int.reducePow, Int.reduceDiv, Nat.reducePow, e6, rightN_ok, e7, r1]
    · rw [eK] at e5 e6
      have r2 := right_ok hP
      simp (disch := first | omega | with_reducible assumption | (simp only [rp18]; omega)) only [rp19, rp16, rp17, rp18, mulB_L, mulB_R, mulB_b, decide_eq_true_eq, tyW, isN, Nat.reduceSub, Nat.reduceAdd, Nat.reduceEqDiff, Nat.reduceLeDiff, Nat.reduceLT, reduceIte, reduceCtorEq, Int.reduceLT, Int.reduceLE, Int.reduceEq, Int.reduceAdd, Int.reduceSub, Int.reduceMul, Int.reduceNeg, Int.reduceToNat, Int.reduceMod, Int.reducePow, Int.reduceDiv, Nat.reducePow, ha, e2]
      rw [e3]
      simp (disch := first | omega | with_reducible assumption | (simp only [rp18]; omega)) only [rp19, rp16, rp17, rp18, mulB_L, mulB_R, mulB_b, decide_eq_true_eq, tyW, isN, Nat.reduceSub, Nat.reduceAdd, Nat.reduceEqDiff, Nat.reduceLeDiff, Nat.reduceLT, reduceIte, reduceCtorEq, Int.reduceLT, Int.reduceLE, Int.reduceEq, Int.reduceAdd, Int.reduceSub, Int.reduceMul, Int.reduceNeg, Int.reduceToNat, Int.reduceMod, Int.reducePow, Int.reduceDiv, Nat.reducePow, e4, e5]
      simp (disch := first | omega | with_reducible assumption | (simp only [rp18]; omega)) only [rp19, rp16, rp17, rp18, mulB_L, mulB_R, mulB_b, decide_eq_true_eq, tyW, isN, Nat.reduceSub, Nat.reduceAdd, Nat.reduceEqDiff, Nat.reduceLeDiff, Nat.reduceLT, reduceIte, reduceCtorEq, Int.reduceLT, Int.reduceLE, Int.reduceEq, Int.reduceAdd, Int.reduceSub, Int.reduceMul, Int.reduceNeg, Int.reduceToNat, Int.reduceMod, Int.reducePow, Int.reduceDiv, Nat.reducePow, chk_no (noL_tI b), chkT_no (noLs_M ms')]
      simp (disch := first | omega | with_reducible assumption | (simp only [rp18]; omega)) only [rp19, rp16, rp17, rp18, mulB_L, mulB_R, mulB_b, decide_eq_true_eq, tyW, isN, Nat.reduceSub, Nat.reduceAdd, Nat.reduceEqDiff, Nat.reduceLeDiff, Nat.reduceLT, reduceIte, reduceCtorEq, Int.reduceLT, Int.reduceLE, Int.reduceEq, Int.reduceAdd, Int.reduceSub, Int.reduceMul, Int.reduceNeg, Int.reduceToNat, Int.reduceMod, Int.reducePow, Int.reduceDiv, Nat.reducePow, e6, r2, e7, r1]
      rw [mClr_ok 7 _ _ rfl]
      simp (disch := first | omega | with_reducible assumption | (simp only [rp18]; omega)) only [rp19, rp16, rp17, rp18, mulB_L, mulB_R, mulB_b, decide_eq_true_eq, tyW, isN, Nat.reduceSub, Nat.reduceAdd, Nat.reduceEqDiff, Nat.reduceLeDiff, Nat.reduceLT, reduceIte, reduceCtorEq, Int.reduceLT, Int.reduceLE, Int.reduceEq, Int.reduceAdd, Int.reduceSub, Int.reduceMul, Int.reduceNeg, Int.reduceToNat, Int.reduceMod, Int.reducePow, Int.reduceDiv, Nat.reducePow, e6, r2]
  obtain ⟨v, e, rfl⟩ := fin
  exact e
end K82
set_option Elab.async false
set_option linter.all false
set_option maxRecDepth 100000
set_option maxHeartbeats 4000000
open PySem L2 TP
namespace K82
def top (i : Nat) : Stmt := PySem.Challenge.pw_tokenmoor_k82_kept_by_sets.main.body.getD i (.Pass ⟨0, 0, 0, 0⟩)
abbrev sis_dry : Stmt := top 1
abbrev sbreaks_dry : Stmt := top 2
abbrev stouches : Stmt := top 3
abbrev sgreatest_dry : Stmt := top 4
abbrev sgreatest_wet : Stmt := top 5
abbrev sleast_dry : Stmt := top 6
abbrev sfilled_sets : Stmt := top 7
abbrev swithin : Stmt := top 8
abbrev sturned : Stmt := top 9
abbrev skept : Stmt := top 11
abbrev stakes_singly : Stmt := top 12
abbrev s_law_cell : Stmt := top 14
abbrev s_law_move : Stmt := top 15
abbrev s_law_heavier : Stmt := top 16
abbrev s_law_begin : Stmt := top 17
abbrev s_law_all_sets : Stmt := top 18
abbrev s_law_inside : Stmt := top 19
abbrev s_law_sum : Stmt := top 20
abbrev s_law_dry : Stmt := top 21
abbrev s_law_wet : Stmt := top 22
abbrev s_law_least : Stmt := top 23
abbrev s_law_greatest_wet : Stmt := top 24
abbrev s_law_due : Stmt := top 25
abbrev s_law_set_told : Stmt := top 26
abbrev s_law_right : Stmt := top 27
abbrev slaw : Stmt := top 28
structure Blt (mg : Str → Option Value) : Prop where
  all_ : mg "all" = none
  any_ : mg "any" = none
  bool_ : mg "bool" = none
  enumerate_ : mg "enumerate" = none
  int_ : mg "int" = none
  isinstance_ : mg "isinstance" = none
  len_ : mg "len" = none
  list_ : mg "list" = none
  max_ : mg "max" = none
  range_ : mg "range" = none
  sorted_ : mg "sorted" = none
  sum_ : mg "sum" = none
  tuple_ : mg "tuple" = none
theorem scis_dry : FnScope ["moves", "places"] ["moves", "places"] (defScope sis_dry) := ⟨rfl, rfl, rfl, by decide +kernel, rfl, by decide +kernel, by decide +kernel⟩
theorem scbreaks_dry : FnScope ["moves", "places", "number", "move"] ["moves", "places"] (defScope sbreaks_dry) := ⟨rfl, rfl, rfl, by decide +kernel, rfl, by decide +kernel, by decide +kernel⟩
theorem sctouches : FnScope ["counts", "places"] ["counts", "places"] (defScope stouches) := ⟨rfl, rfl, rfl, by decide +kernel, rfl, by decide +kernel, by decide +kernel⟩
theorem scgreatest_dry : FnScope ["moves", "places", "kept", "number"] ["moves", "places"] (defScope sgreatest_dry) := ⟨rfl, rfl, rfl, by decide +kernel, rfl, by decide +kernel, by decide +kernel⟩
theorem scgreatest_wet : FnScope ["moves", "places"] ["moves", "places"] (defScope sgreatest_wet) := ⟨rfl, rfl, rfl, by decide +kernel, rfl, by decide +kernel, by decide +kernel⟩
theorem scleast_dry : FnScope ["moves", "many", "found", "places"] ["moves", "many"] (defScope sleast_dry) := ⟨rfl, rfl, rfl, by decide +kernel, rfl, by decide +kernel, by decide +kernel⟩
theorem scfilled_sets : FnScope ["many", "found", "place"] ["many"] (defScope sfilled_sets) := ⟨rfl, rfl, rfl, by decide +kernel, rfl, by decide +kernel, by decide +kernel⟩
theorem scwithin : FnScope ["small", "places"] ["small", "places"] (defScope swithin) := ⟨rfl, rfl, rfl, by decide +kernel, rfl, by decide +kernel, by decide +kernel⟩
theorem scturned : FnScope ["moves"] ["moves"] (defScope sturned) := ⟨rfl, rfl, rfl, by decide +kernel, rfl, by decide +kernel, by decide +kernel⟩
theorem sckept : FnScope ["moor", "moves", "pairs"] ["moor"] (defScope skept) := ⟨rfl, rfl, rfl, by decide +kernel, rfl, by decide +kernel, by decide +kernel⟩
theorem sctakes_singly : FnScope ["moves"] ["moves"] (defScope stakes_singly) := ⟨rfl, rfl, rfl, by decide +kernel, rfl, by decide +kernel, by decide +kernel⟩
theorem sc_law_cell : FnScope ["_law_script", "_law_k", "_law_number"] ["_law_script", "_law_k"] (defScope s_law_cell) := ⟨rfl, rfl, rfl, by decide +kernel, rfl, by decide +kernel, by decide +kernel⟩
theorem sc_law_move : FnScope ["_law_script", "_law_at", "_law_many", "_law_take", "_law_put", "_law_p", "_law_cell_here"] ["_law_script", "_law_at", "_law_many"] (defScope s_law_move) := ⟨rfl, rfl, rfl, by decide +kernel, rfl, by decide +kernel, by decide +kernel⟩
theorem sc_law_heavier : FnScope ["_law_moves", "_law_cell_here", "_law_number", "_law_take"] ["_law_moves", "_law_cell_here"] (defScope s_law_heavier) := ⟨rfl, rfl, rfl, by decide +kernel, rfl, by decide +kernel, by decide +kernel⟩
theorem sc_law_begin : FnScope ["_law_script", "_law_many", "_law_begin_here", "_law_p", "_law_cell_here"] ["_law_script", "_law_many"] (defScope s_law_begin) := ⟨rfl, rfl, rfl, by decide +kernel, rfl, by decide +kernel, by decide +kernel⟩
theorem sc_law_all_sets : FnScope ["_law_many", "_law_sets", "_law_p"] ["_law_many"] (defScope s_law_all_sets) := ⟨rfl, rfl, rfl, by decide +kernel, rfl, by decide +kernel, by decide +kernel⟩
theorem sc_law_inside : FnScope ["_law_some", "_law_other"] ["_law_some", "_law_other"] (defScope s_law_inside) := ⟨rfl, rfl, rfl, by decide +kernel, rfl, by decide +kernel, by decide +kernel⟩
theorem sc_law_sum : FnScope ["_law_counts", "_law_some"] ["_law_counts", "_law_some"] (defScope s_law_sum) := ⟨rfl, rfl, rfl, by decide +kernel, rfl, by decide +kernel, by decide +kernel⟩
theorem sc_law_dry : FnScope ["_law_moves", "_law_some", "_law_take", "_law_put"] ["_law_moves", "_law_some"] (defScope s_law_dry) := ⟨rfl, rfl, rfl, by decide +kernel, rfl, by decide +kernel, by decide +kernel⟩
theorem sc_law_wet : FnScope ["_law_moves", "_law_some", "_law_take", "_law_put"] ["_law_moves", "_law_some"] (defScope s_law_wet) := ⟨rfl, rfl, rfl, by decide +kernel, rfl, by decide +kernel, by decide +kernel⟩
theorem sc_law_least : FnScope ["_law_moves", "_law_many", "_law_dry_here", "_law_fewest", "_law_some"] ["_law_moves", "_law_many"] (defScope s_law_least) := ⟨rfl, rfl, rfl, by decide +kernel, rfl, by decide +kernel, by decide +kernel⟩
theorem sc_law_greatest_wet : FnScope ["_law_moves", "_law_many", "_law_within", "_law_members", "_law_some", "_law_p"] ["_law_moves", "_law_many", "_law_within"] (defScope s_law_greatest_wet) := ⟨rfl, rfl, rfl, by decide +kernel, rfl, by decide +kernel, by decide +kernel⟩
theorem sc_law_due : FnScope ["_law_begin_here", "_law_moves", "_law_pairs", "_law_some", "_law_wet_here"] ["_law_begin_here", "_law_moves"] (defScope s_law_due) := ⟨rfl, rfl, rfl, by decide +kernel, rfl, by decide +kernel, by decide +kernel⟩
theorem sc_law_set_told : FnScope ["_law_found"] ["_law_found"] (defScope s_law_set_told) := ⟨rfl, rfl, rfl, by decide +kernel, rfl, by decide +kernel, by decide +kernel⟩
theorem sc_law_right : FnScope ["_law_found", "_law_due_here", "_law_pair"] ["_law_found", "_law_due_here"] (defScope s_law_right) := ⟨rfl, rfl, rfl, by decide +kernel, rfl, by decide +kernel, by decide +kernel⟩
theorem sclaw : FnScope ["_law_script", "_law_many", "_law_moves", "_law_k", "_law_begin_here", "_law_due_here", "_law_land", "_law_found", "_law_other"] ["_law_script"] (defScope slaw) := ⟨rfl, rfl, rfl, by decide +kernel, rfl, by decide +kernel, by decide +kernel⟩
section
variable {P : Program} {w : World} {K : PySem.W.Frag} {mg : Str → Option Value} {base : Heap}
theorem oktouches {f : Addr} {fd : FuncData} (D : Def K mg "touches" stouches ["counts", "places"] f fd) (B : Blt mg) : FnOk P w K mg base CX0 1 f fd ["counts", "places"] (spM K 2 .F (f_touches)) := by
  refine D.F.ok sctouches (fun vs H Q E h => h.1) (fun cdv A outer s H vs Q E hr h => ?_)
  exact ⟨tSt K (fun _ _ => False) .F m_touches, (@q_last _ _ _ _ _ _ (@q_ret _ _ _ _ _ _ _ (@q_cb _ _ _ _ _ _ _ _ _ _ _ _ _ _ (call_anyL rfl) (b_bools (g := gAny)) (by rfl) B.any_ bt_any (@q_acons _ _ _ _ _ _ _ _ (@q_CB _ _ _ _ _ (@q_FC _ _ _ _ _ (@q_comp _ _ _ _ _ _ _ _ _ _ _ _ _ _ _ _ (show CompScope (defScope stouches) _ ["counts", "places"] ["counts", "places", "place"] from ⟨rfl, by decide +kernel, by decide +kernel, by decide +kernel, by decide +kernel, by decide, by decide +kernel, by decide +kernel⟩) rfl (@q_iSqB _ _ _ _ _ _ (@qv _ _ _ _ .B 1 _ (by rfl) (by first | exact Or.inl rfl | exact Or.inr (Or.inl rfl) | exact Or.inr (Or.inr rfl)) (by decide) (by decide)) (by rfl)) (fun _ _ _ _ => (@pg_name _ _ 2 _ (by decide +kernel : (["counts", "places", "place"] : List Str).Nodup) rfl (Or.inl rfl) (.inr rfl))) (@gt_U _ _) (gk_name (show 2 ≤ 2 by decide)) (fun _ _ _ _ => (@q_pifN _ _ _)) (fun _ _ _ _ => (@q_cmp _ _ _ _ _ _ _ _ _ _ _ _ _ op_gt (o2_I0 (g := gGt) (fun _ _ => rfl) (fun _ _ _ => .bl)) (@q_UB _ _ _ _ _ (@q_ixU _ _ _ _ _ _ _ _ (@qv _ _ _ _ .B 0 _ (by rfl) (by first | exact Or.inl rfl | exact Or.inr (Or.inl rfl) | exact Or.inr (Or.inr rfl)) (by decide) (by decide)) (@qv _ _ _ _ .B 2 _ (by rfl) (by first | exact Or.inl rfl | exact Or.inr (Or.inl rfl) | exact Or.inr (Or.inr rfl)) (by decide) (by decide)) (by exact fun _ _ => rfl) (by rfl))) (@q_int _ _ _ _ _ _ _) (by first | exact nomark _ | rfl))) (by intro _; rfl)))) (@q_anil _ _ _ _) (by rfl)) (by decide) (by decide) (by rfl) (by rfl)))),
    c_body (n := 2) (Nl := ["counts", "places"]) (.inl rfl) h⟩
theorem okbreaks_dry {f : Addr} {fd : FuncData} (D : Def K mg "breaks_dry" sbreaks_dry ["moves", "places"] f fd) (B : Blt mg) {ftouches : Addr} {fdtouches : FuncData} (Dtouches : Def K mg "touches" stouches ["counts", "places"] ftouches fdtouches) (Gtouches : FnOk P w K mg base CX0 1 ftouches fdtouches ["counts", "places"] (spM K 2 .F (f_touches))) : FnOk P w K mg base CX0 2 f fd ["moves", "places"] (spM K 2 .F (f_breaks_dry)) := by
  refine D.F.ok scbreaks_dry (fun vs H Q E h => h.1) (fun cdv A outer s H vs Q E hr h => ?_)
  exact ⟨tSt K (fun _ _ => False) .F m_breaks_dry, (@q_cons _ _ _ _ _ _ _ _ (@q_for _ _ _ _ _ _ _ _ _ _ _ _ _ PassesOwn.never rfl (@q_enuU _ _ _ _ _ _ _ _ _ _ (by rfl) B.enumerate_ (@q_acons _ _ _ _ _ _ _ _ (@qv _ _ _ _ .U 0 _ (by rfl) (by first | exact Or.inl rfl | exact Or.inr (Or.inl rfl) | exact Or.inr (Or.inr rfl)) (by decide) (by decide)) (@q_anil _ _ _ _) (by rfl)) (by rfl) (by rfl)) (@pg_tupK _ K _ _ _ _ 2 rfl (@pgs_cons _ _ _ _ _ (@pg_name _ _ 2 _ scbreaks_dry.nd rfl (by first | exact Or.inl rfl | exact Or.inr rfl) (by first | exact .inl rfl | exact .inr rfl | assumption)) (@pgs_cons _ _ _ _ _ (@pg_name _ _ 3 _ scbreaks_dry.nd rfl (by first | exact Or.inl rfl | exact Or.inr rfl) (by first | exact .inl rfl | exact .inr rfl | assumption)) (@pgs_nil _) (by rfl)) (by rfl)) (by rfl) (by rfl) (by rfl)) (@gt_tup _ _ _ _ _ (.inr rfl) (@gts_cons _ _ _ _ _ _ (.inr rfl) (@gt_U _ _) (@gts_cons _ _ _ _ _ _ (.inr rfl) (@gt_U _ _) (@gts_nil _ _)))) (@q_last _ _ _ _ _ _ (@q_if_ _ _ _ _ _ _ _ _ _ _ _ (PW.pt (@q_tand _ _ _ _ _ _ _ _ _ (@q_val _ _ _ _ _ (@q_CB _ _ _ _ _ (@q_FC _ _ _ _ _ (@q_call _ _ _ _ _ _ _ _ _ _ _ _ _ _ _ _ Gtouches (.inl rfl) (by exact hr.mono (by decide)) (by rfl) Dtouches.m Dtouches.F.kp Dtouches.b (@q_acons _ _ _ _ _ _ _ _ (@q_UB _ _ _ _ _ (@q_ixU _ _ _ _ _ _ _ _ (@qv _ _ _ _ .B 3 _ (by rfl) (by first | exact Or.inl rfl | exact Or.inr (Or.inl rfl) | exact Or.inr (Or.inr rfl)) (by decide) (by decide)) (@q_int _ _ _ _ _ _ _) (by exact fun _ _ => rfl) (by rfl))) (@q_acons _ _ _ _ _ _ _ _ (@qv _ _ _ _ .B 1 _ (by rfl) (by first | exact Or.inl rfl | exact Or.inr (Or.inl rfl) | exact Or.inr (Or.inr rfl)) (by decide) (by decide)) (@q_anil _ _ _ _) (by rfl)) (by rfl)) (by decide) (by rfl) (by rfl)))) (by intro _; rfl)) (@q_tand1 _ _ _ _ _ _ (@q_tnot _ _ _ _ _ _ (@q_val _ _ _ _ _ (@q_CB _ _ _ _ _ (@q_FC _ _ _ _ _ (@q_call _ _ _ _ _ _ _ _ _ _ _ _ _ _ _ _ Gtouches (.inl rfl) (by exact hr.mono (by decide)) (by rfl) Dtouches.m Dtouches.F.kp Dtouches.b (@q_acons _ _ _ _ _ _ _ _ (@q_UB _ _ _ _ _ (@q_ixU _ _ _ _ _ _ _ _ (@qv _ _ _ _ .B 3 _ (by rfl) (by first | exact Or.inl rfl | exact Or.inr (Or.inl rfl) | exact Or.inr (Or.inr rfl)) (by decide) (by decide)) (@q_int _ _ _ _ _ _ _) (by exact fun _ _ => rfl) (by rfl))) (@q_acons _ _ _ _ _ _ _ _ (@qv _ _ _ _ .B 1 _ (by rfl) (by first | exact Or.inl rfl | exact Or.inr (Or.inl rfl) | exact Or.inr (Or.inr rfl)) (by decide) (by decide)) (@q_anil _ _ _ _) (by rfl)) (by rfl)) (by decide) (by rfl) (by rfl)))) (by intro _; rfl)))))) (@q_last _ _ _ _ _ _ (@q_retv _ _ _ _ _ 2 _ _ (.inl rfl) (by rfl) (by first | exact Or.inl rfl | exact Or.inr (Or.inl rfl) | exact Or.inr (Or.inr rfl)) (by decide) (by decide))) (@q_nil _ _ _ _))) (by intro _; rfl)) (@q_last _ _ _ _ _ _ (@q_ret _ _ _ _ _ _ _ (@q_non _ _ _ _ _ _)))),
    c_body (n := 2) (Nl := ["moves", "places", "number", "move"]) (.inl rfl) h⟩
theorem okis_dry {f : Addr} {fd : FuncData} (D : Def K mg "is_dry" sis_dry ["moves", "places"] f fd) (B : Blt mg) {fbreaks_dry : Addr} {fdbreaks_dry : FuncData} (Dbreaks_dry : Def K mg "breaks_dry" sbreaks_dry ["moves", "places"] fbreaks_dry fdbreaks_dry) (Gbreaks_dry : FnOk P w K mg base CX0 2 fbreaks_dry fdbreaks_dry ["moves", "places"] (spM K 2 .F (f_breaks_dry))) : FnOk P w K mg base CX0 3 f fd ["moves", "places"] (spM K 2 .F (f_is_dry)) := by
  refine D.F.ok scis_dry (fun vs H Q E h => h.1) (fun cdv A outer s H vs Q E hr h => ?_)
  exact ⟨tSt K (fun _ _ => False) .F m_is_dry, (@q_last _ _ _ _ _ _ (@q_ret _ _ _ _ _ _ _ (@q_cmp _ _ _ _ _ _ _ _ _ _ _ _ _ op_isN o2_isN (@q_CB _ _ _ _ _ (@q_FC _ _ _ _ _ (@q_call _ _ _ _ _ _ _ _ _ _ _ _ _ _ _ _ Gbreaks_dry (.inl rfl) (by exact hr.mono (by decide)) (by rfl) Dbreaks_dry.m Dbreaks_dry.F.kp Dbreaks_dry.b (@q_acons _ _ _ _ _ _ _ _ (@qv _ _ _ _ .B 0 _ (by rfl) (by first | exact Or.inl rfl | exact Or.inr (Or.inl rfl) | exact Or.inr (Or.inr rfl)) (by decide) (by decide)) (@q_acons _ _ _ _ _ _ _ _ (@qv _ _ _ _ .B 1 _ (by rfl) (by first | exact Or.inl rfl | exact Or.inr (Or.inl rfl) | exact Or.inr (Or.inr rfl)) (by decide) (by decide)) (@q_anil _ _ _ _) (by rfl)) (by rfl)) (by decide) (by rfl) (by rfl)))) (@q_non _ _ _ _ _ _) (by first | exact nomark _ | rfl)))),
    c_body (n := 2) (Nl := ["moves", "places"]) (.inl rfl) h⟩
theorem okgreatest_dry {f : Addr} {fd : FuncData} (D : Def K mg "greatest_dry" sgreatest_dry ["moves", "places"] f fd) (B : Blt mg) {fbreaks_dry : Addr} {fdbreaks_dry : FuncData} (Dbreaks_dry : Def K mg "breaks_dry" sbreaks_dry ["moves", "places"] fbreaks_dry fdbreaks_dry) (Gbreaks_dry : FnOk P w K mg base CX0 2 fbreaks_dry fdbreaks_dry ["moves", "places"] (spM K 2 .F (f_breaks_dry))) : FnOk P w K mg base CX0 3 f fd ["moves", "places"] (spM K 2 .F (f_greatest_dry)) := by
  refine D.F.ok scgreatest_dry (fun vs H Q E h => h.1) (fun cdv A outer s H vs Q E hr h => ?_)
  exact ⟨tSt K (fun _ _ => False) .F m_greatest_dry, (@q_cons _ _ _ _ _ _ _ _ (@q_setV _ _ _ _ _ _ _ 2 _ _ scgreatest_dry.nd rfl (by first | exact Or.inl rfl | exact Or.inr rfl) (@qv _ _ _ _ .V 1 _ (by rfl) (by first | exact Or.inl rfl | exact Or.inr (Or.inl rfl) | exact Or.inr (Or.inr rfl)) (by decide) (by decide)) (by rfl) (by first | exact .inl rfl | exact .inr rfl | assumption)) (@q_cons _ _ _ _ _ _ _ _ (@q_setF _ _ _ _ _ _ _ 3 _ _ scgreatest_dry.nd rfl (by first | exact Or.inl rfl | exact Or.inr rfl) (@q_call _ _ _ _ _ _ _ _ _ _ _ _ _ _ _ _ Gbreaks_dry (.inl rfl) (by exact hr.mono (by decide)) (by rfl) Dbreaks_dry.m Dbreaks_dry.F.kp Dbreaks_dry.b (@q_acons _ _ _ _ _ _ _ _ (@qv _ _ _ _ .B 0 _ (by rfl) (by first | exact Or.inl rfl | exact Or.inr (Or.inl rfl) | exact Or.inr (Or.inr rfl)) (by decide) (by decide)) (@q_acons _ _ _ _ _ _ _ _ (@qv _ _ _ _ .B 2 _ (by rfl) (by first | exact Or.inl rfl | exact Or.inr (Or.inl rfl) | exact Or.inr (Or.inr rfl)) (by decide) (by decide)) (@q_anil _ _ _ _) (by rfl)) (by rfl)) (by decide) (by rfl) (by rfl)) (by rfl) (by first | exact .inl rfl | exact .inr rfl | assumption)) (@q_cons _ _ _ _ _ _ _ _ (@q_while _ _ _ _ _ _ _ _ _ PassesOwn.never (@q_tcmp _ _ _ _ _ _ _ _ _ _ _ _ op_notN o2_notN (@qv _ _ _ _ .B 3 _ (by rfl) (by first | exact Or.inl rfl | exact Or.inr (Or.inl rfl) | exact Or.inr (Or.inr rfl)) (by decide) (by decide)) (@q_non _ _ _ _ _ _) (by first | exact nomark _ | rfl)) (@q_cons _ _ _ _ _ _ _ _ (@q_setF _ _ _ _ _ _ _ 2 _ _ scgreatest_dry.nd rfl (by first | exact Or.inl rfl | exact Or.inr rfl) (@q_ct _ _ _ _ _ _ _ _ _ _ _ _ _ _ K_tup (b_tup (c := true)) (by rfl) B.tuple_ bt_tuple (@q_acons _ _ _ _ _ _ _ _ (@q_FC _ _ _ _ _ (@q_comp _ _ _ _ _ _ _ _ _ _ _ _ _ _ _ _ (show CompScope (defScope sgreatest_dry) _ ["moves", "places", "kept", "number"] ["moves", "places", "kept", "number", "place"] from ⟨rfl, by decide +kernel, by decide +kernel, by decide +kernel, by decide +kernel, by decide, by decide +kernel, by decide +kernel⟩) rfl (@q_iSqB _ _ _ _ _ _ (@qv _ _ _ _ .B 2 _ (by rfl) (by first | exact Or.inl rfl | exact Or.inr (Or.inl rfl) | exact Or.inr (Or.inr rfl)) (by decide) (by decide)) (by rfl)) (fun _ _ _ _ => (@pg_name _ _ 4 _ (by decide +kernel : (["moves", "places", "kept", "number", "place"] : List Str).Nodup) rfl (Or.inl rfl) (.inr rfl))) (@gt_U _ _) (gk_name (show 4 ≤ 4 by decide)) (fun _ _ _ _ => (@q_pif1 _ _ _ _ _ (@q_tcmp _ _ _ _ _ _ _ _ _ _ _ _ op_eq o2_eqS (@q_UB _ _ _ _ _ (@q_ixU _ _ _ _ _ _ _ _ (@q_UB _ _ _ _ _ (@q_ixU _ _ _ _ _ _ _ _ (@q_UB _ _ _ _ _ (@q_ixU _ _ _ _ _ _ _ _ (@qv _ _ _ _ .B 0 _ (by rfl) (by first | exact Or.inl rfl | exact Or.inr (Or.inl rfl) | exact Or.inr (Or.inr rfl)) (by decide) (by decide)) (@qv _ _ _ _ .B 3 _ (by rfl) (by first | exact Or.inl rfl | exact Or.inr (Or.inl rfl) | exact Or.inr (Or.inr rfl)) (by decide) (by decide)) (by exact fun _ _ => rfl) (by rfl))) (@q_int _ _ _ _ _ _ _) (by exact fun _ _ => rfl) (by rfl))) (@qv _ _ _ _ .B 4 _ (by rfl) (by first | exact Or.inl rfl | exact Or.inr (Or.inl rfl) | exact Or.inr (Or.inr rfl)) (by decide) (by decide)) (by exact fun _ _ => rfl) (by rfl))) (@q_int _ _ _ _ _ _ _) (by first | exact nomark _ | rfl)))) (fun _ _ _ _ => (@qv _ _ _ _ .V 4 _ (by rfl) (by first | exact Or.inl rfl | exact Or.inr (Or.inl rfl) | exact Or.inr (Or.inr rfl)) (by decide) (by decide))) (by intro _; rfl))) (@q_anil _ _ _ _) (by rfl)) (by decide) (by decide) (by rfl) (by rfl)) (by rfl) (by first | exact .inl rfl | exact .inr rfl | assumption)) (@q_last _ _ _ _ _ _ (@q_setF _ _ _ _ _ _ _ 3 _ _ scgreatest_dry.nd rfl (by first | exact Or.inl rfl | exact Or.inr rfl) (@q_call _ _ _ _ _ _ _ _ _ _ _ _ _ _ _ _ Gbreaks_dry (.inl rfl) (by exact hr.mono (by decide)) (by rfl) Dbreaks_dry.m Dbreaks_dry.F.kp Dbreaks_dry.b (@q_acons _ _ _ _ _ _ _ _ (@qv _ _ _ _ .B 0 _ (by rfl) (by first | exact Or.inl rfl | exact Or.inr (Or.inl rfl) | exact Or.inr (Or.inr rfl)) (by decide) (by decide)) (@q_acons _ _ _ _ _ _ _ _ (@qv _ _ _ _ .B 2 _ (by rfl) (by first | exact Or.inl rfl | exact Or.inr (Or.inl rfl) | exact Or.inr (Or.inr rfl)) (by decide) (by decide)) (@q_anil _ _ _ _) (by rfl)) (by rfl)) (by decide) (by rfl) (by rfl)) (by rfl) (by first | exact .inl rfl | exact .inr rfl | assumption))))) (@q_last _ _ _ _ _ _ (@q_retv _ _ _ _ _ 2 _ _ (.inl rfl) (by rfl) (by first | exact Or.inl rfl | exact Or.inr (Or.inl rfl) | exact Or.inr (Or.inr rfl)) (by decide) (by decide)))))),
    c_body (n := 2) (Nl := ["moves", "places", "kept", "number"]) (.inl rfl) h⟩
theorem okturned {f : Addr} {fd : FuncData} (D : Def K mg "turned" sturned ["moves"] f fd) (B : Blt mg) : FnOk P w K mg base CX0 1 f fd ["moves"] (spM K 1 .F (f_turned)) := by
  refine D.F.ok scturned (fun vs H Q E h => h.1) (fun cdv A outer s H vs Q E hr h => ?_)
  exact ⟨tSt K (fun _ _ => False) .F m_turned, (@q_last _ _ _ _ _ _ (@q_ret _ _ _ _ _ _ _ (@q_ct _ _ _ _ _ _ _ _ _ _ _ _ _ _ K_tup (b_tup (c := true)) (by rfl) B.tuple_ bt_tuple (@q_acons _ _ _ _ _ _ _ _ (@q_FC _ _ _ _ _ (@q_comp _ _ _ _ _ _ _ _ _ _ _ _ _ _ _ _ (show CompScope (defScope sturned) _ ["moves"] ["moves", "take", "put"] from ⟨rfl, by decide +kernel, by decide +kernel, by decide +kernel, by decide +kernel, by decide, by decide +kernel, by decide +kernel⟩) rfl (@q_iSqB _ _ _ _ _ _ (@qv _ _ _ _ .B 0 _ (by rfl) (by first | exact Or.inl rfl | exact Or.inr (Or.inl rfl) | exact Or.inr (Or.inr rfl)) (by decide) (by decide)) (by rfl)) (fun _ _ _ _ => (@pg_tupK _ K _ _ _ _ 2 rfl (@pgs_cons _ _ _ _ _ (@pg_name _ _ 1 _ (by decide +kernel : (["moves", "take", "put"] : List Str).Nodup) rfl (Or.inl rfl) (.inr rfl)) (@pgs_cons _ _ _ _ _ (@pg_name _ _ 2 _ (by decide +kernel : (["moves", "take", "put"] : List Str).Nodup) rfl (Or.inl rfl) (.inr rfl)) (@pgs_nil _) (by rfl)) (by rfl)) (by rfl) (by rfl) (by rfl))) (@gt_tup _ _ _ _ _ (.inr rfl) (@gts_cons _ _ _ _ _ _ (.inr rfl) (@gt_U _ _) (@gts_cons _ _ _ _ _ _ (.inr rfl) (@gt_U _ _) (@gts_nil _ _)))) (gk_tup (gk_cons (show 1 ≤ 1 by decide) (gk_cons (show 1 ≤ 2 by decide) gk_nil))) (fun _ _ _ _ => (@q_pifN _ _ _)) (fun _ _ _ _ => (@q_FV _ _ _ _ _ (@q_tup _ _ _ _ _ _ _ (@q_acons _ _ _ _ _ _ _ _ (@qv _ _ _ _ .V 2 _ (by rfl) (by first | exact Or.inl rfl | exact Or.inr (Or.inl rfl) | exact Or.inr (Or.inr rfl)) (by decide) (by decide)) (@q_acons _ _ _ _ _ _ _ _ (@qv _ _ _ _ .V 1 _ (by rfl) (by first | exact Or.inl rfl | exact Or.inr (Or.inl rfl) | exact Or.inr (Or.inr rfl)) (by decide) (by decide)) (@q_anil _ _ _ _) (by rfl)) (by rfl))))) (by intro _; rfl))) (@q_anil _ _ _ _) (by rfl)) (by decide) (by decide) (by rfl) (by rfl)))),
    c_body (n := 1) (Nl := ["moves"]) (.inl rfl) h⟩
theorem okgreatest_wet {f : Addr} {fd : FuncData} (D : Def K mg "greatest_wet" sgreatest_wet ["moves", "places"] f fd) (B : Blt mg) {fgreatest_dry : Addr} {fdgreatest_dry : FuncData} (Dgreatest_dry : Def K mg "greatest_dry" sgreatest_dry ["moves", "places"] fgreatest_dry fdgreatest_dry) (Ggreatest_dry : FnOk P w K mg base CX0 3 fgreatest_dry fdgreatest_dry ["moves", "places"] (spM K 2 .F (f_greatest_dry))) {fturned : Addr} {fdturned : FuncData} (Dturned : Def K mg "turned" sturned ["moves"] fturned fdturned) (Gturned : FnOk P w K mg base CX0 1 fturned fdturned ["moves"] (spM K 1 .F (f_turned))) : FnOk P w K mg base CX0 4 f fd ["moves", "places"] (spM K 2 .F (f_greatest_wet)) := by
  refine D.F.ok scgreatest_wet (fun vs H Q E h => h.1) (fun cdv A outer s H vs Q E hr h => ?_)
  exact ⟨tSt K (fun _ _ => False) .F m_greatest_wet, (@q_last _ _ _ _ _ _ (@q_ret _ _ _ _ _ _ _ (@q_call _ _ _ _ _ _ _ _ _ _ _ _ _ _ _ _ Ggreatest_dry (.inl rfl) (by exact hr.mono (by decide)) (by rfl) Dgreatest_dry.m Dgreatest_dry.F.kp Dgreatest_dry.b (@q_acons _ _ _ _ _ _ _ _ (@q_CB _ _ _ _ _ (@q_FC _ _ _ _ _ (@q_call _ _ _ _ _ _ _ _ _ _ _ _ _ _ _ _ Gturned (.inl rfl) (by exact hr.mono (by decide)) (by rfl) Dturned.m Dturned.F.kp Dturned.b (@q_acons _ _ _ _ _ _ _ _ (@qv _ _ _ _ .B 0 _ (by rfl) (by first | exact Or.inl rfl | exact Or.inr (Or.inl rfl) | exact Or.inr (Or.inr rfl)) (by decide) (by decide)) (@q_anil _ _ _ _) (by rfl)) (by decide) (by rfl) (by rfl)))) (@q_acons _ _ _ _ _ _ _ _ (@qv _ _ _ _ .B 1 _ (by rfl) (by first | exact Or.inl rfl | exact Or.inr (Or.inl rfl) | exact Or.inr (Or.inr rfl)) (by decide) (by decide)) (@q_anil _ _ _ _) (by rfl)) (by rfl)) (by decide) (by rfl) (by rfl)))),
    c_body (n := 2) (Nl := ["moves", "places"]) (.inl rfl) h⟩
theorem okfilled_sets {f : Addr} {fd : FuncData} (D : Def K mg "filled_sets" sfilled_sets ["many"] f fd) (B : Blt mg) : FnOk P w K mg base CX0 1 f fd ["many"] (spM K 1 .F (f_filled_sets)) := by
  refine D.F.ok scfilled_sets (fun vs H Q E h => h.1) (fun cdv A outer s H vs Q E hr h => ?_)
  exact ⟨tSt K (fun _ _ => False) .F m_filled_sets, (@q_cons _ _ _ _ _ _ _ _ (@q_setF _ _ _ _ _ _ _ 1 _ _ scfilled_sets.nd rfl (by first | exact Or.inl rfl | exact Or.inr rfl) (@q_lst _ _ _ _ _ _ (@q_acons _ _ _ _ _ _ _ _ (@q_FV _ _ _ _ _ (@q_tup _ _ _ _ _ _ _ (@q_anil _ _ _ _))) (@q_anil _ _ _ _) (by rfl))) (by rfl) (by first | exact .inl rfl | exact .inr rfl | assumption)) (@q_cons _ _ _ _ _ _ _ _ (@q_for _ _ _ _ _ _ _ _ _ _ _ _ _ PassesOwn.never rfl (@q_rng1 _ _ _ _ _ _ _ _ _ (by rfl) B.range_ (@q_acons _ _ _ _ _ _ _ _ (@qv _ _ _ _ .B 0 _ (by rfl) (by first | exact Or.inl rfl | exact Or.inr (Or.inl rfl) | exact Or.inr (Or.inr rfl)) (by decide) (by decide)) (@q_anil _ _ _ _) (by rfl)) (by rfl)) (@pg_name _ _ 2 _ scfilled_sets.nd rfl (by first | exact Or.inl rfl | exact Or.inr rfl) (by first | exact .inl rfl | exact .inr rfl | assumption)) (@gt_U _ _) (@q_last _ _ _ _ _ _ (@q_setF _ _ _ _ _ _ _ 1 _ _ scfilled_sets.nd rfl (by first | exact Or.inl rfl | exact Or.inr rfl) (@q_op _ _ _ _ _ _ _ _ _ _ _ _ _ op_cat (o2_cat (c := true)) (@qv _ _ _ _ .C 1 _ (by rfl) (by first | exact Or.inl rfl | exact Or.inr (Or.inl rfl) | exact Or.inr (Or.inr rfl)) (by decide) (by decide)) (@q_FC _ _ _ _ _ (@q_comp _ _ _ _ _ _ _ _ _ _ _ _ _ _ _ _ (show CompScope (defScope sfilled_sets) _ ["many", "found", "place"] ["many", "found", "place", "places"] from ⟨rfl, by decide +kernel, by decide +kernel, by decide +kernel, by decide +kernel, by decide, by decide +kernel, by decide +kernel⟩) rfl (@q_iSqB _ _ _ _ _ _ (@qv _ _ _ _ .B 1 _ (by rfl) (by first | exact Or.inl rfl | exact Or.inr (Or.inl rfl) | exact Or.inr (Or.inr rfl)) (by decide) (by decide)) (by rfl)) (fun _ _ _ _ => (@pg_name _ _ 3 _ (by decide +kernel : (["many", "found", "place", "places"] : List Str).Nodup) rfl (Or.inl rfl) (.inr rfl))) (@gt_U _ _) (gk_name (show 3 ≤ 3 by decide)) (fun _ _ _ _ => (@q_pifN _ _ _)) (fun _ _ _ _ => (@q_FV _ _ _ _ _ (@q_op _ _ _ _ _ _ _ _ _ _ _ _ _ op_cat3 o2_catT (@qv _ _ _ _ .B 3 _ (by rfl) (by first | exact Or.inl rfl | exact Or.inr (Or.inl rfl) | exact Or.inr (Or.inr rfl)) (by decide) (by decide)) (@q_UB _ _ _ _ _ (@q_tupU _ _ _ _ _ _ _ (@q_acons _ _ _ _ _ _ _ _ (@qv _ _ _ _ .U 2 _ (by rfl) (by first | exact Or.inl rfl | exact Or.inr (Or.inl rfl) | exact Or.inr (Or.inr rfl)) (by decide) (by decide)) (@q_anil _ _ _ _) (by rfl))))))) (by intro _; rfl)))) (by rfl) (by first | exact .inl rfl | exact .inr rfl | assumption))) (by intro _; rfl)) (@q_last _ _ _ _ _ _ (@q_ret _ _ _ _ _ _ _ (@q_sl _ _ _ _ _ _ true _ _ _ _ _ (@qv _ _ _ _ .C 1 _ (by rfl) (by first | exact Or.inl rfl | exact Or.inr (Or.inl rfl) | exact Or.inr (Or.inr rfl)) (by decide) (by decide)) (@q_pS _ _ _ _ _ (@q_int _ _ _ _ _ _ _)) (@q_pN _ _ _) (by rfl)))))),
    c_body (n := 1) (Nl := ["many", "found", "place"]) (.inl rfl) h⟩
theorem okwithin {f : Addr} {fd : FuncData} (D : Def K mg "within" swithin ["small", "places"] f fd) (B : Blt mg) : FnOk P w K mg base CX0 1 f fd ["small", "places"] (spM K 2 .F (f_within)) := by
  refine D.F.ok scwithin (fun vs H Q E h => h.1) (fun cdv A outer s H vs Q E hr h => ?_)
  exact ⟨tSt K (fun _ _ => False) .F m_within, (@q_last _ _ _ _ _ _ (@q_ret _ _ _ _ _ _ _ (@q_cb _ _ _ _ _ _ _ _ _ _ _ _ _ _ (call_allL rfl) (b_bools (g := gAll)) (by rfl) B.all_ bt_all (@q_acons _ _ _ _ _ _ _ _ (@q_CB _ _ _ _ _ (@q_FC _ _ _ _ _ (@q_comp _ _ _ _ _ _ _ _ _ _ _ _ _ _ _ _ (show CompScope (defScope swithin) _ ["small", "places"] ["small", "places", "place"] from ⟨rfl, by decide +kernel, by decide +kernel, by decide +kernel, by decide +kernel, by decide, by decide +kernel, by decide +kernel⟩) rfl (@q_iSqB _ _ _ _ _ _ (@qv _ _ _ _ .B 0 _ (by rfl) (by first | exact Or.inl rfl | exact Or.inr (Or.inl rfl) | exact Or.inr (Or.inr rfl)) (by decide) (by decide)) (by rfl)) (fun _ _ _ _ => (@pg_name _ _ 2 _ (by decide +kernel : (["small", "places", "place"] : List Str).Nodup) rfl (Or.inl rfl) (.inr rfl))) (@gt_U _ _) (gk_name (show 2 ≤ 2 by decide)) (fun _ _ _ _ => (@q_pifN _ _ _)) (fun _ _ _ _ => (@q_cmp _ _ _ _ _ _ _ _ _ _ _ _ _ (op_in (hu64 hr)) (o2_in (neg := false)) (@qv _ _ _ _ .B 2 _ (by rfl) (by first | exact Or.inl rfl | exact Or.inr (Or.inl rfl) | exact Or.inr (Or.inr rfl)) (by decide) (by decide)) (@qv _ _ _ _ .B 1 _ (by rfl) (by first | exact Or.inl rfl | exact Or.inr (Or.inl rfl) | exact Or.inr (Or.inr rfl)) (by decide) (by decide)) (by first | exact nomark _ | rfl))) (by intro _; rfl)))) (@q_anil _ _ _ _) (by rfl)) (by decide) (by decide) (by rfl) (by rfl)))),
    c_body (n := 2) (Nl := ["small", "places"]) (.inl rfl) h⟩
theorem okleast_dry {f : Addr} {fd : FuncData} (D : Def K mg "least_dry" sleast_dry ["moves", "many"] f fd) (B : Blt mg) {ffilled_sets : Addr} {fdfilled_sets : FuncData} (Dfilled_sets : Def K mg "filled_sets" sfilled_sets ["many"] ffilled_sets fdfilled_sets) (Gfilled_sets : FnOk P w K mg base CX0 1 ffilled_sets fdfilled_sets ["many"] (spM K 1 .F (f_filled_sets))) {fis_dry : Addr} {fdis_dry : FuncData} (Dis_dry : Def K mg "is_dry" sis_dry ["moves", "places"] fis_dry fdis_dry) (Gis_dry : FnOk P w K mg base CX0 3 fis_dry fdis_dry ["moves", "places"] (spM K 2 .F (f_is_dry))) {fwithin : Addr} {fdwithin : FuncData} (Dwithin : Def K mg "within" swithin ["small", "places"] fwithin fdwithin) (Gwithin : FnOk P w K mg base CX0 1 fwithin fdwithin ["small", "places"] (spM K 2 .F (f_within))) : FnOk P w K mg base CX0 4 f fd ["moves", "many"] (spM K 2 .F (f_least_dry)) := by
  refine D.F.ok scleast_dry (fun vs H Q E h => h.1) (fun cdv A outer s H vs Q E hr h => ?_)
  exact ⟨tSt K (fun _ _ => False) .F m_least_dry, (@q_cons _ _ _ _ _ _ _ _ (@q_setF _ _ _ _ _ _ _ 2 _ _ scleast_dry.nd rfl (by first | exact Or.inl rfl | exact Or.inr rfl) (@q_lst _ _ _ _ _ _ (@q_anil _ _ _ _)) (by rfl) (by first | exact .inl rfl | exact .inr rfl | assumption)) (@q_cons _ _ _ _ _ _ _ _ (@q_for _ _ _ _ _ _ _ _ _ _ _ _ _ PassesOwn.never rfl (@q_iSqU _ _ _ _ _ _ (@q_VU _ _ _ _ _ (@q_FV _ _ _ _ _ (@q_call _ _ _ _ _ _ _ _ _ _ _ _ _ _ _ _ Gfilled_sets (.inl rfl) (by exact hr.mono (by decide)) (by rfl) Dfilled_sets.m Dfilled_sets.F.kp Dfilled_sets.b (@q_acons _ _ _ _ _ _ _ _ (@qv _ _ _ _ .B 1 _ (by rfl) (by first | exact Or.inl rfl | exact Or.inr (Or.inl rfl) | exact Or.inr (Or.inr rfl)) (by decide) (by decide)) (@q_anil _ _ _ _) (by rfl)) (by decide) (by rfl) (by rfl)))) (by rfl)) (@pg_name _ _ 3 _ scleast_dry.nd rfl (by first | exact Or.inl rfl | exact Or.inr rfl) (by first | exact .inl rfl | exact .inr rfl | assumption)) (@gt_U _ _) (@q_last _ _ _ _ _ _ (@q_if_ _ _ _ _ _ _ _ _ _ _ _ (PW.pt (@q_tand _ _ _ _ _ _ _ _ _ (@q_val _ _ _ _ _ (@q_CB _ _ _ _ _ (@q_FC _ _ _ _ _ (@q_call _ _ _ _ _ _ _ _ _ _ _ _ _ _ _ _ Gis_dry (.inl rfl) (by exact hr.mono (by decide)) (by rfl) Dis_dry.m Dis_dry.F.kp Dis_dry.b (@q_acons _ _ _ _ _ _ _ _ (@qv _ _ _ _ .B 0 _ (by rfl) (by first | exact Or.inl rfl | exact Or.inr (Or.inl rfl) | exact Or.inr (Or.inr rfl)) (by decide) (by decide)) (@q_acons _ _ _ _ _ _ _ _ (@qv _ _ _ _ .B 3 _ (by rfl) (by first | exact Or.inl rfl | exact Or.inr (Or.inl rfl) | exact Or.inr (Or.inr rfl)) (by decide) (by decide)) (@q_anil _ _ _ _) (by rfl)) (by rfl)) (by decide) (by rfl) (by rfl)))) (by intro _; rfl)) (@q_tand1 _ _ _ _ _ _ (@q_tnot _ _ _ _ _ _ (@q_val _ _ _ _ _ (@q_cb _ _ _ _ _ _ _ _ _ _ _ _ _ _ (call_anyL rfl) (b_bools (g := gAny)) (by rfl) B.any_ bt_any (@q_acons _ _ _ _ _ _ _ _ (@q_CB _ _ _ _ _ (@q_FC _ _ _ _ _ (@q_comp _ _ _ _ _ _ _ _ _ _ _ _ _ _ _ _ (show CompScope (defScope sleast_dry) _ ["moves", "many", "found", "places"] ["moves", "many", "found", "places", "small"] from ⟨rfl, by decide +kernel, by decide +kernel, by decide +kernel, by decide +kernel, by decide, by decide +kernel, by decide +kernel⟩) rfl (@q_iSqB _ _ _ _ _ _ (@qv _ _ _ _ .B 2 _ (by rfl) (by first | exact Or.inl rfl | exact Or.inr (Or.inl rfl) | exact Or.inr (Or.inr rfl)) (by decide) (by decide)) (by rfl)) (fun _ _ _ _ => (@pg_name _ _ 4 _ (by decide +kernel : (["moves", "many", "found", "places", "small"] : List Str).Nodup) rfl (Or.inl rfl) (.inr rfl))) (@gt_U _ _) (gk_name (show 4 ≤ 4 by decide)) (fun _ _ _ _ => (@q_pifN _ _ _)) (fun _ _ _ _ => (@q_FV _ _ _ _ _ (@q_call _ _ _ _ _ _ _ _ _ _ _ _ _ _ _ _ Gwithin (.inl rfl) (by exact hr.mono (by decide)) (by rfl) Dwithin.m Dwithin.F.kp Dwithin.b (@q_acons _ _ _ _ _ _ _ _ (@qv _ _ _ _ .B 4 _ (by rfl) (by first | exact Or.inl rfl | exact Or.inr (Or.inl rfl) | exact Or.inr (Or.inr rfl)) (by decide) (by decide)) (@q_acons _ _ _ _ _ _ _ _ (@qv _ _ _ _ .B 3 _ (by rfl) (by first | exact Or.inl rfl | exact Or.inr (Or.inl rfl) | exact Or.inr (Or.inr rfl)) (by decide) (by decide)) (@q_anil _ _ _ _) (by rfl)) (by rfl)) (by decide) (by rfl) (by rfl)))) (by intro _; rfl)))) (@q_anil _ _ _ _) (by rfl)) (by decide) (by decide) (by rfl) (by rfl)) (by intro _; rfl)))))) (@q_last _ _ _ _ _ _ (@q_app _ _ _ _ _ _ _ 2 _ _ _ _ rfl (by first | exact Or.inl rfl | exact Or.inr (Or.inl rfl) | exact Or.inr (Or.inr rfl)) (@qv _ _ _ _ .V 3 _ (by rfl) (by first | exact Or.inl rfl | exact Or.inr (Or.inl rfl) | exact Or.inr (Or.inr rfl)) (by decide) (by decide)) (by decide) (by decide) (by rfl) (by rfl) (by rfl) (by rfl) (by rfl))) (@q_nil _ _ _ _))) (by intro _; rfl)) (@q_last _ _ _ _ _ _ (@q_ret _ _ _ _ _ _ _ (@q_cb _ _ _ _ _ _ _ _ _ _ _ _ _ _ call_sortT (b_sort (c := true)) (by rfl) B.sorted_ bt_sorted (@q_acons _ _ _ _ _ _ _ _ (@qv _ _ _ _ .C 2 _ (by rfl) (by first | exact Or.inl rfl | exact Or.inr (Or.inl rfl) | exact Or.inr (Or.inr rfl)) (by decide) (by decide)) (@q_anil _ _ _ _) (by rfl)) (by decide) (by decide) (by rfl) (by rfl)))))),
    c_body (n := 2) (Nl := ["moves", "many", "found", "places"]) (.inl rfl) h⟩
theorem oktakes_singly {f : Addr} {fd : FuncData} (D : Def K mg "takes_singly" stakes_singly ["moves"] f fd) (B : Blt mg) : FnOk P w K mg base CX0 1 f fd ["moves"] (spM K 1 .F (f_takes_singly)) := by
  refine D.F.ok sctakes_singly (fun vs H Q E h => h.1) (fun cdv A outer s H vs Q E hr h => ?_)
  exact ⟨tSt K (fun _ _ => False) .F m_takes_singly, (@q_last _ _ _ _ _ _ (@q_ret _ _ _ _ _ _ _ (@q_cb _ _ _ _ _ _ _ _ _ _ _ _ _ _ (call_allL rfl) (b_bools (g := gAll)) (by rfl) B.all_ bt_all (@q_acons _ _ _ _ _ _ _ _ (@q_CB _ _ _ _ _ (@q_FC _ _ _ _ _ (@q_comp _ _ _ _ _ _ _ _ _ _ _ _ _ _ _ _ (show CompScope (defScope stakes_singly) _ ["moves"] ["moves", "move"] from ⟨rfl, by decide +kernel, by decide +kernel, by decide +kernel, by decide +kernel, by decide, by decide +kernel, by decide +kernel⟩) rfl (@q_iSqB _ _ _ _ _ _ (@qv _ _ _ _ .B 0 _ (by rfl) (by first | exact Or.inl rfl | exact Or.inr (Or.inl rfl) | exact Or.inr (Or.inr rfl)) (by decide) (by decide)) (by rfl)) (fun _ _ _ _ => (@pg_name _ _ 1 _ (by decide +kernel : (["moves", "move"] : List Str).Nodup) rfl (Or.inl rfl) (.inr rfl))) (@gt_U _ _) (gk_name (show 1 ≤ 1 by decide)) (fun _ _ _ _ => (@q_pifN _ _ _)) (fun _ _ _ _ => (@q_cmp _ _ _ _ _ _ _ _ _ _ _ _ _ op_le (o2_I0 (g := gLe) (fun _ _ => rfl) (fun _ _ _ => .bl)) (@q_cb _ _ _ _ _ _ _ _ _ _ _ _ _ _ (call_maxQ rfl) (b_best (g := maxL)) (by rfl) B.max_ bt_max (@q_acons _ _ _ _ _ _ _ _ (@q_UB _ _ _ _ _ (@q_ixU _ _ _ _ _ _ _ _ (@qv _ _ _ _ .B 1 _ (by rfl) (by first | exact Or.inl rfl | exact Or.inr (Or.inl rfl) | exact Or.inr (Or.inr rfl)) (by decide) (by decide)) (@q_int _ _ _ _ _ _ _) (by exact fun _ _ => rfl) (by rfl))) (@q_anil _ _ _ _) (by rfl)) (by decide) (by decide) (by rfl) (by rfl)) (@q_int _ _ _ _ _ _ _) (by first | exact nomark _ | rfl))) (by intro _; rfl)))) (@q_anil _ _ _ _) (by rfl)) (by decide) (by decide) (by rfl) (by rfl)))),
    c_body (n := 1) (Nl := ["moves"]) (.inl rfl) h⟩
theorem okkept {f : Addr} {fd : FuncData} (D : Def K mg "kept" skept ["moor"] f fd) (B : Blt mg) {ftakes_singly : Addr} {fdtakes_singly : FuncData} (Dtakes_singly : Def K mg "takes_singly" stakes_singly ["moves"] ftakes_singly fdtakes_singly) (Gtakes_singly : FnOk P w K mg base CX0 1 ftakes_singly fdtakes_singly ["moves"] (spM K 1 .F (f_takes_singly))) {fgreatest_wet : Addr} {fdgreatest_wet : FuncData} (Dgreatest_wet : Def K mg "greatest_wet" sgreatest_wet ["moves", "places"] fgreatest_wet fdgreatest_wet) (Ggreatest_wet : FnOk P w K mg base CX0 4 fgreatest_wet fdgreatest_wet ["moves", "places"] (spM K 2 .F (f_greatest_wet))) {fleast_dry : Addr} {fdleast_dry : FuncData} (Dleast_dry : Def K mg "least_dry" sleast_dry ["moves", "many"] fleast_dry fdleast_dry) (Gleast_dry : FnOk P w K mg base CX0 4 fleast_dry fdleast_dry ["moves", "many"] (spM K 2 .F (f_least_dry))) {ftouches : Addr} {fdtouches : FuncData} (Dtouches : Def K mg "touches" stouches ["counts", "places"] ftouches fdtouches) (Gtouches : FnOk P w K mg base CX0 1 ftouches fdtouches ["counts", "places"] (spM K 2 .F (f_touches))) : FnOk P w K mg base CX0 5 f fd ["moor"] (spM K 1 .F (f_kept)) := by
  refine D.F.ok sckept (fun vs H Q E h => h.1) (fun cdv A outer s H vs Q E hr h => ?_)
  exact ⟨tSt K (fun _ _ => False) .F m_kept, (@q_cons _ _ _ _ _ _ _ _ (@q_setU _ _ _ _ _ _ _ 1 _ _ sckept.nd rfl (by first | exact Or.inl rfl | exact Or.inr rfl) (@q_ixU _ _ _ _ _ _ _ _ (@qv _ _ _ _ .B 0 _ (by rfl) (by first | exact Or.inl rfl | exact Or.inr (Or.inl rfl) | exact Or.inr (Or.inr rfl)) (by decide) (by decide)) (@q_int _ _ _ _ _ _ _) (by exact fun _ _ => rfl) (by rfl)) (by rfl) (by first | exact .inl rfl | exact .inr rfl | assumption)) (@q_cons _ _ _ _ _ _ _ _ (@q_if_ _ _ _ _ _ _ _ _ _ _ _ (PW.pt (@q_tor _ _ _ _ _ _ _ _ _ (@q_tcmp _ _ _ _ _ _ _ _ _ _ _ _ op_eq o2_eqS (@q_cb _ _ _ _ _ _ _ _ _ _ _ _ _ _ K_len b_len (by rfl) B.len_ PySem.boot_len (@q_acons _ _ _ _ _ _ _ _ (@qv _ _ _ _ .B 1 _ (by rfl) (by first | exact Or.inl rfl | exact Or.inr (Or.inl rfl) | exact Or.inr (Or.inr rfl)) (by decide) (by decide)) (@q_anil _ _ _ _) (by rfl)) (by decide) (by decide) (by rfl) (by rfl)) (@q_int _ _ _ _ _ _ _) (by first | exact nomark _ | rfl)) (@q_tor1 _ _ _ _ _ _ (@q_tnot _ _ _ _ _ _ (@q_val _ _ _ _ _ (@q_CB _ _ _ _ _ (@q_FC _ _ _ _ _ (@q_call _ _ _ _ _ _ _ _ _ _ _ _ _ _ _ _ Gtakes_singly (.inl rfl) (by exact hr.mono (by decide)) (by rfl) Dtakes_singly.m Dtakes_singly.F.kp Dtakes_singly.b (@q_acons _ _ _ _ _ _ _ _ (@qv _ _ _ _ .B 1 _ (by rfl) (by first | exact Or.inl rfl | exact Or.inr (Or.inl rfl) | exact Or.inr (Or.inr rfl)) (by decide) (by decide)) (@q_anil _ _ _ _) (by rfl)) (by decide) (by rfl) (by rfl)))) (by intro _; rfl)))))) (@q_last _ _ _ _ _ _ (@q_ret _ _ _ _ _ _ _ (@q_non _ _ _ _ _ _))) (@q_nil _ _ _ _)) (@q_cons _ _ _ _ _ _ _ _ (@q_setc _ _ _ _ _ _ _ 2 _ _ _ _ _ _ _ _ _ _ _ _ _ (show CompScope (defScope skept) _ ["moor", "moves", "pairs"] ["moor", "moves", "pairs", "places"] from ⟨rfl, by decide +kernel, by decide +kernel, by decide +kernel, by decide +kernel, by decide, by decide +kernel, by decide +kernel⟩) rfl (@q_iSqB _ _ _ _ _ _ (@q_CB _ _ _ _ _ (@q_FC _ _ _ _ _ (@q_call _ _ _ _ _ _ _ _ _ _ _ _ _ _ _ _ Gleast_dry (.inl rfl) (by exact hr.mono (by decide)) (by rfl) Dleast_dry.m Dleast_dry.F.kp Dleast_dry.b (@q_acons _ _ _ _ _ _ _ _ (@qv _ _ _ _ .B 1 _ (by rfl) (by first | exact Or.inl rfl | exact Or.inr (Or.inl rfl) | exact Or.inr (Or.inr rfl)) (by decide) (by decide)) (@q_acons _ _ _ _ _ _ _ _ (@q_cb _ _ _ _ _ _ _ _ _ _ _ _ _ _ K_len b_len (by rfl) B.len_ PySem.boot_len (@q_acons _ _ _ _ _ _ _ _ (@q_UB _ _ _ _ _ (@q_ixU _ _ _ _ _ _ _ _ (@qv _ _ _ _ .B 0 _ (by rfl) (by first | exact Or.inl rfl | exact Or.inr (Or.inl rfl) | exact Or.inr (Or.inr rfl)) (by decide) (by decide)) (@q_int _ _ _ _ _ _ _) (by exact fun _ _ => rfl) (by rfl))) (@q_anil _ _ _ _) (by rfl)) (by decide) (by decide) (by rfl) (by rfl)) (@q_anil _ _ _ _) (by rfl)) (by rfl)) (by decide) (by rfl) (by rfl)))) (by rfl)) (fun _ _ _ _ => (@pg_name _ _ 3 _ (by decide +kernel : (["moor", "moves", "pairs", "places"] : List Str).Nodup) rfl (Or.inl rfl) (.inr rfl))) (@gt_U _ _) (gk_name (show 3 ≤ 3 by decide)) (fun _ _ _ _ => (@q_pifN _ _ _)) (fun _ _ _ _ => (@q_FV _ _ _ _ _ (@q_tup _ _ _ _ _ _ _ (@q_acons _ _ _ _ _ _ _ _ (@qv _ _ _ _ .V 3 _ (by rfl) (by first | exact Or.inl rfl | exact Or.inr (Or.inl rfl) | exact Or.inr (Or.inr rfl)) (by decide) (by decide)) (@q_acons _ _ _ _ _ _ _ _ (@q_FV _ _ _ _ _ (@q_call _ _ _ _ _ _ _ _ _ _ _ _ _ _ _ _ Ggreatest_wet (.inl rfl) (by exact hr.mono (by decide)) (by rfl) Dgreatest_wet.m Dgreatest_wet.F.kp Dgreatest_wet.b (@q_acons _ _ _ _ _ _ _ _ (@qv _ _ _ _ .B 1 _ (by rfl) (by first | exact Or.inl rfl | exact Or.inr (Or.inl rfl) | exact Or.inr (Or.inr rfl)) (by decide) (by decide)) (@q_acons _ _ _ _ _ _ _ _ (@qv _ _ _ _ .B 3 _ (by rfl) (by first | exact Or.inl rfl | exact Or.inr (Or.inl rfl) | exact Or.inr (Or.inr rfl)) (by decide) (by decide)) (@q_anil _ _ _ _) (by rfl)) (by rfl)) (by decide) (by rfl) (by rfl))) (@q_anil _ _ _ _) (by rfl)) (by rfl))))) sckept.nd rfl (by first | exact Or.inl rfl | exact Or.inr rfl) (by rfl) (by first | exact .inl rfl | exact .inr rfl | assumption) (by intro _; rfl)) (@q_cons _ _ _ _ _ _ _ _ (@q_if_ _ _ _ _ _ _ _ _ _ _ _ (@q_tnot _ _ _ _ _ _ (@q_val _ _ _ _ _ (@q_cb _ _ _ _ _ _ _ _ _ _ _ _ _ _ (call_allL rfl) (b_bools (g := gAll)) (by rfl) B.all_ bt_all (@q_acons _ _ _ _ _ _ _ _ (@q_CB _ _ _ _ _ (@q_FC _ _ _ _ _ (@q_comp _ _ _ _ _ _ _ _ _ _ _ _ _ _ _ _ (show CompScope (defScope skept) _ ["moor", "moves", "pairs"] ["moor", "moves", "pairs", "dry", "wet"] from ⟨rfl, by decide +kernel, by decide +kernel, by decide +kernel, by decide +kernel, by decide, by decide +kernel, by decide +kernel⟩) rfl (@q_iSqB _ _ _ _ _ _ (@qv _ _ _ _ .B 2 _ (by rfl) (by first | exact Or.inl rfl | exact Or.inr (Or.inl rfl) | exact Or.inr (Or.inr rfl)) (by decide) (by decide)) (by rfl)) (fun _ _ _ _ => (@pg_tupK _ K _ _ _ _ 2 rfl (@pgs_cons _ _ _ _ _ (@pg_name _ _ 3 _ (by decide +kernel : (["moor", "moves", "pairs", "dry", "wet"] : List Str).Nodup) rfl (Or.inl rfl) (.inr rfl)) (@pgs_cons _ _ _ _ _ (@pg_name _ _ 4 _ (by decide +kernel : (["moor", "moves", "pairs", "dry", "wet"] : List Str).Nodup) rfl (Or.inl rfl) (.inr rfl)) (@pgs_nil _) (by rfl)) (by rfl)) (by rfl) (by rfl) (by rfl))) (@gt_tup _ _ _ _ _ (.inr rfl) (@gts_cons _ _ _ _ _ _ (.inr rfl) (@gt_U _ _) (@gts_cons _ _ _ _ _ _ (.inr rfl) (@gt_U _ _) (@gts_nil _ _)))) (gk_tup (gk_cons (show 3 ≤ 3 by decide) (gk_cons (show 3 ≤ 4 by decide) gk_nil))) (fun _ _ _ _ => (@q_pifN _ _ _)) (fun _ _ _ _ => (@q_FV _ _ _ _ _ (@q_call _ _ _ _ _ _ _ _ _ _ _ _ _ _ _ _ Gtouches (.inl rfl) (by exact hr.mono (by decide)) (by rfl) Dtouches.m Dtouches.F.kp Dtouches.b (@q_acons _ _ _ _ _ _ _ _ (@q_UB _ _ _ _ _ (@q_ixU _ _ _ _ _ _ _ _ (@qv _ _ _ _ .B 0 _ (by rfl) (by first | exact Or.inl rfl | exact Or.inr (Or.inl rfl) | exact Or.inr (Or.inr rfl)) (by decide) (by decide)) (@q_int _ _ _ _ _ _ _) (by exact fun _ _ => rfl) (by rfl))) (@q_acons _ _ _ _ _ _ _ _ (@qv _ _ _ _ .B 4 _ (by rfl) (by first | exact Or.inl rfl | exact Or.inr (Or.inl rfl) | exact Or.inr (Or.inr rfl)) (by decide) (by decide)) (@q_anil _ _ _ _) (by rfl)) (by rfl)) (by decide) (by rfl) (by rfl)))) (by intro _; rfl)))) (@q_anil _ _ _ _) (by rfl)) (by decide) (by decide) (by rfl) (by rfl)) (by intro _; rfl))) (@q_last _ _ _ _ _ _ (@q_ret _ _ _ _ _ _ _ (@q_non _ _ _ _ _ _))) (@q_nil _ _ _ _)) (@q_last _ _ _ _ _ _ (@q_retv _ _ _ _ _ 2 _ _ (.inl rfl) (by rfl) (by first | exact Or.inl rfl | exact Or.inr (Or.inl rfl) | exact Or.inr (Or.inr rfl)) (by decide) (by decide))))))),
    c_body (n := 1) (Nl := ["moor", "moves", "pairs"]) (.inl rfl) h⟩
theorem ok_law_cell {f : Addr} {fd : FuncData} (D : Def K mg "_law_cell" s_law_cell ["_law_script", "_law_k"] f fd) (B : Blt mg) : FnOk P w K mg base CX0 1 f fd ["_law_script", "_law_k"] (spM K 2 .F (f__law_cell)) := by
  refine D.F.ok sc_law_cell (fun vs H Q E h => h.1) (fun cdv A outer s H vs Q E hr h => ?_)
  exact ⟨tSt K (fun _ _ => False) .F m__law_cell, (@q_cons _ _ _ _ _ _ _ _ (@q_if_ _ _ _ _ _ _ _ _ _ _ _ (@q_tcmp _ _ _ _ _ _ _ _ _ _ _ _ op_lt (o2_I0 (g := gLt) (fun _ _ => rfl) (fun _ _ _ => .bl)) (@qv _ _ _ _ .B 1 _ (by rfl) (by first | exact Or.inl rfl | exact Or.inr (Or.inl rfl) | exact Or.inr (Or.inr rfl)) (by decide) (by decide)) (@q_cb _ _ _ _ _ _ _ _ _ _ _ _ _ _ K_len b_len (by rfl) B.len_ PySem.boot_len (@q_acons _ _ _ _ _ _ _ _ (@qv _ _ _ _ .B 0 _ (by rfl) (by first | exact Or.inl rfl | exact Or.inr (Or.inl rfl) | exact Or.inr (Or.inr rfl)) (by decide) (by decide)) (@q_anil _ _ _ _) (by rfl)) (by decide) (by decide) (by rfl) (by rfl)) (by first | exact nomark _ | rfl)) (@q_last _ _ _ _ _ _ (@q_ret _ _ _ _ _ _ _ (@q_chkF _ _ _ _ _ (@q_ixU _ _ _ _ _ _ _ _ (@qv _ _ _ _ .B 0 _ (by rfl) (by first | exact Or.inl rfl | exact Or.inr (Or.inl rfl) | exact Or.inr (Or.inr rfl)) (by decide) (by decide)) (@qv _ _ _ _ .B 1 _ (by rfl) (by first | exact Or.inl rfl | exact Or.inr (Or.inl rfl) | exact Or.inr (Or.inr rfl)) (by decide) (by decide)) (by exact fun _ _ => rfl) (by rfl))))) (@q_nil _ _ _ _)) (@q_cons _ _ _ _ _ _ _ _ (@q_setV _ _ _ _ _ _ _ 2 _ _ sc_law_cell.nd rfl (by first | exact Or.inl rfl | exact Or.inr rfl) (@q_op _ _ _ _ _ _ _ _ _ _ _ _ _ op_add (o2_I0 (g := gAdd) (fun _ _ => rfl) (fun _ _ _ => .int)) (@q_op _ _ _ _ _ _ _ _ _ _ _ _ _ op_mulB (o2_I (C := CMulB) (g := gMul) (fun _ _ => rfl) (fun _ _ _ => .int)) (@q_int _ _ _ _ _ _ _) (@qv _ _ _ _ .B 1 _ (by rfl) (by first | exact Or.inl rfl | exact Or.inr (Or.inl rfl) | exact Or.inr (Or.inr rfl)) (by decide) (by decide))) (@q_int _ _ _ _ _ _ _)) (by rfl) (by first | exact .inl rfl | exact .inr rfl | assumption)) (@q_cons _ _ _ _ _ _ _ _ (@q_if_ _ _ _ _ _ _ _ _ _ _ _ (@q_tcmp _ _ _ _ _ _ _ _ _ _ _ _ op_gt (o2_I0 (g := gGt) (fun _ _ => rfl) (fun _ _ _ => .bl)) (@q_cb _ _ _ _ _ _ _ _ _ _ _ _ _ _ K_len b_len (by rfl) B.len_ PySem.boot_len (@q_acons _ _ _ _ _ _ _ _ (@qv _ _ _ _ .B 0 _ (by rfl) (by first | exact Or.inl rfl | exact Or.inr (Or.inl rfl) | exact Or.inr (Or.inr rfl)) (by decide) (by decide)) (@q_anil _ _ _ _) (by rfl)) (by decide) (by decide) (by rfl) (by rfl)) (@q_int _ _ _ _ _ _ _) (by first | exact nomark _ | rfl)) (@q_last _ _ _ _ _ _ (@q_setV _ _ _ _ _ _ _ 2 _ _ sc_law_cell.nd rfl (by first | exact Or.inl rfl | exact Or.inr rfl) (@q_op _ _ _ _ _ _ _ _ _ _ _ _ _ op_add (o2_I0 (g := gAdd) (fun _ _ => rfl) (fun _ _ _ => .int)) (@q_op _ _ _ _ _ _ _ _ _ _ _ _ _ op_add (o2_I0 (g := gAdd) (fun _ _ => rfl) (fun _ _ _ => .int)) (@q_op _ _ _ _ _ _ _ _ _ _ _ _ _ op_mulB (o2_I (C := CMulB) (g := gMul) (fun _ _ => rfl) (fun _ _ _ => .int)) (@q_UB _ _ _ _ _ (@q_ixU _ _ _ _ _ _ _ _ (@qv _ _ _ _ .B 0 _ (by rfl) (by first | exact Or.inl rfl | exact Or.inr (Or.inl rfl) | exact Or.inr (Or.inr rfl)) (by decide) (by decide)) (@q_op _ _ _ _ _ _ _ _ _ _ _ _ _ op_mod (o2_I (C := cMod) (g := gMod) (fun _ _ => rfl) (fun _ _ _ => .int)) (@q_op _ _ _ _ _ _ _ _ _ _ _ _ _ op_mulB (o2_I (C := CMulB) (g := gMul) (fun _ _ => rfl) (fun _ _ _ => .int)) (@qv _ _ _ _ .B 1 _ (by rfl) (by first | exact Or.inl rfl | exact Or.inr (Or.inl rfl) | exact Or.inr (Or.inr rfl)) (by decide) (by decide)) (@q_int _ _ _ _ _ _ _)) (@q_cb _ _ _ _ _ _ _ _ _ _ _ _ _ _ K_len b_len (by rfl) B.len_ PySem.boot_len (@q_acons _ _ _ _ _ _ _ _ (@qv _ _ _ _ .B 0 _ (by rfl) (by first | exact Or.inl rfl | exact Or.inr (Or.inl rfl) | exact Or.inr (Or.inr rfl)) (by decide) (by decide)) (@q_anil _ _ _ _) (by rfl)) (by decide) (by decide) (by rfl) (by rfl))) (by exact fun _ _ => rfl) (by rfl))) (@q_int _ _ _ _ _ _ _)) (@q_op _ _ _ _ _ _ _ _ _ _ _ _ _ op_mulB (o2_I (C := CMulB) (g := gMul) (fun _ _ => rfl) (fun _ _ _ => .int)) (@q_op _ _ _ _ _ _ _ _ _ _ _ _ _ op_mulB (o2_I (C := CMulB) (g := gMul) (fun _ _ => rfl) (fun _ _ _ => .int)) (@qv _ _ _ _ .B 1 _ (by rfl) (by first | exact Or.inl rfl | exact Or.inr (Or.inl rfl) | exact Or.inr (Or.inr rfl)) (by decide) (by decide)) (@qv _ _ _ _ .B 1 _ (by rfl) (by first | exact Or.inl rfl | exact Or.inr (Or.inl rfl) | exact Or.inr (Or.inr rfl)) (by decide) (by decide))) (@q_int _ _ _ _ _ _ _))) (@q_int _ _ _ _ _ _ _)) (by rfl) (by first | exact .inl rfl | exact .inr rfl | assumption))) (@q_nil _ _ _ _)) (@q_last _ _ _ _ _ _ (@q_ret _ _ _ _ _ _ _ (@q_op _ _ _ _ _ _ _ _ _ _ _ _ _ op_mod (o2_I (C := cMod) (g := gMod) (fun _ _ => rfl) (fun _ _ _ => .int)) (@q_op _ _ _ _ _ _ _ _ _ _ _ _ _ op_mulB (o2_I (C := CMulB) (g := gMul) (fun _ _ => rfl) (fun _ _ _ => .int)) (@qv _ _ _ _ .B 2 _ (by rfl) (by first | exact Or.inl rfl | exact Or.inr (Or.inl rfl) | exact Or.inr (Or.inr rfl)) (by decide) (by decide)) (@qv _ _ _ _ .B 2 _ (by rfl) (by first | exact Or.inl rfl | exact Or.inr (Or.inl rfl) | exact Or.inr (Or.inr rfl)) (by decide) (by decide))) (@q_int _ _ _ _ _ _ _))))))),
    c_body (n := 2) (Nl := ["_law_script", "_law_k", "_law_number"]) (.inl rfl) h⟩
theorem ok_law_move {f : Addr} {fd : FuncData} (D : Def K mg "_law_move" s_law_move ["_law_script", "_law_at", "_law_many"] f fd) (B : Blt mg) {f_law_cell : Addr} {fd_law_cell : FuncData} (D_law_cell : Def K mg "_law_cell" s_law_cell ["_law_script", "_law_k"] f_law_cell fd_law_cell) (G_law_cell : FnOk P w K mg base CX0 1 f_law_cell fd_law_cell ["_law_script", "_law_k"] (spM K 2 .F (f__law_cell))) : FnOk P w K mg base CX0 2 f fd ["_law_script", "_law_at", "_law_many"] (spM K 3 .F (f__law_move)) := by
  refine D.F.ok sc_law_move (fun vs H Q E h => h.1) (fun cdv A outer s H vs Q E hr h => ?_)
  exact ⟨tSt K (fun _ _ => False) .F m__law_move, (@q_cons _ _ _ _ _ _ _ _ (@q_setF _ _ _ _ _ _ _ 3 _ _ sc_law_move.nd rfl (by first | exact Or.inl rfl | exact Or.inr rfl) (@q_lst _ _ _ _ _ _ (@q_anil _ _ _ _)) (by rfl) (by first | exact .inl rfl | exact .inr rfl | assumption)) (@q_cons _ _ _ _ _ _ _ _ (@q_setF _ _ _ _ _ _ _ 4 _ _ sc_law_move.nd rfl (by first | exact Or.inl rfl | exact Or.inr rfl) (@q_lst _ _ _ _ _ _ (@q_anil _ _ _ _)) (by rfl) (by first | exact .inl rfl | exact .inr rfl | assumption)) (@q_cons _ _ _ _ _ _ _ _ (@q_for _ _ _ _ _ _ _ _ _ _ _ _ _ PassesOwn.never rfl (@q_rng1 _ _ _ _ _ _ _ _ _ (by rfl) B.range_ (@q_acons _ _ _ _ _ _ _ _ (@qv _ _ _ _ .B 2 _ (by rfl) (by first | exact Or.inl rfl | exact Or.inr (Or.inl rfl) | exact Or.inr (Or.inr rfl)) (by decide) (by decide)) (@q_anil _ _ _ _) (by rfl)) (by rfl)) (@pg_name _ _ 5 _ sc_law_move.nd rfl (by first | exact Or.inl rfl | exact Or.inr rfl) (by first | exact .inl rfl | exact .inr rfl | assumption)) (@gt_U _ _) (@q_cons _ _ _ _ _ _ _ _ (@q_app _ _ _ _ _ _ _ 3 _ _ _ _ rfl (by first | exact Or.inl rfl | exact Or.inr (Or.inl rfl) | exact Or.inr (Or.inr rfl)) (@q_op _ _ _ _ _ _ _ _ _ _ _ _ _ op_mod (o2_I (C := cMod) (g := gMod) (fun _ _ => rfl) (fun _ _ _ => .int)) (@q_CB _ _ _ _ _ (@q_FC _ _ _ _ _ (@q_call _ _ _ _ _ _ _ _ _ _ _ _ _ _ _ _ G_law_cell (.inl rfl) (by exact hr.mono (by decide)) (by rfl) D_law_cell.m D_law_cell.F.kp D_law_cell.b (@q_acons _ _ _ _ _ _ _ _ (@qv _ _ _ _ .B 0 _ (by rfl) (by first | exact Or.inl rfl | exact Or.inr (Or.inl rfl) | exact Or.inr (Or.inr rfl)) (by decide) (by decide)) (@q_acons _ _ _ _ _ _ _ _ (@q_op _ _ _ _ _ _ _ _ _ _ _ _ _ op_add (o2_I0 (g := gAdd) (fun _ _ => rfl) (fun _ _ _ => .int)) (@qv _ _ _ _ .B 1 _ (by rfl) (by first | exact Or.inl rfl | exact Or.inr (Or.inl rfl) | exact Or.inr (Or.inr rfl)) (by decide) (by decide)) (@q_op _ _ _ _ _ _ _ _ _ _ _ _ _ op_mulB (o2_I (C := CMulB) (g := gMul) (fun _ _ => rfl) (fun _ _ _ => .int)) (@q_int _ _ _ _ _ _ _) (@qv _ _ _ _ .B 5 _ (by rfl) (by first | exact Or.inl rfl | exact Or.inr (Or.inl rfl) | exact Or.inr (Or.inr rfl)) (by decide) (by decide)))) (@q_anil _ _ _ _) (by rfl)) (by rfl)) (by decide) (by rfl) (by rfl)))) (@q_int _ _ _ _ _ _ _)) (by decide) (by decide) (by rfl) (by rfl) (by rfl) (by rfl) (by rfl)) (@q_cons _ _ _ _ _ _ _ _ (@q_setF _ _ _ _ _ _ _ 6 _ _ sc_law_move.nd rfl (by first | exact Or.inl rfl | exact Or.inr rfl) (@q_call _ _ _ _ _ _ _ _ _ _ _ _ _ _ _ _ G_law_cell (.inl rfl) (by exact hr.mono (by decide)) (by rfl) D_law_cell.m D_law_cell.F.kp D_law_cell.b (@q_acons _ _ _ _ _ _ _ _ (@qv _ _ _ _ .B 0 _ (by rfl) (by first | exact Or.inl rfl | exact Or.inr (Or.inl rfl) | exact Or.inr (Or.inr rfl)) (by decide) (by decide)) (@q_acons _ _ _ _ _ _ _ _ (@q_op _ _ _ _ _ _ _ _ _ _ _ _ _ op_add (o2_I0 (g := gAdd) (fun _ _ => rfl) (fun _ _ _ => .int)) (@q_op _ _ _ _ _ _ _ _ _ _ _ _ _ op_add (o2_I0 (g := gAdd) (fun _ _ => rfl) (fun _ _ _ => .int)) (@qv _ _ _ _ .B 1 _ (by rfl) (by first | exact Or.inl rfl | exact Or.inr (Or.inl rfl) | exact Or.inr (Or.inr rfl)) (by decide) (by decide)) (@q_op _ _ _ _ _ _ _ _ _ _ _ _ _ op_mulB (o2_I (C := CMulB) (g := gMul) (fun _ _ => rfl) (fun _ _ _ => .int)) (@q_int _ _ _ _ _ _ _) (@qv _ _ _ _ .B 5 _ (by rfl) (by first | exact Or.inl rfl | exact Or.inr (Or.inl rfl) | exact Or.inr (Or.inr rfl)) (by decide) (by decide)))) (@q_int _ _ _ _ _ _ _)) (@q_anil _ _ _ _) (by rfl)) (by rfl)) (by decide) (by rfl) (by rfl)) (by rfl) (by first | exact .inl rfl | exact .inr rfl | assumption)) (@q_last _ _ _ _ _ _ (@q_if_ _ _ _ _ _ _ _ _ _ _ _ (@q_tcmp _ _ _ _ _ _ _ _ _ _ _ _ op_eq o2_eqS (@q_op _ _ _ _ _ _ _ _ _ _ _ _ _ op_mod (o2_I (C := cMod) (g := gMod) (fun _ _ => rfl) (fun _ _ _ => .int)) (@qv _ _ _ _ .B 6 _ (by rfl) (by first | exact Or.inl rfl | exact Or.inr (Or.inl rfl) | exact Or.inr (Or.inr rfl)) (by decide) (by decide)) (@q_int _ _ _ _ _ _ _)) (@q_int _ _ _ _ _ _ _) (by first | exact nomark _ | rfl)) (@q_last _ _ _ _ _ _ (@q_app _ _ _ _ _ _ _ 4 _ _ _ _ rfl (by first | exact Or.inl rfl | exact Or.inr (Or.inl rfl) | exact Or.inr (Or.inr rfl)) (@q_op _ _ _ _ _ _ _ _ _ _ _ _ _ op_mod (o2_I (C := cMod) (g := gMod) (fun _ _ => rfl) (fun _ _ _ => .int)) (@q_op _ _ _ _ _ _ _ _ _ _ _ _ _ op_fdiv (o2_I (C := CDiv) (g := gDiv) (fun _ _ => rfl) (fun _ _ _ => .int)) (@qv _ _ _ _ .B 6 _ (by rfl) (by first | exact Or.inl rfl | exact Or.inr (Or.inl rfl) | exact Or.inr (Or.inr rfl)) (by decide) (by decide)) (@q_int _ _ _ _ _ _ _)) (@q_op _ _ _ _ _ _ _ _ _ _ _ _ _ op_add (o2_I0 (g := gAdd) (fun _ _ => rfl) (fun _ _ _ => .int)) (@q_op _ _ _ _ _ _ _ _ _ _ _ _ _ op_pow (o2_I (C := CPow) (g := gPow) (fun _ _ => rfl) (fun _ _ _ => .int)) (@q_int _ _ _ _ _ _ _) (@q_int _ _ _ _ _ _ _)) (@q_int _ _ _ _ _ _ _))) (by decide) (by decide) (by rfl) (by rfl) (by rfl) (by rfl) (by rfl))) (@q_last _ _ _ _ _ _ (@q_app _ _ _ _ _ _ _ 4 _ _ _ _ rfl (by first | exact Or.inl rfl | exact Or.inr (Or.inl rfl) | exact Or.inr (Or.inr rfl)) (@q_op _ _ _ _ _ _ _ _ _ _ _ _ _ op_fdiv (o2_I (C := CDiv) (g := gDiv) (fun _ _ => rfl) (fun _ _ _ => .int)) (@q_op _ _ _ _ _ _ _ _ _ _ _ _ _ op_mod (o2_I (C := cMod) (g := gMod) (fun _ _ => rfl) (fun _ _ _ => .int)) (@q_op _ _ _ _ _ _ _ _ _ _ _ _ _ op_fdiv (o2_I (C := CDiv) (g := gDiv) (fun _ _ => rfl) (fun _ _ _ => .int)) (@qv _ _ _ _ .B 6 _ (by rfl) (by first | exact Or.inl rfl | exact Or.inr (Or.inl rfl) | exact Or.inr (Or.inr rfl)) (by decide) (by decide)) (@q_int _ _ _ _ _ _ _)) (@q_int _ _ _ _ _ _ _)) (@q_int _ _ _ _ _ _ _)) (by decide) (by decide) (by rfl) (by rfl) (by rfl) (by rfl) (by rfl))))))) (by intro _; rfl)) (@q_last _ _ _ _ _ _ (@q_ret _ _ _ _ _ _ _ (@q_tup _ _ _ _ _ _ _ (@q_acons _ _ _ _ _ _ _ _ (@q_FV _ _ _ _ _ (@q_ct _ _ _ _ _ _ _ _ _ _ _ _ _ _ K_tup (b_tup (c := true)) (by rfl) B.tuple_ bt_tuple (@q_acons _ _ _ _ _ _ _ _ (@qv _ _ _ _ .C 3 _ (by rfl) (by first | exact Or.inl rfl | exact Or.inr (Or.inl rfl) | exact Or.inr (Or.inr rfl)) (by decide) (by decide)) (@q_anil _ _ _ _) (by rfl)) (by decide) (by decide) (by rfl) (by rfl))) (@q_acons _ _ _ _ _ _ _ _ (@q_FV _ _ _ _ _ (@q_ct _ _ _ _ _ _ _ _ _ _ _ _ _ _ K_tup (b_tup (c := true)) (by rfl) B.tuple_ bt_tuple (@q_acons _ _ _ _ _ _ _ _ (@qv _ _ _ _ .C 4 _ (by rfl) (by first | exact Or.inl rfl | exact Or.inr (Or.inl rfl) | exact Or.inr (Or.inr rfl)) (by decide) (by decide)) (@q_anil _ _ _ _) (by rfl)) (by decide) (by decide) (by rfl) (by rfl))) (@q_anil _ _ _ _) (by rfl)) (by rfl)))))))),
    c_body (n := 3) (Nl := ["_law_script", "_law_at", "_law_many", "_law_take", "_law_put", "_law_p", "_law_cell_here"]) (.inl rfl) h⟩
theorem ok_law_heavier {f : Addr} {fd : FuncData} (D : Def K mg "_law_heavier" s_law_heavier ["_law_moves", "_law_cell_here"] f fd) (B : Blt mg) : FnOk P w K mg base CX0 1 f fd ["_law_moves", "_law_cell_here"] (spM K 2 .U (f__law_heavier)) := by
  refine D.F.ok sc_law_heavier (fun vs H Q E h => h.1) (fun cdv A outer s H vs Q E hr h => ?_)
  exact ⟨tSt K (fun _ _ => False) .U m__law_heavier, (@q_cons _ _ _ _ _ _ _ _ (@q_if_ _ _ _ _ _ _ _ _ _ _ _ (PW.pt (@q_tor _ _ _ _ _ _ _ _ _ (@q_tcmp _ _ _ _ _ _ _ _ _ _ _ _ op_eq o2_eqS (@q_cb _ _ _ _ _ _ _ _ _ _ _ _ _ _ K_len b_len (by rfl) B.len_ PySem.boot_len (@q_acons _ _ _ _ _ _ _ _ (@qv _ _ _ _ .B 0 _ (by rfl) (by first | exact Or.inl rfl | exact Or.inr (Or.inl rfl) | exact Or.inr (Or.inr rfl)) (by decide) (by decide)) (@q_anil _ _ _ _) (by rfl)) (by decide) (by decide) (by rfl) (by rfl)) (@q_int _ _ _ _ _ _ _) (by first | exact nomark _ | rfl)) (@q_tor1 _ _ _ _ _ _ (@q_tcmp _ _ _ _ _ _ _ _ _ _ _ _ op_ne o2_neS (@q_op _ _ _ _ _ _ _ _ _ _ _ _ _ op_mod (o2_I (C := cMod) (g := gMod) (fun _ _ => rfl) (fun _ _ _ => .int)) (@qv _ _ _ _ .B 1 _ (by rfl) (by first | exact Or.inl rfl | exact Or.inr (Or.inl rfl) | exact Or.inr (Or.inr rfl)) (by decide) (by decide)) (@q_int _ _ _ _ _ _ _)) (@q_int _ _ _ _ _ _ _) (by first | exact nomark _ | rfl))))) (@q_last _ _ _ _ _ _ (@q_retvU _ _ _ 0 _ _ _ (by rfl) (by first | exact Or.inl rfl | exact Or.inr (Or.inl rfl) | exact Or.inr (Or.inr rfl)) (by decide) (by decide))) (@q_nil _ _ _ _)) (@q_cons _ _ _ _ _ _ _ _ (@q_setV _ _ _ _ _ _ _ 2 _ _ sc_law_heavier.nd rfl (by first | exact Or.inl rfl | exact Or.inr rfl) (@q_op _ _ _ _ _ _ _ _ _ _ _ _ _ op_mod (o2_I (C := cMod) (g := gMod) (fun _ _ => rfl) (fun _ _ _ => .int)) (@q_op _ _ _ _ _ _ _ _ _ _ _ _ _ op_fdiv (o2_I (C := CDiv) (g := gDiv) (fun _ _ => rfl) (fun _ _ _ => .int)) (@qv _ _ _ _ .B 1 _ (by rfl) (by first | exact Or.inl rfl | exact Or.inr (Or.inl rfl) | exact Or.inr (Or.inr rfl)) (by decide) (by decide)) (@q_int _ _ _ _ _ _ _)) (@q_cb _ _ _ _ _ _ _ _ _ _ _ _ _ _ K_len b_len (by rfl) B.len_ PySem.boot_len (@q_acons _ _ _ _ _ _ _ _ (@qv _ _ _ _ .B 0 _ (by rfl) (by first | exact Or.inl rfl | exact Or.inr (Or.inl rfl) | exact Or.inr (Or.inr rfl)) (by decide) (by decide)) (@q_anil _ _ _ _) (by rfl)) (by decide) (by decide) (by rfl) (by rfl))) (by rfl) (by first | exact .inl rfl | exact .inr rfl | assumption)) (@q_cons _ _ _ _ _ _ _ _ (@q_setF _ _ _ _ _ _ _ 3 _ _ sc_law_heavier.nd rfl (by first | exact Or.inl rfl | exact Or.inr rfl) (@q_ct _ _ _ _ _ _ _ _ _ _ _ _ _ _ K_list (b_list (c := false)) (by rfl) B.list_ bt_list (@q_acons _ _ _ _ _ _ _ _ (@q_UB _ _ _ _ _ (@q_ixU _ _ _ _ _ _ _ _ (@q_UB _ _ _ _ _ (@q_ixU _ _ _ _ _ _ _ _ (@qv _ _ _ _ .B 0 _ (by rfl) (by first | exact Or.inl rfl | exact Or.inr (Or.inl rfl) | exact Or.inr (Or.inr rfl)) (by decide) (by decide)) (@qv _ _ _ _ .B 2 _ (by rfl) (by first | exact Or.inl rfl | exact Or.inr (Or.inl rfl) | exact Or.inr (Or.inr rfl)) (by decide) (by decide)) (by exact fun _ _ => rfl) (by rfl))) (@q_int _ _ _ _ _ _ _) (by exact fun _ _ => rfl) (by rfl))) (@q_anil _ _ _ _) (by rfl)) (by decide) (by decide) (by rfl) (by rfl)) (by rfl) (by first | exact .inl rfl | exact .inr rfl | assumption)) (@q_cons _ _ _ _ _ _ _ _ (@q_set _ _ _ _ _ _ _ _ 3 _ _ _ _ rfl (by first | exact Or.inl rfl | exact Or.inr (Or.inl rfl) | exact Or.inr (Or.inr rfl)) (@q_op _ _ _ _ _ _ _ _ _ _ _ _ _ op_mod (o2_I (C := cMod) (g := gMod) (fun _ _ => rfl) (fun _ _ _ => .int)) (@q_op _ _ _ _ _ _ _ _ _ _ _ _ _ op_fdiv (o2_I (C := CDiv) (g := gDiv) (fun _ _ => rfl) (fun _ _ _ => .int)) (@qv _ _ _ _ .B 1 _ (by rfl) (by first | exact Or.inl rfl | exact Or.inr (Or.inl rfl) | exact Or.inr (Or.inr rfl)) (by decide) (by decide)) (@q_int _ _ _ _ _ _ _)) (@q_cb _ _ _ _ _ _ _ _ _ _ _ _ _ _ K_len b_len (by rfl) B.len_ PySem.boot_len (@q_acons _ _ _ _ _ _ _ _ (@qv _ _ _ _ .B 3 _ (by rfl) (by first | exact Or.inl rfl | exact Or.inr (Or.inl rfl) | exact Or.inr (Or.inr rfl)) (by decide) (by decide)) (@q_anil _ _ _ _) (by rfl)) (by decide) (by decide) (by rfl) (by rfl))) (@q_op _ _ _ _ _ _ _ _ _ _ _ _ _ op_add (o2_I0 (g := gAdd) (fun _ _ => rfl) (fun _ _ _ => .int)) (@q_int _ _ _ _ _ _ _) (@q_op _ _ _ _ _ _ _ _ _ _ _ _ _ op_mod (o2_I (C := cMod) (g := gMod) (fun _ _ => rfl) (fun _ _ _ => .int)) (@q_op _ _ _ _ _ _ _ _ _ _ _ _ _ op_fdiv (o2_I (C := CDiv) (g := gDiv) (fun _ _ => rfl) (fun _ _ _ => .int)) (@qv _ _ _ _ .B 1 _ (by rfl) (by first | exact Or.inl rfl | exact Or.inr (Or.inl rfl) | exact Or.inr (Or.inr rfl)) (by decide) (by decide)) (@q_int _ _ _ _ _ _ _)) (@q_op _ _ _ _ _ _ _ _ _ _ _ _ _ op_sub (o2_I0 (g := gSub) (fun _ _ => rfl) (fun _ _ _ => .int)) (@q_op _ _ _ _ _ _ _ _ _ _ _ _ _ op_pow (o2_I (C := CPow) (g := gPow) (fun _ _ => rfl) (fun _ _ _ => .int)) (@q_int _ _ _ _ _ _ _) (@q_int _ _ _ _ _ _ _)) (@q_int _ _ _ _ _ _ _)))) (by decide) (by decide) (@pg_sub _ _ _ _ _ _ _ (@pv _ 3 _ _ (by rfl) (by first | exact Or.inl rfl | exact Or.inr (Or.inl rfl) | exact Or.inr (Or.inr rfl)) (by decide) (by decide)) (@q_op _ _ _ _ _ _ _ _ _ _ _ _ _ op_mod (o2_I (C := cMod) (g := gMod) (fun _ _ => rfl) (fun _ _ _ => .int)) (@q_op _ _ _ _ _ _ _ _ _ _ _ _ _ op_fdiv (o2_I (C := CDiv) (g := gDiv) (fun _ _ => rfl) (fun _ _ _ => .int)) (@qv _ _ _ _ .B 1 _ (by rfl) (by first | exact Or.inl rfl | exact Or.inr (Or.inl rfl) | exact Or.inr (Or.inr rfl)) (by decide) (by decide)) (@q_int _ _ _ _ _ _ _)) (@q_cb _ _ _ _ _ _ _ _ _ _ _ _ _ _ K_len b_len (by rfl) B.len_ PySem.boot_len (@q_acons _ _ _ _ _ _ _ _ (@qv _ _ _ _ .B 3 _ (by rfl) (by first | exact Or.inl rfl | exact Or.inr (Or.inl rfl) | exact Or.inr (Or.inr rfl)) (by decide) (by decide)) (@q_anil _ _ _ _) (by rfl)) (by decide) (by decide) (by rfl) (by rfl))) set_list (by intro _; rfl)) (by rfl) (by rfl)) (@q_last _ _ _ _ _ _ (@q_ret _ _ _ _ _ _ _ (@q_VU _ _ _ _ _ (@q_FV _ _ _ _ _ (@q_op _ _ _ _ _ _ _ _ _ _ _ _ _ op_cat (o2_cat (c := false)) (@q_CB _ _ _ _ _ (@q_FC _ _ _ _ _ (@q_op _ _ _ _ _ _ _ _ _ _ _ _ _ op_cat (o2_cat (c := false)) (@q_CB _ _ _ _ _ (@q_FC _ _ _ _ _ (@q_sl _ _ _ _ _ _ false _ _ _ _ _ (@qv _ _ _ _ .B 0 _ (by rfl) (by first | exact Or.inl rfl | exact Or.inr (Or.inl rfl) | exact Or.inr (Or.inr rfl)) (by decide) (by decide)) (@q_pN _ _ _) (@q_pS _ _ _ _ _ (@qv _ _ _ _ .B 2 _ (by rfl) (by first | exact Or.inl rfl | exact Or.inr (Or.inl rfl) | exact Or.inr (Or.inr rfl)) (by decide) (by decide))) (by rfl)))) (@q_CB _ _ _ _ _ (@q_FC _ _ _ _ _ (@q_lst _ _ _ _ _ _ (@q_acons _ _ _ _ _ _ _ _ (@q_FV _ _ _ _ _ (@q_tup _ _ _ _ _ _ _ (@q_acons _ _ _ _ _ _ _ _ (@q_FV _ _ _ _ _ (@q_ct _ _ _ _ _ _ _ _ _ _ _ _ _ _ K_tup (b_tup (c := true)) (by rfl) B.tuple_ bt_tuple (@q_acons _ _ _ _ _ _ _ _ (@qv _ _ _ _ .C 3 _ (by rfl) (by first | exact Or.inl rfl | exact Or.inr (Or.inl rfl) | exact Or.inr (Or.inr rfl)) (by decide) (by decide)) (@q_anil _ _ _ _) (by rfl)) (by decide) (by decide) (by rfl) (by rfl))) (@q_acons _ _ _ _ _ _ _ _ (@q_chkV _ _ _ _ _ (@q_ixU _ _ _ _ _ _ _ _ (@q_UB _ _ _ _ _ (@q_ixU _ _ _ _ _ _ _ _ (@qv _ _ _ _ .B 0 _ (by rfl) (by first | exact Or.inl rfl | exact Or.inr (Or.inl rfl) | exact Or.inr (Or.inr rfl)) (by decide) (by decide)) (@qv _ _ _ _ .B 2 _ (by rfl) (by first | exact Or.inl rfl | exact Or.inr (Or.inl rfl) | exact Or.inr (Or.inr rfl)) (by decide) (by decide)) (by exact fun _ _ => rfl) (by rfl))) (@q_int _ _ _ _ _ _ _) (by exact fun _ _ => rfl) (by rfl))) (@q_anil _ _ _ _) (by rfl)) (by rfl)))) (@q_anil _ _ _ _) (by rfl)))))))) (@q_CB _ _ _ _ _ (@q_FC _ _ _ _ _ (@q_sl _ _ _ _ _ _ false _ _ _ _ _ (@qv _ _ _ _ .B 0 _ (by rfl) (by first | exact Or.inl rfl | exact Or.inr (Or.inl rfl) | exact Or.inr (Or.inr rfl)) (by decide) (by decide)) (@q_pS _ _ _ _ _ (@q_op _ _ _ _ _ _ _ _ _ _ _ _ _ op_add (o2_I0 (g := gAdd) (fun _ _ => rfl) (fun _ _ _ => .int)) (@qv _ _ _ _ .B 2 _ (by rfl) (by first | exact Or.inl rfl | exact Or.inr (Or.inl rfl) | exact Or.inr (Or.inr rfl)) (by decide) (by decide)) (@q_int _ _ _ _ _ _ _))) (@q_pN _ _ _) (by rfl))))))))))))),
    c_bodyU (n := 2) (Nl := ["_law_moves", "_law_cell_here", "_law_number", "_law_take"]) h⟩
theorem ok_law_begin {f : Addr} {fd : FuncData} (D : Def K mg "_law_begin" s_law_begin ["_law_script", "_law_many"] f fd) (B : Blt mg) {f_law_cell : Addr} {fd_law_cell : FuncData} (D_law_cell : Def K mg "_law_cell" s_law_cell ["_law_script", "_law_k"] f_law_cell fd_law_cell) (G_law_cell : FnOk P w K mg base CX0 1 f_law_cell fd_law_cell ["_law_script", "_law_k"] (spM K 2 .F (f__law_cell))) : FnOk P w K mg base CX0 2 f fd ["_law_script", "_law_many"] (spM K 2 .F (f__law_begin)) := by
  refine D.F.ok sc_law_begin (fun vs H Q E h => h.1) (fun cdv A outer s H vs Q E hr h => ?_)
  exact ⟨tSt K (fun _ _ => False) .F m__law_begin, (@q_cons _ _ _ _ _ _ _ _ (@q_setF _ _ _ _ _ _ _ 2 _ _ sc_law_begin.nd rfl (by first | exact Or.inl rfl | exact Or.inr rfl) (@q_lst _ _ _ _ _ _ (@q_anil _ _ _ _)) (by rfl) (by first | exact .inl rfl | exact .inr rfl | assumption)) (@q_cons _ _ _ _ _ _ _ _ (@q_for _ _ _ _ _ _ _ _ _ _ _ _ _ PassesOwn.never rfl (@q_rng1 _ _ _ _ _ _ _ _ _ (by rfl) B.range_ (@q_acons _ _ _ _ _ _ _ _ (@qv _ _ _ _ .B 1 _ (by rfl) (by first | exact Or.inl rfl | exact Or.inr (Or.inl rfl) | exact Or.inr (Or.inr rfl)) (by decide) (by decide)) (@q_anil _ _ _ _) (by rfl)) (by rfl)) (@pg_name _ _ 3 _ sc_law_begin.nd rfl (by first | exact Or.inl rfl | exact Or.inr rfl) (by first | exact .inl rfl | exact .inr rfl | assumption)) (@gt_U _ _) (@q_cons _ _ _ _ _ _ _ _ (@q_setF _ _ _ _ _ _ _ 4 _ _ sc_law_begin.nd rfl (by first | exact Or.inl rfl | exact Or.inr rfl) (@q_call _ _ _ _ _ _ _ _ _ _ _ _ _ _ _ _ G_law_cell (.inl rfl) (by exact hr.mono (by decide)) (by rfl) D_law_cell.m D_law_cell.F.kp D_law_cell.b (@q_acons _ _ _ _ _ _ _ _ (@qv _ _ _ _ .B 0 _ (by rfl) (by first | exact Or.inl rfl | exact Or.inr (Or.inl rfl) | exact Or.inr (Or.inr rfl)) (by decide) (by decide)) (@q_acons _ _ _ _ _ _ _ _ (@q_op _ _ _ _ _ _ _ _ _ _ _ _ _ op_add (o2_I0 (g := gAdd) (fun _ _ => rfl) (fun _ _ _ => .int)) (@q_int _ _ _ _ _ _ _) (@qv _ _ _ _ .B 3 _ (by rfl) (by first | exact Or.inl rfl | exact Or.inr (Or.inl rfl) | exact Or.inr (Or.inr rfl)) (by decide) (by decide))) (@q_anil _ _ _ _) (by rfl)) (by rfl)) (by decide) (by rfl) (by rfl)) (by rfl) (by first | exact .inl rfl | exact .inr rfl | assumption)) (@q_last _ _ _ _ _ _ (@q_if_ _ _ _ _ _ _ _ _ _ _ _ (@q_tcmp _ _ _ _ _ _ _ _ _ _ _ _ op_eq o2_eqS (@q_op _ _ _ _ _ _ _ _ _ _ _ _ _ op_mod (o2_I (C := cMod) (g := gMod) (fun _ _ => rfl) (fun _ _ _ => .int)) (@qv _ _ _ _ .B 4 _ (by rfl) (by first | exact Or.inl rfl | exact Or.inr (Or.inl rfl) | exact Or.inr (Or.inr rfl)) (by decide) (by decide)) (@q_int _ _ _ _ _ _ _)) (@q_int _ _ _ _ _ _ _) (by first | exact nomark _ | rfl)) (@q_last _ _ _ _ _ _ (@q_app _ _ _ _ _ _ _ 2 _ _ _ _ rfl (by first | exact Or.inl rfl | exact Or.inr (Or.inl rfl) | exact Or.inr (Or.inr rfl)) (@q_op _ _ _ _ _ _ _ _ _ _ _ _ _ op_mod (o2_I (C := cMod) (g := gMod) (fun _ _ => rfl) (fun _ _ _ => .int)) (@q_op _ _ _ _ _ _ _ _ _ _ _ _ _ op_fdiv (o2_I (C := CDiv) (g := gDiv) (fun _ _ => rfl) (fun _ _ _ => .int)) (@qv _ _ _ _ .B 4 _ (by rfl) (by first | exact Or.inl rfl | exact Or.inr (Or.inl rfl) | exact Or.inr (Or.inr rfl)) (by decide) (by decide)) (@q_int _ _ _ _ _ _ _)) (@q_op _ _ _ _ _ _ _ _ _ _ _ _ _ op_add (o2_I0 (g := gAdd) (fun _ _ => rfl) (fun _ _ _ => .int)) (@q_op _ _ _ _ _ _ _ _ _ _ _ _ _ op_pow (o2_I (C := CPow) (g := gPow) (fun _ _ => rfl) (fun _ _ _ => .int)) (@q_int _ _ _ _ _ _ _) (@q_int _ _ _ _ _ _ _)) (@q_int _ _ _ _ _ _ _))) (by decide) (by decide) (by rfl) (by rfl) (by rfl) (by rfl) (by rfl))) (@q_last _ _ _ _ _ _ (@q_app _ _ _ _ _ _ _ 2 _ _ _ _ rfl (by first | exact Or.inl rfl | exact Or.inr (Or.inl rfl) | exact Or.inr (Or.inr rfl)) (@q_op _ _ _ _ _ _ _ _ _ _ _ _ _ op_mod (o2_I (C := cMod) (g := gMod) (fun _ _ => rfl) (fun _ _ _ => .int)) (@q_op _ _ _ _ _ _ _ _ _ _ _ _ _ op_fdiv (o2_I (C := CDiv) (g := gDiv) (fun _ _ => rfl) (fun _ _ _ => .int)) (@qv _ _ _ _ .B 4 _ (by rfl) (by first | exact Or.inl rfl | exact Or.inr (Or.inl rfl) | exact Or.inr (Or.inr rfl)) (by decide) (by decide)) (@q_int _ _ _ _ _ _ _)) (@q_int _ _ _ _ _ _ _)) (by decide) (by decide) (by rfl) (by rfl) (by rfl) (by rfl) (by rfl)))))) (by intro _; rfl)) (@q_last _ _ _ _ _ _ (@q_ret _ _ _ _ _ _ _ (@q_ct _ _ _ _ _ _ _ _ _ _ _ _ _ _ K_tup (b_tup (c := true)) (by rfl) B.tuple_ bt_tuple (@q_acons _ _ _ _ _ _ _ _ (@qv _ _ _ _ .C 2 _ (by rfl) (by first | exact Or.inl rfl | exact Or.inr (Or.inl rfl) | exact Or.inr (Or.inr rfl)) (by decide) (by decide)) (@q_anil _ _ _ _) (by rfl)) (by decide) (by decide) (by rfl) (by rfl)))))),
    c_body (n := 2) (Nl := ["_law_script", "_law_many", "_law_begin_here", "_law_p", "_law_cell_here"]) (.inl rfl) h⟩
theorem ok_law_all_sets {f : Addr} {fd : FuncData} (D : Def K mg "_law_all_sets" s_law_all_sets ["_law_many"] f fd) (B : Blt mg) : FnOk P w K mg base CX0 1 f fd ["_law_many"] (spM K 1 .F (f__law_all_sets)) := by
  refine D.F.ok sc_law_all_sets (fun vs H Q E h => h.1) (fun cdv A outer s H vs Q E hr h => ?_)
  exact ⟨tSt K (fun _ _ => False) .F m__law_all_sets, (@q_cons _ _ _ _ _ _ _ _ (@q_setF _ _ _ _ _ _ _ 1 _ _ sc_law_all_sets.nd rfl (by first | exact Or.inl rfl | exact Or.inr rfl) (@q_lst _ _ _ _ _ _ (@q_acons _ _ _ _ _ _ _ _ (@q_FV _ _ _ _ _ (@q_tup _ _ _ _ _ _ _ (@q_anil _ _ _ _))) (@q_anil _ _ _ _) (by rfl))) (by rfl) (by first | exact .inl rfl | exact .inr rfl | assumption)) (@q_cons _ _ _ _ _ _ _ _ (@q_for _ _ _ _ _ _ _ _ _ _ _ _ _ PassesOwn.never rfl (@q_rng1 _ _ _ _ _ _ _ _ _ (by rfl) B.range_ (@q_acons _ _ _ _ _ _ _ _ (@qv _ _ _ _ .B 0 _ (by rfl) (by first | exact Or.inl rfl | exact Or.inr (Or.inl rfl) | exact Or.inr (Or.inr rfl)) (by decide) (by decide)) (@q_anil _ _ _ _) (by rfl)) (by rfl)) (@pg_name _ _ 2 _ sc_law_all_sets.nd rfl (by first | exact Or.inl rfl | exact Or.inr rfl) (by first | exact .inl rfl | exact .inr rfl | assumption)) (@gt_U _ _) (@q_last _ _ _ _ _ _ (@q_setF _ _ _ _ _ _ _ 1 _ _ sc_law_all_sets.nd rfl (by first | exact Or.inl rfl | exact Or.inr rfl) (@q_op _ _ _ _ _ _ _ _ _ _ _ _ _ op_cat (o2_cat (c := true)) (@qv _ _ _ _ .C 1 _ (by rfl) (by first | exact Or.inl rfl | exact Or.inr (Or.inl rfl) | exact Or.inr (Or.inr rfl)) (by decide) (by decide)) (@q_FC _ _ _ _ _ (@q_comp _ _ _ _ _ _ _ _ _ _ _ _ _ _ _ _ (show CompScope (defScope s_law_all_sets) _ ["_law_many", "_law_sets", "_law_p"] ["_law_many", "_law_sets", "_law_p", "_law_some"] from ⟨rfl, by decide +kernel, by decide +kernel, by decide +kernel, by decide +kernel, by decide, by decide +kernel, by decide +kernel⟩) rfl (@q_iSqB _ _ _ _ _ _ (@qv _ _ _ _ .B 1 _ (by rfl) (by first | exact Or.inl rfl | exact Or.inr (Or.inl rfl) | exact Or.inr (Or.inr rfl)) (by decide) (by decide)) (by rfl)) (fun _ _ _ _ => (@pg_name _ _ 3 _ (by decide +kernel : (["_law_many", "_law_sets", "_law_p", "_law_some"] : List Str).Nodup) rfl (Or.inl rfl) (.inr rfl))) (@gt_U _ _) (gk_name (show 3 ≤ 3 by decide)) (fun _ _ _ _ => (@q_pifN _ _ _)) (fun _ _ _ _ => (@q_FV _ _ _ _ _ (@q_op _ _ _ _ _ _ _ _ _ _ _ _ _ op_cat3 o2_catT (@qv _ _ _ _ .B 3 _ (by rfl) (by first | exact Or.inl rfl | exact Or.inr (Or.inl rfl) | exact Or.inr (Or.inr rfl)) (by decide) (by decide)) (@q_UB _ _ _ _ _ (@q_tupU _ _ _ _ _ _ _ (@q_acons _ _ _ _ _ _ _ _ (@qv _ _ _ _ .U 2 _ (by rfl) (by first | exact Or.inl rfl | exact Or.inr (Or.inl rfl) | exact Or.inr (Or.inr rfl)) (by decide) (by decide)) (@q_anil _ _ _ _) (by rfl))))))) (by intro _; rfl)))) (by rfl) (by first | exact .inl rfl | exact .inr rfl | assumption))) (by intro _; rfl)) (@q_last _ _ _ _ _ _ (@q_retv _ _ _ _ _ 1 _ _ (.inl rfl) (by rfl) (by first | exact Or.inl rfl | exact Or.inr (Or.inl rfl) | exact Or.inr (Or.inr rfl)) (by decide) (by decide))))),
    c_body (n := 1) (Nl := ["_law_many", "_law_sets", "_law_p"]) (.inl rfl) h⟩
theorem ok_law_inside {f : Addr} {fd : FuncData} (D : Def K mg "_law_inside" s_law_inside ["_law_some", "_law_other"] f fd) (B : Blt mg) : FnOk P w K mg base CX0 1 f fd ["_law_some", "_law_other"] (spM K 2 .F (f__law_inside)) := by
  refine D.F.ok sc_law_inside (fun vs H Q E h => h.1) (fun cdv A outer s H vs Q E hr h => ?_)
  exact ⟨tSt K (fun _ _ => False) .F m__law_inside, (@q_last _ _ _ _ _ _ (@q_ret _ _ _ _ _ _ _ (@q_cmp _ _ _ _ _ _ _ _ _ _ _ _ _ op_eq o2_eqS (@q_cb _ _ _ _ _ _ _ _ _ _ _ _ _ _ K_len b_len (by rfl) B.len_ PySem.boot_len (@q_acons _ _ _ _ _ _ _ _ (@q_CB _ _ _ _ _ (@q_FC _ _ _ _ _ (@q_comp _ _ _ _ _ _ _ _ _ _ _ _ _ _ _ _ (show CompScope (defScope s_law_inside) _ ["_law_some", "_law_other"] ["_law_some", "_law_other", "_law_p"] from ⟨rfl, by decide +kernel, by decide +kernel, by decide +kernel, by decide +kernel, by decide, by decide +kernel, by decide +kernel⟩) rfl (@q_iSqB _ _ _ _ _ _ (@qv _ _ _ _ .B 0 _ (by rfl) (by first | exact Or.inl rfl | exact Or.inr (Or.inl rfl) | exact Or.inr (Or.inr rfl)) (by decide) (by decide)) (by rfl)) (fun _ _ _ _ => (@pg_name _ _ 2 _ (by decide +kernel : (["_law_some", "_law_other", "_law_p"] : List Str).Nodup) rfl (Or.inl rfl) (.inr rfl))) (@gt_U _ _) (gk_name (show 2 ≤ 2 by decide)) (fun _ _ _ _ => (@q_pif1 _ _ _ _ _ (@q_tcmp _ _ _ _ _ _ _ _ _ _ _ _ (op_nin (hu64 hr)) (o2_in (neg := true)) (@qv _ _ _ _ .B 2 _ (by rfl) (by first | exact Or.inl rfl | exact Or.inr (Or.inl rfl) | exact Or.inr (Or.inr rfl)) (by decide) (by decide)) (@qv _ _ _ _ .B 1 _ (by rfl) (by first | exact Or.inl rfl | exact Or.inr (Or.inl rfl) | exact Or.inr (Or.inr rfl)) (by decide) (by decide)) (by first | exact nomark _ | rfl)))) (fun _ _ _ _ => (@qv _ _ _ _ .V 2 _ (by rfl) (by first | exact Or.inl rfl | exact Or.inr (Or.inl rfl) | exact Or.inr (Or.inr rfl)) (by decide) (by decide))) (by intro _; rfl)))) (@q_anil _ _ _ _) (by rfl)) (by decide) (by decide) (by rfl) (by rfl)) (@q_int _ _ _ _ _ _ _) (by first | exact nomark _ | rfl)))),
    c_body (n := 2) (Nl := ["_law_some", "_law_other"]) (.inl rfl) h⟩
theorem ok_law_sum {f : Addr} {fd : FuncData} (D : Def K mg "_law_sum" s_law_sum ["_law_counts", "_law_some"] f fd) (B : Blt mg) : FnOk P w K mg base CX0 1 f fd ["_law_counts", "_law_some"] (spM K 2 .F (f__law_sum)) := by
  refine D.F.ok sc_law_sum (fun vs H Q E h => h.1) (fun cdv A outer s H vs Q E hr h => ?_)
  exact ⟨tSt K (fun _ _ => False) .F m__law_sum, (@q_last _ _ _ _ _ _ (@q_ret _ _ _ _ _ _ _ (@q_cb _ _ _ _ _ _ _ _ _ _ _ _ _ _ (call_sumL rfl) (b_ints (g := gSum)) (by rfl) B.sum_ bt_sum (@q_acons _ _ _ _ _ _ _ _ (@q_CB _ _ _ _ _ (@q_FC _ _ _ _ _ (@q_comp _ _ _ _ _ _ _ _ _ _ _ _ _ _ _ _ (show CompScope (defScope s_law_sum) _ ["_law_counts", "_law_some"] ["_law_counts", "_law_some", "_law_p"] from ⟨rfl, by decide +kernel, by decide +kernel, by decide +kernel, by decide +kernel, by decide, by decide +kernel, by decide +kernel⟩) rfl (@q_iSqB _ _ _ _ _ _ (@qv _ _ _ _ .B 1 _ (by rfl) (by first | exact Or.inl rfl | exact Or.inr (Or.inl rfl) | exact Or.inr (Or.inr rfl)) (by decide) (by decide)) (by rfl)) (fun _ _ _ _ => (@pg_name _ _ 2 _ (by decide +kernel : (["_law_counts", "_law_some", "_law_p"] : List Str).Nodup) rfl (Or.inl rfl) (.inr rfl))) (@gt_U _ _) (gk_name (show 2 ≤ 2 by decide)) (fun _ _ _ _ => (@q_pifN _ _ _)) (fun _ _ _ _ => (@q_chkV _ _ _ _ _ (@q_ixU _ _ _ _ _ _ _ _ (@qv _ _ _ _ .B 0 _ (by rfl) (by first | exact Or.inl rfl | exact Or.inr (Or.inl rfl) | exact Or.inr (Or.inr rfl)) (by decide) (by decide)) (@qv _ _ _ _ .B 2 _ (by rfl) (by first | exact Or.inl rfl | exact Or.inr (Or.inl rfl) | exact Or.inr (Or.inr rfl)) (by decide) (by decide)) (by exact fun _ _ => rfl) (by rfl)))) (by intro _; rfl)))) (@q_anil _ _ _ _) (by rfl)) (by decide) (by decide) (by rfl) (by rfl)))),
    c_body (n := 2) (Nl := ["_law_counts", "_law_some"]) (.inl rfl) h⟩
theorem ok_law_dry {f : Addr} {fd : FuncData} (D : Def K mg "_law_dry" s_law_dry ["_law_moves", "_law_some"] f fd) (B : Blt mg) {f_law_sum : Addr} {fd_law_sum : FuncData} (D_law_sum : Def K mg "_law_sum" s_law_sum ["_law_counts", "_law_some"] f_law_sum fd_law_sum) (G_law_sum : FnOk P w K mg base CX0 1 f_law_sum fd_law_sum ["_law_counts", "_law_some"] (spM K 2 .F (f__law_sum))) : FnOk P w K mg base CX0 2 f fd ["_law_moves", "_law_some"] (spM K 2 .F (f__law_dry)) := by
  refine D.F.ok sc_law_dry (fun vs H Q E h => h.1) (fun cdv A outer s H vs Q E hr h => ?_)
  exact ⟨tSt K (fun _ _ => False) .F m__law_dry, (@q_cons _ _ _ _ _ _ _ _ (@q_for _ _ _ _ _ _ _ _ _ _ _ _ _ PassesOwn.never rfl (@q_iSqU _ _ _ _ _ _ (@qv _ _ _ _ .U 0 _ (by rfl) (by first | exact Or.inl rfl | exact Or.inr (Or.inl rfl) | exact Or.inr (Or.inr rfl)) (by decide) (by decide)) (by rfl)) (@pg_tupK _ K _ _ _ _ 2 rfl (@pgs_cons _ _ _ _ _ (@pg_name _ _ 2 _ sc_law_dry.nd rfl (by first | exact Or.inl rfl | exact Or.inr rfl) (by first | exact .inl rfl | exact .inr rfl | assumption)) (@pgs_cons _ _ _ _ _ (@pg_name _ _ 3 _ sc_law_dry.nd rfl (by first | exact Or.inl rfl | exact Or.inr rfl) (by first | exact .inl rfl | exact .inr rfl | assumption)) (@pgs_nil _) (by rfl)) (by rfl)) (by rfl) (by rfl) (by rfl)) (@gt_tup _ _ _ _ _ (.inr rfl) (@gts_cons _ _ _ _ _ _ (.inr rfl) (@gt_U _ _) (@gts_cons _ _ _ _ _ _ (.inr rfl) (@gt_U _ _) (@gts_nil _ _)))) (@q_last _ _ _ _ _ _ (@q_if_ _ _ _ _ _ _ _ _ _ _ _ (PW.pt (@q_tand _ _ _ _ _ _ _ _ _ (@q_tcmp _ _ _ _ _ _ _ _ _ _ _ _ op_gt (o2_I0 (g := gGt) (fun _ _ => rfl) (fun _ _ _ => .bl)) (@q_CB _ _ _ _ _ (@q_FC _ _ _ _ _ (@q_call _ _ _ _ _ _ _ _ _ _ _ _ _ _ _ _ G_law_sum (.inl rfl) (by exact hr.mono (by decide)) (by rfl) D_law_sum.m D_law_sum.F.kp D_law_sum.b (@q_acons _ _ _ _ _ _ _ _ (@qv _ _ _ _ .B 3 _ (by rfl) (by first | exact Or.inl rfl | exact Or.inr (Or.inl rfl) | exact Or.inr (Or.inr rfl)) (by decide) (by decide)) (@q_acons _ _ _ _ _ _ _ _ (@qv _ _ _ _ .B 1 _ (by rfl) (by first | exact Or.inl rfl | exact Or.inr (Or.inl rfl) | exact Or.inr (Or.inr rfl)) (by decide) (by decide)) (@q_anil _ _ _ _) (by rfl)) (by rfl)) (by decide) (by rfl) (by rfl)))) (@q_int _ _ _ _ _ _ _) (by first | exact nomark _ | rfl)) (@q_tand1 _ _ _ _ _ _ (@q_tcmp _ _ _ _ _ _ _ _ _ _ _ _ op_eq o2_eqS (@q_CB _ _ _ _ _ (@q_FC _ _ _ _ _ (@q_call _ _ _ _ _ _ _ _ _ _ _ _ _ _ _ _ G_law_sum (.inl rfl) (by exact hr.mono (by decide)) (by rfl) D_law_sum.m D_law_sum.F.kp D_law_sum.b (@q_acons _ _ _ _ _ _ _ _ (@qv _ _ _ _ .B 2 _ (by rfl) (by first | exact Or.inl rfl | exact Or.inr (Or.inl rfl) | exact Or.inr (Or.inr rfl)) (by decide) (by decide)) (@q_acons _ _ _ _ _ _ _ _ (@qv _ _ _ _ .B 1 _ (by rfl) (by first | exact Or.inl rfl | exact Or.inr (Or.inl rfl) | exact Or.inr (Or.inr rfl)) (by decide) (by decide)) (@q_anil _ _ _ _) (by rfl)) (by rfl)) (by decide) (by rfl) (by rfl)))) (@q_int _ _ _ _ _ _ _) (by first | exact nomark _ | rfl))))) (@q_last _ _ _ _ _ _ (@q_ret _ _ _ _ _ _ _ (@q_bl _ _ _ _ _ _ _))) (@q_nil _ _ _ _))) (by intro _; rfl)) (@q_last _ _ _ _ _ _ (@q_ret _ _ _ _ _ _ _ (@q_bl _ _ _ _ _ _ _)))),
    c_body (n := 2) (Nl := ["_law_moves", "_law_some", "_law_take", "_law_put"]) (.inl rfl) h⟩
theorem ok_law_wet {f : Addr} {fd : FuncData} (D : Def K mg "_law_wet" s_law_wet ["_law_moves", "_law_some"] f fd) (B : Blt mg) {f_law_sum : Addr} {fd_law_sum : FuncData} (D_law_sum : Def K mg "_law_sum" s_law_sum ["_law_counts", "_law_some"] f_law_sum fd_law_sum) (G_law_sum : FnOk P w K mg base CX0 1 f_law_sum fd_law_sum ["_law_counts", "_law_some"] (spM K 2 .F (f__law_sum))) : FnOk P w K mg base CX0 2 f fd ["_law_moves", "_law_some"] (spM K 2 .F (f__law_wet)) := by
  refine D.F.ok sc_law_wet (fun vs H Q E h => h.1) (fun cdv A outer s H vs Q E hr h => ?_)
  exact ⟨tSt K (fun _ _ => False) .F m__law_wet, (@q_cons _ _ _ _ _ _ _ _ (@q_for _ _ _ _ _ _ _ _ _ _ _ _ _ PassesOwn.never rfl (@q_iSqU _ _ _ _ _ _ (@qv _ _ _ _ .U 0 _ (by rfl) (by first | exact Or.inl rfl | exact Or.inr (Or.inl rfl) | exact Or.inr (Or.inr rfl)) (by decide) (by decide)) (by rfl)) (@pg_tupK _ K _ _ _ _ 2 rfl (@pgs_cons _ _ _ _ _ (@pg_name _ _ 2 _ sc_law_wet.nd rfl (by first | exact Or.inl rfl | exact Or.inr rfl) (by first | exact .inl rfl | exact .inr rfl | assumption)) (@pgs_cons _ _ _ _ _ (@pg_name _ _ 3 _ sc_law_wet.nd rfl (by first | exact Or.inl rfl | exact Or.inr rfl) (by first | exact .inl rfl | exact .inr rfl | assumption)) (@pgs_nil _) (by rfl)) (by rfl)) (by rfl) (by rfl) (by rfl)) (@gt_tup _ _ _ _ _ (.inr rfl) (@gts_cons _ _ _ _ _ _ (.inr rfl) (@gt_U _ _) (@gts_cons _ _ _ _ _ _ (.inr rfl) (@gt_U _ _) (@gts_nil _ _)))) (@q_last _ _ _ _ _ _ (@q_if_ _ _ _ _ _ _ _ _ _ _ _ (PW.pt (@q_tand _ _ _ _ _ _ _ _ _ (@q_tcmp _ _ _ _ _ _ _ _ _ _ _ _ op_gt (o2_I0 (g := gGt) (fun _ _ => rfl) (fun _ _ _ => .bl)) (@q_CB _ _ _ _ _ (@q_FC _ _ _ _ _ (@q_call _ _ _ _ _ _ _ _ _ _ _ _ _ _ _ _ G_law_sum (.inl rfl) (by exact hr.mono (by decide)) (by rfl) D_law_sum.m D_law_sum.F.kp D_law_sum.b (@q_acons _ _ _ _ _ _ _ _ (@qv _ _ _ _ .B 2 _ (by rfl) (by first | exact Or.inl rfl | exact Or.inr (Or.inl rfl) | exact Or.inr (Or.inr rfl)) (by decide) (by decide)) (@q_acons _ _ _ _ _ _ _ _ (@qv _ _ _ _ .B 1 _ (by rfl) (by first | exact Or.inl rfl | exact Or.inr (Or.inl rfl) | exact Or.inr (Or.inr rfl)) (by decide) (by decide)) (@q_anil _ _ _ _) (by rfl)) (by rfl)) (by decide) (by rfl) (by rfl)))) (@q_int _ _ _ _ _ _ _) (by first | exact nomark _ | rfl)) (@q_tand1 _ _ _ _ _ _ (@q_tcmp _ _ _ _ _ _ _ _ _ _ _ _ op_eq o2_eqS (@q_CB _ _ _ _ _ (@q_FC _ _ _ _ _ (@q_call _ _ _ _ _ _ _ _ _ _ _ _ _ _ _ _ G_law_sum (.inl rfl) (by exact hr.mono (by decide)) (by rfl) D_law_sum.m D_law_sum.F.kp D_law_sum.b (@q_acons _ _ _ _ _ _ _ _ (@qv _ _ _ _ .B 3 _ (by rfl) (by first | exact Or.inl rfl | exact Or.inr (Or.inl rfl) | exact Or.inr (Or.inr rfl)) (by decide) (by decide)) (@q_acons _ _ _ _ _ _ _ _ (@qv _ _ _ _ .B 1 _ (by rfl) (by first | exact Or.inl rfl | exact Or.inr (Or.inl rfl) | exact Or.inr (Or.inr rfl)) (by decide) (by decide)) (@q_anil _ _ _ _) (by rfl)) (by rfl)) (by decide) (by rfl) (by rfl)))) (@q_int _ _ _ _ _ _ _) (by first | exact nomark _ | rfl))))) (@q_last _ _ _ _ _ _ (@q_ret _ _ _ _ _ _ _ (@q_bl _ _ _ _ _ _ _))) (@q_nil _ _ _ _))) (by intro _; rfl)) (@q_last _ _ _ _ _ _ (@q_ret _ _ _ _ _ _ _ (@q_bl _ _ _ _ _ _ _)))),
    c_body (n := 2) (Nl := ["_law_moves", "_law_some", "_law_take", "_law_put"]) (.inl rfl) h⟩
theorem ok_law_least {f : Addr} {fd : FuncData} (D : Def K mg "_law_least" s_law_least ["_law_moves", "_law_many"] f fd) (B : Blt mg) {f_law_all_sets : Addr} {fd_law_all_sets : FuncData} (D_law_all_sets : Def K mg "_law_all_sets" s_law_all_sets ["_law_many"] f_law_all_sets fd_law_all_sets) (G_law_all_sets : FnOk P w K mg base CX0 1 f_law_all_sets fd_law_all_sets ["_law_many"] (spM K 1 .F (f__law_all_sets))) {f_law_dry : Addr} {fd_law_dry : FuncData} (D_law_dry : Def K mg "_law_dry" s_law_dry ["_law_moves", "_law_some"] f_law_dry fd_law_dry) (G_law_dry : FnOk P w K mg base CX0 2 f_law_dry fd_law_dry ["_law_moves", "_law_some"] (spM K 2 .F (f__law_dry))) {f_law_inside : Addr} {fd_law_inside : FuncData} (D_law_inside : Def K mg "_law_inside" s_law_inside ["_law_some", "_law_other"] f_law_inside fd_law_inside) (G_law_inside : FnOk P w K mg base CX0 1 f_law_inside fd_law_inside ["_law_some", "_law_other"] (spM K 2 .F (f__law_inside))) : FnOk P w K mg base CX0 3 f fd ["_law_moves", "_law_many"] (spM K 2 .F (f__law_least)) := by
  refine D.F.ok sc_law_least (fun vs H Q E h => h.1) (fun cdv A outer s H vs Q E hr h => ?_)
  exact ⟨tSt K (fun _ _ => False) .F m__law_least, (@q_cons _ _ _ _ _ _ _ _ (@q_setc _ _ _ _ _ _ _ 2 _ _ _ _ _ _ _ _ _ _ _ _ _ (show CompScope (defScope s_law_least) _ ["_law_moves", "_law_many", "_law_dry_here", "_law_fewest", "_law_some"] ["_law_moves", "_law_many", "_law_dry_here", "_law_fewest", "#_law_some", "_law_some"] from ⟨rfl, by decide +kernel, by decide +kernel, by decide +kernel, by decide +kernel, by decide, by decide +kernel, by decide +kernel⟩) rfl (@q_iSqB _ _ _ _ _ _ (@q_CB _ _ _ _ _ (@q_FC _ _ _ _ _ (@q_call _ _ _ _ _ _ _ _ _ _ _ _ _ _ _ _ G_law_all_sets (.inl rfl) (by exact hr.mono (by decide)) (by rfl) D_law_all_sets.m D_law_all_sets.F.kp D_law_all_sets.b (@q_acons _ _ _ _ _ _ _ _ (@qv _ _ _ _ .B 1 _ (by rfl) (by first | exact Or.inl rfl | exact Or.inr (Or.inl rfl) | exact Or.inr (Or.inr rfl)) (by decide) (by decide)) (@q_anil _ _ _ _) (by rfl)) (by decide) (by rfl) (by rfl)))) (by rfl)) (fun _ _ _ _ => (@pg_name _ _ 5 _ (by decide +kernel : (["_law_moves", "_law_many", "_law_dry_here", "_law_fewest", "#_law_some", "_law_some"] : List Str).Nodup) rfl (Or.inl rfl) (.inr rfl))) (@gt_U _ _) (gk_name (show 5 ≤ 5 by decide)) (fun _ _ _ _ => (@q_pif1 _ _ _ _ _ (PW.pt (@q_tand _ _ _ _ _ _ _ _ _ (@q_tcmp _ _ _ _ _ _ _ _ _ _ _ _ (op_neD (hu64 hr)) (o2_eqD (neg := true)) (@qv _ _ _ _ .B 5 _ (by rfl) (by first | exact Or.inl rfl | exact Or.inr (Or.inl rfl) | exact Or.inr (Or.inr rfl)) (by decide) (by decide)) (@q_UB _ _ _ _ _ (@q_tupU _ _ _ _ _ _ _ (@q_anil _ _ _ _))) (by first | exact nomark _ | rfl)) (@q_tand1 _ _ _ _ _ _ (@q_val _ _ _ _ _ (@q_CB _ _ _ _ _ (@q_FC _ _ _ _ _ (@q_call _ _ _ _ _ _ _ _ _ _ _ _ _ _ _ _ G_law_dry (.inl rfl) (by exact hr.mono (by decide)) (by rfl) D_law_dry.m D_law_dry.F.kp D_law_dry.b (@q_acons _ _ _ _ _ _ _ _ (@qv _ _ _ _ .B 0 _ (by rfl) (by first | exact Or.inl rfl | exact Or.inr (Or.inl rfl) | exact Or.inr (Or.inr rfl)) (by decide) (by decide)) (@q_acons _ _ _ _ _ _ _ _ (@qv _ _ _ _ .B 5 _ (by rfl) (by first | exact Or.inl rfl | exact Or.inr (Or.inl rfl) | exact Or.inr (Or.inr rfl)) (by decide) (by decide)) (@q_anil _ _ _ _) (by rfl)) (by rfl)) (by decide) (by rfl) (by rfl)))) (by intro _; rfl))))))) (fun _ _ _ _ => (@qv _ _ _ _ .V 5 _ (by rfl) (by first | exact Or.inl rfl | exact Or.inr (Or.inl rfl) | exact Or.inr (Or.inr rfl)) (by decide) (by decide))) sc_law_least.nd rfl (by first | exact Or.inl rfl | exact Or.inr rfl) (by rfl) (by first | exact .inl rfl | exact .inr rfl | assumption) (by intro _; rfl)) (@q_cons _ _ _ _ _ _ _ _ (@q_setF _ _ _ _ _ _ _ 3 _ _ sc_law_least.nd rfl (by first | exact Or.inl rfl | exact Or.inr rfl) (@q_lst _ _ _ _ _ _ (@q_anil _ _ _ _)) (by rfl) (by first | exact .inl rfl | exact .inr rfl | assumption)) (@q_cons _ _ _ _ _ _ _ _ (@q_frz _ _ _ _ _ _ _ (@q_for _ _ _ _ _ _ _ _ _ _ _ _ _ PassesOwn.never rfl (@q_iSqU _ _ _ _ _ _ (@qv _ _ _ _ .U 2 _ (by rfl) (by first | exact Or.inl rfl | exact Or.inr (Or.inl rfl) | exact Or.inr (Or.inr rfl)) (by decide) (by decide)) (by rfl)) (@pg_name _ _ 4 _ sc_law_least.nd rfl (by first | exact Or.inl rfl | exact Or.inr rfl) (by first | exact .inl rfl | exact .inr rfl | assumption)) (@gt_U _ _) (@q_last _ _ _ _ _ _ (@q_if_ _ _ _ _ _ _ _ _ _ _ _ (@q_tcmp _ _ _ _ _ _ _ _ _ _ _ _ op_eq o2_eqS (@q_cb _ _ _ _ _ _ _ _ _ _ _ _ _ _ K_len b_len (by rfl) B.len_ PySem.boot_len (@q_acons _ _ _ _ _ _ _ _ (@q_CB _ _ _ _ _ (@q_FC _ _ _ _ _ (@q_comp _ _ _ _ _ _ _ _ _ _ _ _ _ _ _ _ (show CompScope (defScope s_law_least) _ ["_law_moves", "_law_many", "_law_dry_here", "_law_fewest", "_law_some"] ["_law_moves", "_law_many", "_law_dry_here", "_law_fewest", "_law_some", "_law_other"] from ⟨rfl, by decide +kernel, by decide +kernel, by decide +kernel, by decide +kernel, by decide, by decide +kernel, by decide +kernel⟩) rfl (@q_iSqB _ _ _ _ _ _ (@qv _ _ _ _ .B 2 _ (by rfl) (by first | exact Or.inl rfl | exact Or.inr (Or.inl rfl) | exact Or.inr (Or.inr rfl)) (by decide) (by decide)) (by rfl)) (fun _ _ _ _ => (@pg_name _ _ 5 _ (by decide +kernel : (["_law_moves", "_law_many", "_law_dry_here", "_law_fewest", "_law_some", "_law_other"] : List Str).Nodup) rfl (Or.inl rfl) (.inr rfl))) (@gt_U _ _) (gk_name (show 5 ≤ 5 by decide)) (fun _ _ _ _ => (@q_pif1 _ _ _ _ _ (PW.pt (@q_tand _ _ _ _ _ _ _ _ _ (@q_tcmp _ _ _ _ _ _ _ _ _ _ _ _ (op_neD (hu64 hr)) (o2_eqD (neg := true)) (@qv _ _ _ _ .B 5 _ (by rfl) (by first | exact Or.inl rfl | exact Or.inr (Or.inl rfl) | exact Or.inr (Or.inr rfl)) (by decide) (by decide)) (@qv _ _ _ _ .B 4 _ (by rfl) (by first | exact Or.inl rfl | exact Or.inr (Or.inl rfl) | exact Or.inr (Or.inr rfl)) (by decide) (by decide)) (by first | exact nomark _ | rfl)) (@q_tand1 _ _ _ _ _ _ (@q_val _ _ _ _ _ (@q_CB _ _ _ _ _ (@q_FC _ _ _ _ _ (@q_call _ _ _ _ _ _ _ _ _ _ _ _ _ _ _ _ G_law_inside (.inl rfl) (by exact hr.mono (by decide)) (by rfl) D_law_inside.m D_law_inside.F.kp D_law_inside.b (@q_acons _ _ _ _ _ _ _ _ (@qv _ _ _ _ .B 5 _ (by rfl) (by first | exact Or.inl rfl | exact Or.inr (Or.inl rfl) | exact Or.inr (Or.inr rfl)) (by decide) (by decide)) (@q_acons _ _ _ _ _ _ _ _ (@qv _ _ _ _ .B 4 _ (by rfl) (by first | exact Or.inl rfl | exact Or.inr (Or.inl rfl) | exact Or.inr (Or.inr rfl)) (by decide) (by decide)) (@q_anil _ _ _ _) (by rfl)) (by rfl)) (by decide) (by rfl) (by rfl)))) (by intro _; rfl))))))) (fun _ _ _ _ => (@qv _ _ _ _ .V 5 _ (by rfl) (by first | exact Or.inl rfl | exact Or.inr (Or.inl rfl) | exact Or.inr (Or.inr rfl)) (by decide) (by decide))) (by intro _; rfl)))) (@q_anil _ _ _ _) (by rfl)) (by decide) (by decide) (by rfl) (by rfl)) (@q_int _ _ _ _ _ _ _) (by first | exact nomark _ | rfl)) (@q_last _ _ _ _ _ _ (@q_app _ _ _ _ _ _ _ 3 _ _ _ _ rfl (by first | exact Or.inl rfl | exact Or.inr (Or.inl rfl) | exact Or.inr (Or.inr rfl)) (@qv _ _ _ _ .V 4 _ (by rfl) (by first | exact Or.inl rfl | exact Or.inr (Or.inl rfl) | exact Or.inr (Or.inr rfl)) (by decide) (by decide)) (by decide) (by decide) (by rfl) (by rfl) (by rfl) (by rfl) (by rfl))) (@q_nil _ _ _ _))) (by intro _; rfl))) (@q_last _ _ _ _ _ _ (@q_ret _ _ _ _ _ _ _ (@q_cb _ _ _ _ _ _ _ _ _ _ _ _ _ _ call_sortT (b_sort (c := true)) (by rfl) B.sorted_ bt_sorted (@q_acons _ _ _ _ _ _ _ _ (@qv _ _ _ _ .C 3 _ (by rfl) (by first | exact Or.inl rfl | exact Or.inr (Or.inl rfl) | exact Or.inr (Or.inr rfl)) (by decide) (by decide)) (@q_anil _ _ _ _) (by rfl)) (by decide) (by decide) (by rfl) (by rfl))))))),
    c_body (n := 2) (Nl := ["_law_moves", "_law_many", "_law_dry_here", "_law_fewest", "_law_some"]) (.inl rfl) h⟩
theorem ok_law_greatest_wet {f : Addr} {fd : FuncData} (D : Def K mg "_law_greatest_wet" s_law_greatest_wet ["_law_moves", "_law_many", "_law_within"] f fd) (B : Blt mg) {f_law_all_sets : Addr} {fd_law_all_sets : FuncData} (D_law_all_sets : Def K mg "_law_all_sets" s_law_all_sets ["_law_many"] f_law_all_sets fd_law_all_sets) (G_law_all_sets : FnOk P w K mg base CX0 1 f_law_all_sets fd_law_all_sets ["_law_many"] (spM K 1 .F (f__law_all_sets))) {f_law_inside : Addr} {fd_law_inside : FuncData} (D_law_inside : Def K mg "_law_inside" s_law_inside ["_law_some", "_law_other"] f_law_inside fd_law_inside) (G_law_inside : FnOk P w K mg base CX0 1 f_law_inside fd_law_inside ["_law_some", "_law_other"] (spM K 2 .F (f__law_inside))) {f_law_wet : Addr} {fd_law_wet : FuncData} (D_law_wet : Def K mg "_law_wet" s_law_wet ["_law_moves", "_law_some"] f_law_wet fd_law_wet) (G_law_wet : FnOk P w K mg base CX0 2 f_law_wet fd_law_wet ["_law_moves", "_law_some"] (spM K 2 .F (f__law_wet))) : FnOk P w K mg base CX0 3 f fd ["_law_moves", "_law_many", "_law_within"] (spM K 3 .F (f__law_greatest_wet)) := by
  refine D.F.ok sc_law_greatest_wet (fun vs H Q E h => h.1) (fun cdv A outer s H vs Q E hr h => ?_)
  exact ⟨tSt K (fun _ _ => False) .F m__law_greatest_wet, (@q_cons _ _ _ _ _ _ _ _ (@q_dnewK _ _ _ _ _ 3 _ _ _ sc_law_greatest_wet.nd rfl (by first | exact Or.inl rfl | exact Or.inr rfl) (by rfl) (by first | exact Or.inl rfl | exact Or.inr rfl)) (@q_cons _ _ _ _ _ _ _ _ (@q_for _ _ _ _ _ _ _ _ _ _ _ _ _ PassesOwn.never rfl (@q_iSqU _ _ _ _ _ _ (@q_VU _ _ _ _ _ (@q_FV _ _ _ _ _ (@q_call _ _ _ _ _ _ _ _ _ _ _ _ _ _ _ _ G_law_all_sets (.inl rfl) (by exact hr.mono (by decide)) (by rfl) D_law_all_sets.m D_law_all_sets.F.kp D_law_all_sets.b (@q_acons _ _ _ _ _ _ _ _ (@qv _ _ _ _ .B 1 _ (by rfl) (by first | exact Or.inl rfl | exact Or.inr (Or.inl rfl) | exact Or.inr (Or.inr rfl)) (by decide) (by decide)) (@q_anil _ _ _ _) (by rfl)) (by decide) (by rfl) (by rfl)))) (by rfl)) (@pg_name _ _ 4 _ sc_law_greatest_wet.nd rfl (by first | exact Or.inl rfl | exact Or.inr rfl) (by first | exact .inl rfl | exact .inr rfl | assumption)) (@gt_U _ _) (@q_last _ _ _ _ _ _ (@q_if_ _ _ _ _ _ _ _ _ _ _ _ (PW.pt (@q_tand _ _ _ _ _ _ _ _ _ (@q_val _ _ _ _ _ (@q_CB _ _ _ _ _ (@q_FC _ _ _ _ _ (@q_call _ _ _ _ _ _ _ _ _ _ _ _ _ _ _ _ G_law_inside (.inl rfl) (by exact hr.mono (by decide)) (by rfl) D_law_inside.m D_law_inside.F.kp D_law_inside.b (@q_acons _ _ _ _ _ _ _ _ (@qv _ _ _ _ .B 4 _ (by rfl) (by first | exact Or.inl rfl | exact Or.inr (Or.inl rfl) | exact Or.inr (Or.inr rfl)) (by decide) (by decide)) (@q_acons _ _ _ _ _ _ _ _ (@qv _ _ _ _ .B 2 _ (by rfl) (by first | exact Or.inl rfl | exact Or.inr (Or.inl rfl) | exact Or.inr (Or.inr rfl)) (by decide) (by decide)) (@q_anil _ _ _ _) (by rfl)) (by rfl)) (by decide) (by rfl) (by rfl)))) (by intro _; rfl)) (@q_tand1 _ _ _ _ _ _ (@q_val _ _ _ _ _ (@q_CB _ _ _ _ _ (@q_FC _ _ _ _ _ (@q_call _ _ _ _ _ _ _ _ _ _ _ _ _ _ _ _ G_law_wet (.inl rfl) (by exact hr.mono (by decide)) (by rfl) D_law_wet.m D_law_wet.F.kp D_law_wet.b (@q_acons _ _ _ _ _ _ _ _ (@qv _ _ _ _ .B 0 _ (by rfl) (by first | exact Or.inl rfl | exact Or.inr (Or.inl rfl) | exact Or.inr (Or.inr rfl)) (by decide) (by decide)) (@q_acons _ _ _ _ _ _ _ _ (@qv _ _ _ _ .B 4 _ (by rfl) (by first | exact Or.inl rfl | exact Or.inr (Or.inl rfl) | exact Or.inr (Or.inr rfl)) (by decide) (by decide)) (@q_anil _ _ _ _) (by rfl)) (by rfl)) (by decide) (by rfl) (by rfl)))) (by intro _; rfl))))) (@q_last _ _ _ _ _ _ (@q_for _ _ _ _ _ _ _ _ _ _ _ _ _ PassesOwn.never rfl (@q_iSqU _ _ _ _ _ _ (@qv _ _ _ _ .U 4 _ (by rfl) (by first | exact Or.inl rfl | exact Or.inr (Or.inl rfl) | exact Or.inr (Or.inr rfl)) (by decide) (by decide)) (by rfl)) (@pg_name _ _ 5 _ sc_law_greatest_wet.nd rfl (by first | exact Or.inl rfl | exact Or.inr rfl) (by first | exact .inl rfl | exact .inr rfl | assumption)) (@gt_U _ _) (@q_last _ _ _ _ _ _ (@q_dputK _ _ _ _ _ _ _ _ _ 3 _ _ _ (hu64 hr) rfl (by first | exact Or.inl rfl | exact Or.inr (Or.inl rfl) | exact Or.inr (Or.inr rfl)) (@qv _ _ _ _ .B 5 _ (by rfl) (by first | exact Or.inl rfl | exact Or.inr (Or.inl rfl) | exact Or.inr (Or.inr rfl)) (by decide) (by decide)) (@q_bl _ _ _ _ _ _ _) (by decide) (by decide) (by rfl))) (by intro _; rfl))) (@q_nil _ _ _ _))) (by intro _; rfl)) (@q_last _ _ _ _ _ _ (@q_ret _ _ _ _ _ _ _ (@q_ct _ _ _ _ _ _ _ _ _ _ _ _ _ _ K_tup (b_tup (c := true)) (by rfl) B.tuple_ bt_tuple (@q_acons _ _ _ _ _ _ _ _ (@q_FC _ _ _ _ _ (@q_comp _ _ _ _ _ _ _ _ _ _ _ _ _ _ _ _ (show CompScope (defScope s_law_greatest_wet) _ ["_law_moves", "_law_many", "_law_within", "_law_members", "_law_some", "_law_p"] ["_law_moves", "_law_many", "_law_within", "_law_members", "_law_some", "#_law_p", "_law_p"] from ⟨rfl, by decide +kernel, by decide +kernel, by decide +kernel, by decide +kernel, by decide, by decide +kernel, by decide +kernel⟩) rfl (@q_rng1 _ _ _ _ _ _ _ _ _ (by rfl) B.range_ (@q_acons _ _ _ _ _ _ _ _ (@qv _ _ _ _ .B 1 _ (by rfl) (by first | exact Or.inl rfl | exact Or.inr (Or.inl rfl) | exact Or.inr (Or.inr rfl)) (by decide) (by decide)) (@q_anil _ _ _ _) (by rfl)) (by rfl)) (fun _ _ _ _ => (@pg_name _ _ 6 _ (by decide +kernel : (["_law_moves", "_law_many", "_law_within", "_law_members", "_law_some", "#_law_p", "_law_p"] : List Str).Nodup) rfl (Or.inl rfl) (.inr rfl))) (@gt_U _ _) (gk_name (show 6 ≤ 6 by decide)) (fun _ _ _ _ => (@q_pif1 _ _ _ _ _ (@q_dinK _ _ _ _ _ _ 3 _ _ (hu64 hr) rfl (by first | exact Or.inl rfl | exact Or.inr (Or.inl rfl) | exact Or.inr (Or.inr rfl)) (@qv _ _ _ _ .B 6 _ (by rfl) (by first | exact Or.inl rfl | exact Or.inr (Or.inl rfl) | exact Or.inr (Or.inr rfl)) (by decide) (by decide)) (by decide) (by decide) (by rfl)))) (fun _ _ _ _ => (@qv _ _ _ _ .V 6 _ (by rfl) (by first | exact Or.inl rfl | exact Or.inr (Or.inl rfl) | exact Or.inr (Or.inr rfl)) (by decide) (by decide))) (by intro _; rfl))) (@q_anil _ _ _ _) (by rfl)) (by decide) (by decide) (by rfl) (by rfl)))))),
    c_body (n := 3) (Nl := ["_law_moves", "_law_many", "_law_within", "_law_members", "_law_some", "_law_p"]) (.inl rfl) h⟩
theorem ok_law_due {f : Addr} {fd : FuncData} (D : Def K mg "_law_due" s_law_due ["_law_begin_here", "_law_moves"] f fd) (B : Blt mg) {f_law_least : Addr} {fd_law_least : FuncData} (D_law_least : Def K mg "_law_least" s_law_least ["_law_moves", "_law_many"] f_law_least fd_law_least) (G_law_least : FnOk P w K mg base CX0 3 f_law_least fd_law_least ["_law_moves", "_law_many"] (spM K 2 .F (f__law_least))) {f_law_greatest_wet : Addr} {fd_law_greatest_wet : FuncData} (D_law_greatest_wet : Def K mg "_law_greatest_wet" s_law_greatest_wet ["_law_moves", "_law_many", "_law_within"] f_law_greatest_wet fd_law_greatest_wet) (G_law_greatest_wet : FnOk P w K mg base CX0 3 f_law_greatest_wet fd_law_greatest_wet ["_law_moves", "_law_many", "_law_within"] (spM K 3 .F (f__law_greatest_wet))) {f_law_sum : Addr} {fd_law_sum : FuncData} (D_law_sum : Def K mg "_law_sum" s_law_sum ["_law_counts", "_law_some"] f_law_sum fd_law_sum) (G_law_sum : FnOk P w K mg base CX0 1 f_law_sum fd_law_sum ["_law_counts", "_law_some"] (spM K 2 .F (f__law_sum))) : FnOk P w K mg base CX0 4 f fd ["_law_begin_here", "_law_moves"] (spM K 2 .F (f__law_due)) := by
  refine D.F.ok sc_law_due (fun vs H Q E h => h.1) (fun cdv A outer s H vs Q E hr h => ?_)
  exact ⟨tSt K (fun _ _ => False) .F m__law_due, (@q_cons _ _ _ _ _ _ _ _ (@q_if_ _ _ _ _ _ _ _ _ _ _ _ (PW.pt (@q_tor _ _ _ _ _ _ _ _ _ (@q_tcmp _ _ _ _ _ _ _ _ _ _ _ _ op_eq o2_eqS (@q_cb _ _ _ _ _ _ _ _ _ _ _ _ _ _ K_len b_len (by rfl) B.len_ PySem.boot_len (@q_acons _ _ _ _ _ _ _ _ (@qv _ _ _ _ .B 1 _ (by rfl) (by first | exact Or.inl rfl | exact Or.inr (Or.inl rfl) | exact Or.inr (Or.inr rfl)) (by decide) (by decide)) (@q_anil _ _ _ _) (by rfl)) (by decide) (by decide) (by rfl) (by rfl)) (@q_int _ _ _ _ _ _ _) (by first | exact nomark _ | rfl)) (@q_tor1 _ _ _ _ _ _ (@q_tcmp _ _ _ _ _ _ _ _ _ _ _ _ op_gt (o2_I0 (g := gGt) (fun _ _ => rfl) (fun _ _ _ => .bl)) (@q_cb _ _ _ _ _ _ _ _ _ _ _ _ _ _ (call_maxQ rfl) (b_best (g := maxL)) (by rfl) B.max_ bt_max (@q_acons _ _ _ _ _ _ _ _ (@q_CB _ _ _ _ _ (@q_FC _ _ _ _ _ (@q_comp _ _ _ _ _ _ _ _ _ _ _ _ _ _ _ _ (show CompScope (defScope s_law_due) _ ["_law_begin_here", "_law_moves", "_law_pairs", "_law_some", "_law_wet_here"] ["_law_begin_here", "_law_moves", "_law_pairs", "_law_some", "_law_wet_here", "_law_take", "_law_put"] from ⟨rfl, by decide +kernel, by decide +kernel, by decide +kernel, by decide +kernel, by decide, by decide +kernel, by decide +kernel⟩) rfl (@q_iSqB _ _ _ _ _ _ (@qv _ _ _ _ .B 1 _ (by rfl) (by first | exact Or.inl rfl | exact Or.inr (Or.inl rfl) | exact Or.inr (Or.inr rfl)) (by decide) (by decide)) (by rfl)) (fun _ _ _ _ => (@pg_tupK _ K _ _ _ _ 2 rfl (@pgs_cons _ _ _ _ _ (@pg_name _ _ 5 _ (by decide +kernel : (["_law_begin_here", "_law_moves", "_law_pairs", "_law_some", "_law_wet_here", "_law_take", "_law_put"] : List Str).Nodup) rfl (Or.inl rfl) (.inr rfl)) (@pgs_cons _ _ _ _ _ (@pg_name _ _ 6 _ (by decide +kernel : (["_law_begin_here", "_law_moves", "_law_pairs", "_law_some", "_law_wet_here", "_law_take", "_law_put"] : List Str).Nodup) rfl (Or.inl rfl) (.inr rfl)) (@pgs_nil _) (by rfl)) (by rfl)) (by rfl) (by rfl) (by rfl))) (@gt_tup _ _ _ _ _ (.inr rfl) (@gts_cons _ _ _ _ _ _ (.inr rfl) (@gt_U _ _) (@gts_cons _ _ _ _ _ _ (.inr rfl) (@gt_U _ _) (@gts_nil _ _)))) (gk_tup (gk_cons (show 5 ≤ 5 by decide) (gk_cons (show 5 ≤ 6 by decide) gk_nil))) (fun _ _ _ _ => (@q_pifN _ _ _)) (fun _ _ _ _ => (@q_cb _ _ _ _ _ _ _ _ _ _ _ _ _ _ (call_maxQ rfl) (b_best (g := maxL)) (by rfl) B.max_ bt_max (@q_acons _ _ _ _ _ _ _ _ (@qv _ _ _ _ .B 5 _ (by rfl) (by first | exact Or.inl rfl | exact Or.inr (Or.inl rfl) | exact Or.inr (Or.inr rfl)) (by decide) (by decide)) (@q_anil _ _ _ _) (by rfl)) (by decide) (by decide) (by rfl) (by rfl))) (by intro _; rfl)))) (@q_anil _ _ _ _) (by rfl)) (by decide) (by decide) (by rfl) (by rfl)) (@q_int _ _ _ _ _ _ _) (by first | exact nomark _ | rfl))))) (@q_last _ _ _ _ _ _ (@q_ret _ _ _ _ _ _ _ (@q_non _ _ _ _ _ _))) (@q_nil _ _ _ _)) (@q_cons _ _ _ _ _ _ _ _ (@q_setF _ _ _ _ _ _ _ 2 _ _ sc_law_due.nd rfl (by first | exact Or.inl rfl | exact Or.inr rfl) (@q_lst _ _ _ _ _ _ (@q_anil _ _ _ _)) (by rfl) (by first | exact .inl rfl | exact .inr rfl | assumption)) (@q_cons _ _ _ _ _ _ _ _ (@q_for _ _ _ _ _ _ _ _ _ _ _ _ _ PassesOwn.never rfl (@q_iSqU _ _ _ _ _ _ (@q_VU _ _ _ _ _ (@q_FV _ _ _ _ _ (@q_call _ _ _ _ _ _ _ _ _ _ _ _ _ _ _ _ G_law_least (.inl rfl) (by exact hr.mono (by decide)) (by rfl) D_law_least.m D_law_least.F.kp D_law_least.b (@q_acons _ _ _ _ _ _ _ _ (@qv _ _ _ _ .B 1 _ (by rfl) (by first | exact Or.inl rfl | exact Or.inr (Or.inl rfl) | exact Or.inr (Or.inr rfl)) (by decide) (by decide)) (@q_acons _ _ _ _ _ _ _ _ (@q_cb _ _ _ _ _ _ _ _ _ _ _ _ _ _ K_len b_len (by rfl) B.len_ PySem.boot_len (@q_acons _ _ _ _ _ _ _ _ (@qv _ _ _ _ .B 0 _ (by rfl) (by first | exact Or.inl rfl | exact Or.inr (Or.inl rfl) | exact Or.inr (Or.inr rfl)) (by decide) (by decide)) (@q_anil _ _ _ _) (by rfl)) (by decide) (by decide) (by rfl) (by rfl)) (@q_anil _ _ _ _) (by rfl)) (by rfl)) (by decide) (by rfl) (by rfl)))) (by rfl)) (@pg_name _ _ 3 _ sc_law_due.nd rfl (by first | exact Or.inl rfl | exact Or.inr rfl) (by first | exact .inl rfl | exact .inr rfl | assumption)) (@gt_U _ _) (@q_cons _ _ _ _ _ _ _ _ (@q_setF _ _ _ _ _ _ _ 4 _ _ sc_law_due.nd rfl (by first | exact Or.inl rfl | exact Or.inr rfl) (@q_call _ _ _ _ _ _ _ _ _ _ _ _ _ _ _ _ G_law_greatest_wet (.inl rfl) (by exact hr.mono (by decide)) (by rfl) D_law_greatest_wet.m D_law_greatest_wet.F.kp D_law_greatest_wet.b (@q_acons _ _ _ _ _ _ _ _ (@qv _ _ _ _ .B 1 _ (by rfl) (by first | exact Or.inl rfl | exact Or.inr (Or.inl rfl) | exact Or.inr (Or.inr rfl)) (by decide) (by decide)) (@q_acons _ _ _ _ _ _ _ _ (@q_cb _ _ _ _ _ _ _ _ _ _ _ _ _ _ K_len b_len (by rfl) B.len_ PySem.boot_len (@q_acons _ _ _ _ _ _ _ _ (@qv _ _ _ _ .B 0 _ (by rfl) (by first | exact Or.inl rfl | exact Or.inr (Or.inl rfl) | exact Or.inr (Or.inr rfl)) (by decide) (by decide)) (@q_anil _ _ _ _) (by rfl)) (by decide) (by decide) (by rfl) (by rfl)) (@q_acons _ _ _ _ _ _ _ _ (@qv _ _ _ _ .B 3 _ (by rfl) (by first | exact Or.inl rfl | exact Or.inr (Or.inl rfl) | exact Or.inr (Or.inr rfl)) (by decide) (by decide)) (@q_anil _ _ _ _) (by rfl)) (by rfl)) (by rfl)) (by decide) (by rfl) (by rfl)) (by rfl) (by first | exact .inl rfl | exact .inr rfl | assumption)) (@q_cons _ _ _ _ _ _ _ _ (@q_if_ _ _ _ _ _ _ _ _ _ _ _ (@q_tcmp _ _ _ _ _ _ _ _ _ _ _ _ op_eq o2_eqS (@q_CB _ _ _ _ _ (@q_FC _ _ _ _ _ (@q_call _ _ _ _ _ _ _ _ _ _ _ _ _ _ _ _ G_law_sum (.inl rfl) (by exact hr.mono (by decide)) (by rfl) D_law_sum.m D_law_sum.F.kp D_law_sum.b (@q_acons _ _ _ _ _ _ _ _ (@qv _ _ _ _ .B 0 _ (by rfl) (by first | exact Or.inl rfl | exact Or.inr (Or.inl rfl) | exact Or.inr (Or.inr rfl)) (by decide) (by decide)) (@q_acons _ _ _ _ _ _ _ _ (@qv _ _ _ _ .B 4 _ (by rfl) (by first | exact Or.inl rfl | exact Or.inr (Or.inl rfl) | exact Or.inr (Or.inr rfl)) (by decide) (by decide)) (@q_anil _ _ _ _) (by rfl)) (by rfl)) (by decide) (by rfl) (by rfl)))) (@q_int _ _ _ _ _ _ _) (by first | exact nomark _ | rfl)) (@q_last _ _ _ _ _ _ (@q_ret _ _ _ _ _ _ _ (@q_non _ _ _ _ _ _))) (@q_nil _ _ _ _)) (@q_last _ _ _ _ _ _ (@q_frz _ _ _ _ _ _ _ (@q_app _ _ _ _ _ _ _ 2 _ _ _ _ rfl (by first | exact Or.inl rfl | exact Or.inr (Or.inl rfl) | exact Or.inr (Or.inr rfl)) (@q_FV _ _ _ _ _ (@q_tup _ _ _ _ _ _ _ (@q_acons _ _ _ _ _ _ _ _ (@qv _ _ _ _ .V 3 _ (by rfl) (by first | exact Or.inl rfl | exact Or.inr (Or.inl rfl) | exact Or.inr (Or.inr rfl)) (by decide) (by decide)) (@q_acons _ _ _ _ _ _ _ _ (@qv _ _ _ _ .V 4 _ (by rfl) (by first | exact Or.inl rfl | exact Or.inr (Or.inl rfl) | exact Or.inr (Or.inr rfl)) (by decide) (by decide)) (@q_anil _ _ _ _) (by rfl)) (by rfl)))) (by decide) (by decide) (by rfl) (by rfl) (by rfl) (by rfl) (by rfl)))))) (by intro _; rfl)) (@q_last _ _ _ _ _ _ (@q_retv _ _ _ _ _ 2 _ _ (.inl rfl) (by rfl) (by first | exact Or.inl rfl | exact Or.inr (Or.inl rfl) | exact Or.inr (Or.inr rfl)) (by decide) (by decide)))))),
    c_body (n := 2) (Nl := ["_law_begin_here", "_law_moves", "_law_pairs", "_law_some", "_law_wet_here"]) (.inl rfl) h⟩
theorem ok_law_set_told {f : Addr} {fd : FuncData} (D : Def K mg "_law_set_told" s_law_set_told ["_law_found"] f fd) (B : Blt mg) : FnOk P w K mg base CX0 1 f fd ["_law_found"] (spM K 1 .F (f__law_set_told)) := by
  refine D.F.ok sc_law_set_told (fun vs H Q E h => h.1) (fun cdv A outer s H vs Q E hr h => ?_)
  exact ⟨tSt K (fun _ _ => False) .F m__law_set_told, (@q_cons _ _ _ _ _ _ _ _ (@q_if_ _ _ _ _ _ _ _ _ _ _ _ (@q_tnot _ _ _ _ _ _ (@q_val _ _ _ _ _ (@q_cb _ _ _ _ _ _ _ _ _ _ _ _ _ _ call_isi b_isi (by rfl) B.isinstance_ PyProof.Rows.boot_isinstance (@q_acons _ _ _ _ _ _ _ _ (@qv _ _ _ _ .B 0 _ (by rfl) (by first | exact Or.inl rfl | exact Or.inr (Or.inl rfl) | exact Or.inr (Or.inr rfl)) (by decide) (by decide)) (@q_acons _ _ _ _ _ _ _ _ (@q_ty _ _ _ _ _ _ _ (by rfl) B.tuple_ bt_tuple (by decide) (by decide)) (@q_anil _ _ _ _) (by rfl)) (by rfl)) (by decide) (by decide) (by rfl) (by rfl)) (by intro _; rfl))) (@q_last _ _ _ _ _ _ (@q_ret _ _ _ _ _ _ _ (@q_bl _ _ _ _ _ _ _))) (@q_nil _ _ _ _)) (@q_last _ _ _ _ _ _ (@q_ret _ _ _ _ _ _ _ (@q_cmp _ _ _ _ _ _ _ _ _ _ _ _ _ op_eq o2_eqS (@q_cb _ _ _ _ _ _ _ _ _ _ _ _ _ _ K_len b_len (by rfl) B.len_ PySem.boot_len (@q_acons _ _ _ _ _ _ _ _ (@q_CB _ _ _ _ _ (@q_FC _ _ _ _ _ (@q_comp _ _ _ _ _ _ _ _ _ _ _ _ _ _ _ _ (show CompScope (defScope s_law_set_told) _ ["_law_found"] ["_law_found", "_law_p"] from ⟨rfl, by decide +kernel, by decide +kernel, by decide +kernel, by decide +kernel, by decide, by decide +kernel, by decide +kernel⟩) rfl (@q_iSqB _ _ _ _ _ _ (@qv _ _ _ _ .B 0 _ (by rfl) (by first | exact Or.inl rfl | exact Or.inr (Or.inl rfl) | exact Or.inr (Or.inr rfl)) (by decide) (by decide)) (by rfl)) (fun _ _ _ _ => (@pg_name _ _ 1 _ (by decide +kernel : (["_law_found", "_law_p"] : List Str).Nodup) rfl (Or.inl rfl) (.inr rfl))) (@gt_U _ _) (gk_name (show 1 ≤ 1 by decide)) (fun _ _ _ _ => (@q_pif1 _ _ _ _ _ (PW.pt (@q_tor _ _ _ _ _ _ _ _ _ (@q_tnot _ _ _ _ _ _ (@q_val _ _ _ _ _ (@q_cb _ _ _ _ _ _ _ _ _ _ _ _ _ _ call_isi b_isi (by rfl) B.isinstance_ PyProof.Rows.boot_isinstance (@q_acons _ _ _ _ _ _ _ _ (@qv _ _ _ _ .B 1 _ (by rfl) (by first | exact Or.inl rfl | exact Or.inr (Or.inl rfl) | exact Or.inr (Or.inr rfl)) (by decide) (by decide)) (@q_acons _ _ _ _ _ _ _ _ (@q_ty _ _ _ _ _ _ _ (by rfl) B.int_ bt_int (by decide) (by decide)) (@q_anil _ _ _ _) (by rfl)) (by rfl)) (by decide) (by decide) (by rfl) (by rfl)) (by intro _; rfl))) (@q_tor1 _ _ _ _ _ _ (@q_val _ _ _ _ _ (@q_cb _ _ _ _ _ _ _ _ _ _ _ _ _ _ call_isi b_isi (by rfl) B.isinstance_ PyProof.Rows.boot_isinstance (@q_acons _ _ _ _ _ _ _ _ (@qv _ _ _ _ .B 1 _ (by rfl) (by first | exact Or.inl rfl | exact Or.inr (Or.inl rfl) | exact Or.inr (Or.inr rfl)) (by decide) (by decide)) (@q_acons _ _ _ _ _ _ _ _ (@q_ty _ _ _ _ _ _ _ (by rfl) B.bool_ bt_bool (by decide) (by decide)) (@q_anil _ _ _ _) (by rfl)) (by rfl)) (by decide) (by decide) (by rfl) (by rfl)) (by intro _; rfl))))))) (fun _ _ _ _ => (@qv _ _ _ _ .V 1 _ (by rfl) (by first | exact Or.inl rfl | exact Or.inr (Or.inl rfl) | exact Or.inr (Or.inr rfl)) (by decide) (by decide))) (by intro _; rfl)))) (@q_anil _ _ _ _) (by rfl)) (by decide) (by decide) (by rfl) (by rfl)) (@q_int _ _ _ _ _ _ _) (by first | exact nomark _ | rfl))))),
    c_body (n := 1) (Nl := ["_law_found"]) (.inl rfl) h⟩
theorem ok_law_right {f : Addr} {fd : FuncData} (D : Def K mg "_law_right" s_law_right ["_law_found", "_law_due_here"] f fd) (B : Blt mg) {f_law_set_told : Addr} {fd_law_set_told : FuncData} (D_law_set_told : Def K mg "_law_set_told" s_law_set_told ["_law_found"] f_law_set_told fd_law_set_told) (G_law_set_told : FnOk P w K mg base CX0 1 f_law_set_told fd_law_set_told ["_law_found"] (spM K 1 .F (f__law_set_told))) : FnOk P w K mg base CX0 2 f fd ["_law_found", "_law_due_here"] (spM K 2 .F (f__law_right)) := by
  refine D.F.ok sc_law_right (fun vs H Q E h => h.1) (fun cdv A outer s H vs Q E hr h => ?_)
  exact ⟨tSt K (fun _ _ => False) .F m__law_right, (@q_cons _ _ _ _ _ _ _ _ (@q_if_ _ _ _ _ _ _ _ _ _ _ _ (@q_tcmp _ _ _ _ _ _ _ _ _ _ _ _ op_isN o2_isN (@qv _ _ _ _ .B 1 _ (by rfl) (by first | exact Or.inl rfl | exact Or.inr (Or.inl rfl) | exact Or.inr (Or.inr rfl)) (by decide) (by decide)) (@q_non _ _ _ _ _ _) (by first | exact nomark _ | rfl)) (@q_last _ _ _ _ _ _ (@q_ret _ _ _ _ _ _ _ (@q_cmp _ _ _ _ _ _ _ _ _ _ _ _ _ op_isN o2_isN (@qv _ _ _ _ .B 0 _ (by rfl) (by first | exact Or.inl rfl | exact Or.inr (Or.inl rfl) | exact Or.inr (Or.inr rfl)) (by decide) (by decide)) (@q_non _ _ _ _ _ _) (by first | exact nomark _ | rfl)))) (@q_nil _ _ _ _)) (@q_cons _ _ _ _ _ _ _ _ (@q_if_ _ _ _ _ _ _ _ _ _ _ _ (PW.pt (@q_tor _ _ _ _ _ _ _ _ _ (@q_tnot _ _ _ _ _ _ (@q_val _ _ _ _ _ (@q_cb _ _ _ _ _ _ _ _ _ _ _ _ _ _ call_isi b_isi (by rfl) B.isinstance_ PyProof.Rows.boot_isinstance (@q_acons _ _ _ _ _ _ _ _ (@qv _ _ _ _ .B 0 _ (by rfl) (by first | exact Or.inl rfl | exact Or.inr (Or.inl rfl) | exact Or.inr (Or.inr rfl)) (by decide) (by decide)) (@q_acons _ _ _ _ _ _ _ _ (@q_ty _ _ _ _ _ _ _ (by rfl) B.list_ bt_list (by decide) (by decide)) (@q_anil _ _ _ _) (by rfl)) (by rfl)) (by decide) (by decide) (by rfl) (by rfl)) (by intro _; rfl))) (@q_tor1 _ _ _ _ _ _ (@q_tcmp _ _ _ _ _ _ _ _ _ _ _ _ op_ne o2_neS (@q_cb _ _ _ _ _ _ _ _ _ _ _ _ _ _ K_len b_len (by rfl) B.len_ PySem.boot_len (@q_acons _ _ _ _ _ _ _ _ (@qv _ _ _ _ .B 0 _ (by rfl) (by first | exact Or.inl rfl | exact Or.inr (Or.inl rfl) | exact Or.inr (Or.inr rfl)) (by decide) (by decide)) (@q_anil _ _ _ _) (by rfl)) (by decide) (by decide) (by rfl) (by rfl)) (@q_cb _ _ _ _ _ _ _ _ _ _ _ _ _ _ K_len b_len (by rfl) B.len_ PySem.boot_len (@q_acons _ _ _ _ _ _ _ _ (@qv _ _ _ _ .B 1 _ (by rfl) (by first | exact Or.inl rfl | exact Or.inr (Or.inl rfl) | exact Or.inr (Or.inr rfl)) (by decide) (by decide)) (@q_anil _ _ _ _) (by rfl)) (by decide) (by decide) (by rfl) (by rfl)) (by first | exact nomark _ | rfl))))) (@q_last _ _ _ _ _ _ (@q_ret _ _ _ _ _ _ _ (@q_bl _ _ _ _ _ _ _))) (@q_nil _ _ _ _)) (@q_cons _ _ _ _ _ _ _ _ (@q_for _ _ _ _ _ _ _ _ _ _ _ _ _ PassesOwn.never rfl (@q_iSqU _ _ _ _ _ _ (@qv _ _ _ _ .U 0 _ (by rfl) (by first | exact Or.inl rfl | exact Or.inr (Or.inl rfl) | exact Or.inr (Or.inr rfl)) (by decide) (by decide)) (by rfl)) (@pg_name _ _ 2 _ sc_law_right.nd rfl (by first | exact Or.inl rfl | exact Or.inr rfl) (by first | exact .inl rfl | exact .inr rfl | assumption)) (@gt_U _ _) (@q_cons _ _ _ _ _ _ _ _ (@q_if_ _ _ _ _ _ _ _ _ _ _ _ (PW.pt (@q_tor _ _ _ _ _ _ _ _ _ (@q_tnot _ _ _ _ _ _ (@q_val _ _ _ _ _ (@q_cb _ _ _ _ _ _ _ _ _ _ _ _ _ _ call_isi b_isi (by rfl) B.isinstance_ PyProof.Rows.boot_isinstance (@q_acons _ _ _ _ _ _ _ _ (@qv _ _ _ _ .B 2 _ (by rfl) (by first | exact Or.inl rfl | exact Or.inr (Or.inl rfl) | exact Or.inr (Or.inr rfl)) (by decide) (by decide)) (@q_acons _ _ _ _ _ _ _ _ (@q_ty _ _ _ _ _ _ _ (by rfl) B.tuple_ bt_tuple (by decide) (by decide)) (@q_anil _ _ _ _) (by rfl)) (by rfl)) (by decide) (by decide) (by rfl) (by rfl)) (by intro _; rfl))) (@q_tor1 _ _ _ _ _ _ (@q_tcmp _ _ _ _ _ _ _ _ _ _ _ _ op_ne o2_neS (@q_cb _ _ _ _ _ _ _ _ _ _ _ _ _ _ K_len b_len (by rfl) B.len_ PySem.boot_len (@q_acons _ _ _ _ _ _ _ _ (@qv _ _ _ _ .B 2 _ (by rfl) (by first | exact Or.inl rfl | exact Or.inr (Or.inl rfl) | exact Or.inr (Or.inr rfl)) (by decide) (by decide)) (@q_anil _ _ _ _) (by rfl)) (by decide) (by decide) (by rfl) (by rfl)) (@q_int _ _ _ _ _ _ _) (by first | exact nomark _ | rfl))))) (@q_last _ _ _ _ _ _ (@q_ret _ _ _ _ _ _ _ (@q_bl _ _ _ _ _ _ _))) (@q_nil _ _ _ _)) (@q_last _ _ _ _ _ _ (@q_if_ _ _ _ _ _ _ _ _ _ _ _ (PW.pt (@q_tor _ _ _ _ _ _ _ _ _ (@q_tnot _ _ _ _ _ _ (@q_val _ _ _ _ _ (@q_CB _ _ _ _ _ (@q_FC _ _ _ _ _ (@q_call _ _ _ _ _ _ _ _ _ _ _ _ _ _ _ _ G_law_set_told (.inl rfl) (by exact hr.mono (by decide)) (by rfl) D_law_set_told.m D_law_set_told.F.kp D_law_set_told.b (@q_acons _ _ _ _ _ _ _ _ (@q_UB _ _ _ _ _ (@q_ixU _ _ _ _ _ _ _ _ (@qv _ _ _ _ .B 2 _ (by rfl) (by first | exact Or.inl rfl | exact Or.inr (Or.inl rfl) | exact Or.inr (Or.inr rfl)) (by decide) (by decide)) (@q_int _ _ _ _ _ _ _) (by exact fun _ _ => rfl) (by rfl))) (@q_anil _ _ _ _) (by rfl)) (by decide) (by rfl) (by rfl)))) (by intro _; rfl))) (@q_tor1 _ _ _ _ _ _ (@q_tnot _ _ _ _ _ _ (@q_val _ _ _ _ _ (@q_CB _ _ _ _ _ (@q_FC _ _ _ _ _ (@q_call _ _ _ _ _ _ _ _ _ _ _ _ _ _ _ _ G_law_set_told (.inl rfl) (by exact hr.mono (by decide)) (by rfl) D_law_set_told.m D_law_set_told.F.kp D_law_set_told.b (@q_acons _ _ _ _ _ _ _ _ (@q_UB _ _ _ _ _ (@q_ixU _ _ _ _ _ _ _ _ (@qv _ _ _ _ .B 2 _ (by rfl) (by first | exact Or.inl rfl | exact Or.inr (Or.inl rfl) | exact Or.inr (Or.inr rfl)) (by decide) (by decide)) (@q_int _ _ _ _ _ _ _) (by exact fun _ _ => rfl) (by rfl))) (@q_anil _ _ _ _) (by rfl)) (by decide) (by rfl) (by rfl)))) (by intro _; rfl)))))) (@q_last _ _ _ _ _ _ (@q_ret _ _ _ _ _ _ _ (@q_bl _ _ _ _ _ _ _))) (@q_nil _ _ _ _)))) (by intro _; rfl)) (@q_last _ _ _ _ _ _ (@q_ret _ _ _ _ _ _ _ (@q_cmp _ _ _ _ _ _ _ _ _ _ _ _ _ (op_eqD (hu64 hr)) (o2_eqD (neg := false)) (@qv _ _ _ _ .B 0 _ (by rfl) (by first | exact Or.inl rfl | exact Or.inr (Or.inl rfl) | exact Or.inr (Or.inr rfl)) (by decide) (by decide)) (@qv _ _ _ _ .B 1 _ (by rfl) (by first | exact Or.inl rfl | exact Or.inr (Or.inl rfl) | exact Or.inr (Or.inr rfl)) (by decide) (by decide)) (by first | exact nomark _ | rfl))))))),
    c_body (n := 2) (Nl := ["_law_found", "_law_due_here", "_law_pair"]) (.inl rfl) h⟩
theorem oklaw {f : Addr} {fd : FuncData} (D : Def K mg "law" slaw ["_law_script"] f fd) (B : Blt mg) {f_law_heavier : Addr} {fd_law_heavier : FuncData} (D_law_heavier : Def K mg "_law_heavier" s_law_heavier ["_law_moves", "_law_cell_here"] f_law_heavier fd_law_heavier) (G_law_heavier : FnOk P w K mg base CX0 1 f_law_heavier fd_law_heavier ["_law_moves", "_law_cell_here"] (spM K 2 .U (f__law_heavier))) {f_law_begin : Addr} {fd_law_begin : FuncData} (D_law_begin : Def K mg "_law_begin" s_law_begin ["_law_script", "_law_many"] f_law_begin fd_law_begin) (G_law_begin : FnOk P w K mg base CX0 2 f_law_begin fd_law_begin ["_law_script", "_law_many"] (spM K 2 .F (f__law_begin))) {f_law_due : Addr} {fd_law_due : FuncData} (D_law_due : Def K mg "_law_due" s_law_due ["_law_begin_here", "_law_moves"] f_law_due fd_law_due) (G_law_due : FnOk P w K mg base CX0 4 f_law_due fd_law_due ["_law_begin_here", "_law_moves"] (spM K 2 .F (f__law_due))) {fkept : Addr} {fdkept : FuncData} (Dkept : Def K mg "kept" skept ["moor"] fkept fdkept) (Gkept : FnOk P w K mg base CX0 5 fkept fdkept ["moor"] (spM K 1 .F (f_kept))) {f_law_right : Addr} {fd_law_right : FuncData} (D_law_right : Def K mg "_law_right" s_law_right ["_law_found", "_law_due_here"] f_law_right fd_law_right) (G_law_right : FnOk P w K mg base CX0 2 f_law_right fd_law_right ["_law_found", "_law_due_here"] (spM K 2 .F (f__law_right))) {f_law_cell : Addr} {fd_law_cell : FuncData} (D_law_cell : Def K mg "_law_cell" s_law_cell ["_law_script", "_law_k"] f_law_cell fd_law_cell) (G_law_cell : FnOk P w K mg base CX0 1 f_law_cell fd_law_cell ["_law_script", "_law_k"] (spM K 2 .F (f__law_cell))) {f_law_move : Addr} {fd_law_move : FuncData} (D_law_move : Def K mg "_law_move" s_law_move ["_law_script", "_law_at", "_law_many"] f_law_move fd_law_move) (G_law_move : FnOk P w K mg base CX0 2 f_law_move fd_law_move ["_law_script", "_law_at", "_law_many"] (spM K 3 .F (f__law_move))) : FnOk P w K mg base CX0 6 f fd ["_law_script"] (spM K 1 .F (f_law)) := by
  refine D.F.ok sclaw (fun vs H Q E h => h.1) (fun cdv A outer s H vs Q E hr h => ?_)
  exact ⟨tSt K (fun _ _ => False) .F m_law, (@q_cons _ _ _ _ _ _ _ _ (@q_setV _ _ _ _ _ _ _ 1 _ _ sclaw.nd rfl (by first | exact Or.inl rfl | exact Or.inr rfl) (@q_ixV _ _ _ _ _ _ _ _ (@q_FC _ _ _ _ _ (@q_lit8 _ _ _ _ _ _ _ _ _ _ _ _ _ _ _ _ _ _ _ _ _ _ _ _ _ _ _ _)) (@q_op _ _ _ _ _ _ _ _ _ _ _ _ _ op_mod (o2_I (C := cMod) (g := gMod) (fun _ _ => rfl) (fun _ _ _ => .int)) (@q_CB _ _ _ _ _ (@q_FC _ _ _ _ _ (@q_call _ _ _ _ _ _ _ _ _ _ _ _ _ _ _ _ G_law_cell (.inl rfl) (by exact hr.mono (by decide)) (by rfl) D_law_cell.m D_law_cell.F.kp D_law_cell.b (@q_acons _ _ _ _ _ _ _ _ (@qv _ _ _ _ .B 0 _ (by rfl) (by first | exact Or.inl rfl | exact Or.inr (Or.inl rfl) | exact Or.inr (Or.inr rfl)) (by decide) (by decide)) (@q_aint _ _ _ _ _ _ _ _ _ (@q_anil _ _ _ _)) (by rfl)) (by decide) (by rfl) (by rfl)))) (@q_int _ _ _ _ _ _ _)) (by exact fun _ _ => rfl) (by rfl)) (by rfl) (by first | exact .inl rfl | exact .inr rfl | assumption)) (@q_cons _ _ _ _ _ _ _ _ (@q_setF _ _ _ _ _ _ _ 2 _ _ sclaw.nd rfl (by first | exact Or.inl rfl | exact Or.inr rfl) (@q_lst _ _ _ _ _ _ (@q_anil _ _ _ _)) (by rfl) (by first | exact .inl rfl | exact .inr rfl | assumption)) (@q_cons _ _ _ _ _ _ _ _ (@q_for _ _ _ _ _ _ _ _ _ _ _ _ _ PassesOwn.never rfl (@q_rng1 _ _ _ _ _ _ _ _ _ (by rfl) B.range_ (@q_acons _ _ _ _ _ _ _ _ (@q_op _ _ _ _ _ _ _ _ _ _ _ _ _ op_mod (o2_I (C := cMod) (g := gMod) (fun _ _ => rfl) (fun _ _ _ => .int)) (@q_CB _ _ _ _ _ (@q_FC _ _ _ _ _ (@q_call _ _ _ _ _ _ _ _ _ _ _ _ _ _ _ _ G_law_cell (.inl rfl) (by exact hr.mono (by decide)) (by rfl) D_law_cell.m D_law_cell.F.kp D_law_cell.b (@q_acons _ _ _ _ _ _ _ _ (@qv _ _ _ _ .B 0 _ (by rfl) (by first | exact Or.inl rfl | exact Or.inr (Or.inl rfl) | exact Or.inr (Or.inr rfl)) (by decide) (by decide)) (@q_aint _ _ _ _ _ _ _ _ _ (@q_anil _ _ _ _)) (by rfl)) (by decide) (by rfl) (by rfl)))) (@q_int _ _ _ _ _ _ _)) (@q_anil _ _ _ _) (by rfl)) (by rfl)) (@pg_name _ _ 3 _ sclaw.nd rfl (by first | exact Or.inl rfl | exact Or.inr rfl) (by first | exact .inl rfl | exact .inr rfl | assumption)) (@gt_U _ _) (@q_last _ _ _ _ _ _ (@q_app _ _ _ _ _ _ _ 2 _ _ _ _ rfl (by first | exact Or.inl rfl | exact Or.inr (Or.inl rfl) | exact Or.inr (Or.inr rfl)) (@q_FV _ _ _ _ _ (@q_call _ _ _ _ _ _ _ _ _ _ _ _ _ _ _ _ G_law_move (.inl rfl) (by exact hr.mono (by decide)) (by rfl) D_law_move.m D_law_move.F.kp D_law_move.b (@q_acons _ _ _ _ _ _ _ _ (@qv _ _ _ _ .B 0 _ (by rfl) (by first | exact Or.inl rfl | exact Or.inr (Or.inl rfl) | exact Or.inr (Or.inr rfl)) (by decide) (by decide)) (@q_acons _ _ _ _ _ _ _ _ (@q_op _ _ _ _ _ _ _ _ _ _ _ _ _ op_add (o2_I0 (g := gAdd) (fun _ _ => rfl) (fun _ _ _ => .int)) (@q_int _ _ _ _ _ _ _) (@q_op _ _ _ _ _ _ _ _ _ _ _ _ _ op_mulB (o2_I (C := CMulB) (g := gMul) (fun _ _ => rfl) (fun _ _ _ => .int)) (@q_op _ _ _ _ _ _ _ _ _ _ _ _ _ op_mulB (o2_I (C := CMulB) (g := gMul) (fun _ _ => rfl) (fun _ _ _ => .int)) (@q_int _ _ _ _ _ _ _) (@qv _ _ _ _ .B 1 _ (by rfl) (by first | exact Or.inl rfl | exact Or.inr (Or.inl rfl) | exact Or.inr (Or.inr rfl)) (by decide) (by decide))) (@qv _ _ _ _ .B 3 _ (by rfl) (by first | exact Or.inl rfl | exact Or.inr (Or.inl rfl) | exact Or.inr (Or.inr rfl)) (by decide) (by decide)))) (@q_acons _ _ _ _ _ _ _ _ (@qv _ _ _ _ .B 1 _ (by rfl) (by first | exact Or.inl rfl | exact Or.inr (Or.inl rfl) | exact Or.inr (Or.inr rfl)) (by decide) (by decide)) (@q_anil _ _ _ _) (by rfl)) (by rfl)) (by rfl)) (by decide) (by rfl) (by rfl))) (by decide) (by decide) (by rfl) (by rfl) (by rfl) (by rfl) (by rfl))) (by intro _; rfl)) (@q_cons _ _ _ _ _ _ _ _ (@q_frz _ _ _ _ _ _ _ (@q_frz _ _ _ _ _ _ _ (@q_frz _ _ _ _ _ _ _ (@q_frz _ _ _ _ _ _ _ (@q_frz _ _ _ _ _ _ _ (@q_setCU _ _ _ _ _ _ _ 2 _ _ _ _ _ _ _ _ _ _ _ _ sclaw.nd rfl (by first | exact Or.inl rfl | exact Or.inr rfl) G_law_heavier (by exact hr.mono (by decide)) (by rfl) D_law_heavier.m D_law_heavier.F.kp D_law_heavier.b (@q_acons _ _ _ _ _ _ _ _ (@qv _ _ _ _ .B 2 _ (by rfl) (by first | exact Or.inl rfl | exact Or.inr (Or.inl rfl) | exact Or.inr (Or.inr rfl)) (by decide) (by decide)) (@q_acons _ _ _ _ _ _ _ _ (@q_CB _ _ _ _ _ (@q_FC _ _ _ _ _ (@q_call _ _ _ _ _ _ _ _ _ _ _ _ _ _ _ _ G_law_cell (.inl rfl) (by exact hr.mono (by decide)) (by rfl) D_law_cell.m D_law_cell.F.kp D_law_cell.b (@q_acons _ _ _ _ _ _ _ _ (@qv _ _ _ _ .B 0 _ (by rfl) (by first | exact Or.inl rfl | exact Or.inr (Or.inl rfl) | exact Or.inr (Or.inr rfl)) (by decide) (by decide)) (@q_aint _ _ _ _ _ _ _ _ _ (@q_anil _ _ _ _)) (by rfl)) (by decide) (by rfl) (by rfl)))) (@q_anil _ _ _ _) (by rfl)) (by rfl)) (by decide) (by rfl) (by rfl) (by rfl) (by first | exact .inl rfl | exact .inr rfl | assumption))))))) (@q_cons _ _ _ _ _ _ _ _ (@q_setF _ _ _ _ _ _ _ 4 _ _ sclaw.nd rfl (by first | exact Or.inl rfl | exact Or.inr rfl) (@q_call _ _ _ _ _ _ _ _ _ _ _ _ _ _ _ _ G_law_begin (.inl rfl) (by exact hr.mono (by decide)) (by rfl) D_law_begin.m D_law_begin.F.kp D_law_begin.b (@q_acons _ _ _ _ _ _ _ _ (@qv _ _ _ _ .B 0 _ (by rfl) (by first | exact Or.inl rfl | exact Or.inr (Or.inl rfl) | exact Or.inr (Or.inr rfl)) (by decide) (by decide)) (@q_acons _ _ _ _ _ _ _ _ (@qv _ _ _ _ .B 1 _ (by rfl) (by first | exact Or.inl rfl | exact Or.inr (Or.inl rfl) | exact Or.inr (Or.inr rfl)) (by decide) (by decide)) (@q_anil _ _ _ _) (by rfl)) (by rfl)) (by decide) (by rfl) (by rfl)) (by rfl) (by first | exact .inl rfl | exact .inr rfl | assumption)) (@q_cons _ _ _ _ _ _ _ _ (@q_setF _ _ _ _ _ _ _ 5 _ _ sclaw.nd rfl (by first | exact Or.inl rfl | exact Or.inr rfl) (@q_call _ _ _ _ _ _ _ _ _ _ _ _ _ _ _ _ G_law_due (.inl rfl) (by exact hr.mono (by decide)) (by rfl) D_law_due.m D_law_due.F.kp D_law_due.b (@q_acons _ _ _ _ _ _ _ _ (@qv _ _ _ _ .B 4 _ (by rfl) (by first | exact Or.inl rfl | exact Or.inr (Or.inl rfl) | exact Or.inr (Or.inr rfl)) (by decide) (by decide)) (@q_acons _ _ _ _ _ _ _ _ (@qv _ _ _ _ .B 2 _ (by rfl) (by first | exact Or.inl rfl | exact Or.inr (Or.inl rfl) | exact Or.inr (Or.inr rfl)) (by decide) (by decide)) (@q_anil _ _ _ _) (by rfl)) (by rfl)) (by decide) (by rfl) (by rfl)) (by rfl) (by first | exact .inl rfl | exact .inr rfl | assumption)) (@q_cons _ _ _ _ _ _ _ _ (@q_frz _ _ _ _ _ _ _ (@q_setF _ _ _ _ _ _ _ 6 _ _ sclaw.nd rfl (by first | exact Or.inl rfl | exact Or.inr rfl) (@q_tup _ _ _ _ _ _ _ (@q_acons _ _ _ _ _ _ _ _ (@qv _ _ _ _ .V 4 _ (by rfl) (by first | exact Or.inl rfl | exact Or.inr (Or.inl rfl) | exact Or.inr (Or.inr rfl)) (by decide) (by decide)) (@q_acons _ _ _ _ _ _ _ _ (@q_FV _ _ _ _ _ (@q_ct _ _ _ _ _ _ _ _ _ _ _ _ _ _ K_tup (b_tup (c := false)) (by rfl) B.tuple_ bt_tuple (@q_acons _ _ _ _ _ _ _ _ (@qv _ _ _ _ .B 2 _ (by rfl) (by first | exact Or.inl rfl | exact Or.inr (Or.inl rfl) | exact Or.inr (Or.inr rfl)) (by decide) (by decide)) (@q_anil _ _ _ _) (by rfl)) (by decide) (by decide) (by rfl) (by rfl))) (@q_anil _ _ _ _) (by rfl)) (by rfl))) (by rfl) (by first | exact .inl rfl | exact .inr rfl | assumption))) (@q_cons _ _ _ _ _ _ _ _ (@q_setF _ _ _ _ _ _ _ 7 _ _ sclaw.nd rfl (by first | exact Or.inl rfl | exact Or.inr rfl) (@q_call _ _ _ _ _ _ _ _ _ _ _ _ _ _ _ _ Gkept (.inl rfl) (by exact hr.mono (by decide)) (by rfl) Dkept.m Dkept.F.kp Dkept.b (@q_acons _ _ _ _ _ _ _ _ (@qv _ _ _ _ .B 6 _ (by rfl) (by first | exact Or.inl rfl | exact Or.inr (Or.inl rfl) | exact Or.inr (Or.inr rfl)) (by decide) (by decide)) (@q_anil _ _ _ _) (by rfl)) (by decide) (by rfl) (by rfl)) (by rfl) (by first | exact .inl rfl | exact .inr rfl | assumption)) (@q_cons _ _ _ _ _ _ _ _ (@q_if_ _ _ _ _ _ _ _ _ _ _ _ (@q_tnot _ _ _ _ _ _ (@q_val _ _ _ _ _ (@q_CB _ _ _ _ _ (@q_FC _ _ _ _ _ (@q_call _ _ _ _ _ _ _ _ _ _ _ _ _ _ _ _ G_law_right (.inl rfl) (by exact hr.mono (by decide)) (by rfl) D_law_right.m D_law_right.F.kp D_law_right.b (@q_acons _ _ _ _ _ _ _ _ (@qv _ _ _ _ .B 7 _ (by rfl) (by first | exact Or.inl rfl | exact Or.inr (Or.inl rfl) | exact Or.inr (Or.inr rfl)) (by decide) (by decide)) (@q_acons _ _ _ _ _ _ _ _ (@qv _ _ _ _ .B 5 _ (by rfl) (by first | exact Or.inl rfl | exact Or.inr (Or.inl rfl) | exact Or.inr (Or.inr rfl)) (by decide) (by decide)) (@q_anil _ _ _ _) (by rfl)) (by rfl)) (by decide) (by rfl) (by rfl)))) (by intro _; rfl))) (@q_last _ _ _ _ _ _ (@q_ret _ _ _ _ _ _ _ (@q_bl _ _ _ _ _ _ _))) (@q_nil _ _ _ _)) (@q_cons _ _ _ _ _ _ _ _ (@q_setF _ _ _ _ _ _ _ 8 _ _ sclaw.nd rfl (by first | exact Or.inl rfl | exact Or.inr rfl) (@q_call _ _ _ _ _ _ _ _ _ _ _ _ _ _ _ _ Gkept (.inl rfl) (by exact hr.mono (by decide)) (by rfl) Dkept.m Dkept.F.kp Dkept.b (@q_acons _ _ _ _ _ _ _ _ (@q_UB _ _ _ _ _ (@q_tupU _ _ _ _ _ _ _ (@q_acons _ _ _ _ _ _ _ _ (@q_tupU _ _ _ _ _ _ _ (@q_aint _ _ _ _ _ _ _ _ _ (@q_aint _ _ _ _ _ _ _ _ _ (@q_anil _ _ _ _)))) (@q_acons _ _ _ _ _ _ _ _ (@q_tupU _ _ _ _ _ _ _ (@q_acons _ _ _ _ _ _ _ _ (@q_tupU _ _ _ _ _ _ _ (@q_acons _ _ _ _ _ _ _ _ (@q_tupU _ _ _ _ _ _ _ (@q_aint _ _ _ _ _ _ _ _ _ (@q_aint _ _ _ _ _ _ _ _ _ (@q_anil _ _ _ _)))) (@q_acons _ _ _ _ _ _ _ _ (@q_tupU _ _ _ _ _ _ _ (@q_aint _ _ _ _ _ _ _ _ _ (@q_aint _ _ _ _ _ _ _ _ _ (@q_anil _ _ _ _)))) (@q_anil _ _ _ _) (by rfl)) (by rfl))) (@q_acons _ _ _ _ _ _ _ _ (@q_tupU _ _ _ _ _ _ _ (@q_acons _ _ _ _ _ _ _ _ (@q_tupU _ _ _ _ _ _ _ (@q_aint _ _ _ _ _ _ _ _ _ (@q_aint _ _ _ _ _ _ _ _ _ (@q_anil _ _ _ _)))) (@q_acons _ _ _ _ _ _ _ _ (@q_tupU _ _ _ _ _ _ _ (@q_aint _ _ _ _ _ _ _ _ _ (@q_aint _ _ _ _ _ _ _ _ _ (@q_anil _ _ _ _)))) (@q_anil _ _ _ _) (by rfl)) (by rfl))) (@q_anil _ _ _ _) (by rfl)) (by rfl))) (@q_anil _ _ _ _) (by rfl)) (by rfl)))) (@q_anil _ _ _ _) (by rfl)) (by decide) (by rfl) (by rfl)) (by rfl) (by first | exact .inl rfl | exact .inr rfl | assumption)) (@q_cons _ _ _ _ _ _ _ _ (@q_if_ _ _ _ _ _ _ _ _ _ _ _ (PW.pt (@q_tor _ _ _ _ _ _ _ _ _ (@q_tnot _ _ _ _ _ _ (@q_val _ _ _ _ _ (@q_CB _ _ _ _ _ (@q_FC _ _ _ _ _ (@q_call _ _ _ _ _ _ _ _ _ _ _ _ _ _ _ _ G_law_right (.inl rfl) (by exact hr.mono (by decide)) (by rfl) D_law_right.m D_law_right.F.kp D_law_right.b (@q_acons _ _ _ _ _ _ _ _ (@qv _ _ _ _ .B 8 _ (by rfl) (by first | exact Or.inl rfl | exact Or.inr (Or.inl rfl) | exact Or.inr (Or.inr rfl)) (by decide) (by decide)) (@q_acons _ _ _ _ _ _ _ _ (@q_CB _ _ _ _ _ (@q_FC _ _ _ _ _ (@q_lst _ _ _ _ _ _ (@q_acons _ _ _ _ _ _ _ _ (@q_FV _ _ _ _ _ (@q_tup _ _ _ _ _ _ _ (@q_acons _ _ _ _ _ _ _ _ (@q_FV _ _ _ _ _ (@q_tup _ _ _ _ _ _ _ (@q_aint _ _ _ _ _ _ _ _ _ (@q_aint _ _ _ _ _ _ _ _ _ (@q_anil _ _ _ _))))) (@q_acons _ _ _ _ _ _ _ _ (@q_FV _ _ _ _ _ (@q_tup _ _ _ _ _ _ _ (@q_aint _ _ _ _ _ _ _ _ _ (@q_aint _ _ _ _ _ _ _ _ _ (@q_anil _ _ _ _))))) (@q_anil _ _ _ _) (by rfl)) (by rfl)))) (@q_anil _ _ _ _) (by rfl))))) (@q_anil _ _ _ _) (by rfl)) (by rfl)) (by decide) (by rfl) (by rfl)))) (by intro _; rfl))) (@q_tor1 _ _ _ _ _ _ (@q_tnot _ _ _ _ _ _ (@q_val _ _ _ _ _ (@q_CB _ _ _ _ _ (@q_FC _ _ _ _ _ (@q_call _ _ _ _ _ _ _ _ _ _ _ _ _ _ _ _ G_law_right (.inl rfl) (by exact hr.mono (by decide)) (by rfl) D_law_right.m D_law_right.F.kp D_law_right.b (@q_acons _ _ _ _ _ _ _ _ (@qv _ _ _ _ .B 7 _ (by rfl) (by first | exact Or.inl rfl | exact Or.inr (Or.inl rfl) | exact Or.inr (Or.inr rfl)) (by decide) (by decide)) (@q_acons _ _ _ _ _ _ _ _ (@qv _ _ _ _ .B 5 _ (by rfl) (by first | exact Or.inl rfl | exact Or.inr (Or.inl rfl) | exact Or.inr (Or.inr rfl)) (by decide) (by decide)) (@q_anil _ _ _ _) (by rfl)) (by rfl)) (by decide) (by rfl) (by rfl)))) (by intro _; rfl)))))) (@q_last _ _ _ _ _ _ (@q_ret _ _ _ _ _ _ _ (@q_bl _ _ _ _ _ _ _))) (@q_nil _ _ _ _)) (@q_cons _ _ _ _ _ _ _ _ (@q_if_ _ _ _ _ _ _ _ _ _ _ _ (@q_tcmp _ _ _ _ _ _ _ _ _ _ _ _ op_notN o2_notN (@qv _ _ _ _ .B 7 _ (by rfl) (by first | exact Or.inl rfl | exact Or.inr (Or.inl rfl) | exact Or.inr (Or.inr rfl)) (by decide) (by decide)) (@q_non _ _ _ _ _ _) (by first | exact nomark _ | rfl)) (@q_last _ _ _ _ _ _ (@q_clr _ _ _ _ _ 7 _ _ _ _ rfl (by first | exact Or.inl rfl | exact Or.inr (Or.inl rfl) | exact Or.inr (Or.inr rfl)) (by rfl) (by decide) (by decide) (by rfl) (by rfl) (by rfl))) (@q_nil _ _ _ _)) (@q_last _ _ _ _ _ _ (@q_ret _ _ _ _ _ _ _ (@q_call _ _ _ _ _ _ _ _ _ _ _ _ _ _ _ _ G_law_right (.inl rfl) (by exact hr.mono (by decide)) (by rfl) D_law_right.m D_law_right.F.kp D_law_right.b (@q_acons _ _ _ _ _ _ _ _ (@q_CB _ _ _ _ _ (@q_FC _ _ _ _ _ (@q_call _ _ _ _ _ _ _ _ _ _ _ _ _ _ _ _ Gkept (.inl rfl) (by exact hr.mono (by decide)) (by rfl) Dkept.m Dkept.F.kp Dkept.b (@q_acons _ _ _ _ _ _ _ _ (@qv _ _ _ _ .B 6 _ (by rfl) (by first | exact Or.inl rfl | exact Or.inr (Or.inl rfl) | exact Or.inr (Or.inr rfl)) (by decide) (by decide)) (@q_anil _ _ _ _) (by rfl)) (by decide) (by rfl) (by rfl)))) (@q_acons _ _ _ _ _ _ _ _ (@qv _ _ _ _ .B 5 _ (by rfl) (by first | exact Or.inl rfl | exact Or.inr (Or.inl rfl) | exact Or.inr (Or.inr rfl)) (by decide) (by decide)) (@q_anil _ _ _ _) (by rfl)) (by rfl)) (by decide) (by rfl) (by rfl)))))))))))))))),
    c_body (n := 1) (Nl := ["_law_script", "_law_many", "_law_moves", "_law_k", "_law_begin_here", "_law_due_here", "_law_land", "_law_found", "_law_other"]) (.inl rfl) h⟩
end
def spLaw (K : PySem.W.Frag) : Sp := fun vs H Q _ => ∃ (a : Addr) (ns : List Int), vs = [.ref a] ∧ SqL K H a (ns.map V.int) ∧ ns.length ≤ 63 ∧ (∀ x ∈ ns, Builtin.Int.intBits x ≤ 1048576) ∧ ∀ H', Q (.bl true) H'
theorem all_mk (hp : ∀ ns : List Int, ns.length ≤ 63 → (∀ x ∈ ns, Builtin.Int.intBits x ≤ 1048576) → f_law [.scr (ns.map W.int)] = .ok (.bl true)) {l : PySem.W.OpenLaw} {w : World} {K : PySem.W.Frag} {h : Heap} {mg : Str → Option Value} {fa : Addr} (X : K.In h) (G : h.Ns mainGlobals mg) (hfa : mg "law" = some (.ref fa))
    {f0 : Addr} {od0 an0 : Option Addr} {sl0 : Array (Option Value)} {oc0 kV0 dc0 pm0 cd0 ct0 : Value}
    {f1 : Addr} {od1 an1 : Option Addr} {sl1 : Array (Option Value)} {oc1 kV1 dc1 pm1 cd1 ct1 : Value}
    {f2 : Addr} {od2 an2 : Option Addr} {sl2 : Array (Option Value)} {oc2 kV2 dc2 pm2 cd2 ct2 : Value}
    {f3 : Addr} {od3 an3 : Option Addr} {sl3 : Array (Option Value)} {oc3 kV3 dc3 pm3 cd3 ct3 : Value}
    {f4 : Addr} {od4 an4 : Option Addr} {sl4 : Array (Option Value)} {oc4 kV4 dc4 pm4 cd4 ct4 : Value}
    {f5 : Addr} {od5 an5 : Option Addr} {sl5 : Array (Option Value)} {oc5 kV5 dc5 pm5 cd5 ct5 : Value}
    {f6 : Addr} {od6 an6 : Option Addr} {sl6 : Array (Option Value)} {oc6 kV6 dc6 pm6 cd6 ct6 : Value}
    {f7 : Addr} {od7 an7 : Option Addr} {sl7 : Array (Option Value)} {oc7 kV7 dc7 pm7 cd7 ct7 : Value}
    {f8 : Addr} {od8 an8 : Option Addr} {sl8 : Array (Option Value)} {oc8 kV8 dc8 pm8 cd8 ct8 : Value}
    {f9 : Addr} {od9 an9 : Option Addr} {sl9 : Array (Option Value)} {oc9 kV9 dc9 pm9 cd9 ct9 : Value}
    {f10 : Addr} {od10 an10 : Option Addr} {sl10 : Array (Option Value)} {oc10 kV10 dc10 pm10 cd10 ct10 : Value}
    {f11 : Addr} {od11 an11 : Option Addr} {sl11 : Array (Option Value)} {oc11 kV11 dc11 pm11 cd11 ct11 : Value}
    {f12 : Addr} {od12 an12 : Option Addr} {sl12 : Array (Option Value)} {oc12 kV12 dc12 pm12 cd12 ct12 : Value}
    {f13 : Addr} {od13 an13 : Option Addr} {sl13 : Array (Option Value)} {oc13 kV13 dc13 pm13 cd13 ct13 : Value}
    {f14 : Addr} {od14 an14 : Option Addr} {sl14 : Array (Option Value)} {oc14 kV14 dc14 pm14 cd14 ct14 : Value}
    {f15 : Addr} {od15 an15 : Option Addr} {sl15 : Array (Option Value)} {oc15 kV15 dc15 pm15 cd15 ct15 : Value}
    {f16 : Addr} {od16 an16 : Option Addr} {sl16 : Array (Option Value)} {oc16 kV16 dc16 pm16 cd16 ct16 : Value}
    {f17 : Addr} {od17 an17 : Option Addr} {sl17 : Array (Option Value)} {oc17 kV17 dc17 pm17 cd17 ct17 : Value}
    {f18 : Addr} {od18 an18 : Option Addr} {sl18 : Array (Option Value)} {oc18 kV18 dc18 pm18 cd18 ct18 : Value}
    {f19 : Addr} {od19 an19 : Option Addr} {sl19 : Array (Option Value)} {oc19 kV19 dc19 pm19 cd19 ct19 : Value}
    {f20 : Addr} {od20 an20 : Option Addr} {sl20 : Array (Option Value)} {oc20 kV20 dc20 pm20 cd20 ct20 : Value}
    {f21 : Addr} {od21 an21 : Option Addr} {sl21 : Array (Option Value)} {oc21 kV21 dc21 pm21 cd21 ct21 : Value}
    {f22 : Addr} {od22 an22 : Option Addr} {sl22 : Array (Option Value)} {oc22 kV22 dc22 pm22 cd22 ct22 : Value}
    {f23 : Addr} {od23 an23 : Option Addr} {sl23 : Array (Option Value)} {oc23 kV23 dc23 pm23 cd23 ct23 : Value}
    {f24 : Addr} {od24 an24 : Option Addr} {sl24 : Array (Option Value)} {oc24 kV24 dc24 pm24 cd24 ct24 : Value}
    {f25 : Addr} {od25 an25 : Option Addr} {sl25 : Array (Option Value)} {oc25 kV25 dc25 pm25 cd25 ct25 : Value}
    (a0 : PySem.W.nsIn K mainGlobals "is_dry" = some (some (.ref f0))) (l0 : K.lookup f0 = some ⟨oc0, od0, .func (PySem.W.fnOf "is_dry" "is_dry" (defArgs sis_dry) (defBody sis_dry) (defScope sis_dry) .none kV0 dc0 pm0 an0 cd0 ct0), sl0⟩) (c0 : PySem.W.codeIn K cd0 "is_dry" = true) (k0 : PySem.W.keepIn K (.ref f0) = true)
    (a1 : PySem.W.nsIn K mainGlobals "breaks_dry" = some (some (.ref f1))) (l1 : K.lookup f1 = some ⟨oc1, od1, .func (PySem.W.fnOf "breaks_dry" "breaks_dry" (defArgs sbreaks_dry) (defBody sbreaks_dry) (defScope sbreaks_dry) .none kV1 dc1 pm1 an1 cd1 ct1), sl1⟩) (c1 : PySem.W.codeIn K cd1 "breaks_dry" = true) (k1 : PySem.W.keepIn K (.ref f1) = true)
    (a2 : PySem.W.nsIn K mainGlobals "touches" = some (some (.ref f2))) (l2 : K.lookup f2 = some ⟨oc2, od2, .func (PySem.W.fnOf "touches" "touches" (defArgs stouches) (defBody stouches) (defScope stouches) .none kV2 dc2 pm2 an2 cd2 ct2), sl2⟩) (c2 : PySem.W.codeIn K cd2 "touches" = true) (k2 : PySem.W.keepIn K (.ref f2) = true)
    (a3 : PySem.W.nsIn K mainGlobals "greatest_dry" = some (some (.ref f3))) (l3 : K.lookup f3 = some ⟨oc3, od3, .func (PySem.W.fnOf "greatest_dry" "greatest_dry" (defArgs sgreatest_dry) (defBody sgreatest_dry) (defScope sgreatest_dry) .none kV3 dc3 pm3 an3 cd3 ct3), sl3⟩) (c3 : PySem.W.codeIn K cd3 "greatest_dry" = true) (k3 : PySem.W.keepIn K (.ref f3) = true)
    (a4 : PySem.W.nsIn K mainGlobals "greatest_wet" = some (some (.ref f4))) (l4 : K.lookup f4 = some ⟨oc4, od4, .func (PySem.W.fnOf "greatest_wet" "greatest_wet" (defArgs sgreatest_wet) (defBody sgreatest_wet) (defScope sgreatest_wet) .none kV4 dc4 pm4 an4 cd4 ct4), sl4⟩) (c4 : PySem.W.codeIn K cd4 "greatest_wet" = true) (k4 : PySem.W.keepIn K (.ref f4) = true)
    (a5 : PySem.W.nsIn K mainGlobals "least_dry" = some (some (.ref f5))) (l5 : K.lookup f5 = some ⟨oc5, od5, .func (PySem.W.fnOf "least_dry" "least_dry" (defArgs sleast_dry) (defBody sleast_dry) (defScope sleast_dry) .none kV5 dc5 pm5 an5 cd5 ct5), sl5⟩) (c5 : PySem.W.codeIn K cd5 "least_dry" = true) (k5 : PySem.W.keepIn K (.ref f5) = true)
    (a6 : PySem.W.nsIn K mainGlobals "filled_sets" = some (some (.ref f6))) (l6 : K.lookup f6 = some ⟨oc6, od6, .func (PySem.W.fnOf "filled_sets" "filled_sets" (defArgs sfilled_sets) (defBody sfilled_sets) (defScope sfilled_sets) .none kV6 dc6 pm6 an6 cd6 ct6), sl6⟩) (c6 : PySem.W.codeIn K cd6 "filled_sets" = true) (k6 : PySem.W.keepIn K (.ref f6) = true)
    (a7 : PySem.W.nsIn K mainGlobals "within" = some (some (.ref f7))) (l7 : K.lookup f7 = some ⟨oc7, od7, .func (PySem.W.fnOf "within" "within" (defArgs swithin) (defBody swithin) (defScope swithin) .none kV7 dc7 pm7 an7 cd7 ct7), sl7⟩) (c7 : PySem.W.codeIn K cd7 "within" = true) (k7 : PySem.W.keepIn K (.ref f7) = true)
    (a8 : PySem.W.nsIn K mainGlobals "turned" = some (some (.ref f8))) (l8 : K.lookup f8 = some ⟨oc8, od8, .func (PySem.W.fnOf "turned" "turned" (defArgs sturned) (defBody sturned) (defScope sturned) .none kV8 dc8 pm8 an8 cd8 ct8), sl8⟩) (c8 : PySem.W.codeIn K cd8 "turned" = true) (k8 : PySem.W.keepIn K (.ref f8) = true)
    (a9 : PySem.W.nsIn K mainGlobals "kept" = some (some (.ref f9))) (l9 : K.lookup f9 = some ⟨oc9, od9, .func (PySem.W.fnOf "kept" "kept" (defArgs skept) (defBody skept) (defScope skept) .none kV9 dc9 pm9 an9 cd9 ct9), sl9⟩) (c9 : PySem.W.codeIn K cd9 "kept" = true) (k9 : PySem.W.keepIn K (.ref f9) = true)
    (a10 : PySem.W.nsIn K mainGlobals "takes_singly" = some (some (.ref f10))) (l10 : K.lookup f10 = some ⟨oc10, od10, .func (PySem.W.fnOf "takes_singly" "takes_singly" (defArgs stakes_singly) (defBody stakes_singly) (defScope stakes_singly) .none kV10 dc10 pm10 an10 cd10 ct10), sl10⟩) (c10 : PySem.W.codeIn K cd10 "takes_singly" = true) (k10 : PySem.W.keepIn K (.ref f10) = true)
    (a11 : PySem.W.nsIn K mainGlobals "_law_cell" = some (some (.ref f11))) (l11 : K.lookup f11 = some ⟨oc11, od11, .func (PySem.W.fnOf "_law_cell" "_law_cell" (defArgs s_law_cell) (defBody s_law_cell) (defScope s_law_cell) .none kV11 dc11 pm11 an11 cd11 ct11), sl11⟩) (c11 : PySem.W.codeIn K cd11 "_law_cell" = true) (k11 : PySem.W.keepIn K (.ref f11) = true)
    (a12 : PySem.W.nsIn K mainGlobals "_law_move" = some (some (.ref f12))) (l12 : K.lookup f12 = some ⟨oc12, od12, .func (PySem.W.fnOf "_law_move" "_law_move" (defArgs s_law_move) (defBody s_law_move) (defScope s_law_move) .none kV12 dc12 pm12 an12 cd12 ct12), sl12⟩) (c12 : PySem.W.codeIn K cd12 "_law_move" = true) (k12 : PySem.W.keepIn K (.ref f12) = true)
    (a13 : PySem.W.nsIn K mainGlobals "_law_heavier" = some (some (.ref f13))) (l13 : K.lookup f13 = some ⟨oc13, od13, .func (PySem.W.fnOf "_law_heavier" "_law_heavier" (defArgs s_law_heavier) (defBody s_law_heavier) (defScope s_law_heavier) .none kV13 dc13 pm13 an13 cd13 ct13), sl13⟩) (c13 : PySem.W.codeIn K cd13 "_law_heavier" = true) (k13 : PySem.W.keepIn K (.ref f13) = true)
    (a14 : PySem.W.nsIn K mainGlobals "_law_begin" = some (some (.ref f14))) (l14 : K.lookup f14 = some ⟨oc14, od14, .func (PySem.W.fnOf "_law_begin" "_law_begin" (defArgs s_law_begin) (defBody s_law_begin) (defScope s_law_begin) .none kV14 dc14 pm14 an14 cd14 ct14), sl14⟩) (c14 : PySem.W.codeIn K cd14 "_law_begin" = true) (k14 : PySem.W.keepIn K (.ref f14) = true)
    (a15 : PySem.W.nsIn K mainGlobals "_law_all_sets" = some (some (.ref f15))) (l15 : K.lookup f15 = some ⟨oc15, od15, .func (PySem.W.fnOf "_law_all_sets" "_law_all_sets" (defArgs s_law_all_sets) (defBody s_law_all_sets) (defScope s_law_all_sets) .none kV15 dc15 pm15 an15 cd15 ct15), sl15⟩) (c15 : PySem.W.codeIn K cd15 "_law_all_sets" = true) (k15 : PySem.W.keepIn K (.ref f15) = true)
    (a16 : PySem.W.nsIn K mainGlobals "_law_inside" = some (some (.ref f16))) (l16 : K.lookup f16 = some ⟨oc16, od16, .func (PySem.W.fnOf "_law_inside" "_law_inside" (defArgs s_law_inside) (defBody s_law_inside) (defScope s_law_inside) .none kV16 dc16 pm16 an16 cd16 ct16), sl16⟩) (c16 : PySem.W.codeIn K cd16 "_law_inside" = true) (k16 : PySem.W.keepIn K (.ref f16) = true)
    (a17 : PySem.W.nsIn K mainGlobals "_law_sum" = some (some (.ref f17))) (l17 : K.lookup f17 = some ⟨oc17, od17, .func (PySem.W.fnOf "_law_sum" "_law_sum" (defArgs s_law_sum) (defBody s_law_sum) (defScope s_law_sum) .none kV17 dc17 pm17 an17 cd17 ct17), sl17⟩) (c17 : PySem.W.codeIn K cd17 "_law_sum" = true) (k17 : PySem.W.keepIn K (.ref f17) = true)
    (a18 : PySem.W.nsIn K mainGlobals "_law_dry" = some (some (.ref f18))) (l18 : K.lookup f18 = some ⟨oc18, od18, .func (PySem.W.fnOf "_law_dry" "_law_dry" (defArgs s_law_dry) (defBody s_law_dry) (defScope s_law_dry) .none kV18 dc18 pm18 an18 cd18 ct18), sl18⟩) (c18 : PySem.W.codeIn K cd18 "_law_dry" = true) (k18 : PySem.W.keepIn K (.ref f18) = true)
    (a19 : PySem.W.nsIn K mainGlobals "_law_wet" = some (some (.ref f19))) (l19 : K.lookup f19 = some ⟨oc19, od19, .func (PySem.W.fnOf "_law_wet" "_law_wet" (defArgs s_law_wet) (defBody s_law_wet) (defScope s_law_wet) .none kV19 dc19 pm19 an19 cd19 ct19), sl19⟩) (c19 : PySem.W.codeIn K cd19 "_law_wet" = true) (k19 : PySem.W.keepIn K (.ref f19) = true)
    (a20 : PySem.W.nsIn K mainGlobals "_law_least" = some (some (.ref f20))) (l20 : K.lookup f20 = some ⟨oc20, od20, .func (PySem.W.fnOf "_law_least" "_law_least" (defArgs s_law_least) (defBody s_law_least) (defScope s_law_least) .none kV20 dc20 pm20 an20 cd20 ct20), sl20⟩) (c20 : PySem.W.codeIn K cd20 "_law_least" = true) (k20 : PySem.W.keepIn K (.ref f20) = true)
    (a21 : PySem.W.nsIn K mainGlobals "_law_greatest_wet" = some (some (.ref f21))) (l21 : K.lookup f21 = some ⟨oc21, od21, .func (PySem.W.fnOf "_law_greatest_wet" "_law_greatest_wet" (defArgs s_law_greatest_wet) (defBody s_law_greatest_wet) (defScope s_law_greatest_wet) .none kV21 dc21 pm21 an21 cd21 ct21), sl21⟩) (c21 : PySem.W.codeIn K cd21 "_law_greatest_wet" = true) (k21 : PySem.W.keepIn K (.ref f21) = true)
    (a22 : PySem.W.nsIn K mainGlobals "_law_due" = some (some (.ref f22))) (l22 : K.lookup f22 = some ⟨oc22, od22, .func (PySem.W.fnOf "_law_due" "_law_due" (defArgs s_law_due) (defBody s_law_due) (defScope s_law_due) .none kV22 dc22 pm22 an22 cd22 ct22), sl22⟩) (c22 : PySem.W.codeIn K cd22 "_law_due" = true) (k22 : PySem.W.keepIn K (.ref f22) = true)
    (a23 : PySem.W.nsIn K mainGlobals "_law_set_told" = some (some (.ref f23))) (l23 : K.lookup f23 = some ⟨oc23, od23, .func (PySem.W.fnOf "_law_set_told" "_law_set_told" (defArgs s_law_set_told) (defBody s_law_set_told) (defScope s_law_set_told) .none kV23 dc23 pm23 an23 cd23 ct23), sl23⟩) (c23 : PySem.W.codeIn K cd23 "_law_set_told" = true) (k23 : PySem.W.keepIn K (.ref f23) = true)
    (a24 : PySem.W.nsIn K mainGlobals "_law_right" = some (some (.ref f24))) (l24 : K.lookup f24 = some ⟨oc24, od24, .func (PySem.W.fnOf "_law_right" "_law_right" (defArgs s_law_right) (defBody s_law_right) (defScope s_law_right) .none kV24 dc24 pm24 an24 cd24 ct24), sl24⟩) (c24 : PySem.W.codeIn K cd24 "_law_right" = true) (k24 : PySem.W.keepIn K (.ref f24) = true)
    (a25 : PySem.W.nsIn K mainGlobals "law" = some (some (.ref f25))) (l25 : K.lookup f25 = some ⟨oc25, od25, .func (PySem.W.fnOf "law" "law" (defArgs slaw) (defBody slaw) (defScope slaw) .none kV25 dc25 pm25 an25 cd25 ct25), sl25⟩) (c25 : PySem.W.codeIn K cd25 "law" = true) (k25 : PySem.W.keepIn K (.ref f25) = true)
    (z0 : PySem.W.nsIn K mainGlobals "all" = some none)
    (z1 : PySem.W.nsIn K mainGlobals "any" = some none)
    (z2 : PySem.W.nsIn K mainGlobals "bool" = some none)
    (z3 : PySem.W.nsIn K mainGlobals "enumerate" = some none)
    (z4 : PySem.W.nsIn K mainGlobals "int" = some none)
    (z5 : PySem.W.nsIn K mainGlobals "isinstance" = some none)
    (z6 : PySem.W.nsIn K mainGlobals "len" = some none)
    (z7 : PySem.W.nsIn K mainGlobals "list" = some none)
    (z8 : PySem.W.nsIn K mainGlobals "max" = some none)
    (z9 : PySem.W.nsIn K mainGlobals "range" = some none)
    (z10 : PySem.W.nsIn K mainGlobals "sorted" = some none)
    (z11 : PySem.W.nsIn K mainGlobals "sum" = some none)
    (z12 : PySem.W.nsIn K mainGlobals "tuple" = some none) :
    ∃ fd : FuncData, (∀ (s : Shared) (v : Value), BindsTo s fd ⟨[v], []⟩ [("_law_script", v)]) ∧ ∀ base : Heap, K.In base → base.Ns mainGlobals mg → FnOk l.prog w K mg base CX0 6 fa fd ["_law_script"] (spLaw K) := by
  have e := hfa.symm.trans (PySem.W.mg_of X G a25)
  have e2 : f25 = fa := by cases e; rfl
  subst e2
  have B : Blt mg := ⟨PySem.W.mg_none_of X G z0, PySem.W.mg_none_of X G z1, PySem.W.mg_none_of X G z2, PySem.W.mg_none_of X G z3, PySem.W.mg_none_of X G z4, PySem.W.mg_none_of X G z5, PySem.W.mg_none_of X G z6, PySem.W.mg_none_of X G z7, PySem.W.mg_none_of X G z8, PySem.W.mg_none_of X G z9, PySem.W.mg_none_of X G z10, PySem.W.mg_none_of X G z11, PySem.W.mg_none_of X G z12⟩
  have F0 := fun_mk (st := sis_dry) l0 c0 k0
  have D0 : Def K mg "is_dry" sis_dry ["moves", "places"] f0 _ := ⟨F0, PySem.W.mg_of X G a0, F0.binds (ps := ["moves", "places"]) fun _ _ _ _ _ _ us hl => match us, hl with | [_, _], _ => rfl⟩
  have F1 := fun_mk (st := sbreaks_dry) l1 c1 k1
  have D1 : Def K mg "breaks_dry" sbreaks_dry ["moves", "places"] f1 _ := ⟨F1, PySem.W.mg_of X G a1, F1.binds (ps := ["moves", "places"]) fun _ _ _ _ _ _ us hl => match us, hl with | [_, _], _ => rfl⟩
  have F2 := fun_mk (st := stouches) l2 c2 k2
  have D2 : Def K mg "touches" stouches ["counts", "places"] f2 _ := ⟨F2, PySem.W.mg_of X G a2, F2.binds (ps := ["counts", "places"]) fun _ _ _ _ _ _ us hl => match us, hl with | [_, _], _ => rfl⟩
  have F3 := fun_mk (st := sgreatest_dry) l3 c3 k3
  have D3 : Def K mg "greatest_dry" sgreatest_dry ["moves", "places"] f3 _ := ⟨F3, PySem.W.mg_of X G a3, F3.binds (ps := ["moves", "places"]) fun _ _ _ _ _ _ us hl => match us, hl with | [_, _], _ => rfl⟩
  have F4 := fun_mk (st := sgreatest_wet) l4 c4 k4
  have D4 : Def K mg "greatest_wet" sgreatest_wet ["moves", "places"] f4 _ := ⟨F4, PySem.W.mg_of X G a4, F4.binds (ps := ["moves", "places"]) fun _ _ _ _ _ _ us hl => match us, hl with | [_, _], _ => rfl⟩
  have F5 := fun_mk (st := sleast_dry) l5 c5 k5
  have D5 : Def K mg "least_dry" sleast_dry ["moves", "many"] f5 _ := ⟨F5, PySem.W.mg_of X G a5, F5.binds (ps := ["moves", "many"]) fun _ _ _ _ _ _ us hl => match us, hl with | [_, _], _ => rfl⟩
  have F6 := fun_mk (st := sfilled_sets) l6 c6 k6
  have D6 : Def K mg "filled_sets" sfilled_sets ["many"] f6 _ := ⟨F6, PySem.W.mg_of X G a6, F6.binds (ps := ["many"]) fun _ _ _ _ _ _ us hl => match us, hl with | [_], _ => rfl⟩
  have F7 := fun_mk (st := swithin) l7 c7 k7
  have D7 : Def K mg "within" swithin ["small", "places"] f7 _ := ⟨F7, PySem.W.mg_of X G a7, F7.binds (ps := ["small", "places"]) fun _ _ _ _ _ _ us hl => match us, hl with | [_, _], _ => rfl⟩
  have F8 := fun_mk (st := sturned) l8 c8 k8
  have D8 : Def K mg "turned" sturned ["moves"] f8 _ := ⟨F8, PySem.W.mg_of X G a8, F8.binds (ps := ["moves"]) fun _ _ _ _ _ _ us hl => match us, hl with | [_], _ => rfl⟩
  have F9 := fun_mk (st := skept) l9 c9 k9
  have D9 : Def K mg "kept" skept ["moor"] f9 _ := ⟨F9, PySem.W.mg_of X G a9, F9.binds (ps := ["moor"]) fun _ _ _ _ _ _ us hl => match us, hl with | [_], _ => rfl⟩
  have F10 := fun_mk (st := stakes_singly) l10 c10 k10
  have D10 : Def K mg "takes_singly" stakes_singly ["moves"] f10 _ := ⟨F10, PySem.W.mg_of X G a10, F10.binds (ps := ["moves"]) fun _ _ _ _ _ _ us hl => match us, hl with | [_], _ => rfl⟩
  have F11 := fun_mk (st := s_law_cell) l11 c11 k11
  have D11 : Def K mg "_law_cell" s_law_cell ["_law_script", "_law_k"] f11 _ := ⟨F11, PySem.W.mg_of X G a11, F11.binds (ps := ["_law_script", "_law_k"]) fun _ _ _ _ _ _ us hl => match us, hl with | [_, _], _ => rfl⟩
  have F12 := fun_mk (st := s_law_move) l12 c12 k12
  have D12 : Def K mg "_law_move" s_law_move ["_law_script", "_law_at", "_law_many"] f12 _ := ⟨F12, PySem.W.mg_of X G a12, F12.binds (ps := ["_law_script", "_law_at", "_law_many"]) fun _ _ _ _ _ _ us hl => match us, hl with | [_, _, _], _ => rfl⟩
  have F13 := fun_mk (st := s_law_heavier) l13 c13 k13
  have D13 : Def K mg "_law_heavier" s_law_heavier ["_law_moves", "_law_cell_here"] f13 _ := ⟨F13, PySem.W.mg_of X G a13, F13.binds (ps := ["_law_moves", "_law_cell_here"]) fun _ _ _ _ _ _ us hl => match us, hl with | [_, _], _ => rfl⟩
  have F14 := fun_mk (st := s_law_begin) l14 c14 k14
  have D14 : Def K mg "_law_begin" s_law_begin ["_law_script", "_law_many"] f14 _ := ⟨F14, PySem.W.mg_of X G a14, F14.binds (ps := ["_law_script", "_law_many"]) fun _ _ _ _ _ _ us hl => match us, hl with | [_, _], _ => rfl⟩
  have F15 := fun_mk (st := s_law_all_sets) l15 c15 k15
  have D15 : Def K mg "_law_all_sets" s_law_all_sets ["_law_many"] f15 _ := ⟨F15, PySem.W.mg_of X G a15, F15.binds (ps := ["_law_many"]) fun _ _ _ _ _ _ us hl => match us, hl with | [_], _ => rfl⟩
  have F16 := fun_mk (st := s_law_inside) l16 c16 k16
  have D16 : Def K mg "_law_inside" s_law_inside ["_law_some", "_law_other"] f16 _ := ⟨F16, PySem.W.mg_of X G a16, F16.binds (ps := ["_law_some", "_law_other"]) fun _ _ _ _ _ _ us hl => match us, hl with | [_, _], _ => rfl⟩
  have F17 := fun_mk (st := s_law_sum) l17 c17 k17
  have D17 : Def K mg "_law_sum" s_law_sum ["_law_counts", "_law_some"] f17 _ := ⟨F17, PySem.W.mg_of X G a17, F17.binds (ps := ["_law_counts", "_law_some"]) fun _ _ _ _ _ _ us hl => match us, hl with | [_, _], _ => rfl⟩
  have F18 := fun_mk (st := s_law_dry) l18 c18 k18
  have D18 : Def K mg "_law_dry" s_law_dry ["_law_moves", "_law_some"] f18 _ := ⟨F18, PySem.W.mg_of X G a18, F18.binds (ps := ["_law_moves", "_law_some"]) fun _ _ _ _ _ _ us hl => match us, hl with | [_, _], _ => rfl⟩
  have F19 := fun_mk (st := s_law_wet) l19 c19 k19
  have D19 : Def K mg "_law_wet" s_law_wet ["_law_moves", "_law_some"] f19 _ := ⟨F19, PySem.W.mg_of X G a19, F19.binds (ps := ["_law_moves", "_law_some"]) fun _ _ _ _ _ _ us hl => match us, hl with | [_, _], _ => rfl⟩
  have F20 := fun_mk (st := s_law_least) l20 c20 k20
  have D20 : Def K mg "_law_least" s_law_least ["_law_moves", "_law_many"] f20 _ := ⟨F20, PySem.W.mg_of X G a20, F20.binds (ps := ["_law_moves", "_law_many"]) fun _ _ _ _ _ _ us hl => match us, hl with | [_, _], _ => rfl⟩
  have F21 := fun_mk (st := s_law_greatest_wet) l21 c21 k21
  have D21 : Def K mg "_law_greatest_wet" s_law_greatest_wet ["_law_moves", "_law_many", "_law_within"] f21 _ := ⟨F21, PySem.W.mg_of X G a21, F21.binds (ps := ["_law_moves", "_law_many", "_law_within"]) fun _ _ _ _ _ _ us hl => match us, hl with | [_, _, _], _ => rfl⟩
  have F22 := fun_mk (st := s_law_due) l22 c22 k22
  have D22 : Def K mg "_law_due" s_law_due ["_law_begin_here", "_law_moves"] f22 _ := ⟨F22, PySem.W.mg_of X G a22, F22.binds (ps := ["_law_begin_here", "_law_moves"]) fun _ _ _ _ _ _ us hl => match us, hl with | [_, _], _ => rfl⟩
  have F23 := fun_mk (st := s_law_set_told) l23 c23 k23
  have D23 : Def K mg "_law_set_told" s_law_set_told ["_law_found"] f23 _ := ⟨F23, PySem.W.mg_of X G a23, F23.binds (ps := ["_law_found"]) fun _ _ _ _ _ _ us hl => match us, hl with | [_], _ => rfl⟩
  have F24 := fun_mk (st := s_law_right) l24 c24 k24
  have D24 : Def K mg "_law_right" s_law_right ["_law_found", "_law_due_here"] f24 _ := ⟨F24, PySem.W.mg_of X G a24, F24.binds (ps := ["_law_found", "_law_due_here"]) fun _ _ _ _ _ _ us hl => match us, hl with | [_, _], _ => rfl⟩
  have F25 := fun_mk (st := slaw) l25 c25 k25
  have D25 : Def K mg "law" slaw ["_law_script"] f25 _ := ⟨F25, PySem.W.mg_of X G a25, F25.binds (ps := ["_law_script"]) fun _ _ _ _ _ _ us hl => match us, hl with | [_], _ => rfl⟩
  refine ⟨PySem.W.fnOf "law" "law" (defArgs slaw) (defBody slaw) (defScope slaw) .none kV25 dc25 pm25 an25 cd25 ct25, fun s v => .of_eq rfl, fun base _ _ => ?_⟩
  have G2 : FnOk l.prog w K mg base CX0 1 f2 _ ["counts", "places"] (spM K 2 .F (f_touches)) := oktouches D2 B 
  have G1 : FnOk l.prog w K mg base CX0 2 f1 _ ["moves", "places"] (spM K 2 .F (f_breaks_dry)) := okbreaks_dry D1 B D2 G2
  have G0 : FnOk l.prog w K mg base CX0 3 f0 _ ["moves", "places"] (spM K 2 .F (f_is_dry)) := okis_dry D0 B D1 G1
  have G3 : FnOk l.prog w K mg base CX0 3 f3 _ ["moves", "places"] (spM K 2 .F (f_greatest_dry)) := okgreatest_dry D3 B D1 G1
  have G8 : FnOk l.prog w K mg base CX0 1 f8 _ ["moves"] (spM K 1 .F (f_turned)) := okturned D8 B 
  have G4 : FnOk l.prog w K mg base CX0 4 f4 _ ["moves", "places"] (spM K 2 .F (f_greatest_wet)) := okgreatest_wet D4 B D3 G3 D8 G8
  have G6 : FnOk l.prog w K mg base CX0 1 f6 _ ["many"] (spM K 1 .F (f_filled_sets)) := okfilled_sets D6 B 
  have G7 : FnOk l.prog w K mg base CX0 1 f7 _ ["small", "places"] (spM K 2 .F (f_within)) := okwithin D7 B 
  have G5 : FnOk l.prog w K mg base CX0 4 f5 _ ["moves", "many"] (spM K 2 .F (f_least_dry)) := okleast_dry D5 B D6 G6 D0 G0 D7 G7
  have G10 : FnOk l.prog w K mg base CX0 1 f10 _ ["moves"] (spM K 1 .F (f_takes_singly)) := oktakes_singly D10 B 
  have G9 : FnOk l.prog w K mg base CX0 5 f9 _ ["moor"] (spM K 1 .F (f_kept)) := okkept D9 B D10 G10 D4 G4 D5 G5 D2 G2
  have G11 : FnOk l.prog w K mg base CX0 1 f11 _ ["_law_script", "_law_k"] (spM K 2 .F (f__law_cell)) := ok_law_cell D11 B 
  have G12 : FnOk l.prog w K mg base CX0 2 f12 _ ["_law_script", "_law_at", "_law_many"] (spM K 3 .F (f__law_move)) := ok_law_move D12 B D11 G11
  have G13 : FnOk l.prog w K mg base CX0 1 f13 _ ["_law_moves", "_law_cell_here"] (spM K 2 .U (f__law_heavier)) := ok_law_heavier D13 B 
  have G14 : FnOk l.prog w K mg base CX0 2 f14 _ ["_law_script", "_law_many"] (spM K 2 .F (f__law_begin)) := ok_law_begin D14 B D11 G11
  have G15 : FnOk l.prog w K mg base CX0 1 f15 _ ["_law_many"] (spM K 1 .F (f__law_all_sets)) := ok_law_all_sets D15 B 
  have G16 : FnOk l.prog w K mg base CX0 1 f16 _ ["_law_some", "_law_other"] (spM K 2 .F (f__law_inside)) := ok_law_inside D16 B 
  have G17 : FnOk l.prog w K mg base CX0 1 f17 _ ["_law_counts", "_law_some"] (spM K 2 .F (f__law_sum)) := ok_law_sum D17 B 
  have G18 : FnOk l.prog w K mg base CX0 2 f18 _ ["_law_moves", "_law_some"] (spM K 2 .F (f__law_dry)) := ok_law_dry D18 B D17 G17
  have G19 : FnOk l.prog w K mg base CX0 2 f19 _ ["_law_moves", "_law_some"] (spM K 2 .F (f__law_wet)) := ok_law_wet D19 B D17 G17
  have G20 : FnOk l.prog w K mg base CX0 3 f20 _ ["_law_moves", "_law_many"] (spM K 2 .F (f__law_least)) := ok_law_least D20 B D15 G15 D18 G18 D16 G16
  have G21 : FnOk l.prog w K mg base CX0 3 f21 _ ["_law_moves", "_law_many", "_law_within"] (spM K 3 .F (f__law_greatest_wet)) := ok_law_greatest_wet D21 B D15 G15 D16 G16 D19 G19
  have G22 : FnOk l.prog w K mg base CX0 4 f22 _ ["_law_begin_here", "_law_moves"] (spM K 2 .F (f__law_due)) := ok_law_due D22 B D20 G20 D21 G21 D17 G17
  have G23 : FnOk l.prog w K mg base CX0 1 f23 _ ["_law_found"] (spM K 1 .F (f__law_set_told)) := ok_law_set_told D23 B 
  have G24 : FnOk l.prog w K mg base CX0 2 f24 _ ["_law_found", "_law_due_here"] (spM K 2 .F (f__law_right)) := ok_law_right D24 B D23 G23
  have G25 : FnOk l.prog w K mg base CX0 6 f25 _ ["_law_script"] (spM K 1 .F (f_law)) := oklaw D25 B D13 G13 D14 G14 D22 G22 D9 G9 D24 G24 D11 G11 D12 G12
  exact law_ofB G25 hp
end K82
set_option Elab.async false
open PySem PySem.W PyProof.Rows
set_option maxRecDepth 100000 in
set_option maxHeartbeats 0 in
theorem PySem.Challenge.cw_tokenmoor_k82_kept_by_sets_holds : PySem.Challenge.rw_tokenmoor_k82_kept_by_sets.Holds := by
  w_on; o_law; k_head; (case hw => w_witness2)
  k_fill
  refine L2.walk_ofKB (l := PySem.Challenge.rw_tokenmoor_k82_kept_by_sets) (n := 63) (k := 6) (x := "_law_script") (CX := L2.CX0) (sp := K82.spLaw) rfl (by decide) rfl ⟨rfl, by decide, by decide⟩ (fun w h Y => PySem.W.kIn_of Y) ?F ?S ?C
  case F =>
    intro w mg fa h KX G hmg
    refine' K82.all_mk K82.law_pure KX G hmg ?a0 ?l0 ?c0 ?k0 ?a1 ?l1 ?c1 ?k1 ?a2 ?l2 ?c2 ?k2 ?a3 ?l3 ?c3 ?k3 ?a4 ?l4 ?c4 ?k4 ?a5 ?l5 ?c5 ?k5 ?a6 ?l6 ?c6 ?k6 ?a7 ?l7 ?c7 ?k7 ?a8 ?l8 ?c8 ?k8 ?a9 ?l9 ?c9 ?k9 ?a10 ?l10 ?c10 ?k10 ?a11 ?l11 ?c11 ?k11 ?a12 ?l12 ?c12 ?k12 ?a13 ?l13 ?c13 ?k13 ?a14 ?l14 ?c14 ?k14 ?a15 ?l15 ?c15 ?k15 ?a16 ?l16 ?c16 ?k16 ?a17 ?l17 ?c17 ?k17 ?a18 ?l18 ?c18 ?k18 ?a19 ?l19 ?c19 ?k19 ?a20 ?l20 ?c20 ?k20 ?a21 ?l21 ?c21 ?k21 ?a22 ?l22 ?c22 ?k22 ?a23 ?l23 ?c23 ?k23 ?a24 ?l24 ?c24 ?k24 ?a25 ?l25 ?c25 ?k25 ?z0 ?z1 ?z2 ?z3 ?z4 ?z5 ?z6 ?z7 ?z8 ?z9 ?z10 ?z11 ?z12
    (case a0 => k_is)
    (case l0 => k_is)
    (case c0 => k_is)
    (case k0 => k_is)
    (case a1 => k_is)
    (case l1 => k_is)
    (case c1 => k_is)
    (case k1 => k_is)
    (case a2 => k_is)
    (case l2 => k_is)
    (case c2 => k_is)
    (case k2 => k_is)
    (case a3 => k_is)
    (case l3 => k_is)
    (case c3 => k_is)
    (case k3 => k_is)
    (case a4 => k_is)
    (case l4 => k_is)
    (case c4 => k_is)
    (case k4 => k_is)
    (case a5 => k_is)
    (case l5 => k_is)
    (case c5 => k_is)
    (case k5 => k_is)
    (case a6 => k_is)
    (case l6 => k_is)
    (case c6 => k_is)
    (case k6 => k_is)
    (case a7 => k_is)
    (case l7 => k_is)
    (case c7 => k_is)
    (case k7 => k_is)
    (case a8 => k_is)
    (case l8 => k_is)
    (case c8 => k_is)
    (case k8 => k_is)
    (case a9 => k_is)
    (case l9 => k_is)
    (case c9 => k_is)
    (case k9 => k_is)
    (case a10 => k_is)
    (case l10 => k_is)
    (case c10 => k_is)
    (case k10 => k_is)
    (case a11 => k_is)
    (case l11 => k_is)
    (case c11 => k_is)
    (case k11 => k_is)
    (case a12 => k_is)
    (case l12 => k_is)
    (case c12 => k_is)
    (case k12 => k_is)
    (case a13 => k_is)
    (case l13 => k_is)
    (case c13 => k_is)
    (case k13 => k_is)
    (case a14 => k_is)
    (case l14 => k_is)
    (case c14 => k_is)
    (case k14 => k_is)
    (case a15 => k_is)
    (case l15 => k_is)
    (case c15 => k_is)
    (case k15 => k_is)
    (case a16 => k_is)
    (case l16 => k_is)
    (case c16 => k_is)
    (case k16 => k_is)
    (case a17 => k_is)
    (case l17 => k_is)
    (case c17 => k_is)
    (case k17 => k_is)
    (case a18 => k_is)
    (case l18 => k_is)
    (case c18 => k_is)
    (case k18 => k_is)
    (case a19 => k_is)
    (case l19 => k_is)
    (case c19 => k_is)
    (case k19 => k_is)
    (case a20 => k_is)
    (case l20 => k_is)
    (case c20 => k_is)
    (case k20 => k_is)
    (case a21 => k_is)
    (case l21 => k_is)
    (case c21 => k_is)
    (case k21 => k_is)
    (case a22 => k_is)
    (case l22 => k_is)
    (case c22 => k_is)
    (case k22 => k_is)
    (case a23 => k_is)
    (case l23 => k_is)
    (case c23 => k_is)
    (case k23 => k_is)
    (case a24 => k_is)
    (case l24 => k_is)
    (case c24 => k_is)
    (case k24 => k_is)
    (case a25 => k_is)
    (case l25 => k_is)
    (case c25 => k_is)
    (case k25 => k_is)
    (case z0 => k_is)
    (case z1 => k_is)
    (case z2 => k_is)
    (case z3 => k_is)
    (case z4 => k_is)
    (case z5 => k_is)
    (case z6 => k_is)
    (case z7 => k_is)
    (case z8 => k_is)
    (case z9 => k_is)
    (case z10 => k_is)
    (case z11 => k_is)
    (case z12 => k_is)
  case S => exact fun K H a ns hl hb hO hS => ⟨a, ns, rfl, hS, hl, hb, fun _ => rfl⟩
  case C => exact fun _ _ _ _ z => z
