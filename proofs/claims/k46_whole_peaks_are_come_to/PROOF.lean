import PyProof.Rows.All
import Wide.All
import OpenK.AllK
import Wide.FinOn
import Lean
import PyProof.EqAt
import PyProof.EqKinds
import PyProof.TupleCall
import PyProof.ZipIter
import PyProof.TupleIter
import PyProof.WalksMore
import PyProof.EnumMake
import PyProof.Draws
import PyProof.P3In
import KE.KSortTup
import PyProof.Rows.SortWalk
import KE.IntBitsLaws
import KE.KRevIter
import PyProof.TupleOfGen
import PySem.Challenge.RW_tokenmoor_k46_whole_peaks_are_come_to
open PySem.W (Frag)
set_option Elab.async false
set_option linter.all false
set_option maxRecDepth 100000
theorem Z1 {p q:Prop} (a:p) (b:q):p∧q:=⟨a,b⟩
local macro_rules | `(tactic| omega)=>`(tactic| first | with_reducible assumption | decide | lia)
theorem au0 (h:True:=by rfl):True:=h
theorem au1 (h:True:=by decide):True:=h
theorem au2 (h:True:=by first | exact .inl rfl | exact .inr rfl | assumption):True:=h
theorem au3 (h:True:=by intro _; rfl):True:=h
theorem au4 (h:True:=by exact fun _ _=>rfl):True:=h
theorem au5 (h:True:=by first | exact Or.inl rfl | exact Or.inr (Or.inl rfl) | exact Or.inr (Or.inr rfl)):True:=h
theorem au6 (h:True:=by with_unfolding_all rfl):True:=h
set_option genSizeOf false
set_option genSizeOfSpec false
namespace L2
open PySem PySem.Spec PyProof.Rows
noncomputable abbrev Key:=Sum Int Str
noncomputable def sO:Key→Value→Bool
 | .inl k,v=>Value.isInt k v
 | .inr x,v=>Value.isStrOf x v
noncomputable def keyH (w:World):Key→Int
 | .inl k=>hashInt k
 | .inr x=>hashStr w x
theorem v6:∀ {k:Key} {v:Value},sO k v=true→(∃ i t,k=Sum.inl i∧v=Value.int i t)∨(∃ x t,k=Sum.inr x∧v=Value.str x t)
 | .inl i,v,h=>by
  obtain ⟨t,e⟩:=Value.isInt_shape (k:=i) (v:=v) h
  exact .inl ⟨i,t,rfl,e⟩
 | .inr x,v,h=>by
  obtain ⟨t,e⟩:=Value.isStrOf_shape (x:=x) (v:=v) h
  exact .inr ⟨x,t,rfl,e⟩
theorem zj (a b:Int):decide ((Sum.inl a:Key)=Sum.inl b)=(a == b):=by
 by_cases e:a=b
 ·subst e; simp
 ·have h:¬ (Sum.inl a:Key)=Sum.inl b:=fun q=>e (Sum.inl.inj q)
  rw [decide_eq_false h]
  exact (beq_eq_false_iff_ne.mpr e).symm
theorem zf (a b:Str):decide ((Sum.inr a:Key)=Sum.inr b)=decide (a=b):=by
 by_cases e:a=b
 ·subst e; simp
 ·have h:¬ (Sum.inr a:Key)=Sum.inr b:=fun q=>e (Sum.inr.inj q)
  rw [decide_eq_false h,decide_eq_false e]
theorem zh (a:Int) (b:Str):decide ((Sum.inl a:Key)=Sum.inr b)=false:=decide_eq_false (fun q=>nomatch q)
theorem zg (a:Str) (b:Int):decide ((Sum.inr a:Key)=Sum.inl b)=false:=decide_eq_false (fun q=>nomatch q)
noncomputable def jL (prog:Program) (w:World):PySem.KeyKind prog w Key where
 is:=sO
 hash:=keyH w
 inj:=fun v a b ha hb=>by
  rcases v6 ha with ⟨i,t,rfl,rfl⟩ | ⟨x,t,rfl,rfl⟩
  ·rcases v6 hb with ⟨j,u,rfl,e⟩ | ⟨y,u,rfl,e⟩
   ·injection e with e1 _; rw [e1]
   ·exact nomatch e
  ·rcases v6 hb with ⟨j,u,rfl,e⟩ | ⟨y,u,rfl,e⟩
   ·exact nomatch e
   ·injection e with e1 _; rw [e1]
 byValue:=fun k v h=>by
  rcases v6 h with ⟨i,t,rfl,rfl⟩ | ⟨x,t,rfl,rfl⟩ <;> rfl
 pyHash:=fun hv h=>by
  rcases v6 hv with ⟨i,t,rfl,rfl⟩ | ⟨x,t,rfl,rfl⟩
  ·exact wpAny_pyHash_int h
  ·exact wpAny_pyHash_str h
 eqBool:=fun hu hv h=>by
  rcases v6 hu with ⟨i,t,rfl,rfl⟩ | ⟨x,t,rfl,rfl⟩
  ·rcases v6 hv with ⟨j,u,rfl,rfl⟩ | ⟨y,u,rfl,rfl⟩
   ·rw [zj] at h; exact wpAny_eqBool_int h
   ·rw [zh] at h; exact SeqAt.EqAt.int_str i t y u _ _ _ _ h
  ·rcases v6 hv with ⟨j,u,rfl,rfl⟩ | ⟨y,u,rfl,rfl⟩
   ·rw [zg] at h; exact SeqAt.EqAt.str_int x t j u _ _ _ _ h
   ·rw [zf] at h; exact wpAny_eqBool_str h
 «strs»:=fun k x t v h=>by
  rcases v6 h with ⟨i,u,rfl,e⟩ | ⟨y,u,rfl,e⟩
  ·exact nomatch e
  ·injection e with e1 _
   subst e1
   cases v <;> rfl
end L2
namespace L2
open PySem PySem.Spec PyProof.Rows
inductive V where
 | non | bl (b:Bool) | int (i:Int) | str (x:Str) | byt (b:Array UInt8) | flt (b:UInt64) | ref (a:Addr) | ty (n:String)
 deriving DecidableEq
noncomputable def RelV:V→Value→Prop
 | .non,u=>u=Value.none
 | .bl b,u=>u=Value.bool b
 | .int i,u=>∃ t,u=Value.int i t
 | .str x,u=>∃ t,u=Value.str x t
 | .byt b,u=>∃ t,u=Value.bytes b t
 | .flt b,u=>∃ t,u=Value.float b t
 | .ref a,u=>u=Value.ref a
 | .ty n,u=>u=Value.type n
noncomputable abbrev Vals:List V→List Value→Prop:=Paired RelV
theorem Vals.length {xs:List V} {us:List Value} (r:Vals xs us):xs.length=us.length:=Paired.length r
theorem Vals.get:∀ {xs:List V} {us:List Value} {i:Nat} {x:V},Vals xs us→xs[i]?=some x→∃ u,us[i]?=some u∧RelV x u:=by
 intro xs us i x a
 induction a generalizing i with
 | nil=>intro e; cases e
 | cons r t ih=>
  intro e
  cases i with
  | zero=>cases e; exact ⟨_,rfl,r⟩
  | succ i=>exact ih e
theorem Vals.set {x:V} {u:Value} (r:RelV x u):∀ {xs:List V} {us:List Value} (i:Nat),Vals xs us→Vals (xs.set i x) (us.set i u):=by
 intro xs us i h
 induction h generalizing i with
 | nil=>exact .nil
 | cons q t ih=>
  cases i with
  | zero=>exact .cons r t
  | succ i=>exact .cons q (ih i)
theorem Vals.append:∀ {xs ys:List V} {us ws:List Value},Vals xs us→Vals ys ws→Vals (xs++ys) (us++ws):=by
 intro xs ys us ws a s
 induction a with
 | nil=>exact s
 | cons r t ih=>exact .cons r ih
theorem Vals.take:∀ {xs:List V} {us:List Value} (n:Nat),Vals xs us→Vals (xs.take n) (us.take n):=by
 intro xs us n h
 induction h generalizing n with
 | nil=>cases n <;> exact .nil
 | cons r t ih=>
  cases n with
  | zero=>exact .nil
  | succ n=>exact .cons r (ih n)
theorem Vals.drop:∀ {xs:List V} {us:List Value} (n:Nat),Vals xs us→Vals (xs.drop n) (us.drop n)
 | _,_,0,r=>r
 | _,_,_+1,.nil=>.nil
 | _,_,n+1,.cons _ t=>Vals.drop n t
noncomputable def rX:Option V→Option Value→Prop
 | some v,some u=>RelV v u
 | none,none=>True
 | _,_=>False
noncomputable def KV {κ:Type}:List (κ×V)→List (κ×Value)→Prop:=Paired fun (p:κ×V) (q:κ×Value)=>p.1=q.1∧RelV p.2 q.2
noncomputable def kV:Key→V
 | .inl i=>.int i
 | .inr x=>.str x
inductive HO where
 | lst (xs:List V)
 | tup (xs:List V)
 | dK (kvs:List (Key×V)) | dT (kvs:List (List Key×V))
 | set (S:Int→Bool) (n:Nat)
 | ins (C dx:Addr) (fs:List (Str×V))
 | own (x:Addr)
 | xd (fs:List (Str×V))
 | met (f x:Addr)
 | rng (lo hi:Int)
 | frz (o:Obj) (u:HO)
 | tbl (ps:Array Value)
 | ext (φ:Heap→Prop)
noncomputable abbrev Hp:=Addr→Option HO
noncomputable def upd (H:Hp) (a:Addr) (o:HO):Hp:=fun b=>if b=a then some o else H b
theorem l7 {H:Hp} {a:Addr} {o:HO}:upd H a o a=some o:=by unfold upd; rw [if_pos rfl]
theorem c7 {H:Hp} {a b:Addr} {o:HO} (h:b≠a):upd H a o b=H b:=by unfold upd; rw [if_neg h]
theorem g8 {H:Hp} {a b:Addr} {o:HO} (h:H a=some o) (h':H b=none):a≠b:=by
 intro e; subst e; rw [h] at h'; cases h'
section
variable (P:Program) (w:World)
noncomputable def ObjOk (H:Hp) (h:Heap) (a:Addr):HO→Prop
 | .lst xs=>xs.length≤sizeLine∧∃ (its:List Value) (n:Nat),Vals xs its∧h.get? a=some { cls:=.type "list",data:=.seq its.toArray n }
 | .tup xs=>xs.length≤sizeLine∧∃ its:List Value,Vals xs its∧IsTup h a its.toArray
 | .dK kvs=>kvs.length≤sizeLine∧(a == sysModules)=false∧∃ vs,KV kvs vs∧h.DictOf (jL P w) a vs
 | .dT kvs=>kvs.length≤sizeLine∧(a == sysModules)=false∧∃ xs:List (List Key×Addr×Value),
   Paired (fun (p:List Key×V) (q:List Key×Addr×Value)=>p.1=q.1∧H q.2.1=some (.tup (p.1.map kV))∧RelV p.2 q.2.2) kvs xs ∧
   ∃ o es ep,h.get? a=some o∧o.ExactDict∧o.data=.dict es ep∧es.toList=xs.map (entryOfKey (tupleKind (jL P w)))∧(xs.map (·.1)).Nodup
 | .set S n=>h.SetOf (intKind P w) a S n
 | .ins C dx fs=>H dx=some (.own a)∧fs.length≤1000∧dx≠a∧h.get? a=some (PySem.W.instObj C dx) ∧
   ∃ mA,h.Ns1 dx mA∧(∀ f,rX (fs.lookup f) (mA f))∧PySem.Within mA (fs.map (·.1))
 | .own _=>∃ o,h.get? a=some o
 | .xd fs=>∃ mA,h.Ns1 a mA∧∀ f,rX (fs.lookup f) (mA f)
 | .rng lo hi=>∃ t u v,h.get? a=some { cls:=.type "range",data:=.fields #[.int lo t,.int hi u,.int 1 v] }
 | .frz o u=>h.get? a=some o∧ObjOk H h a u
 | .tbl ps=>h.get? a=some { cls:=.none,data:=.fields ps }
 | .met f x=>h.get? a=some (PySem.W.methodObj (.ref f) (.ref x))
 | .ext φ=>φ h∧(∃ o,h.get? a=some o)∧∀ h1 h2:Heap,φ h1→(∀ o,h1.get? a=some o→h2.get? a=some o)→φ h2
noncomputable def HOk (H:Hp) (h:Heap):Prop:=∀ a o,H a=some o→ObjOk P w H h a o
end
section
variable {P:Program} {w:World} {H H':Hp} {h h':Heap} {a:Addr} {o:HO}
theorem ObjOk.lt (x:ObjOk P w H h a o):a<h.objs.size:=by
 cases o with
 | lst xs=>obtain ⟨_,_,_,_,e⟩:=x; exact Heap.lt_size e
 | tup xs=>obtain ⟨_,_,_,p⟩:=x; exact p.lt
 | dK kvs=>obtain ⟨_,_,_,_,o,_,_,e,_⟩:=x; exact Heap.lt_size e
 | dT kvs=>obtain ⟨_,_,_,_,o,_,_,e,_⟩:=x; exact Heap.lt_size e
 | set S n=>obtain ⟨o,_,_,_,e,_⟩:=x; exact Heap.lt_size e
 | ins C dx fs=>obtain ⟨_,_,_,e,_⟩:=x; exact Heap.lt_size e
 | own y=>obtain ⟨_,e⟩:=x; exact Heap.lt_size e
 | xd fs=>obtain ⟨_,⟨_,_,_,e,_⟩,_⟩:=x; exact Heap.lt_size e
 | rng lo hi=>obtain ⟨_,_,_,e⟩:=x; exact Heap.lt_size e
 | frz ob u=>obtain ⟨e,_⟩:=x; exact Heap.lt_size e
 | tbl ps=>exact Heap.lt_size (show h.get? a=some _ from x)
 | met f y=>exact Heap.lt_size (show h.get? a=some _ from x)
 | ext φ=>obtain ⟨_,⟨_,e⟩,_⟩:=x; exact Heap.lt_size e
theorem Paired.mapP {α β:Type} {F G:α→β→Prop}:∀ {l₁:List α} {l₂:List β},Paired F l₁ l₂→(∀ a b,F a b→G a b)→Paired G l₁ l₂:=by
 intro l₁ l₂ h f
 induction h with
 | nil=>exact .nil
 | cons r t ih=>exact .cons (f _ _ r) ih
theorem ObjOk.stay (x:ObjOk P w H h a o) (k:∀ b u,(b=a∨H b=some (.own a))→h.get? b=some u→h'.get? b=some u)
  (ho:∀ b,H b=some (.own a)→H' b=some (.own a)) (ht:∀ b xs,H b=some (.tup xs)→H' b=some (.tup xs)):ObjOk P w H' h' a o:=by
 induction o with
 | lst xs=>obtain ⟨z,its,n,r,e⟩:=x; exact ⟨z,its,n,r,k _ _ (.inl rfl) e⟩
 | tup xs=>obtain ⟨z,its,r,ob,e,c⟩:=x; exact ⟨z,its,r,ob,k _ _ (.inl rfl) e,c⟩
 | dK kvs=>obtain ⟨z,y,vs,r,ob,es,ep,e,c⟩:=x; exact ⟨z,y,vs,r,ob,es,ep,k _ _ (.inl rfl) e,c⟩
 | dT kvs=>
  obtain ⟨z,y,xs,r,ob,es,ep,e,c⟩:=x
  exact ⟨z,y,xs,Paired.mapP r fun p q z=>⟨z.1,ht _ _ z.2.1,z.2.2⟩,ob,es,ep,k _ _ (.inl rfl) e,c⟩
 | set S n=>obtain ⟨ob,es,ep,t,e,c⟩:=x; exact ⟨ob,es,ep,t,k _ _ (.inl rfl) e,c⟩
 | ins C dx fs=>
  obtain ⟨d,z,ne,e,mA,⟨od,es,ep,e2,c⟩,r⟩:=x
  exact ⟨ho _ d,z,ne,k _ _ (.inl rfl) e,mA,⟨od,es,ep,k _ _ (.inr d) e2,c⟩,r⟩
 | own y=>obtain ⟨ob,e⟩:=x; exact ⟨ob,k _ _ (.inl rfl) e⟩
 | xd fs=>obtain ⟨mA,⟨od,es,ep,e,c⟩,r⟩:=x; exact ⟨mA,⟨od,es,ep,k _ _ (.inl rfl) e,c⟩,r⟩
 | rng lo hi=>obtain ⟨t,u,v,e⟩:=x; exact ⟨t,u,v,k _ _ (.inl rfl) e⟩
 | frz ob u ih=>obtain ⟨e,q⟩:=x; exact ⟨k _ _ (.inl rfl) e,ih q⟩
 | tbl ps=>
  have e:h.get? a=some { cls:=.none,data:=.fields ps }:=x
  show h'.get? a=some { cls:=.none,data:=.fields ps }
  exact k a _ (.inl rfl) e
 | met f y=>
  have e:h.get? a=some (PySem.W.methodObj (.ref f) (.ref y)):=x
  show h'.get? a=some (PySem.W.methodObj (.ref f) (.ref y))
  exact k a _ (.inl rfl) e
 | ext φ=>obtain ⟨p,⟨o,e⟩,st⟩:=x; exact ⟨st _ _ p fun o q=>k _ _ (.inl rfl) q,⟨o,k _ _ (.inl rfl) e⟩,st⟩
theorem HOk.lt (x:HOk P w H h) (e:H a=some o):a<h.objs.size:=(x a o e).lt
theorem HOk.fresh (x:HOk P w H h) (e:h.objs.size≤a):H a=none:=by
 cases q:H a with
 | none=>rfl
 | some u=>exact absurd (Nat.lt_of_lt_of_le (x.lt q) e) (Nat.lt_irrefl _)
theorem HOk.kept (x:HOk P w H h) (k:∀ b u,h.get? b=some u→h'.get? b=some u):HOk P w H h':=fun a o e=>
 (x a o e).stay (fun b u _ q=>k b u q) (fun _ q=>q) fun _ _ q=>q
theorem HOk.laid (x:HOk P w H h) (k:∀ b u,h.get? b=some u→h'.get? b=some u) (hp:h.objs.size≤a) (new:ObjOk P w (upd H a o) h' a o):HOk P w (upd H a o) h':=fun b u e=>by
 have hn:=x.fresh hp
 by_cases hb:b=a
 ·subst hb; rw [l7] at e; cases e; exact new
 ·rw [c7 hb] at e
  exact (x b u e).stay (fun c v _ q=>k c v q) (fun c q=>by rw [c7 (g8 q hn)]; exact q) fun c xs q=>by rw [c7 (g8 q hn)]; exact q
end
noncomputable def Rd (H:Hp) (a:Addr) (u:HO):Prop:=H a=some u∨∃ o,H a=some (.frz o u)
theorem Rd.ok {P:Program} {w:World} {H:Hp} {h:Heap} {a:Addr} {u:HO} (r:Rd H a u) (x:HOk P w H h):ObjOk P w H h a u:=by
 rcases r with r | ⟨o,r⟩
 ·exact x a u r
 ·obtain ⟨_,q⟩:=x a _ r
  exact q
noncomputable def Mut:Option HO→Prop
 | some (.lst _)=>True
 | some (.dK _)=>True
 | some (.dT _)=>True
 | some (.set _ _)=>True
 | some (.ins _ _ _)=>True
 | some (.ext _)=>True
 | _=>False
section
variable {P:Program} {w:World} {H:Hp} {h h':Heap} {x e:Addr} {o':HO}
theorem HOk.write (ok:HOk P w H h) (mu:Mut (H x)) (he:e=x∨H e=some (.own x)) (k:∀ b u,b≠e→h.get? b=some u→h'.get? b=some u) (heo:∃ u,h'.get? e=some u)
  (new:ObjOk P w (upd H x o') h' x o'):HOk P w (upd H x o') h':=fun b u q=>by
 have nown:∀ c y,H c=some (.own y)→c≠x:=fun c y r z=>by subst z; rw [r] at mu; exact mu
 have ntup:∀ c xs,H c=some (.tup xs)→c≠x:=fun c xs r z=>by subst z; rw [r] at mu; exact mu
 by_cases hb:b=x
 ·subst hb; rw [l7] at q; cases q; exact new
 ·rw [c7 hb] at q
  by_cases hbe:b=e
  ·have q':H b=some (.own x):=by
    rcases he with z | z
    ·exact absurd (hbe.trans z) hb
    ·rw [hbe]; exact z
   rw [q] at q'; cases q'
   obtain ⟨v,hv⟩:=heo
   exact ⟨v,by rw [hbe]; exact hv⟩
  ·refine (ok b u q).stay (fun c v hc r=>k c v ?_ r) (fun c r=>by rw [c7 (nown c b r)]; exact r) fun c xs r=>by rw [c7 (ntup c xs r)]; exact r
   rcases hc with rfl | hc
   ·exact hbe
   ·rintro rfl
    rcases he with z | z
    ·exact nown c b hc z
    ·rw [hc] at z; cases z; exact hb rfl
end
structure Un (fs ex:List Addr) (H H':Hp) (h h':Heap):Prop where
 keep:∀ b o,h.get? b=some o→H b=none→b∉fs→b∉ex→h'.get? b=some o
 slot:∀ b o,h.get? b=some o→H b=none→b∈fs→b∉ex→∃ sl,h'.get? b=some { o with slots:=sl }
 free:∀ b o,h.get? b=some o→H b=none→b∉ex→H' b=none
 there:∀ b o,h.get? b=some o→b∉ex→∃ o',h'.get? b=some o'
 tups:∀ b xs,H b=some (.tup xs)→H' b=some (.tup xs)
 frzs:∀ b o u,H b=some (.frz o u)→H' b=some (.frz o u)
 tbls:∀ b ps,H b=some (.tbl ps)→∃ more,H' b=some (.tbl (ps++more))
section
variable {fs fs' ex ex':List Addr} {H H1 H2:Hp} {h h1 h2 h':Heap} {a x e:Addr} {o:HO}
theorem Un.any (u:Un fs ex H H1 h h1) {b:Addr} {ob:Obj} (q:h.get? b=some ob) (n:H b=none) (hx:b∉ex):∃ sl,h1.get? b=some { ob with slots:=sl }:=by
 by_cases hb:b∈fs
 ·exact u.slot b ob q n hb hx
 ·exact ⟨ob.slots,u.keep b ob q n hb hx⟩
theorem Un.kept (k:∀ b u,h.get? b=some u→h'.get? b=some u):Un fs ex H H h h':=
 ⟨fun b ob q _ _ _=>k b ob q,fun b ob q _ _ _=>⟨ob.slots,k b ob q⟩,fun _ _ _ n _=>n,fun b ob q _=>⟨ob,k b ob q⟩,fun _ _ q=>q,fun _ _ _ q=>q,fun _ ps q=>⟨#[],by rw [q]; simp⟩⟩
theorem Un.refl:Un fs ex H H h h:=Un.kept fun _ _ q=>q
theorem Un.laid (k:∀ b u,h.get? b=some u→h'.get? b=some u) (hp:h.objs.size≤a) (hn:H a=none):Un fs ex H (upd H a o) h h' where
 keep:=fun b u q _ _ _=>k b u q
 slot:=fun b u q _ _ _=>⟨u.slots,k b u q⟩
 free:=fun b u q n _=>by rw [c7 (Nat.ne_of_lt (Nat.lt_of_lt_of_le (Heap.lt_size q) hp))]; exact n
 there:=fun b u q _=>⟨u,k b u q⟩
 tups:=fun b xs q=>by rw [c7 (g8 q hn)]; exact q
 frzs:=fun b u xs q=>by rw [c7 (g8 q hn)]; exact q
 tbls:=fun b ps q=>⟨#[],by rw [c7 (g8 q hn),q]; simp⟩
theorem Un.write (mu:Mut (H x)) (he:e=x∨H e=some (.own x)) (k:∀ b u,b≠e→h.get? b=some u→h'.get? b=some u) (heo:∃ u,h'.get? e=some u):Un fs ex H (upd H x o) h h':=by
 have hx:∀ b,H b=none→b≠x:=fun b n z=>by subst z; rw [n] at mu; exact mu
 have hb:∀ b,H b=none→b≠e:=fun b n z=>by
  subst z
  rcases he with r | r
  ·exact hx b n r
  ·rw [n] at r; cases r
 have hm:∀ b u,H b=some u→¬ Mut (some u)→b≠x:=fun b u q nm z=>by subst z; rw [q] at mu; exact nm mu
 refine ⟨fun b u q n _ _=>k b u (hb b n) q,fun b u q n _ _=>⟨u.slots,k b u (hb b n) q⟩,fun b u q n _=>by rw [c7 (hx b n)]; exact n,fun b u q _=>?_,
  fun b xs q=>by rw [c7 (hm b _ q fun z=>z)]; exact q,fun b u xs q=>by rw [c7 (hm b _ q fun z=>z)]; exact q,fun b ps q=>⟨#[],by rw [c7 (hm b _ q fun z=>z),q]; simp⟩⟩
 by_cases hbe:b=e
 ·subst hbe; exact heo
 ·exact ⟨u,k b u hbe q⟩
end
noncomputable def trk (h:Heap) (H:Hp):List Addr:=(List.range h.objs.size).filter fun a=>(H a).isSome
noncomputable def bu (h:Heap) (H:Hp):Heap:=PySem.W.hideAll h (trk h H)
theorem nZ (h:Heap) (H:Hp):(bu h H).objs.size=h.objs.size:=PySem.W.hideAll_size _ _
theorem qU {h:Heap} {H:Hp} {b:Addr} {o:Obj} (e:h.get? b=some o) (n:H b=none):(bu h H).get? b=some o:=
 PySem.W.hideAll_get _ e fun hm=>by
  have q:(H b).isSome=true:=(List.mem_filter.mp hm).2
  rw [n] at q; simp at q
theorem uP {h:Heap} {H:Hp} {b:Addr} {o:Obj} (e:(bu h H).get? b=some o):h.get? b=some o∧H b=none:=by
 have e':h.get? b=some o:=PySem.W.of_hideAll (trk h H) e
 refine ⟨e',?_⟩
 cases q:H b with
 | none=>rfl
 | some x=>
  have hm:b∈trk h H:=List.mem_filter.mpr ⟨List.mem_range.mpr (Heap.lt_size e'),by simp [q]⟩
  have z:(bu h H).get? b=none:=PySem.W.hideAll_none (trk h H) hm
  rw [z] at e; cases e
noncomputable def wH (g h:Heap) (L:Addr):List (Addr×Obj):=(List.range h.objs.size).filterMap fun a=>if a=L∨(g.get? a).isSome=true then none else (h.get? a).map fun o=>(a,o)
noncomputable def rest (g h:Heap) (L d:Addr):List (Addr×Obj):=(wH g h L).filter fun p=>decide (p.1≠d)
end L2
namespace L2
open PySem PySem.Spec PyProof.Rows
structure Mod (K:Frag) (mg:Str→Option Value) (base:Heap):Prop where
 kin:K.In base
 glob:base.Ns mainGlobals mg
 blt:∃ mb,base.Ns builtinsNs mb∧∀ x:Str,x ≠ "__name__" → mb x=bootBuiltins x
 nolimit:base.NoLimit
structure Cx where
 prog:Program
 w:World
 K:Frag
 mg:Str→Option Value
 base:Heap
 A:Around
 N:List Str
 s₀:Shared
 H₀:Hp
 env:Env
 outer:List Env
 stack:List Env
 ex:List Addr
 fn:Str→Bool
 calm:Bool
 pn:List (Addr×Obj)
 xe:Value→Shared→Prop
noncomputable def frs (l:List Env):List Addr:=l.filterMap (·.frame)
noncomputable abbrev Cx.fs (X:Cx):List Addr:=frs X.outer
noncomputable def Vis (sc:Scope) (x:Str):Prop:=sc.names.lookup x=some .local∨sc.names.lookup x=some .cell∨sc.names.lookup x=some .free
noncomputable def Loc (sc:Scope) (x:Str):Prop:=sc.names.lookup x=some .local∨sc.names.lookup x=some .cell
noncomputable def Look (env:Env) (h:Heap) (m:Str→Option Value) (x:Str) (u:Value):Prop:=
 (env.kindOf x=some .local∧m x=some u)∨((env.kindOf x=some .cell∨env.kindOf x=some .free)∧∃ c,env.cells.lookup x=some c∧h.IsCell c (some u))
structure Cx.Ok (X:Cx):Prop where
 mod:Mod X.K X.mg X.base
 kind:X.env.scope.kind=.function
 glob:X.env.globals=mainGlobals
 blt:X.env.builtins=builtinsNs
 above:X.s₀.heap.objs.size≤X.env.locals
 inj:∀ x y c,X.env.cells.lookup x=some c→X.env.cells.lookup y=some c→x=y
 has:∀ x,(X.env.kindOf x=some .cell∨X.env.kindOf x=some .free)→∃ c,X.env.cells.lookup x=some c
 cab:∀ x c,X.fn x=true→X.env.cells.lookup x=some c→X.s₀.heap.objs.size≤c
 hd:X.calm=true→X.A.handled=none
 frames:X.A.frames=some X.stack
 stk:X.stack=X.outer∨(X.stack=X.env::X.outer∧X.env.frame=some X.env.locals)
 exf:∀ b∈X.ex,b≠X.env.locals∧∀ x c,X.env.cells.lookup x=some c→c≠b
 bs:∀ b o,X.base.get? b=some o→X.s₀.heap.get? b=some o∧X.H₀ b=none
 bsz:X.base.objs.size≤X.s₀.heap.objs.size
 noex:∀ b o,X.base.get? b=some o→b∉X.ex
 exfs:∀ b∈X.ex,b∉X.fs
 funs:X.s₀.heap.FunFrames X.base X.outer
 frf:∀ b∈X.fs,X.H₀ b=none
structure Inv (X:Cx) (pins:List (Addr×Obj)) (σ:List (Option V)) (H:Hp) (s:Shared):Prop where
 ok:X.Ok
 os:s.os=X.s₀.os
 bare:AllBare s.gens
 base:Un X.fs X.ex X.H₀ H X.s₀.heap s.heap
 loc:∃ m,s.heap.Ns X.env.locals m∧∀ (i:Nat) (x:Str) (v:V),X.N[i]?=some x→σ[i]?=some (some v)→Vis X.env.scope x→∃ u,RelV v u∧Look X.env s.heap m x u
 cell:∀ x c,X.env.cells.lookup x=some c→∃ v,s.heap.IsCell c v
 free:H X.env.locals=none
 freeC:∀ x c,X.env.cells.lookup x=some c→H c=none
 pin:∀ p∈X.pn++pins,s.heap.get? p.1=some p.2∧H p.1=none∧p.1≠X.env.locals∧p.1∉X.fs∧∀ v,p.2.data≠.cell v
 hok:HOk X.prog X.w H s.heap
 len:σ.length=X.N.length
section
variable {X:Cx} {pins:List (Addr×Obj)} {σ:List (Option V)} {H H':Hp} {s:Shared} {h':Heap}
theorem Cx.Ok.nofr (ok:X.Ok) {b:Addr} {o:Obj} (e:X.base.get? b=some o):b∉X.fs:=fun hb=>by
 have:=(ok.funs.mem hb).1
 rw [e] at this; cases this
theorem Inv.bs (I:Inv X pins σ H s):∀ b o,X.base.get? b=some o→s.heap.get? b=some o∧H b=none:=fun b o e=>
 ⟨I.base.keep b o (I.ok.bs b o e).1 (I.ok.bs b o e).2 (I.ok.nofr e) (I.ok.noex b o e),I.base.free b o (I.ok.bs b o e).1 (I.ok.bs b o e).2 (I.ok.noex b o e)⟩
theorem Inv.bk (I:Inv X pins σ H s):∀ b o,X.base.get? b=some o→s.heap.get? b=some o:=fun b o e=>(I.bs b o e).1
theorem Inv.mod (I:Inv X pins σ H s):Mod X.K X.mg X.base:=I.ok.mod
theorem Inv.kIn (I:Inv X pins σ H s):X.K.In s.heap:=I.ok.mod.kin.keeps I.bk
theorem Inv.fr (I:Inv X pins σ H s):∃ m,Fr X.base X.env.locals s.heap m:=
 let ⟨m,hn,_⟩:=I.loc
 ⟨m,hn,I.bk,Nat.le_trans I.ok.bsz I.ok.above⟩
theorem Inv.lt (I:Inv X pins σ H s):X.env.locals<s.heap.objs.size:=let ⟨_,hn,_⟩:=I.loc; hn.lt
theorem Inv.sz (I:Inv X pins σ H s):X.s₀.heap.objs.size≤s.heap.objs.size:=Nat.le_trans I.ok.above (Nat.le_of_lt I.lt)
theorem Inv.nofs (I:Inv X pins σ H s) {a:Addr} (h:s.heap.objs.size≤a):a∉X.fs:=fun hb=>by
 obtain ⟨_,o,ho,_⟩:=I.ok.funs.mem hb
 exact absurd (Nat.lt_of_lt_of_le (Heap.lt_size ho) (Nat.le_trans I.sz h)) (Nat.lt_irrefl _)
theorem Inv.cne (I:Inv X pins σ H s):∀ x c,X.env.cells.lookup x=some c→c≠X.env.locals:=fun x c e z=>by
 obtain ⟨v,o,ho,hd⟩:=I.cell x c e
 obtain ⟨m,⟨o',es,ep,ho',hd',_⟩,_⟩:=I.loc
 rw [z,ho'] at ho; cases ho; rw [hd'] at hd; cases hd
theorem Inv.funs (I:Inv X pins σ H s):s.heap.FunFrames X.base X.outer:=by
 have all:∀ (l:List Env),(∀ b∈frs l,b∈X.fs)→X.s₀.heap.FunFrames X.base l→s.heap.FunFrames X.base l:=by
  intro l
  induction l with
  | nil=>intro _ _; trivial
  | cons env r ih=>
   intro hs hl
   obtain ⟨hk,⟨L,o,hf,hn,ho,hd⟩,hr⟩:=hl
   have hL:L∈X.fs:=hs L (by unfold frs; rw [List.filterMap_cons,hf]; exact List.mem_cons_self)
   obtain ⟨sl,e⟩:=I.base.slot L o ho (I.ok.frf L hL) hL fun z=>I.ok.exfs L z hL
   exact ⟨hk,⟨L,_,hf,hn,e,hd⟩,ih (fun b hb=>hs b (by unfold frs; rw [List.filterMap_cons,hf]; exact List.mem_cons_of_mem _ hb)) hr⟩
 exact all X.outer (fun _ hb=>hb) I.ok.funs
theorem Inv.stack (I:Inv X pins σ H s):s.heap.FunFrames X.base X.stack:=by
 rcases I.ok.stk with e | ⟨e,hf⟩
 ·rw [e]; exact I.funs
 ·rw [e]
  obtain ⟨m,hn,_⟩:=I.loc
  refine .cons (by rw [I.ok.kind]; decide) hf hn ?_ I.funs
  exact Heap.get?_none_of_le (Nat.le_trans I.ok.bsz I.ok.above)
theorem Inv.stkSub (I:Inv X pins σ H s):∀ b∈frs X.stack,b∈X.env.locals::X.fs:=fun b hb=>by
 rcases I.ok.stk with e | ⟨e,hf⟩
 ·rw [e] at hb; exact List.mem_cons_of_mem _ hb
 ·rw [e] at hb
  unfold frs at hb
  rw [List.filterMap_cons,hf] at hb
  exact hb
theorem Inv.stkFree (I:Inv X pins σ H s):∀ b∈frs X.stack,H b=none:=fun b hb=>by
 rcases List.mem_cons.mp (I.stkSub b hb) with e | hb
 ·rw [e]; exact I.free
 ·obtain ⟨_,o,ho,_⟩:=I.ok.funs.mem hb
  exact I.base.free b o ho (I.ok.frf b hb) fun z=>I.ok.exfs b z hb
theorem Inv.step {g':Array GenState} {t':Nat} {d':Drawn} {ch:List Addr} (I:Inv X pins σ H s)
  (hch:∀ b∈ch,(b∈X.ex∨X.s₀.heap.objs.size≤b)∧b≠X.env.locals∧(∀ x c,X.env.cells.lookup x=some c→c≠b)∧∀ p∈X.pn++pins,p.1≠b)
  (keep:∀ b o,b≠X.env.locals→b∉X.fs→b∉ch→s.heap.get? b=some o→H b=none→h'.get? b=some o)
  (slot:∀ b o,b≠X.env.locals→b∈X.fs→b∉ch→s.heap.get? b=some o→H b=none→∃ sl,h'.get? b=some { o with slots:=sl }) (free:∀ b o,b∉ch→s.heap.get? b=some o→H b=none→H' b=none)
  (there:∀ b o,b∉ch→s.heap.get? b=some o→∃ o',h'.get? b=some o')
  (tups:∀ b xs,H b=some (.tup xs)→H' b=some (.tup xs)) (frzs:∀ b o u,H b=some (.frz o u)→H' b=some (.frz o u)) (tbls:∀ b ps,H b=some (.tbl ps)→∃ more,H' b=some (.tbl (ps++more)))
  (ns:∀ m,s.heap.Ns X.env.locals m→h'.Ns X.env.locals m) (hok:HOk X.prog X.w H' h') (hg:AllBare g') :
  Inv X pins σ H' { s with heap:=h',gens:=g',drawn:=d',toks:=t' }:=by
 have neL:∀ b o,X.s₀.heap.get? b=some o→b≠X.env.locals:=fun b o e=>Nat.ne_of_lt (Nat.lt_of_lt_of_le (Heap.lt_size e) I.ok.above)
 have neC:∀ b o,X.s₀.heap.get? b=some o→b∉X.ex→b∉ch:=fun b o e hx hb=>by
  rcases (hch b hb).1 with z | z
  ·exact hx z
  ·exact absurd (Nat.lt_of_lt_of_le (Heap.lt_size e) z) (Nat.lt_irrefl _)
 have cellK:∀ x c,X.env.cells.lookup x=some c→∀ v,s.heap.IsCell c v→h'.IsCell c v:=fun x c e v zz1=>by
  obtain ⟨o,ho,hd⟩:=zz1
  have nch:c∉ch:=fun z=>(hch c z).2.2.1 x c e rfl
  by_cases hc:c∈X.fs
  ·obtain ⟨sl,q⟩:=slot c o (I.cne x c e) hc nch ho (I.freeC x c e)
   exact ⟨_,q,hd⟩
  ·exact ⟨o,keep c o (I.cne x c e) hc nch ho (I.freeC x c e),hd⟩
 refine ⟨I.ok,I.os,hg,⟨fun b o e n hb hx=>?_,fun b o e n hb hx=>?_,fun b o e n hx=>?_,fun b o e hx=>?_,fun b xs e=>tups b xs (I.base.tups b xs e),fun b o xs e=>frzs b o xs (I.base.frzs b o xs e),fun b ps e=>?_⟩,?_,fun x c e=>?_,?_,fun x c e=>?_,fun p hp=>?_,hok,I.len⟩
 ·exact keep b o (neL b o e) hb (neC b o e hx) (I.base.keep b o e n hb hx) (I.base.free b o e n hx)
 ·obtain ⟨sl,e1⟩:=I.base.slot b o e n hb hx
  obtain ⟨sl',e2⟩:=slot b _ (neL b o e) hb (neC b o e hx) e1 (I.base.free b o e n hx)
  exact ⟨sl',e2⟩
 ·obtain ⟨o',e1⟩:=I.base.there b o e hx
  exact free b o' (neC b o e hx) e1 (I.base.free b o e n hx)
 ·obtain ⟨o',e1⟩:=I.base.there b o e hx
  exact there b o' (neC b o e hx) e1
 ·obtain ⟨m1,e1⟩:=I.base.tbls b ps e
  obtain ⟨m2,e2⟩:=tbls b _ e1
  exact ⟨m1++m2,by rw [e2,Array.append_assoc]⟩
 ·obtain ⟨m,hn,hl⟩:=I.loc
  refine ⟨m,ns m hn,fun i x v e1 e2 e3=>?_⟩
  obtain ⟨u,r,l⟩:=hl i x v e1 e2 e3
  refine ⟨u,r,?_⟩
  rcases l with l | ⟨k,c,e,z⟩
  ·exact .inl l
  ·exact .inr ⟨k,c,e,cellK x c e _ z⟩
 ·obtain ⟨v,z⟩:=I.cell x c e
  exact ⟨v,cellK x c e v z⟩
 ·obtain ⟨m,⟨o,_,_,ho,_⟩,_⟩:=I.loc
  exact free _ o (fun z=>(hch _ z).2.1 rfl) ho I.free
 ·obtain ⟨v,o,ho,hd⟩:=I.cell x c e
  exact free c o (fun z=>(hch c z).2.2.1 x c e rfl) ho (I.freeC x c e)
 ·obtain ⟨e,n,ne,nf,d⟩:=I.pin p hp
  have nch:p.1∉ch:=fun z=>(hch p.1 z).2.2.2 p hp rfl
  exact ⟨keep p.1 p.2 ne nf nch e n,free p.1 p.2 nch e n,ne,nf,d⟩
theorem Inv.un {t':Nat} (I:Inv X pins σ H s) (u:Un X.fs [] H H' s.heap h') (hok:HOk X.prog X.w H' h'):Inv X pins σ H' { s with heap:=h',toks:=t' }:=by
 obtain ⟨m,⟨o,es,ep,ho,r⟩,_⟩:=id I.loc
 obtain ⟨sl,hL⟩:=u.any ho I.free (by simp)
 exact I.step (g':=s.gens) (d':=s.drawn) (ch:=[]) (fun _ z=>nomatch z) (fun b o _ hb _ e n=>u.keep b o e n hb (by simp)) (fun b o _ hb _ e n=>u.slot b o e n hb (by simp)) (fun b o _ e n=>u.free b o e n (by simp)) (fun b o _ e=>u.there b o e (by simp)) u.tups u.frzs u.tbls (fun m' hm=>by
  obtain ⟨o',es',ep',ho',r'⟩:=hm
  rw [ho] at ho'; cases ho'
  exact ⟨_,es',ep',hL,r'⟩) hok I.bare
theorem Inv.call {g':Array GenState} {t':Nat} {d':Drawn} {ch:List Addr} (I:Inv X pins σ H s) (u:Un (frs X.stack) ch H H' s.heap h') (hok:HOk X.prog X.w H' h') (hg:AllBare g')
  (hch:∀ b∈ch,(b∈X.ex∨X.s₀.heap.objs.size≤b)∧b≠X.env.locals∧(∀ x c,X.env.cells.lookup x=some c→c≠b)∧∀ p∈X.pn++pins,p.1≠b) :
  Inv X pins σ H' { s with heap:=h',gens:=g',drawn:=d',toks:=t' }:=by
 obtain ⟨m,⟨o,es,ep,ho,r⟩,_⟩:=id I.loc
 obtain ⟨sl,hL⟩:=u.any ho I.free fun z=>(hch _ z).2.1 rfl
 exact I.step (ch:=ch) hch (fun b o hL hb hc e n=>u.keep b o e n (fun z=>(List.mem_cons.mp (I.stkSub b z)).elim hL hb) hc) (fun b o _ _ hc e n=>u.any e n hc) (fun b o hc e n=>u.free b o e n hc) (fun b o hc e=>u.there b o e hc) u.tups u.frzs u.tbls (fun m' hm=>by
  obtain ⟨o',es',ep',ho',r'⟩:=hm
  rw [ho] at ho'; cases ho'
  exact ⟨_,es',ep',hL,r'⟩) hok hg
theorem Inv.turned {t':Nat} {it:Addr} (I:Inv X pins σ H s) (k:∀ b o,b≠it→s.heap.get? b=some o→h'.get? b=some o) (hn:H it=none) (hL:it≠X.env.locals)
  (h1:it∈X.ex∨X.s₀.heap.objs.size≤it) (h2:∀ x c,X.env.cells.lookup x=some c→c≠it) (h3:∀ p∈X.pn++pins,p.1≠it):Inv X pins σ H { s with heap:=h',toks:=t' }:=by
 have nit:∀ b u,H b=some u→b≠it:=fun b u e z=>by rw [z,hn] at e; cases e
 refine I.step (g':=s.gens) (d':=s.drawn) (ch:=[it]) (fun b hb=>?_) (fun b o _ _ hc e _=>k b o (fun z=>hc (by simp [z])) e) (fun b o _ _ hc e _=>⟨o.slots,k b o (fun z=>hc (by simp [z])) e⟩) (fun _ _ _ _ n=>n)
  (fun b o hc e=>⟨o,k b o (fun z=>hc (by simp [z])) e⟩) (fun _ _ e=>e) (fun _ _ _ e=>e) (fun b ps e=>⟨#[],by rw [e]; simp⟩) (fun m hm=>?_) (fun b u e=>?_) I.bare
 ·have e:b=it:=by simpa using hb
  subst e
  exact ⟨h1,hL,h2,h3⟩
 ·obtain ⟨o,es,ep,ho,r⟩:=hm
  exact ⟨o,es,ep,k _ o (Ne.symm hL) ho,r⟩
 ·refine (I.hok b u e).stay (fun c v hc q=>k c v ?_ q) (fun _ q=>q) fun _ _ q=>q
  rcases hc with z | z
  ·rw [z]; exact nit b u e
  ·exact nit c _ z
theorem Inv.tok (I:Inv X pins σ H s) (t:Nat):Inv X pins σ H { s with toks:=t }:=I.un (h':=s.heap) (t':=t) Un.refl I.hok
theorem Inv.kept {t':Nat} (I:Inv X pins σ H s) (k:∀ b u,s.heap.get? b=some u→h'.get? b=some u):Inv X pins σ H { s with heap:=h',toks:=t' }:=I.un (Un.kept k) (I.hok.kept k)
theorem Inv.laid {a:Addr} {o:HO} {t':Nat} (I:Inv X pins σ H s) (k:∀ b u,s.heap.get? b=some u→h'.get? b=some u) (hp:s.heap.objs.size≤a) (new:ObjOk X.prog X.w (upd H a o) h' a o) :
  Inv X pins σ (upd H a o) { s with heap:=h',toks:=t' }:=I.un (Un.laid k hp (I.hok.fresh hp)) (I.hok.laid k hp new)
theorem Inv.write {x e:Addr} {o:HO} {t':Nat} (I:Inv X pins σ H s) (mu:Mut (H x)) (he:e=x∨H e=some (.own x)) (k:∀ b u,b≠e→s.heap.get? b=some u→h'.get? b=some u) (heo:∃ u,h'.get? e=some u)
  (new:ObjOk X.prog X.w (upd H x o) h' x o):Inv X pins σ (upd H x o) { s with heap:=h',toks:=t' }:=I.un (Un.write mu he k heo) (I.hok.write mu he k heo new)
theorem Inv.weak {σ':List (Option V)} (I:Inv X pins σ H s) (hl:σ'.length=σ.length) (w:∀ (i:Nat) v,σ'[i]?=some (some v)→σ[i]?=some (some v)):Inv X pins σ' H s:=
 ⟨I.ok,I.os,I.bare,I.base,let ⟨m,hn,hl'⟩:=I.loc; ⟨m,hn,fun i x v e1 e2 e3=>hl' i x v e1 (w i v e2) e3⟩,I.cell,I.free,I.freeC,I.pin,I.hok,hl.trans I.len⟩
theorem Inv.pins_of {pins':List (Addr×Obj)} (I:Inv X pins σ H s) (h:∀ p∈pins',s.heap.get? p.1=some p.2∧H p.1=none∧p.1≠X.env.locals∧p.1∉X.fs∧∀ v,p.2.data≠.cell v):Inv X pins' σ H s:=
 ⟨I.ok,I.os,I.bare,I.base,I.loc,I.cell,I.free,I.freeC,fun p hp=>(List.mem_append.mp hp).elim (fun z=>I.pin p (List.mem_append_left _ z)) (h p),I.hok,I.len⟩
theorem cZ {N:List Str} (hN:N.Nodup) {i j:Nat} {x:Str} (a:N[i]?=some x) (b:N[j]?=some x):i=j:=by
 obtain ⟨h1,e1⟩:=List.getElem?_eq_some_iff.mp a
 obtain ⟨h2,e2⟩:=List.getElem?_eq_some_iff.mp b
 exact (List.getElem_inj hN).mp (e1.trans e2.symm)
theorem fE {M:Model} {A:Around} {E:Value→Shared→Prop} {i:Nat} {x:Str} {v:V} {u:Value} {Q:Unit→Shared→Prop} (I:Inv X pins σ H s) (hN:X.N.Nodup) (hi:X.N[i]?=some x) (hx:Loc X.env.scope x) (r:RelV v u)
  (h:∀ s',Inv X pins (σ.set i (some v)) H s'→(∃ a,Heap.SameBut a s.heap s'.heap∧(a=X.env.locals∨X.env.cells.lookup x=some a))→Q () s') (hf:autoParam (X.fn x=true∨X.env.scope.names.lookup x=some .local) au2._auto_1):wpAny M A (storeName X.env x u) Q E s:=by
 obtain ⟨m,hn,hl⟩:=id I.loc
 have hcls:(X.env.scope.kind == .class||(X.env.scope.kind == .module&&X.env.locals != X.env.globals))=false:=by rw [I.ok.kind]; rfl
 have hiσ:i<σ.length:=by rw [I.len]; exact (List.getElem?_eq_some_iff.mp hi).1
 have cne:=I.cne
 have tracked:∀ {a:Addr} {h':Heap},(∃ o,s.heap.get? a=some o∧H a=none)→Heap.SameBut a s.heap h'→HOk X.prog X.w H h':=fun {a h'} ha hs b ob e=>by
  obtain ⟨_,_,hfree⟩:=ha
  refine (I.hok b ob e).stay (fun c w' hc q=>(hs.2 c ?_).trans q) (fun _ q=>q) fun _ _ q=>q
  rintro rfl
  rcases hc with rfl | hc
  ·rw [hfree] at e; cases e
  ·rw [hfree] at hc; cases hc
 rcases hx with hk | hk
 ·refine wpAny_storeName_local hk hn (fun h' hn' hs=>?_) hcls
  obtain ⟨oL,_,_,hoL,_⟩:=id hn
  refine h _ ⟨I.ok,I.os,I.bare,⟨fun b o e n hb hx=>?_,fun b o e n hb hx=>?_,I.base.free,fun b o e hx=>?_,I.base.tups,I.base.frzs,I.base.tbls⟩,⟨_,hn',fun j y v' e1 e2 e3=>?_⟩,fun y c e=>?_,I.free,I.freeC,fun p hp=>?_,tracked ⟨oL,hoL,I.free⟩ hs,by simpa using I.len⟩ ⟨_,hs,.inl rfl⟩
  ·exact (hs.2 b (Nat.ne_of_lt (Nat.lt_of_lt_of_le (Heap.lt_size e) I.ok.above))).trans (I.base.keep b o e n hb hx)
  ·obtain ⟨sl,e1⟩:=I.base.slot b o e n hb hx
   exact ⟨sl,(hs.2 b (Nat.ne_of_lt (Nat.lt_of_lt_of_le (Heap.lt_size e) I.ok.above))).trans e1⟩
  ·obtain ⟨o',e1⟩:=I.base.there b o e hx
   exact ⟨o',(hs.2 b (Nat.ne_of_lt (Nat.lt_of_lt_of_le (Heap.lt_size e) I.ok.above))).trans e1⟩
  ·by_cases hj:j=i
   ·subst hj
    rw [hi] at e1; cases e1
    rw [List.getElem?_set_self hiσ] at e2
    cases e2
    exact ⟨u,r,.inl ⟨hk,by simp⟩⟩
   ·rw [List.getElem?_set_ne (Ne.symm hj)] at e2
    obtain ⟨u',r',q⟩:=hl j y v' e1 e2 e3
    refine ⟨u',r',?_⟩
    rcases q with ⟨k,e⟩ | ⟨k,c,e,z⟩
    ·refine .inl ⟨k,?_⟩
     have:y≠x:=fun e=>hj (cZ hN e1 (e ▸ hi))
     simp [this,e]
    ·exact .inr ⟨k,c,e,z.sameBut hs (cne y c e)⟩
  ·obtain ⟨w',z⟩:=I.cell y c e
   exact ⟨w',z.sameBut hs (cne y c e)⟩
  ·obtain ⟨e,n,ne,nf,d⟩:=I.pin p hp
   exact ⟨(hs.2 p.1 ne).trans e,n,ne,nf,d⟩
 ·have hfn:X.fn x=true:=by
   rcases hf with z | z
   ·exact z
   ·rw [z] at hk; cases hk
  obtain ⟨c,hc⟩:=I.ok.has x (.inl hk)
  obtain ⟨w',z⟩:=I.cell x c hc
  refine wpAny_storeName_cell I.ok.kind hk hc z (fun h' hc' hs=>?_)
  obtain ⟨oc,hoc,hocd⟩:=id z
  refine h { s with heap:=h' } ⟨I.ok,I.os,I.bare,⟨fun b o e n hb hx=>?_,fun b o e n hb hx=>?_,I.base.free,fun b o e hx=>?_,I.base.tups,I.base.frzs,I.base.tbls⟩,⟨m,hn.sameBut hs (Ne.symm (cne x c hc)),fun j y v' e1 e2 e3=>?_⟩,fun y c' e=>?_,I.free,I.freeC,fun p hp=>?_,tracked ⟨oc,hoc,I.freeC x c hc⟩ hs,by simpa using I.len⟩ ⟨c,hs,.inr hc⟩
  ·exact (hs.2 b (Nat.ne_of_lt (Nat.lt_of_lt_of_le (Heap.lt_size e) (I.ok.cab x c hfn hc)))).trans (I.base.keep b o e n hb hx)
  ·obtain ⟨sl,e1⟩:=I.base.slot b o e n hb hx
   exact ⟨sl,(hs.2 b (Nat.ne_of_lt (Nat.lt_of_lt_of_le (Heap.lt_size e) (I.ok.cab x c hfn hc)))).trans e1⟩
  ·obtain ⟨o',e1⟩:=I.base.there b o e hx
   exact ⟨o',(hs.2 b (Nat.ne_of_lt (Nat.lt_of_lt_of_le (Heap.lt_size e) (I.ok.cab x c hfn hc)))).trans e1⟩
  ·by_cases hj:j=i
   ·subst hj
    rw [hi] at e1; cases e1
    rw [List.getElem?_set_self hiσ] at e2
    cases e2
    exact ⟨u,r,.inr ⟨.inl hk,c,hc,hc'⟩⟩
   ·rw [List.getElem?_set_ne (Ne.symm hj)] at e2
    obtain ⟨u',r',q⟩:=hl j y v' e1 e2 e3
    refine ⟨u',r',?_⟩
    rcases q with q | ⟨k,c',e,z'⟩
    ·exact .inl q
    ·refine .inr ⟨k,c',e,z'.sameBut hs ?_⟩
     rintro rfl
     exact hj (cZ hN e1 (I.ok.inj _ _ _ e hc ▸ hi))
  ·by_cases hcc:c'=c
   ·subst hcc; exact ⟨_,hc'⟩
   ·obtain ⟨w2,z2⟩:=I.cell y c' e
    exact ⟨w2,z2.sameBut hs hcc⟩
  ·obtain ⟨e,n,ne,nf,d⟩:=I.pin p hp
   refine ⟨(hs.2 p.1 ?_).trans e,n,ne,nf,d⟩
   intro q
   rw [q,hoc] at e
   have q':oc=p.2:=Option.some.inj e
   exact d w' (by rw [← q']; exact hocd)
theorem aT {M:Model} {A:Around} {E:Value→Shared→Prop} {i:Nat} {x:Str} {v:V} {u:Value} {Q:Unit→Shared→Prop} (I:Inv X pins σ H s) (hN:X.N.Nodup) (hi:X.N[i]?=some x) (hx:Loc X.env.scope x) (r:RelV v u)
  (h:∀ s',Inv X pins (σ.set i (some v)) H s'→Q () s') (hf:autoParam (X.fn x=true∨X.env.scope.names.lookup x=some .local) au2._auto_1):wpAny M A (storeName X.env x u) Q E s:=
 fE I hN hi hx r (fun s' I' _=>h s' I') hf
theorem Inv.call' {s':Shared} {ch:List Addr} (I:Inv X pins σ H s) (ho:s'.os=s.os) (u:Un (frs X.stack) ch H H' s.heap s'.heap) (hok:HOk X.prog X.w H' s'.heap) (hg:AllBare s'.gens)
  (hch:∀ b∈ch,(b∈X.ex∨X.s₀.heap.objs.size≤b)∧b≠X.env.locals∧(∀ x c,X.env.cells.lookup x=some c→c≠b)∧∀ p∈X.pn++pins,p.1≠b):Inv X pins σ H' s':=by
 obtain ⟨h',g',d',t',o'⟩:=s'
 have e:o'=s.os:=ho
 subst e
 exact I.call (g':=g') (t':=t') (d':=d') u hok hg hch
end
noncomputable abbrev XK:=Value→Option Addr→Hp→Prop
noncomputable abbrev St:=List (Option V)
noncomputable abbrev VK:=V→Hp→Prop
noncomputable abbrev TE:=St→Hp→VK→Prop
noncomputable abbrev TT:=St→Hp→(Bool→Hp→Prop)→Prop
noncomputable abbrev TA:=St→Hp→(List V→Hp→Prop)→Prop
structure Ends where
 nx:St→Hp→Prop
 rt:VK
 bk:St→Hp→Prop:=fun _ _=>False
 ct:St→Hp→Prop:=fun _ _=>False
noncomputable abbrev TS:=Ends→St→Hp→Prop
noncomputable def EP (X:Cx) (pins:List (Addr×Obj)) (σ:St) (Q:VK) (u:Value) (s':Shared):Prop:=∃ v H',Inv X pins σ H' s'∧RelV v u∧Q v H'
noncomputable def TP (X:Cx) (pins:List (Addr×Obj)) (σ:St) (Q:Bool→Hp→Prop) (b:Bool) (s':Shared):Prop:=∃ H',Inv X pins σ H' s'∧Q b H'
noncomputable def AP (X:Cx) (pins:List (Addr×Obj)) (σ:St) (Q:List V→Hp→Prop) (us:List Value) (s':Shared):Prop:=∃ vs H',Inv X pins σ H' s'∧Vals vs us∧Q vs H'
noncomputable def SP (X:Cx) (pins:List (Addr×Obj)) (D:Ends) (f:Flow) (s':Shared):Prop:=
 match f with
 | .next=>∃ σ' H',Inv X pins σ' H' s'∧D.nx σ' H'
 | .brk=>∃ σ' H',Inv X pins σ' H' s'∧D.bk σ' H'
 | .cont=>∃ σ' H',Inv X pins σ' H' s'∧D.ct σ' H'
 | .ret u=>∃ v σ' H',Inv X pins σ' H' s'∧RelV v u∧D.rt v H'
noncomputable def PE (X:Cx) (e:Expr) (t:TE):Prop:=
 ∀ (pins:List (Addr×Obj)) (s:Shared) (σ:St) (H:Hp) (Q:VK),Inv X pins σ H s→t σ H Q→wpAny (model X.prog X.w) X.A (eval e X.env) (EP X pins σ Q) X.xe s
noncomputable def PT (X:Cx) (e:Expr) (t:TT):Prop:=
 ∀ (pins:List (Addr×Obj)) (s:Shared) (σ:St) (H:Hp) (Q:Bool→Hp→Prop),Inv X pins σ H s→t σ H Q→wpAny (model X.prog X.w) X.A (isTrue e X.env (eval e X.env)) (TP X pins σ Q) X.xe s
noncomputable def PW (X:Cx) (e:Expr) (t:TT):Prop:=
 ∀ (whole:Sem Value) (pins:List (Addr×Obj)) (s:Shared) (σ:St) (H:Hp) (Q:Bool→Hp→Prop),Inv X pins σ H s→t σ H Q→wpAny (model X.prog X.w) X.A (isTrue e X.env whole) (TP X pins σ Q) X.xe s
theorem PW.pt {X:Cx} {e:Expr} {t:TT} (h:PW X e t):PT X e t:=h _
noncomputable def PA (X:Cx) (es:List Expr) (t:TA):Prop:=
 ∀ (pos:Pos) (pins:List (Addr×Obj)) (s:Shared) (σ:St) (H:Hp) (Q:List V→Hp→Prop),Inv X pins σ H s→t σ H Q→wpAny (model X.prog X.w) X.A (spliced (backTo pos (starEach es X.env))) (AP X pins σ Q) X.xe s
noncomputable def PS (X:Cx) (st:Stmt) (t:TS):Prop:=
 ∀ (pins:List (Addr×Obj)) (s:Shared) (σ:St) (H:Hp) (D:Ends),Inv X pins σ H s→t D σ H→wpAny (model X.prog X.w) X.A (exec st X.env) (SP X pins D) X.xe s
noncomputable def PSs (X:Cx) (st:List Stmt) (t:TS):Prop:=
 ∀ (pins:List (Addr×Obj)) (s:Shared) (σ:St) (H:Hp) (D:Ends),Inv X pins σ H s→t D σ H→wpAny (model X.prog X.w) X.A (execs st X.env) (SP X pins D) X.xe s
theorem thn {α:Type} {t:Sem α} {Q Q':α→Shared→Prop} {M:Model} {A:Around} {E:Value→Shared→Prop} {s:Shared} (h:wpAny M A t Q E s) (hQ:∀ a s,Q a s→Q' a s):wpAny M A t Q' E s:=wpAny_mono h hQ fun _ _ x=>x
end L2
namespace L2
open PySem PySem.Spec PyProof.Rows
section
variable {X:Cx}
noncomputable def ac (i:Nat):TE:=fun σ H Q=>∃ v,σ[i]?=some (some v)∧Q v H
noncomputable def tC (v:V):TE:=fun _ H Q=>Q v H
theorem X3 {i:Nat} {x:Str} {pos:Pos} (hN:X.N[i]?=some x) (hv:Vis X.env.scope x) (hd:autoParam ((x == ("__debug__" : Str))=false) au1._auto_1) (hcd:autoParam ((x == ("__classdict__" : Str))=false) au1._auto_1):PE X (.Name x pos) (ac i):=by
 intro pins s σ H Q I h
 obtain ⟨v,e,h⟩:=h
 obtain ⟨m,hn,hl⟩:=I.loc
 obtain ⟨u,r,l⟩:=hl i x v hN e hv
 have fin:EP X pins σ Q u s:=⟨v,H,I,r,h⟩
 rcases l with ⟨hk,hm⟩ | ⟨hk,c,hc,hcell⟩
 ·exact wpAny_Name (wpAny_loadName_local I.ok.kind hk hn hm fin) hd
 ·rcases hk with hk | hk
  ·exact wpAny_Name (wpAny_loadName_cell I.ok.kind hk hc hcell fin) hd
  ·exact wpAny_Name (wpAny_loadName_free I.ok.kind hk hc hcell fin hcd) hd
theorem pe_int {i j pos}:PE X (.Constant (.int i) j pos) (tC (.int i)):=fun _ _ _ H _ I h=>wpAny_Constant_int ⟨.int i,H,I.tok _,⟨_,rfl⟩,h⟩
theorem pe_bl {b j pos}:PE X (.Constant (.bool b) j pos) (tC (.bl b)):=fun _ _ _ H _ I h=>Constant_bool ⟨.bl b,H,I,rfl,h⟩
theorem pe_non {j pos}:PE X (.Constant .none j pos) (tC .non):=fun _ _ _ H _ I h=>Constant_none ⟨.non,H,I,rfl,h⟩
theorem pe_str {x j pos}:PE X (.Constant (.str x) j pos) (tC (.str x)):=fun _ _ _ H _ I h=>Calls.Constant_str ⟨.str x,H,I.tok _,⟨_,rfl⟩,h⟩
noncomputable def Gl (X:Cx) (x:Str):Prop:=X.env.kindOf x=some .globalImplicit
theorem jR {E:Value→Shared→Prop} {pins:List (Addr×Obj)} {s:Shared} {σ:St} {H:Hp} {x:Str} {u:Value} {pos:Pos} {Q:Value→Shared→Prop} (I:Inv X pins σ H s) (hg:Gl X x) (hm:X.mg x=some u) (h:Q u s)
  (hd:autoParam ((x == ("__debug__" : Str))=false) au1._auto_1):wpAny (model X.prog X.w) X.A (eval (.Name x pos) X.env) Q E s:=
 Calls.Name_function_global I.ok.kind hg (Calls.loadGlobal_global (by rw [I.ok.glob]; exact I.mod.glob.keeps I.bk) hm h) hd
theorem Q0 {E:Value→Shared→Prop} {pins:List (Addr×Obj)} {s:Shared} {σ:St} {H:Hp} {x:Str} {u:Value} {pos:Pos} {Q:Value→Shared→Prop} (I:Inv X pins σ H s) (hg:Gl X x) (hm:X.mg x=none) (hv:bootBuiltins x=some u) (h:Q u s)
  (hn:autoParam (x ≠ "__name__") au1._auto_1) (hd:autoParam ((x == ("__debug__" : Str))=false) au1._auto_1):wpAny (model X.prog X.w) X.A (eval (.Name x pos) X.env) Q E s:=by
 obtain ⟨mb,h1,h2⟩:=I.mod.blt
 exact Calls.Name_function_global I.ok.kind hg (Calls.loadGlobal_builtin (by rw [I.ok.glob]; exact I.mod.glob.keeps I.bk) hm (by rw [I.ok.blt]; exact h1.keeps I.bk) ((h2 x hn).trans hv) h) hd
theorem uI {x:Str} {v:V} {u:Value} {pos:Pos} (hg:Gl X x) (hm:X.mg x=none) (hv:bootBuiltins x=some u) (r:RelV v u) (hn:autoParam (x ≠ "__name__") au1._auto_1) (hd:autoParam ((x == ("__debug__" : Str))=false) au1._auto_1):PE X (.Name x pos) (tC v):=
 fun _ _ _ H _ I h=>Q0 I hg hm hv ⟨v,H,I,r,h⟩ hn hd
variable {a b:Expr} {ta tb:TE} {pos:Pos}
noncomputable def tB (t:TE):TT:=fun σ H Q=>t σ H fun x H1=>∃ c,x=.bl c∧Q c H1
theorem yy {e:Expr} {t:TE} (h:PE X e t) (he:autoParam (∀ whole,isTrue e X.env whole=(do let v ← whole; standAt e.pos; holding [v] (truthy v))) au3._auto_1):PT X e (tB t):=by
 intro pins s σ H Q I hw
 refine isTrue_plain (thn (h pins s σ H _ I hw) fun v s1 zz2=>?_) (he _)
 obtain ⟨x,H1,I1,r1,q1⟩:=zz2
 obtain ⟨d,rfl,q⟩:=q1
 cases r1
 exact wpAny_truthy_bool ⟨H1,I1,q⟩
variable {tA tB':TT} {rest:List Expr}
noncomputable def xp (t u:TT):TT:=fun σ H Q=>t σ H fun c H1=>if c=true then u σ H1 Q else Q false H1
noncomputable def tOr (t u:TT):TT:=fun σ H Q=>t σ H fun c H1=>if c=true then Q true H1 else u σ H1 Q
noncomputable def xj (t:TT):TT:=fun σ H Q=>t σ H fun c H1=>Q (!c) H1
theorem uv (ha:PT X a tA):PW X (.BoolOp .And [a] pos) tA:=by
 intro wh pins s σ H Q I h
 refine isTrue_and (thn (ha pins s σ H Q I h) fun c s1 e=>?_)
 cases c with
 | true=>exact isTrue_and_nil e
 | false=>exact e
theorem yw (ha:PT X a tA):PW X (.BoolOp .Or [a] pos) tA:=by
 intro wh pins s σ H Q I h
 refine isTrue_or (thn (ha pins s σ H Q I h) fun c s1 e=>?_)
 cases c with
 | false=>exact isTrue_or_nil e
 | true=>exact e
theorem yx (ha:PT X a tA) (hb:PW X (.BoolOp .And (b::rest) pos) tB'):PW X (.BoolOp .And (a::b::rest) pos) (xp tA tB'):=by
 intro wh pins s σ H Q I h
 refine isTrue_and (thn (ha pins s σ H _ I h) fun c s1 zz3=>?_)
 obtain ⟨H1,I1,q1⟩:=zz3
 cases c with
 | true=>exact hb wh pins s1 σ H1 Q I1 q1
 | false=>exact ⟨H1,I1,q1⟩
theorem BL (ha:PT X a tA) (hb:PW X (.BoolOp .Or (b::rest) pos) tB'):PW X (.BoolOp .Or (a::b::rest) pos) (tOr tA tB'):=by
 intro wh pins s σ H Q I h
 refine isTrue_or (thn (ha pins s σ H _ I h) fun c s1 zz4=>?_)
 obtain ⟨H1,I1,q1⟩:=zz4
 cases c with
 | true=>exact ⟨H1,I1,q1⟩
 | false=>exact hb wh pins s1 σ H1 Q I1 q1
theorem yz (ha:PT X a tA):PT X (.UnaryOp .Not a pos) (xj tA):=by
 intro pins s σ H Q I h
 exact isTrue_not (ha pins s σ H (fun c H1=>Q (!c) H1) I h)
noncomputable def sk (ta tb:TE):TE:=fun σ H Q=>ta σ H fun x H1=>∃ c,x=.bl c∧if c=true then tb σ H1 Q else Q (.bl false) H1
noncomputable def si (ta:TE):TE:=fun σ H Q=>ta σ H fun x H1=>∃ c,x=.bl c∧Q (.bl (!c)) H1
theorem yI {op} {t:TE} (h:PE X a t):PE X (.BoolOp op [a] pos) t:=fun pins s σ H Q I hw=>BoolOp_one (h pins s σ H Q I hw)
theorem yM (ha:PE X a ta) (hb:PE X (.BoolOp .And (b::rest) pos) tb):PE X (.BoolOp .And (a::b::rest) pos) (sk ta tb):=by
 intro pins s σ H Q I h
 refine BoolOp_and (thn (ha pins s σ H _ I h) fun v s1 zz5=>?_)
 obtain ⟨x,H1,I1,r1,q1⟩:=zz5
 obtain ⟨c,rfl,q1⟩:=q1
 cases r1
 refine wpAny_truthy_bool ?_
 cases c with
 | true=>exact hb pins s1 σ H1 Q I1 q1
 | false=>exact ⟨.bl false,H1,I1,rfl,q1⟩
theorem yJ (ha:PE X a ta):PE X (.UnaryOp .Not a pos) (si ta):=by
 intro pins s σ H Q I h
 refine UnaryOp_ (thn (ha pins s σ H _ I h) fun v s1 zz6=>?_)
 obtain ⟨x,H1,I1,r1,q1⟩:=zz6
 obtain ⟨c,rfl,q1⟩:=q1
 cases r1
 exact not_of (wpAny_truthy_bool ⟨.bl (!c),H1,I1,rfl,q1⟩)
noncomputable def tIf (t:TT) (ta tb:TE):TE:=fun σ H Q=>t σ H fun c H1=>if c=true then ta σ H1 Q else tb σ H1 Q
theorem qh {c:Expr} (hc:PT X c tA) (ha:PE X a ta) (hb:PE X b tb):PE X (.IfExp c a b pos) (tIf tA ta tb):=by
 intro pins s σ H Q I h
 refine wpAny_IfExp (thn (hc pins s σ H _ I h) fun d s1 zz7=>?_)
 obtain ⟨H1,I1,q1⟩:=zz7
 cases d with
 | true=>exact ha pins s1 σ H1 Q I1 q1
 | false=>exact hb pins s1 σ H1 Q I1 q1
end
end L2
namespace L2
open PySem PySem.Spec PyProof.Rows
noncomputable def SqL (K:Frag) (H:Hp) (a:Addr) (xs:List V):Prop:=
 Rd H a (.lst xs) ∨
  ∃ (o:Obj) (its:Array Value) (n:Nat),K.lookup a=some o∧o.cls=.type "list" ∧ o.dict=none∧o.data=.seq its n∧its.size≤sizeLine∧Vals xs its.toList
noncomputable def SqT (K:Frag) (H:Hp) (a:Addr) (xs:List V):Prop:=
 Rd H a (.tup xs) ∨
  ∃ (o:Obj) (its:Array Value) (n:Nat),K.lookup a=some o∧o.cls=.type "tuple" ∧ o.data=.seq its n∧its.size≤sizeLine∧Vals xs its.toList
noncomputable def absV:Value→Option V
 | .none=>some .non
 | .bool b=>some (.bl b)
 | .int i _=>some (.int i)
 | .str x _=>some (.str x)
 | .bytes b _=>some (.byt b)
 | .float b _=>some (.flt b)
 | .ref a=>some (.ref a)
 | .type n=>some (.ty n)
 | _=>none
theorem RelV.abs {x:V} {u:Value} (r:RelV x u):absV u=some x:=by
 cases x with
 | non=>cases r; rfl
 | bl _=>cases r; rfl
 | int _=>obtain ⟨t,rfl⟩:=r; rfl
 | str _=>obtain ⟨t,rfl⟩:=r; rfl
 | byt _=>obtain ⟨t,rfl⟩:=r; rfl
 | flt _=>obtain ⟨t,rfl⟩:=r; rfl
 | ref _=>cases r; rfl
 | ty _=>cases r; rfl
theorem RelV.inj {x y:V} {u:Value} (r:RelV x u) (q:RelV y u):x=y:=Option.some.inj (r.abs.symm.trans q.abs)
theorem Vals.inj:∀ {xs ys:List V} {us:List Value},Vals xs us→Vals ys us→xs=ys:=by
 intro xs ys us a
 induction a generalizing ys with
 | nil=>intro b; cases b; rfl
 | cons r t ih=>
  intro b
  cases b with
  | cons r' t'=>rw [r.inj r',ih t']
section
variable {X:Cx} {pins:List (Addr×Obj)} {σ:St} {H:Hp} {s:Shared} {a:Addr} {xs ys:List V}
theorem SqL.of {K:Frag} (h:H a=some (.lst xs)):SqL K H a xs:=.inl (.inl h)
theorem SqT.of {K:Frag} (h:H a=some (.tup xs)):SqT K H a xs:=.inl (.inl h)
theorem Inv.list (I:Inv X pins σ H s) (h:SqL X.K H a xs):∃ its:List Value,Vals xs its∧PlainL s.heap a its.toArray∧xs.length≤sizeLine:=by
 rcases h with h | ⟨o,its,n,hk,hc,hd,hs,hz,r⟩
 ·obtain ⟨z,its,n,r,e⟩:=h.ok I.hok
  exact ⟨its,r,⟨_,n,e,rfl,rfl,rfl⟩,z⟩
 ·refine ⟨its.toList,r,⟨o,n,I.kIn a o hk,hc,hd,by simpa using hs⟩,?_⟩
  have e:=r.length
  simp only [Array.length_toList] at e
  omega
theorem Inv.tuple (I:Inv X pins σ H s) (h:SqT X.K H a xs):∃ its:List Value,Vals xs its∧IsTup s.heap a its.toArray∧xs.length≤sizeLine:=by
 rcases h with h | ⟨o,its,n,hk,hc,hs,hz,r⟩
 ·obtain ⟨z,its,r,p⟩:=h.ok I.hok
  exact ⟨its,r,p,z⟩
 ·refine ⟨its.toList,r,⟨o,I.kIn a o hk,hc,n,by simpa using hs⟩,?_⟩
  have e:=r.length
  simp only [Array.length_toList] at e
  omega
theorem Inv.list_inj (I:Inv X pins σ H s) (h:SqL X.K H a xs) (h':SqL X.K H a ys):xs=ys:=by
 obtain ⟨its,r,⟨o,n,e,_,_,d⟩,_⟩:=I.list h
 obtain ⟨its',r',⟨o',n',e',_,_,d'⟩,_⟩:=I.list h'
 rw [e] at e'; cases e'
 rw [d] at d'
 injection d' with d1 _
 have:its=its':=by simpa using congrArg Array.toList d1
 subst this
 exact r.inj r'
theorem Inv.tuple_inj (I:Inv X pins σ H s) (h:SqT X.K H a xs) (h':SqT X.K H a ys):xs=ys:=by
 obtain ⟨its,r,⟨o,e,_,n,d⟩,_⟩:=I.tuple h
 obtain ⟨its',r',⟨o',e',_,n',d'⟩,_⟩:=I.tuple h'
 rw [e] at e'; cases e'
 rw [d] at d'
 injection d' with d1 _
 have:its=its':=by simpa using congrArg Array.toList d1
 subst this
 exact r.inj r'
end
noncomputable abbrev Cx.wish (X:Cx) (E:Value→Shared→Prop):Cx:={ X with xe:=E }
noncomputable abbrev Cx.nox (X:Cx):Cx:=X.wish fun _ _=>False
theorem Cx.Ok.wish {X:Cx} (ok:X.Ok) (E:Value→Shared→Prop):(X.wish E).Ok:=
 ⟨ok.mod,ok.kind,ok.glob,ok.blt,ok.above,ok.inj,ok.has,ok.cab,ok.hd,ok.frames,ok.stk,ok.exf,ok.bs,ok.bsz,ok.noex,ok.exfs,ok.funs,ok.frf⟩
theorem Cx.Ok.unwish {X:Cx} {E:Value→Shared→Prop} (ok:(X.wish E).Ok):X.Ok:=
 ⟨ok.mod,ok.kind,ok.glob,ok.blt,ok.above,ok.inj,ok.has,ok.cab,ok.hd,ok.frames,ok.stk,ok.exf,ok.bs,ok.bsz,ok.noex,ok.exfs,ok.funs,ok.frf⟩
section
variable {X:Cx} {pins:List (Addr×Obj)} {σ:St} {H:Hp} {s:Shared} {E:Value→Shared→Prop}
theorem Inv.wish (I:Inv X pins σ H s) (E:Value→Shared→Prop):Inv (X.wish E) pins σ H s:=⟨I.ok.wish E,I.os,I.bare,I.base,I.loc,I.cell,I.free,I.freeC,I.pin,I.hok,I.len⟩
theorem Inv.unwish (I:Inv (X.wish E) pins σ H s):Inv X pins σ H s:=⟨I.ok.unwish,I.os,I.bare,I.base,I.loc,I.cell,I.free,I.freeC,I.pin,I.hok,I.len⟩
theorem SP.unwish {D:Ends} {f:Flow} {s':Shared} (h:SP (X.wish E) pins D f s'):SP X pins D f s':=by
 cases f with
 | next=>obtain ⟨σ',H',I,q⟩:=h; exact ⟨σ',H',I.unwish,q⟩
 | brk=>obtain ⟨σ',H',I,q⟩:=h; exact ⟨σ',H',I.unwish,q⟩
 | cont=>obtain ⟨σ',H',I,q⟩:=h; exact ⟨σ',H',I.unwish,q⟩
 | ret u=>obtain ⟨v,σ',H',I,r,q⟩:=h; exact ⟨v,σ',H',I.unwish,r,q⟩
theorem PSs.nox {st:List Stmt} {t:TS} (h:PSs X.nox st t):PSs X st t:=fun pins s σ H D I hw=>
 wpAny_mono (h pins s σ H D (I.wish _) hw) (fun _ _ q=>q.unwish) fun _ _ z=>False.elim z
end
section
variable {X:Cx} {st:Stmt} {rest:List Stmt} {t u:TS} {e:Expr} {te:TE} {pos:Pos}
noncomputable def tNext:TS:=fun D σ H=>D.nx σ H
noncomputable def ph (t u:TS):TS:=fun D σ H=>t { D with nx:=u D } σ H
theorem pss_nil:PSs X [] tNext:=fun _ _ σ H _ I h=>wpAny_execs_nil ⟨σ,H,I,h⟩
theorem ic (h1:PS X st t) (h2:PSs X rest u):PSs X (st::rest) (ph t u):=by
 intro pins s σ H D I h
 refine wpAny_execs_cons (thn (h1 pins s σ H { D with nx:=u D } I h) fun f s1 q=>?_)
 cases f with
 | next=>
  obtain ⟨σ',H',I',q⟩:=q
  exact h2 pins s1 σ' H' D I' q
 | ret v=>exact q
 | brk=>exact q
 | cont=>exact q
theorem jE (h1:PS X st t):PSs X [st] t:=by
 intro pins s σ H D I h
 refine wpAny_execs_cons (thn (h1 pins s σ H D I h) fun f s1 q=>?_)
 cases f with
 | next=>exact wpAny_execs_nil q
 | ret v=>exact q
 | brk=>exact q
 | cont=>exact q
theorem Inv.quiet {pins:List (Addr×Obj)} {σ:St} {H:Hp} {s:Shared} (I:Inv X pins σ H s):interactive X.env=false:=by simp [interactive,I.ok.kind]
noncomputable def dB (te:TE):TS:=fun D σ H=>te σ H fun _ H1=>D.nx σ H1
theorem cB (he:PE X e te) (hs:autoParam (swapsWith e none pos.line X.env=pure false) au0._auto_1):PS X (.Expr e pos) (dB te):=by
 intro pins s σ H D I h
 exact wpAny_Expr_any (thn (he pins s σ H _ I h) fun v s1 zz8=>by obtain ⟨x,H1,I1,r1,q1⟩:=zz8; exact ⟨σ,H1,I1,q1⟩) I.quiet hs
noncomputable def kz (te:TE):TS:=fun D σ H=>te σ H D.rt
theorem nq (he:PE X e te):PS X (.Return (some e) pos) (kz te):=by
 intro pins s σ H D I h
 exact wpAny_Return_some (thn (he pins s σ H _ I h) fun v s1 zz9=>by obtain ⟨x,H1,I1,r1,q1⟩:=zz9; exact ⟨x,σ,H1,I1,r1,q1⟩)
noncomputable def tRetN:TS:=fun D _ H=>D.rt .non H
theorem ps_retN:PS X (.Return none pos) tRetN:=fun _ _ σ H _ I h=>wpAny_Return_none ⟨.non,σ,H,I,rfl,h⟩
noncomputable def pi (c:TT) (t u:TS):TS:=fun D σ H=>c σ H fun b H1=>if b=true then t D σ H1 else u D σ H1
theorem sK {c:Expr} {a b:List Stmt} {tc:TT} (hc:PT X c tc) (ha:PSs X a t) (hb:PSs X b u):PS X (.If c a b pos) (pi tc t u):=by
 intro pins s σ H D I h
 refine wpAny_If (thn (hc pins s σ H _ I h) fun d s1 zz10=>?_)
 obtain ⟨H1,I1,q1⟩:=zz10
 cases d with
 | true=>exact ha pins s1 σ H1 D I1 q1
 | false=>exact hb pins s1 σ H1 D I1 q1
noncomputable def tNever:TS:=fun _ _ _=>False
theorem ps_never:PS X st tNever:=fun _ _ _ _ _ _ h=>h.elim
end
noncomputable abbrev TG:=V→St→Hp→(St→Hp→Prop)→Prop
noncomputable abbrev TGs:=List V→St→Hp→(St→Hp→Prop)→Prop
noncomputable def PG (X:Cx) (target:Expr) (t:TG):Prop:=
 ∀ (pins:List (Addr×Obj)) (s:Shared) (σ:St) (H:Hp) (v:V) (u:Value) (Q:St→Hp→Prop),Inv X pins σ H s→RelV v u→t v σ H Q →
  wpAny (model X.prog X.w) X.A (assign target X.env u) (fun _ s'=>∃ σ' H',Inv X pins σ' H' s'∧Q σ' H') X.xe s
noncomputable def PGs (X:Cx) (ts:List Expr) (t:TGs):Prop:=
 ∀ (pins:List (Addr×Obj)) (s:Shared) (σ:St) (H:Hp) (vs:List V) (us:List Value) (Q:St→Hp→Prop),Inv X pins σ H s→Vals vs us→t vs σ H Q →
  wpAny (model X.prog X.w) X.A (assignInOrder ((assignEach ts X.env).map (·.2)) us) (fun _ s'=>∃ σ' H',Inv X pins σ' H' s'∧Q σ' H') X.xe s
noncomputable abbrev TSet:=V→V→V→Hp→(Hp→Prop)→Prop
noncomputable def Bv (X:Cx) (t:TSet):Prop:=
 ∀ (pins:List (Addr×Obj)) (s:Shared) (σ:St) (H:Hp) (o i v:V) (ov iv u:Value) (Q:Hp→Prop),Inv X pins σ H s→RelV o ov→RelV i iv→RelV v u→t o i v H Q →
  wpAny (model X.prog X.w) X.A (setItem ov iv u) (fun _ s'=>∃ H',Inv X pins σ H' s'∧Q H') X.xe s
noncomputable abbrev TIp:=V→V→Hp→VK→Prop
noncomputable def PIp (X:Cx) (op:Operator) (t:TIp):Prop:=
 ∀ (pins:List (Addr×Obj)) (s:Shared) (σ:St) (H:Hp) (x y:V) (v u:Value) (Q:VK),Inv X pins σ H s→RelV x v→RelV y u→t x y H Q →
  wpAny (model X.prog X.w) X.A (inplaceOp op v u) (EP X pins σ Q) X.xe s
section
variable {X:Cx} {pos:Pos}
noncomputable def Q3 (i:Nat):TG:=fun v σ H Q=>Q (σ.set i (some v)) H
theorem d5 {i:Nat} {x:Str} (hN:X.N.Nodup) (hi:X.N[i]?=some x) (hx:Loc X.env.scope x) (hf:autoParam (X.fn x=true∨X.env.scope.names.lookup x=some .local) au2._auto_1):PG X (.Name x pos) (Q3 i):=by
 intro pins s σ H v u Q I r h
 exact wpAny_assign_Name (aT I hN hi hx r (fun s' I'=>⟨_,H,I',h⟩) hf)
noncomputable def gNil:TGs:=fun vs σ H Q=>vs = []∧Q σ H
noncomputable def lD (t:TG) (u:TGs):TGs:=fun vs σ H Q=>∃ v r,vs=v::r∧t v σ H fun σ' H'=>u r σ' H' Q
theorem L1:PGs X [] gNil:=by
 intro pins s σ H vs us Q I r h
 obtain ⟨e,h⟩:=h
 subst e
 cases r
 exact assignInOrder_nil ⟨σ,H,I,h⟩
theorem m9 {e:Expr} {es:List Expr} {t:TG} {u:TGs} (h1:PG X e t) (h2:PGs X es u)
  (hs:autoParam ((assignEach (e::es) X.env).map (·.2)=assign e X.env::(assignEach es X.env).map (·.2)) au0._auto_1):PGs X (e::es) (lD t u):=by
 intro pins s σ H vs us Q I r h
 obtain ⟨v,vr,e1,h⟩:=h
 subst e1
 cases r with
 | cons r rr=>
  rw [hs]
  refine assignInOrder_cons (thn (h1 pins s σ H _ _ _ I r h) fun _ s1 zz11=>?_)
  obtain ⟨σ1,H1,I1,q1⟩:=zz11
  exact h2 pins s1 σ1 H1 _ _ Q I1 rr q1
noncomputable def lB (K:Frag) (n:Nat) (t:TGs):TG:=fun v σ H Q=>∃ a xs,v=.ref a∧SqT K H a xs∧xs.length=n∧t xs σ H Q
theorem yH {es:List Expr} {k:Nat} {t:TGs} {n:Nat} (hc:X.calm=true) (h:PGs X es t)
  (hn:autoParam ((assignEach es X.env).length=n) au0._auto_1) (hst:autoParam ((assignEach es X.env).findIdx? (·.1)=none) au0._auto_1):PG X (.Tuple es k pos) (lB X.K n t):=by
 intro pins s σ H v u Q I r hw
 obtain ⟨a,xs,e1,hq,hl,hw⟩:=hw
 subst e1
 cases r
 obtain ⟨its,rv,ht,hz⟩:=I.tuple hq
 refine assign_Tuple_tuple (I.ok.hd hc) ht (by simp [hn,← hl,rv.length]) hst fun h' hx=>?_
 have I1:Inv X pins σ H { s with heap:=h' }:=I.kept (t':=s.toks) fun b o e=>hx b o (Nat.ne_of_lt (Heap.lt_size e)) e
 exact h pins _ σ H xs _ Q I1 (by simpa using rv) hw
noncomputable def gSub (to ti:TE) (t:TSet):TG:=fun v σ H Q=>to σ H fun o H1=>ti σ H1 fun i H2=>t o i v H2 fun H3=>Q σ H3
theorem ii {o i:Expr} {to ti:TE} {t:TSet} (ho:PE X o to) (hi:PE X i ti) (hs:Bv X t)
  (ha:autoParam (∀ v,assign (.Subscript o i pos) X.env v=(do
   let ov ← holding [v] (eval o X.env)
   let iv ← holding [v,ov] (eval i X.env)
   standAt pos
   holding [v,ov,iv] (setItem ov iv v)
   release [v,ov,iv] [])) au3._auto_1):PG X (.Subscript o i pos) (gSub to ti t):=by
 intro pins s σ H v u Q I r h
 rw [ha]
 refine wpAny_bind (wpAny_holding (thn (ho pins s σ H _ I h) fun ov s1 zz12=>?_))
 obtain ⟨x,H1,I1,r1,q1⟩:=zz12
 refine wpAny_bind (wpAny_holding (thn (hi pins s1 σ H1 _ I1 q1) fun iv s2 zz13=>?_))
 obtain ⟨y,H2,I2,r2,q2⟩:=zz13
 refine wpAny_bind (wpAny_standAt (wpAny_bind (wpAny_holding (thn (hs pins s2 σ H2 x y v ov iv u _ I2 r1 r2 r q2) fun _ s3 zz14=>?_))))
 obtain ⟨H3,I3,q3⟩:=zz14
 exact wpAny_release ⟨σ,H3,I3,q3⟩
noncomputable def bK (te:TE) (g:TG):TS:=fun D σ H=>te σ H fun x H1=>g x σ H1 D.nx
theorem nr {tg e:Expr} {te:TE} {g:TG} (he:PE X e te) (hg:PG X tg g) (hs:autoParam (swapsWithSole [tg] e pos.line X.env=pure false) au0._auto_1) (hw:autoParam (swappedStores [tg] e X.env=pure none) au0._auto_1)
  (h1:autoParam ((assignEach [tg] X.env).map (·.2) = [assign tg X.env]) au0._auto_1):PS X (.Assign [tg] e pos) (bK te g):=by
 intro pins s σ H D I h
 refine wpAny_Assign_stores (thn (he pins s σ H _ I h) fun v s1 zz15=>?_) hs hw
 obtain ⟨x,H1,I1,r1,q1⟩:=zz15
 rw [h1]
 exact thn (hg pins s1 σ H1 x v _ I1 r1 q1) fun _ s2 q=>q
theorem ie {i:Nat} {x:Str} {e:Expr} {te:TE} {pos':Pos} (hN:X.N.Nodup) (hi:X.N[i]?=some x) (hx:Loc X.env.scope x) (he:PE X e te) (hs:autoParam (swapsWith e (some (.Name x pos')) pos.line X.env=pure false) au0._auto_1) (hf:autoParam (X.fn x=true∨X.env.scope.names.lookup x=some .local) au2._auto_1) :
  PS X (.Assign [.Name x pos'] e pos) (bK te (Q3 i)):=by
 intro pins s σ H D I h
 refine wpAny_Assign_Name (thn (he pins s σ H _ I h) fun v s1 zz16=>?_) hs
 obtain ⟨y,H1,I1,r1,q1⟩:=zz16
 exact aT I1 hN hi hx r1 (fun s2 I2=>⟨_,H1,I2,q1⟩) hf
noncomputable def xo (i:Nat) (te:TE) (ti:TIp):TS:=fun D σ H=>∃ x,σ[i]?=some (some x)∧te σ H fun y H1=>ti x y H1 fun z H2=>D.nx (σ.set i (some z)) H2
theorem yB {i:Nat} {x:Str} {e:Expr} {te:TE} {op:Operator} {ti:TIp} {pos':Pos} (hN:X.N.Nodup) (hi:X.N[i]?=some x) (hx:Loc X.env.scope x) (he:PE X e te) (ho:PIp X op ti) (hf:autoParam (X.fn x=true∨X.env.scope.names.lookup x=some .local) au2._auto_1) :
  PS X (.AugAssign (.Name x pos') op e pos) (xo i te ti):=by
 intro pins s σ H D I h
 obtain ⟨v,e1,h⟩:=h
 obtain ⟨m,hn,hl⟩:=I.loc
 have vis:Vis X.env.scope x:=by rcases hx with k | k; exact .inl k; exact .inr (.inl k)
 obtain ⟨u,r,l⟩:=hl i x v hi e1 vis
 refine wpAny_AugAssign_Name ?_
 have go:wpAny (model X.prog X.w) X.A (eval e X.env) (fun w s₂=>wpAny (model X.prog X.w) X.A (inplaceOp op u w) (fun r s₃=>wpAny (model X.prog X.w) X.A (storeName X.env x r) (fun _=>SP X pins D .next) X.xe s₃) X.xe s₂) X.xe s:=by
  refine thn (he pins s σ H _ I h) fun w s1 zz17=>?_
  obtain ⟨y,H1,I1,r1,q1⟩:=zz17
  refine thn (ho pins s1 σ H1 v y u w _ I1 r r1 q1) fun z s2 zz18=>?_
  obtain ⟨zv,H2,I2,r2,q2⟩:=zz18
  exact aT I2 hN hi hx r2 (fun s3 I3=>⟨_,H2,I3,q2⟩) hf
 rcases l with ⟨hk,hm⟩ | ⟨hk,c,hc,hcell⟩
 ·exact wpAny_loadName_local I.ok.kind hk hn hm go
 ·rcases hk with hk | hk
  ·exact wpAny_loadName_cell I.ok.kind hk hc hcell go
  ·rcases hx with k | k
   ·have:X.env.scope.names.lookup x=some .free:=hk
    rw [k] at this; cases this
   ·have:X.env.scope.names.lookup x=some .free:=hk
    rw [k] at this; cases this
noncomputable def ipI (f:Int→Int→Int):TIp:=fun x y H Q=>∃ i j,x=.int i∧y=.int j∧Q (.int (f i j)) H
theorem zP:PIp X .Add (ipI fun i j=>i+j):=by
 intro pins s σ H x y v u Q I r1 r2 h
 obtain ⟨i,j,e1,e2,q⟩:=h
 subst e1; subst e2
 obtain ⟨t,rfl⟩:=r1
 obtain ⟨t',rfl⟩:=r2
 exact iadd_int ⟨.int _,H,I.tok _,⟨_,rfl⟩,q⟩
end
section
variable {X:Cx} {pos:Pos}
noncomputable def mH (c:TT) (tb:TS):TS:=fun D σ H=>∃ W:Nat→St→Hp→Prop,(∃ m,W m σ H)∧∀ m σ H,W m σ H →
 c σ H fun b H1=>if b=true then ∃ N:St→Hp→Prop,(∀ σ' H',N σ' H'→∃ m',m'<m∧W m' σ' H')∧tb { D with nx:=N,ct:=N,bk:=D.nx } σ H1 else D.nx σ H1
theorem qe {c:Expr} {body:List Stmt} {tc:TT} {tb:TS} (hp:PassesOwn (model X.prog X.w) X.A X.env X.xe) (hc:PT X c tc) (hb:PSs X body tb):PS X (.While c body [] pos) (mH tc tb):=by
 intro pins s σ H D I h
 obtain ⟨W,⟨m0,w0⟩,turn⟩:=h
 refine wpAny_While (codeAny_whileLoop (fun n s'=>∃ σ' H',Inv X pins σ' H' s'∧W n σ' H') ?_ m0 ⟨σ,H,I,w0⟩)
 rintro n s1 ⟨σ1,H1,I1,w1⟩
 refine wpAny_passesOwn hp (thn (hc pins s1 σ1 H1 _ I1 (turn n σ1 H1 w1)) fun b s2 zz19=>?_)
 obtain ⟨H2,I2,q2⟩:=zz19
 cases b with
 | true=>
  obtain ⟨N,hN,q2⟩:=q2
  rw [if_pos rfl]
  refine wpAny_passesOwn hp (thn (hb pins s2 σ1 H2 _ I2 q2) fun f s3 q3=>?_)
  cases f with
  | next=>
   obtain ⟨σ3,H3,I3,n3⟩:=q3
   obtain ⟨m',hm,w3⟩:=hN σ3 H3 n3
   exact ⟨m',hm,σ3,H3,I3,w3⟩
  | cont=>
   obtain ⟨σ3,H3,I3,n3⟩:=q3
   obtain ⟨m',hm,w3⟩:=hN σ3 H3 n3
   exact ⟨m',hm,σ3,H3,I3,w3⟩
  | brk=>exact q3
  | ret v=>exact q3
 | false=>
  rw [if_neg Bool.false_ne_true]
  exact wpAny_execs_nil ⟨σ1,H2,I2,q2⟩
end
structure It where
 go:Nat→Hp→Prop
 yld:Nat→Hp→V→Hp→Prop
 stop:Nat→Hp→Prop
noncomputable def F3 (X:Cx) (pins:List (Addr×Obj)) (H:Hp) (b:Addr):Prop:=
 H b=none∧b≠X.env.locals∧b∉X.fs∧(b∈X.ex∨X.s₀.heap.objs.size≤b)∧(∀ x c,X.env.cells.lookup x=some c→c≠b)∧∀ p∈X.pn++pins,p.1≠b
theorem Inv.fpOk {X:Cx} {pins:List (Addr×Obj)} {σ:St} {H H':Hp} {s:Shared} {b:Addr} (I:Inv X pins σ H s) (hb:s.heap.objs.size≤b) (hn:H' b=none):F3 X pins H' b:=by
 refine ⟨hn,Nat.ne_of_gt (Nat.lt_of_lt_of_le I.lt hb),I.nofs hb,.inr (Nat.le_trans I.sz hb),fun x c e z=>?_,fun p hp z=>?_⟩
 ·obtain ⟨v,q⟩:=I.cell x c e
  exact absurd (Nat.lt_of_lt_of_le q.lt (by rw [z]; exact hb)) (Nat.lt_irrefl _)
 ·exact absurd (Nat.lt_of_lt_of_le (Heap.lt_size (I.pin p hp).1) (by rw [z]; exact hb)) (Nat.lt_irrefl _)
structure Turn (P:Program) (w:World) (K:Frag) (tg:Expr) (J:It) (fp:List Addr) (it:Addr) (tn:Nat→Heap→Prop):Prop where
 mem:it∈fp
 obj:∀ i h,tn i h→∀ b∈fp,∃ o,h.get? b=some o∧∀ v,o.data≠.cell v
 keep:∀ i h h',tn i h→(∀ b∈fp,∀ o,h.get? b=some o→h'.get? b=some o)→tn i h'
 item:∀ (X:Cx),X.prog=P→X.w=w→X.K=K→X.calm=true→∀ (i:Nat) (pins:List (Addr×Obj)) (s:Shared) (σ:St) (H:Hp) (E:Value→Shared→Prop),Inv X pins σ H s→(∀ b∈fp,F3 X pins H b)→tn i s.heap→J.go i H →
  wpAny (model P w) X.A (pyNext (.ref it)) (fun r s1=>∃ u,r=some u ∧
   wpAny (model P w) X.A (letOwnedTupleGo tg (.ref it) u) (fun _ s2=>∃ x H',Inv X pins σ H' s2∧RelV x u∧J.yld i H x H'∧tn (i+1) s2.heap∧∀ b∈fp,H' b=none) E s1) E s
 done:∀ (X:Cx),X.prog=P→X.w=w→X.K=K→X.calm=true→∀ (i:Nat) (pins:List (Addr×Obj)) (s:Shared) (σ:St) (H:Hp) (E:Value→Shared→Prop),Inv X pins σ H s→(∀ b∈fp,F3 X pins H b)→tn i s.heap→J.stop i H →
  wpAny (model P w) X.A (pyNext (.ref it)) (fun r s1=>r=none∧Inv X pins σ H s1) E s
 self:∀ (A:Around) (i:Nat) (s:Shared) (Q:Value→Shared→Prop) (E:Value→Shared→Prop),tn i s.heap→Q (.ref it) s→wpAny (model P w) A (pyIter (.ref it)) Q E s
noncomputable abbrev TI:=St→Hp→(It→Hp→Prop)→Prop
noncomputable def PIE (X:Cx) (pins:List (Addr×Obj)) (σ:St) (tg:Expr) (R:It→Hp→Prop) (itv:Value) (s2:Shared):Prop:=
 ∃ (it:Addr) (fp:List Addr) (tn:Nat→Heap→Prop) (J:It) (H':Hp),itv=.ref it∧Inv X pins σ H' s2∧Turn X.prog X.w X.K tg J fp it tn∧tn 0 s2.heap∧(∀ b∈fp,F3 X pins H' b)∧R J H'
noncomputable def PI (X:Cx) (tg iter:Expr) (wi:TI):Prop:=
 ∀ (pins:List (Addr×Obj)) (s:Shared) (σ:St) (H:Hp) (R:It→Hp→Prop),Inv X pins σ H s→wi σ H R →
  wpAny (model X.prog X.w) X.A (eval iter X.env) (fun v s1=>wpAny (model X.prog X.w) X.A (pyIter v) (PIE X pins σ tg R) X.xe s1) X.xe s
theorem gt {M:Model} {A:Around} {E:Value→Shared→Prop} {s:Shared} {tg:Expr} {it:Addr} {u:Value} {o:Obj} {n:String} {vs:Array Value} {Q:Unit→Shared→Prop} (ho:s.heap.get? it=some o) (hc:o.cls=.type n) (hd:o.data=.fields vs)
    (hn:["enumerate", "zip", "dict_itemiterator", "dict_reverseitemiterator", "odict_iterator", "itertools.zip_longest", "itertools.pairwise"].contains n=false) (hQ:Q () s):wpAny M A (letOwnedTupleGo tg (.ref it) u) Q E s:=by
  unfold letOwnedTupleGo
  cases tg <;> first
    | exact wpAny_pure hQ
    | (cases u <;> first
        | exact wpAny_pure hQ
        | (refine wpAny_bind (wpAny_load ho ?_)
           rw [hc,hd]
           show wpAny M A (if (["enumerate", "zip", "dict_itemiterator", "dict_reverseitemiterator", "odict_iterator", "itertools.zip_longest", "itertools.pairwise"].contains n&&vs[0]? == some (rawInt _))=true then _ else _) Q E s
           rw [if_neg (by intro h; rw [hn,Bool.false_and] at h; cases h)]
           exact wpAny_pure hQ))
noncomputable def Itl (K:Frag) (a:Addr):It:=
 ⟨fun i H=>∃ xs x,SqL K H a xs∧xs[i]?=some x,fun i H x H'=>H'=H∧∀ xs,SqL K H a xs→xs[i]?=some x,fun i H=>∃ xs,SqL K H a xs∧xs.length≤i⟩
noncomputable def Itt (K:Frag) (a:Addr):It:=
 ⟨fun i H=>∃ xs x,SqT K H a xs∧xs[i]?=some x,fun i H x H'=>H'=H∧∀ xs,SqT K H a xs→xs[i]?=some x,fun i H=>∃ xs,SqT K H a xs∧xs.length≤i⟩
noncomputable def Itr (lo:Int) (n:Nat):It:=⟨fun i _=>i<n,fun i H x H'=>H'=H∧x=.int (lo+i),fun i _=>n≤i⟩
theorem mF {P:Program} {w:World} {K:Frag} {tg:Expr} (a it:Addr):Turn P w K tg (Itl K a) [it] it (fun i h=>h.IsListIter it a i) where
 mem:=by simp
 obj:=fun i h st b hb=>by
  have e:b=it:=by simpa using hb
  subst e
  obtain ⟨o,e,c,d⟩:=st
  exact ⟨o,e,fun v z=>by rw [d] at z; cases z⟩
 keep:=fun i h h' st k=>st.at fun o e=>k it (by simp) o e
 item:=by
  intro X hP hw hK hc i pins s σ H E I hf st hg
  subst hP hw hK
  obtain ⟨xs,x,hq,hx⟩:=hg
  obtain ⟨its,rv,p,hz⟩:=I.list hq
  obtain ⟨u,hu,ru⟩:=rv.get hx
  obtain ⟨f0,f1,f2,f3,f4,f5⟩:=hf it (by simp)
  refine wpAny_pyNext_list_item st p.isList (x:=u) (by simpa using hu) fun h' st' sb=>?_
  have I1:Inv X pins σ H { s with heap:=h' }:=I.turned (t':=s.toks) (fun b o hb e=>(sb.2 b hb).trans e) f0 f1 f3 f4 f5
  obtain ⟨o,e,c,d⟩:=id st'
  exact ⟨u,rfl,gt (s:={ s with heap:=h' }) e c d (by decide) ⟨x,H,I1,ru,⟨rfl,fun ys hy=>by rw [I.list_inj hy hq]; exact hx⟩,st',fun b hb=>(hf b hb).1⟩⟩
 done:=by
  intro X hP hw hK hc i pins s σ H E I hf st hg
  subst hP hw hK
  obtain ⟨xs,hq,hx⟩:=hg
  obtain ⟨its,rv,p,hz⟩:=I.list hq
  obtain ⟨f0,f1,f2,f3,f4,f5⟩:=hf it (by simp)
  have hl:=rv.length
  exact wpAny_pyNext_list_end (I.ok.hd hc) st p.isList (by simp; omega) fun h' eb=>⟨rfl,I.turned (t':=s.toks) (fun b o hb e=>eb b o hb e) f0 f1 f3 f4 f5⟩
 self:=fun _ _ _ _ _ st h=>wpAny_pyIter_listiter st h
theorem ko {P:Program} {w:World} {K:Frag} {tg:Expr} (a it:Addr):Turn P w K tg (Itt K a) [it] it (fun i h=>h.IsTupleIter it a i) where
 mem:=by simp
 obj:=fun i h st b hb=>by
  have e:b=it:=by simpa using hb
  subst e
  obtain ⟨o,e,c,d⟩:=st
  exact ⟨o,e,fun v z=>by rw [d] at z; cases z⟩
 keep:=fun i h h' st k=>st.at fun o e=>k it (by simp) o e
 item:=by
  intro X hP hw hK hc i pins s σ H E I hf st hg
  subst hP hw hK
  obtain ⟨xs,x,hq,hx⟩:=hg
  obtain ⟨its,rv,p,hz⟩:=I.tuple hq
  obtain ⟨u,hu,ru⟩:=rv.get hx
  obtain ⟨f0,f1,f2,f3,f4,f5⟩:=hf it (by simp)
  refine wpAny_pyNext_tuple_item st (show s.heap.IsTuple a its.toArray from p) (x:=u) (by simpa using hu) fun h' st' sb=>?_
  have I1:Inv X pins σ H { s with heap:=h' }:=I.turned (t':=s.toks) (fun b o hb e=>(sb.2 b hb).trans e) f0 f1 f3 f4 f5
  obtain ⟨o,e,c,d⟩:=id st'
  exact ⟨u,rfl,gt (s:={ s with heap:=h' }) e c d (by decide) ⟨x,H,I1,ru,⟨rfl,fun ys hy=>by rw [I.tuple_inj hy hq]; exact hx⟩,st',fun b hb=>(hf b hb).1⟩⟩
 done:=by
  intro X hP hw hK hc i pins s σ H E I hf st hg
  subst hP hw hK
  obtain ⟨xs,hq,hx⟩:=hg
  obtain ⟨its,rv,p,hz⟩:=I.tuple hq
  obtain ⟨f0,f1,f2,f3,f4,f5⟩:=hf it (by simp)
  have hl:=rv.length
  exact wpAny_pyNext_tuple_end (I.ok.hd hc) st (show s.heap.IsTuple a its.toArray from p) (by simp; omega) fun h' eb=>⟨rfl,I.turned (t':=s.toks) (fun b o hb e=>eb b o hb e) f0 f1 f3 f4 f5⟩
 self:=fun _ _ _ _ _ st h=>wpAny_pyIter_tupleiter st h
theorem kq {P:Program} {w:World} {K:Frag} {tg:Expr} (it:Addr) (lo:Int) (n:Nat):Turn P w K tg (Itr lo n) [it] it (fun i h=>IsRangeIter h it (lo+(i:Nat)*1) ((n:Int)-(i:Nat)) 1) where
 mem:=by simp
 obj:=fun i h st b hb=>by
  have e:b=it:=by simpa using hb
  subst e
  exact ⟨_,st,fun v z=>by
   have z':Data.fields _=Data.cell v:=z
   cases z'⟩
 keep:=fun i h h' st k=>k it (by simp) _ st
 item:=by
  intro X hP hw hK hc i pins s σ H E I hf st hg
  subst hP hw hK
  obtain ⟨f0,f1,f2,f3,f4,f5⟩:=hf it (by simp)
  have W:=Walks.range (prog:=X.prog) (w:=X.w) (I.ok.hd hc) it lo 1 n
  refine W.item i s _ _ hg st fun v h' tk hv st' kk=>?_
  obtain ⟨t,rfl⟩:=hv
  have I1:Inv X pins σ H { s with heap:=h',toks:=tk }:=I.turned (fun b o hb e=>kk b o (by simpa using hb) e) f0 f1 f3 f4 f5
  refine ⟨_,rfl,gt (s:={ s with heap:=h',toks:=tk }) (n := "range_iterator") st' rfl rfl (by decide) ⟨.int (lo+i),H,I1,⟨t,?_⟩,⟨rfl,rfl⟩,st',fun b hb=>(hf b hb).1⟩⟩
  rw [Int.mul_one]
 done:=by
  intro X hP hw hK hc i pins s σ H E I hf st hg
  subst hP hw hK
  obtain ⟨f0,f1,f2,f3,f4,f5⟩:=hf it (by simp)
  exact wpAny_pyNext_range_end (I.ok.hd hc) st (by have:n≤i:=hg; omega) fun h' eb=>⟨rfl,I.turned (t':=s.toks) (fun b o hb e=>eb b o hb e) f0 f1 f3 f4 f5⟩
 self:=fun _ _ _ _ _ st h=>wpAny_pyIter_rangeiter st h
end L2
namespace L2
open PySem PySem.Spec PyProof.Rows
section
variable {X:Cx} {tg:Expr}
theorem pT {pins:List (Addr×Obj)} {σ:St} {H:Hp} {s:Shared} {R:It→Hp→Prop} {E:Value→Shared→Prop} {lo hi:Int} {t u v:Tok} {tk:Nat} (I:Inv X pins σ H s) (h1:-(2^62)≤lo) (h2:lo<2^62) (h3:-(2^62)≤hi) (h4:hi<2^62)
  (q:R (Itr lo (hi-lo).toNat) H):wpAny (model X.prog X.w) X.A (pyIter (.ref s.heap.objs.size)) (PIE X pins σ tg R) E { s with heap:=s.heap.push { cls:=.type "range",data:=.fields #[.int lo t,.int hi u,.int 1 v] },toks:=tk }:=by
 refine wpAny_pyIter_range (IsRange.new ..) (small_one h1 h2 h3 h4) ?_
 have I1:Inv X pins σ H { s with heap:=s.heap.push { cls:=.type "range",data:=.fields #[.int lo t,.int hi u,.int 1 v] },toks:=tk }:=I.kept fun b o e=>Heap.get?_push_of_some _ e
 refine ⟨(s.heap.push { cls:=.type "range",data:=.fields #[.int lo t,.int hi u,.int 1 v] }).objs.size,[(s.heap.push { cls:=.type "range",data:=.fields #[.int lo t,.int hi u,.int 1 v] }).objs.size],_,_,H,rfl,
  I1.kept (t':=tk) fun b o e=>Heap.get?_push_of_some _ e,kq _ lo (hi-lo).toNat,?_,fun b hb=>?_,q⟩
 ·have e1:lo+((0:Nat):Int)*1=lo:=by simp
  have e2:(((hi-lo).toNat:Nat):Int)-((0:Nat):Int)=Builtin.Range.rangeSize lo hi 1:=by rw [rangeSize_one]; split <;> omega
  show IsRangeIter _ _ (lo+((0:Nat):Int)*1) ((((hi-lo).toNat:Nat):Int)-((0:Nat):Int)) 1
  rw [e1,e2]
  exact Heap.get?_push_size _ rfl
 ·have e:b=(s.heap.push { cls:=.type "range",data:=.fields #[.int lo t,.int hi u,.int 1 v] }).objs.size:=by simpa using hb
  subst e
  exact I1.fpOk (Nat.le_refl _) (I1.hok.fresh (Nat.le_refl _))
noncomputable def sP (ta:TA):TI:=fun σ H R=>ta σ H fun vs H1=>∃ j:Int,vs = [.int j] ∧ -(2^62)≤j∧j<2^62∧R (Itr 0 j.toNat) H1
theorem nv {a:Expr} {ta:TA} {p pos:Pos} (hg:Gl X "range") (hm:X.mg "range" = none) (ha:PA X [a] ta) (hs:autoParam (starEach [a] X.env = [(false,eval a X.env)]) au0._auto_1):PI X tg (.Call (.Name "range" p) [a] [] pos) (sP ta):=by
 intro pins s σ H R I h
 refine Call_ (Q0 I hg hm boot_range (PyProof.Rows.callWith_type1 (thn (ha pos pins s σ H _ I h) fun us s1 zz20=>?_) hs rfl))
 obtain ⟨vs,H1,I1,r1,q1⟩:=zz20
 obtain ⟨j,e,q1,q2,q⟩:=q1
 subst e
 cases r1 with
 | cons r rr=>
  cases rr
  obtain ⟨t,rfl⟩:=r
  exact call_range_1 (pT I1 (by omega) (by omega) q1 q2 (by simpa using q))
noncomputable def xl (wi:TI) (g:TG) (tb:TS):TS:=fun D σ H=>wi σ H fun J H1=>∃ W:Nat→Nat→St→Hp→Prop,(∃ m,W 0 m σ H1)∧∀ i m σ H,W i m σ H →
 (J.stop i H∧D.nx σ H)∨(J.go i H∧∃ N:St→Hp→Prop,(∀ σ' H',N σ' H'→∃ m',m'<m∧W (i+1) m' σ' H')∧∀ x H',J.yld i H x H'→g x σ H' fun σ2 H2=>tb { D with nx:=N,ct:=N,bk:=D.nx } σ2 H2)
noncomputable def bX (fp:List Addr) (h:Heap):List (Addr×Obj):=fp.filterMap fun b=>(h.get? b).map fun o=>(b,o)
theorem V6 {fp:List Addr} {h:Heap} {b:Addr} {o:Obj} (hb:b∈fp) (e:h.get? b=some o):(b,o)∈bX fp h:=List.mem_filterMap.mpr ⟨b,hb,by rw [e]; rfl⟩
theorem nH {fp:List Addr} {h:Heap} {p:Addr×Obj} (hp:p∈bX fp h):p.1∈fp∧h.get? p.1=some p.2:=by
 obtain ⟨b,hb,e⟩:=List.mem_filterMap.mp hp
 cases q:h.get? b with
 | none=>rw [q] at e; cases e
 | some o=>
  rw [q] at e
  have e':(b,o)=p:=Option.some.inj e
  subst e'
  exact ⟨hb,q⟩
theorem Inv.pinned {pins:List (Addr×Obj)} {σ:St} {H:Hp} {s:Shared} {fp:List Addr} (I:Inv X pins σ H s) (hf:∀ b∈fp,F3 X pins H b) (ho:∀ b∈fp,∃ o,s.heap.get? b=some o∧∀ v,o.data≠.cell v):Inv X (pins++bX fp s.heap) σ H s:=
 I.pins_of fun p hp=>(List.mem_append.mp hp).elim (fun z=>I.pin p (List.mem_append_right _ z)) fun z=>by
  obtain ⟨hb,e⟩:=nH z
  obtain ⟨f0,f1,f2,_⟩:=hf p.1 hb
  obtain ⟨o,e',d⟩:=ho p.1 hb
  rw [e] at e'; cases e'
  exact ⟨e,f0,f1,f2,d⟩
theorem Inv.unpinned {pins pl:List (Addr×Obj)} {σ:St} {H:Hp} {s:Shared} (I:Inv X (pins++pl) σ H s):Inv X pins σ H s:=I.pins_of fun p hp=>I.pin p (List.mem_append_right _ (List.mem_append_left _ hp))
theorem yA {iter:Expr} {body:List Stmt} {wi:TI} {g:TG} {tb:TS} {pos:Pos} (hp:PassesOwn (model X.prog X.w) X.A X.env X.xe) (hc:X.calm=true) (hi:PI X tg iter wi) (hg:PG X tg g) (hb:PSs X body tb)
  (hs:autoParam (∀ x,foldedSetIterable iter X.env x=pure x) au3._auto_1):PS X (.For tg iter body [] pos) (xl wi g tb):=by
 intro pins s σ H D I h
 refine wpAny_For (thn (hi pins s σ H _ I h) fun v s1 h1=>thn h1 fun itv s2 h2=>?_) hs
 obtain ⟨it,fp,tn,J,H2,e,I2,T,st2,f2,W,⟨m0,w0⟩,turn⟩:=h2
 subst e
 -- what stays true of the iterator's objects through the loop
 have stat:∀ {H':Hp},(∀ b∈fp,H' b=none)→∀ b∈fp,F3 X pins H' b:=fun hn b hb=>⟨hn b hb,(f2 b hb).2⟩
 refine codeAny_forLoop_any (fun n s'=>∃ i σ' H',Inv X pins σ' H' s'∧tn i s'.heap∧(∀ b∈fp,H' b=none)∧W i n σ' H') ?_ m0 ⟨0,σ,H2,I2,st2,fun b hb=>(f2 b hb).1,w0⟩
 rintro n s3 ⟨i,σ3,H3,I3,st3,fr3,w3⟩
 rcases turn i n σ3 H3 w3 with ⟨stop,qn⟩ | ⟨go,N,hN,step⟩
 ·refine wpAny_passesOwn hp (thn (T.done X rfl rfl rfl hc i pins s3 σ3 H3 X.xe I3 (stat fr3) st3 stop) fun r s4 ⟨hr,I4⟩=>?_)
  subst hr
  exact wpAny_execs_nil ⟨σ3,H3,I4,qn⟩
 ·refine wpAny_passesOwn hp (thn (T.item X rfl rfl rfl hc i pins s3 σ3 H3 X.xe I3 (stat fr3) st3 go) fun r s4 ⟨u,hr,h4⟩=>?_)
  subst hr
  refine wpAny_passesOwn hp (thn h4 fun _ s5 zz23=>?_)
  obtain ⟨x,H5,I5,r5,y5,st5,fr5⟩:=zz23
  have I5':=I5.pinned (stat fr5) (T.obj _ _ st5)
  refine wpAny_passesOwn hp (thn (hg _ s5 σ3 H5 x u _ I5' r5 (step x H5 y5)) fun _ s6 zz24=>?_)
  obtain ⟨σ6,H6,I6,q6⟩:=zz24
  refine wpAny_passesOwn hp (thn (hb _ s6 σ6 H6 _ I6 q6) fun f s7 q7=>?_)
  have again:∀ {σ7:St} {H7:Hp},Inv X (pins++bX fp s5.heap) σ7 H7 s7→N σ7 H7→∃ m,m<n∧∃ i σ' H',Inv X pins σ' H' s7∧tn i s7.heap∧(∀ b∈fp,H' b=none)∧W i m σ' H':=fun {σ7 H7} I7 n7=>by
   obtain ⟨m',hm,w7⟩:=hN σ7 H7 n7
   refine ⟨m',hm,i+1,σ7,H7,I7.unpinned,T.keep _ _ _ st5 fun b hb o e=>(I7.pin (b,o) (List.mem_append_right _ (List.mem_append_right _ (V6 hb e)))).1,fun b hb=>?_,w7⟩
   obtain ⟨o,e,d⟩:=T.obj _ _ st5 b hb
   exact (I7.pin (b,o) (List.mem_append_right _ (List.mem_append_right _ (V6 hb e)))).2.1
  cases f with
  | next=>obtain ⟨σ7,H7,I7,n7⟩:=q7; exact again I7 n7
  | cont=>obtain ⟨σ7,H7,I7,n7⟩:=q7; exact again I7 n7
  | brk=>obtain ⟨σ7,H7,I7,q7⟩:=q7; exact ⟨σ7,H7,I7.unpinned,q7⟩
  | ret v=>obtain ⟨x7,σ7,H7,I7,r7,q7⟩:=q7; exact ⟨x7,σ7,H7,I7.unpinned,r7,q7⟩
end
end L2
namespace L2
open PySem PySem.Spec PyProof.Rows
noncomputable abbrev R2:=V→V→Hp→VK→Prop
noncomputable def OpR (X:Cx) (f:Value→Value→Sem Value) (r:R2):Prop:=
 ∀ (pins:List (Addr×Obj)) (s:Shared) (σ:St) (H:Hp) (x y:V) (v u:Value) (Q:VK),Inv X pins σ H s→RelV x v→RelV y u→r x y H Q →
  wpAny (model X.prog X.w) X.A (f v u) (EP X pins σ Q) X.xe s
noncomputable def UnR (X:Cx) (f:Value→Sem Value) (r:V→Hp→VK→Prop):Prop:=
 ∀ (pins:List (Addr×Obj)) (s:Shared) (σ:St) (H:Hp) (x:V) (v:Value) (Q:VK),Inv X pins σ H s→RelV x v→r x H Q →
  wpAny (model X.prog X.w) X.A (f v) (EP X pins σ Q) X.xe s
noncomputable def F5 (X:Cx) (f:Value) (r:List V→Hp→VK→Prop):Prop:=
 ∀ (pins:List (Addr×Obj)) (s:Shared) (σ:St) (H:Hp) (xs:List V) (us:List Value) (Q:VK),Inv X pins σ H s→Vals xs us→r xs H Q →
  wpAny (model X.prog X.w) X.A (call f us) (EP X pins σ Q) X.xe s
noncomputable def tOp (r:R2) (ta tb:TE):TE:=fun σ H Q=>ta σ H fun x H1=>tb σ H1 fun y H2=>r x y H2 Q
noncomputable def tUn (r:V→Hp→VK→Prop) (ta:TE):TE:=fun σ H Q=>ta σ H fun x H1=>r x H1 Q
noncomputable def rI (C:Int→Int→Prop) (g:Int→Int→V):R2:=fun x y H Q=>∃ i j,x=.int i∧y=.int j∧C i j∧Q (g i j) H
noncomputable def rI0 (g:Int→Int→V):R2:=fun x y H Q=>∃ i j,x=.int i∧y=.int j∧Q (g i j) H
noncomputable def rU (g:Int→V):V→Hp→VK→Prop:=fun x H Q=>∃ i,x=.int i∧Q (g i) H
section
variable {X:Cx} {a b c:Expr} {ta tb tc:TE} {pos:Pos}
theorem rR (ha:PE X a ta) (hb:PE X b tb) {pins:List (Addr×Obj)} {s:Shared} {σ:St} {H:Hp} {R:V→V→Hp→Prop} (I:Inv X pins σ H s)
  (h:ta σ H fun x H1=>tb σ H1 fun y H2=>R x y H2) {Q:Value→Shared→Prop} {f:Value→Value→Sem Value}
  (hf:∀ v u s2 x y H2,Inv X pins σ H2 s2→RelV x v→RelV y u→R x y H2→wpAny (model X.prog X.w) X.A (f v u) Q X.xe s2) :
  wpAny (model X.prog X.w) X.A (eval a X.env) (fun v s₁=>wpAny (model X.prog X.w) X.A (eval b X.env) (fun u s₂=>wpAny (model X.prog X.w) X.A (f v u) Q X.xe s₂) X.xe s₁) X.xe s:=by
 refine thn (ha pins s σ H _ I h) fun v s1 zz25=>?_
 obtain ⟨x,H1,I1,r1,q1⟩:=zz25
 refine thn (hb pins s1 σ H1 _ I1 q1) fun u s2 zz26=>?_
 obtain ⟨y,H2,I2,r2,q2⟩:=zz26
 exact hf v u s2 x y H2 I2 r1 r2 q2
theorem BR {op:Operator} {r:R2} (ho:OpR X (binaryOp op) r) (ha:PE X a ta) (hb:PE X b tb):PE X (.BinOp a op b pos) (tOp r ta tb):=by
 intro pins s σ H Q I h
 exact wpAny_BinOp (rR ha hb I h fun v u s2 x y H2 I2 rx ry q=>ho pins s2 σ H2 x y v u Q I2 rx ry q)
theorem BQ {op:UnaryOp} {r:V→Hp→VK→Prop} (ho:UnR X (unaryOp op) r) (ha:PE X a ta):PE X (.UnaryOp op a pos) (tUn r ta):=by
 intro pins s σ H Q I h
 exact UnaryOp_ (thn (ha pins s σ H _ I h) fun v s1 zz27=>by obtain ⟨x,H1,I1,r1,q1⟩:=zz27; exact ho pins s1 σ H1 x v Q I1 r1 q1)
theorem opI {f:Value→Value→Sem Value} {C:Int→Int→Prop} {g:Int→Int→Int}
  (rule:∀ (i j:Int) (t u:Tok) (s:Shared) (Q:Value→Shared→Prop) (E:Value→Shared→Prop),C i j→Q (.int (g i j) s.toks) { s with toks:=s.toks+1 }→wpAny (model X.prog X.w) X.A (f (.int i t) (.int j u)) Q E s) :
  OpR X f (rI C fun i j=>.int (g i j)):=by
 intro pins s σ H x y v u Q I rx ry h
 obtain ⟨i,j,rfl,rfl,hc,q⟩:=h
 obtain ⟨t,rfl⟩:=rx
 obtain ⟨t',rfl⟩:=ry
 exact rule i j t t' s _ _ hc ⟨.int (g i j),H,I.tok _,⟨_,rfl⟩,q⟩
theorem yO {f:Value→Value→Sem Value} {g:Int→Int→Int}
  (rule:∀ (i j:Int) (t u:Tok) (s:Shared) (Q:Value→Shared→Prop) (E:Value→Shared→Prop),Q (.int (g i j) s.toks) { s with toks:=s.toks+1 }→wpAny (model X.prog X.w) X.A (f (.int i t) (.int j u)) Q E s) :
  OpR X f (rI0 fun i j=>.int (g i j)):=by
 intro pins s σ H x y v u Q I rx ry h
 obtain ⟨i,j,rfl,rfl,q⟩:=h
 obtain ⟨t,rfl⟩:=rx
 obtain ⟨t',rfl⟩:=ry
 exact rule i j t t' s _ _ ⟨.int (g i j),H,I.tok _,⟨_,rfl⟩,q⟩
theorem kZ {f:Value→Value→Sem Value} {g:Int→Int→Bool}
  (rule:∀ (i j:Int) (t u:Tok) (s:Shared) (Q:Value→Shared→Prop) (E:Value→Shared→Prop),Q (.bool (g i j)) s→wpAny (model X.prog X.w) X.A (f (.int i t) (.int j u)) Q E s) :
  OpR X f (rI0 fun i j=>.bl (g i j)):=by
 intro pins s σ H x y v u Q I rx ry h
 obtain ⟨i,j,rfl,rfl,q⟩:=h
 obtain ⟨t,rfl⟩:=rx
 obtain ⟨t',rfl⟩:=ry
 exact rule i j t t' s _ _ ⟨.bl (g i j),H,I,rfl,q⟩
noncomputable def ar (i j:Int):Prop:=0<j∧j<1073741824
noncomputable def S2 (i j:Int):Prop:=0≤j∧j≤1000000∧i.natAbs<2^64
noncomputable def CMul (i j:Int):Prop:=(-(2^64)<i∧i<2^64)∨(-(2^64)<j∧j<2^64)
theorem CMul.ok {i j:Int} (h:CMul i j):IntMulOk i j:=by
 rcases h with ⟨h1,h2⟩ | ⟨h1,h2⟩
 ·exact .of_left (intBits_le_64 h1 h2)
 ·exact .of_right (intBits_le_64 h1 h2)
theorem u4:OpR X (binaryOp .Add) (rI0 fun i j=>.int (i+j)):=yO fun _ _ _ _ _ _ _ q=>add_int q
theorem P4:OpR X (binaryOp .Sub) (rI0 fun i j=>.int (i-j)):=yO fun _ _ _ _ _ _ _ q=>sub_int q
theorem A5:OpR X (binaryOp .Mult) (rI CMul fun i j=>.int (i*j)):=opI fun _ _ _ _ _ _ _ hc q=>mul_int q hc.ok
theorem jJ:OpR X (binaryOp .FloorDiv) (rI ar fun i j=>.int (i/j)):=opI fun i j _ _ _ _ _ hc q=>by
 have h1:(0:Int)<j:=hc.1
 have h2:j<1073741824:=hc.2
 exact floordiv_int (by omega) (by rw [Int.fdiv_eq_ediv_of_nonneg i (by omega)]; exact q) (.inl (PyProof.noPylong_small (by omega)))
theorem P5:OpR X (binaryOp .Mod) (rI (fun _ j=>0<j) fun i j=>.int (i%j)):=opI fun i j _ _ _ _ _ hc q=>by
 have h1:(0:Int)<j:=hc
 exact mod_int' (by omega) (by rw [Int.fmod_eq_emod_of_nonneg i (by omega)]; exact q)
theorem dN:OpR X (binaryOp .Pow) (rI S2 fun i j=>.int (i^j.toNat)):=opI fun _ _ _ _ _ _ _ hc q=>pow_int_small hc.1 hc.2.1 hc.2.2 q
theorem unI {f:Value→Sem Value} {g:Int→Int}
  (rule:∀ (i:Int) (t:Tok) (s:Shared) (Q:Value→Shared→Prop) (E:Value→Shared→Prop),Q (.int (g i) s.toks) { s with toks:=s.toks+1 }→wpAny (model X.prog X.w) X.A (f (.int i t)) Q E s) :
  UnR X f (rU fun i=>.int (g i)):=by
 intro pins s σ H x v Q I rx h
 obtain ⟨i,rfl,q⟩:=h
 obtain ⟨t,rfl⟩:=rx
 exact rule i t s _ _ ⟨.int (g i),H,I.tok _,⟨_,rfl⟩,q⟩
theorem gB:UnR X (unaryOp .USub) (rU fun i=>.int (-i)):=unI fun _ _ _ _ _ q=>neg_int q
end
noncomputable def gS:V→V→Bool
 | .non,.non=>true | .non,.int _=>true | .int _,.non=>true | .non,.bl _=>true | .bl _,.non=>true | .non,.str _=>true | .str _,.non=>true
 | .int _,.int _=>true | .bl _,.bl _=>true | .str _,.str _=>true | .byt _,.byt _=>true
 | .int _,.str _=>true | .str _,.int _=>true | .bl _,.str _=>true | .str _,.bl _=>true
 | _,_=>false
noncomputable def rEq:R2:=fun x y H Q=>gS x y=true∧Q (.bl (decide (x=y))) H
noncomputable def rNe:R2:=fun x y H Q=>gS x y=true∧Q (.bl (!decide (x=y))) H
theorem ke {i j:Int}:decide (V.int i=V.int j)=(i == j):=by
 rw [Bool.eq_iff_iff]
 simp
theorem oq {i j:Bool}:decide (V.bl i=V.bl j)=(i == j):=by
 rw [Bool.eq_iff_iff]
 simp
theorem ka {i j:Str}:decide (V.str i=V.str j)=(i == j):=by
 rw [Bool.eq_iff_iff]
 simp
theorem kh {i j:Array UInt8}:decide (V.byt i=V.byt j)=(i.toList == j.toList):=by
 rw [Bool.eq_iff_iff]
 cases i
 cases j
 simp
section
variable {X:Cx} {a b c:Expr} {ta tb tc:TE} {pos:Pos}
theorem j7 {pins:List (Addr×Obj)} {σ:St} {H:Hp} {s:Shared} {Q:VK} {k k':Bool} (I:Inv X pins σ H s) (q:Q (.bl k) H) (e:k=k'):EP X pins σ Q (.bool k') s:=by
 subst e
 exact ⟨.bl k,H,I,rfl,q⟩
theorem Z3:OpR X (compareOp .Eq) rEq:=by
 intro pins s σ H x y v u Q I rx ry h
 obtain ⟨hs,q⟩:=h
 cases x with
 | non=>
  cases rx
  cases y with
  | non=>cases ry; exact PySem.EqNone.eq_none_none (j7 I q (by simp))
  | bl j=>cases ry; exact PySem.EqNone.eq_none_bool (j7 I q (by simp))
  | int j=>obtain ⟨t',rfl⟩:=ry; exact PySem.EqNone.eq_none_int (j7 I q (by simp))
  | str j=>obtain ⟨t',rfl⟩:=ry; exact PySem.EqNone.eq_none_str (j7 I q (by simp))
  | _=>exact absurd (show false=true from hs) Bool.false_ne_true
 | bl i=>
  cases rx
  cases y with
  | non=>cases ry; exact PySem.EqNone.eq_bool_none (j7 I q (by simp))
  | bl j=>cases ry; exact eq_bool (j7 I q oq)
  | str j=>obtain ⟨t',rfl⟩:=ry; exact PySem.EqMixed.eq_bool_str (j7 I q (by simp))
  | _=>exact absurd (show false=true from hs) Bool.false_ne_true
 | int i=>
  obtain ⟨t,rfl⟩:=rx
  cases y with
  | non=>cases ry; exact PySem.EqNone.eq_int_none (j7 I q (by simp))
  | int j=>obtain ⟨t',rfl⟩:=ry; exact eq_int (j7 I q ke)
  | str j=>obtain ⟨t',rfl⟩:=ry; exact PySem.EqMixed.eq_int_str (j7 I q (by simp))
  | _=>exact absurd (show false=true from hs) Bool.false_ne_true
 | str i=>
  obtain ⟨t,rfl⟩:=rx
  cases y with
  | non=>cases ry; exact PySem.EqNone.eq_str_none (j7 I q (by simp))
  | bl j=>cases ry; exact PySem.EqMixed.eq_str_bool (j7 I q (by simp))
  | int j=>obtain ⟨t',rfl⟩:=ry; exact PySem.EqMixed.eq_str_int (j7 I q (by simp))
  | str j=>obtain ⟨t',rfl⟩:=ry; exact eq_str (j7 I q ka)
  | _=>exact absurd (show false=true from hs) Bool.false_ne_true
 | byt i=>
  obtain ⟨t,rfl⟩:=rx
  cases y with
  | byt j=>obtain ⟨t',rfl⟩:=ry; exact PySem.W.eq_bytes (j7 I q kh)
  | _=>exact absurd (show false=true from hs) Bool.false_ne_true
 | _=>cases y <;> exact absurd (show false=true from hs) Bool.false_ne_true
theorem sN:OpR X (compareOp .NotEq) rNe:=by
 intro pins s σ H x y v u Q I rx ry h
 obtain ⟨hs,q⟩:=h
 cases x with
 | non=>
  cases rx
  cases y with
  | non=>cases ry; exact PySem.EqNone.ne_none_none (j7 I q (by simp))
  | bl j=>cases ry; exact PySem.EqNone.ne_none_bool (j7 I q (by simp))
  | int j=>obtain ⟨t',rfl⟩:=ry; exact PySem.EqNone.ne_none_int (j7 I q (by simp))
  | str j=>obtain ⟨t',rfl⟩:=ry; exact PySem.EqNone.ne_none_str (j7 I q (by simp))
  | _=>exact absurd (show false=true from hs) Bool.false_ne_true
 | bl i=>
  cases rx
  cases y with
  | non=>cases ry; exact PySem.EqNone.ne_bool_none (j7 I q (by simp))
  | bl j=>cases ry; exact ne_bool (j7 I q (congrArg not oq))
  | str j=>obtain ⟨t',rfl⟩:=ry; exact PySem.EqMixed.ne_bool_str (j7 I q (by simp))
  | _=>exact absurd (show false=true from hs) Bool.false_ne_true
 | int i=>
  obtain ⟨t,rfl⟩:=rx
  cases y with
  | non=>cases ry; exact PySem.EqNone.ne_int_none (j7 I q (by simp))
  | int j=>obtain ⟨t',rfl⟩:=ry; exact ne_int (j7 I q (congrArg not ke))
  | str j=>obtain ⟨t',rfl⟩:=ry; exact PySem.EqMixed.ne_int_str (j7 I q (by simp))
  | _=>exact absurd (show false=true from hs) Bool.false_ne_true
 | str i=>
  obtain ⟨t,rfl⟩:=rx
  cases y with
  | non=>cases ry; exact PySem.EqNone.ne_str_none (j7 I q (by simp))
  | bl j=>cases ry; exact PySem.EqMixed.ne_str_bool (j7 I q (by simp))
  | int j=>obtain ⟨t',rfl⟩:=ry; exact PySem.EqMixed.ne_str_int (j7 I q (by simp))
  | str j=>obtain ⟨t',rfl⟩:=ry; exact ne_str (j7 I q (congrArg not ka))
  | _=>exact absurd (show false=true from hs) Bool.false_ne_true
 | byt i=>
  obtain ⟨t,rfl⟩:=rx
  cases y with
  | byt j=>obtain ⟨t',rfl⟩:=ry; exact PySem.W.ne_bytes (j7 I q (congrArg not kh))
  | _=>exact absurd (show false=true from hs) Bool.false_ne_true
 | _=>cases y <;> exact absurd (show false=true from hs) Bool.false_ne_true
theorem dO:OpR X (compareOp .Lt) (rI0 fun i j=>.bl (decide (i<j))):=kZ fun _ _ _ _ _ _ _ q=>lt_int q
theorem BV:OpR X (compareOp .LtE) (rI0 fun i j=>.bl (decide (i≤j))):=kZ fun _ _ _ _ _ _ _ q=>le_int q
theorem P6:OpR X (compareOp .Gt) (rI0 fun i j=>.bl (decide (j<i))):=kZ fun _ _ _ _ _ _ _ q=>gt_int q
theorem BX:OpR X (compareOp .GtE) (rI0 fun i j=>.bl (decide (j≤i))):=kZ fun _ _ _ _ _ _ _ q=>ge_int q
theorem M1:OpR X (compareOp .Is) (fun x y H Q=>y=.non∧Q (.bl (decide (x=.non))) H):=by
 intro pins s σ H x y v u Q I rx ry h
 obtain ⟨rfl,q⟩:=h
 cases ry
 refine is_none_gen (j7 I q ?_)
 cases x <;> first
  | (cases rx; rfl)
  | (obtain ⟨t,rfl⟩:=rx; rfl)
theorem eR:OpR X (compareOp .IsNot) (fun x y H Q=>y=.non∧Q (.bl (!decide (x=.non))) H):=by
 intro pins s σ H x y v u Q I rx ry h
 obtain ⟨rfl,q⟩:=h
 cases ry
 refine isnot_none_gen (j7 I q ?_)
 cases x <;> first
  | (cases rx; rfl)
  | (obtain ⟨t,rfl⟩:=rx; rfl)
theorem h9 (b:Expr) {op:CmpOp} (h:autoParam (op≠.In) au1._auto_1) (h2:autoParam (op≠.NotIn) au1._auto_1):behindInMarks op b=false:=by
 have e1:(op == CmpOp.In)=false:=by cases op <;> first | rfl | exact absurd rfl h
 have e2:(op == CmpOp.NotIn)=false:=by cases op <;> first | rfl | exact absurd rfl h2
 cases b <;> simp [behindInMarks,e1,e2]
theorem uH {op:CmpOp} {r:R2} (ho:OpR X (compareOp op) r) (ha:PE X a ta) (hb:PE X b tb) (hm:behindInMarks op b=false):PE X (.Compare a [op] [b] pos) (tOp r ta tb):=by
 intro pins s σ H Q I h
 exact wpAny_Compare1 (rR ha hb I h fun v u s2 x y H2 I2 rx ry q=>ho pins s2 σ H2 x y v u Q I2 rx ry q) hm
noncomputable def sf (t:TE):TT:=fun σ H Q=>t σ H fun x H'=>∃ k,x=.bl k∧Q k H'
theorem uw {op:CmpOp} {r:R2} (ho:OpR X (compareOp op) r) (ha:PE X a ta) (hb:PE X b tb) (hm:behindInMarks op b=false):PT X (.Compare a [op] [b] pos) (sf (tOp r ta tb)):=by
 intro pins s σ H Q I h
 refine wpAny_isTrue_Compare1 (thn (ha pins s σ H _ I h) fun v s1 ⟨x,H1,I1,r1,q1⟩=>thn (hb pins s1 σ H1 _ I1 q1) fun u s2 ⟨y,H2,I2,r2,q2⟩=>
  thn (ho pins s2 σ H2 x y v u _ I2 r1 r2 q2) fun c s3 ⟨z,H3,I3,r3,k,e,q3⟩=>?_) hm
 subst e
 cases r3
 exact wpAny_truthy_bool ⟨H3,I3,q3⟩
noncomputable def xm (r r':R2) (ta tb tc:TE):TE:=fun σ H Q=>ta σ H fun x H1=>tb σ H1 fun y H2=>r x y H2 fun z H3=>∃ k,z=.bl k ∧
 (if k=true then tc σ H3 fun w' H4=>r' y w' H4 Q else Q (.bl false) H3)
theorem qi {op op':CmpOp} {r r':R2} (ho:OpR X (compareOp op) r) (ho':OpR X (compareOp op') r') (ha:PE X a ta) (hb:PE X b tb) (hc:PE X c tc)
  (hm:autoParam (lastMarks [op,op'] [b,c]=false) au6._auto_1):PE X (.Compare a [op,op'] [b,c] pos) (xm r r' ta tb tc):=by
 intro pins s σ H Q I h
 refine Compare_chain (thn (ha pins s σ H _ I h) fun v s1 ⟨x,H1,I1,r1,q1⟩=>chain_link (thn (hb pins s1 σ H1 _ I1 q1) fun u s2 ⟨y,H2,I2,r2,q2⟩=>
  thn (ho pins s2 σ H2 x y v u _ I2 r1 r2 q2) fun d s3 ⟨z,H3,I3,r3,k,e,q3⟩=>?_)) hm
 subst e
 cases r3
 refine wpAny_truthy_bool ?_
 cases k with
 | false=>exact ite_ff ⟨.bl false,H3,I3,rfl,q3⟩
 | true=>exact ite_tt (chain_last (thn (hc pins s3 σ H3 _ I3 q3) fun w' s4 zz34=>by obtain ⟨z',H4,I4,r4,q4⟩:=zz34; exact ho' pins s4 σ H4 y z' u w' Q I4 r2 r4 q4))
theorem cc:(sizeLine:Nat)<2^63:=by rw [sizeLine_eq]; decide
theorem vals1 {x:V} {us:List Value} (r:Vals [x] us):∃ u,us = [u]∧RelV x u:=by
 cases r with
 | cons r1 r2=>cases r2; exact ⟨_,rfl,r1⟩
theorem vals2 {x y:V} {us:List Value} (r:Vals [x,y] us):∃ u w',us = [u,w']∧RelV x u∧RelV y w':=by
 cases r with
 | cons r1 r2=>
  cases r2 with
  | cons r3 r4=>cases r4; exact ⟨_,_,rfl,r1,r3⟩
theorem U0 (hc:X.calm=true):F5 X (.builtin "max") (fun xs H Q=>∃ i j,xs = [.int i,.int j]∧Q (.int (if j>i then j else i)) H):=by
 intro pins s σ H xs us Q I r h
 obtain ⟨i,j,rfl,q⟩:=h
 obtain ⟨u,w',rfl,⟨t,rfl⟩,⟨t',rfl⟩⟩:=vals2 r
 refine max_two_ints (I.ok.hd hc) fun h' tk k=>⟨_,H,I.kept k,?_,q⟩
 by_cases hj:j>i
 ·rw [if_pos hj,if_pos hj]; exact ⟨_,rfl⟩
 ·rw [if_neg hj,if_neg hj]; exact ⟨_,rfl⟩
end
end L2
namespace L2
open PySem PySem.Spec PyProof.Rows
structure ObjM (h:Heap) (x dx C:Addr) (mA:Str→Option Value):Prop where
 obj:h.get? x=some (PySem.W.instObj C dx)
 ns:h.Ns1 dx mA
 ne:dx≠x
theorem nO {h:Heap} {dx:Addr} {mA:Str→Option Value} (n:h.Ns1 dx mA):∃ od,h.get? dx=some od∧∀ name,PySem.W.lookIn name od=some (mA name):=by
 obtain ⟨o,es,ep,ho,hd,hk,_,hm⟩:=n
 refine ⟨o,ho,fun name=>?_⟩
 have e:=hm name
 unfold nsFind findBy at e
 rw [← Array.find?_toList] at e
 unfold PySem.W.lookIn
 rw [hd]
 dsimp only
 split
 ·rename_i y q
  rw [q] at e
  exact congrArg some e
 ·rename_i q
  rw [q] at e
  have a:es.toList.any (·.refKey)=false:=by
   rw [List.any_eq_false]
   intro y hy
   obtain ⟨z,t,hkey⟩:=hk y (Array.mem_toList_iff.mp hy)
   simp [DictEntry.refKey,hkey]
  have a':¬ es.toList.any (·.refKey)=true:=by rw [a]; exact Bool.false_ne_true
  rw [if_neg a']
  exact congrArg some e
theorem ObjM.look {h:Heap} {x dx C:Addr} {mA:Str→Option Value} (I:ObjM h x dx C mA):∃ od,PySem.W.InstAt h x (PySem.W.instObj C dx) C (some od)∧∀ name,PySem.W.lookIn name od=some (mA name):=
 let ⟨od,ho,hl⟩:=nO I.ns
 ⟨od,⟨I.obj,rfl,rfl,ho⟩,hl⟩
section
variable {prog:Program} {w:World} {A:Around} {E:Value→Shared→Prop} {s:Shared} {K:Frag} {x dx C f:Addr} {mA:Str→Option Value} {name:Str} {v:Value}
end
section
variable {P:Program} {w:World} {H H':Hp} {h h':Heap} {a C dx:Addr} {fs fs':List (Str×V)}
theorem vC (hok:HOk P w H h) (e:H a=some (.ins C dx fs)):∃ mA,ObjM h a dx C mA∧(∀ f,rX (fs.lookup f) (mA f))∧PySem.Within mA (fs.map (·.1))∧fs.length≤1000∧H dx=some (.own a):=by
 obtain ⟨d,z,ne,ob,mA,n,r,q⟩:=(show ObjOk P w H h a (.ins C dx fs) from hok a _ e)
 exact ⟨mA,⟨ob,n,ne⟩,r,q,z,d⟩
end
structure Cls (K:Frag) (C:Addr):Prop where
 pg:PySem.W.plainGet K C Str.empty=true
 hd:PySem.W.hasDictIn K C=true
 po:PySem.W.plainOver K C=true
 sa:PySem.W.findIn K (.ref C) "__setattr__" = some (some (.builtin "object.__setattr__"))
theorem Cls.get {K:Frag} {C:Addr} (c:Cls K C) (f:Str):PySem.W.plainGet K C f=true:=c.pg
section
variable {X:Cx} {pins:List (Addr×Obj)} {σ:St} {H:Hp} {s:Shared} {a C dx:Addr} {fs:List (Str×V)} {f:Str} {v:V} {A:Around} {E:Value→Shared→Prop}
end
section
variable {X:Cx} {o e value:Expr} {f:Str} {pos pos' tpos:Pos} {ta tv:TE}
end
section
variable {X:Cx} {pins:List (Addr×Obj)} {σ:St} {H:Hp} {s:Shared} {A:Around} {E:Value→Shared→Prop} {Q:Value→Shared→Prop} {c:Value} {b:Bool}
inductive S1 (K:Frag) (H:Hp):V→Value→Prop where
 | non:S1 K H .non (.type "NoneType")
 | bl (x:Bool):S1 K H (.bl x) (.type "bool")
 | int (i:Int):S1 K H (.int i) (.type "int")
 | str (x:Str):S1 K H (.str x) (.type "str")
 | flt (x:UInt64):S1 K H (.flt x) (.type "float")
 | lst {a:Addr} {xs:List V} (e:H a=some (.lst xs)):S1 K H (.ref a) (.type "list")
 | frz {a:Addr} {o:Obj} {xs:List V} (e:H a=some (.frz o (.lst xs))):S1 K H (.ref a) (.type "list")
 | tup {a:Addr} {xs:List V} (e:H a=some (.tup xs)):S1 K H (.ref a) (.type "tuple")
 | dK {a:Addr} {kvs:List (Key×V)} (e:H a=some (.dK kvs)):S1 K H (.ref a) (.type "dict")
 | dT {a:Addr} {kvs:List (List Key×V)} (e:H a=some (.dT kvs)):S1 K H (.ref a) (.type "dict")
 | ins {a C dx:Addr} {fs:List (Str×V)} (e:H a=some (.ins C dx fs)) (cl:Cls K C) (ha:PySem.W.findIn K (.ref C) "__class__" = some (some (.builtin "object.__class__")))
   (hn:PySem.W.specialIn K (.builtin "object.__class__") "__get__" = some (some (.builtin "getset_descriptor.__get__"))) (htk:PySem.W.takesIn K (.builtin "object.__class__")=some true)
   (hm:PySem.W.mroIn K C (.type "object")=some true):S1 K H (.ref a) (.ref C)
theorem nU {x:V} {u t:Value} (I:Inv X pins σ H s) (rx:RelV x u) (ty:S1 X.K H x t) (e:PySem.W.kitOne X.K t c=some b) (h:∀ tk,Q (.bool b) { s with toks:=tk }) :
  wpAny (model X.prog X.w) A (call (.builtin "isinstance") [u,c]) Q E s:=by
 cases ty with
 | non=>cases (show u=Value.none from rx); exact PySem.W.kia_one PySem.W.kitx_none I.kIn True.intro e (fun z=>nomatch z) h
 | bl y=>cases (show u=Value.bool y from rx); exact PySem.W.kia_one PySem.W.kitx_bool I.kIn True.intro e (fun z=>nomatch z) h
 | int i=>obtain ⟨t,q⟩:=(show ∃ t,u=Value.int i t from rx); cases q; exact PySem.W.kia_one PySem.W.kitx_int I.kIn True.intro e (fun z=>nomatch z) h
 | str y=>obtain ⟨t,q⟩:=(show ∃ t,u=Value.str y t from rx); cases q; exact PySem.W.kia_one PySem.W.kitx_str I.kIn True.intro e (fun z=>nomatch z) h
 | flt y=>obtain ⟨t,q⟩:=(show ∃ t,u=Value.float y t from rx); cases q; exact PySem.W.kia_one PySem.W.kitx_float I.kIn True.intro e (fun z=>nomatch z) h
 | @lst a xs ea=>
  cases (show u=Value.ref a from rx)
  obtain ⟨_,_,n,_,h1⟩:=(show ObjOk X.prog X.w H s.heap a (.lst xs) from I.hok a _ ea)
  exact PySem.W.kia_one PySem.W.kitx_list I.kIn ⟨_,h1,rfl⟩ e (fun z=>nomatch z) h
 | @frz a ob xs ea=>
  cases (show u=Value.ref a from rx)
  obtain ⟨_,_,_,n,_,h1⟩:=(show ObjOk X.prog X.w H s.heap a (.frz ob (.lst xs)) from I.hok a _ ea)
  exact PySem.W.kia_one PySem.W.kitx_list I.kIn ⟨_,h1,rfl⟩ e (fun z=>nomatch z) h
 | @tup a xs ea=>
  cases (show u=Value.ref a from rx)
  obtain ⟨_,_,_,p⟩:=(show ObjOk X.prog X.w H s.heap a (.tup xs) from I.hok a _ ea)
  obtain ⟨o,h1,h2,_⟩:=p
  exact PySem.W.kia_one PySem.W.kitx_tuple I.kIn ⟨o,h1,h2⟩ e (fun z=>nomatch z) h
 | @dK a kvs ea=>
  cases (show u=Value.ref a from rx)
  obtain ⟨_,_,vs,_,p⟩:=(show ObjOk X.prog X.w H s.heap a (.dK kvs) from I.hok a _ ea)
  obtain ⟨o,es,ep,h1,h2,_⟩:=p
  exact PySem.W.kia_one PySem.W.kitx_dict I.kIn ⟨o,h1,h2.1⟩ e (fun z=>nomatch z) h
 | @dT a kvs ea=>
  cases (show u=Value.ref a from rx)
  obtain ⟨_,_,xs,_,o,es,ep,h1,h2,_⟩:=(show ObjOk X.prog X.w H s.heap a (.dT kvs) from I.hok a _ ea)
  exact PySem.W.kia_one PySem.W.kitx_dict I.kIn ⟨o,h1,h2.1⟩ e (fun z=>nomatch z) h
 | @ins a C dx fs ea cl ha hn htk hm=>
  cases (show u=Value.ref a from rx)
  obtain ⟨mA,O,_⟩:=vC I.hok ea
  obtain ⟨od,J,_⟩:=O.look
  exact PySem.W.kia_one (PySem.W.kitx_own (cl.get _) cl.hd ha hn htk hm) I.kIn J e (fun z=>nomatch z) h
end
end L2
namespace L2
open PySem PySem.Spec PyProof.Rows
structure Room (k:Nat) (A:Around):Prop where
 hd:A.handled=none
 dp:A.depth+3*k+5<recursionLimit
 un:A.units+16*k+200<cLine
theorem Room.mono {j k:Nat} {A:Around} (r:Room k A) (h:j≤k):Room j A:=⟨r.hd,by have:=r.dp; omega,by have:=r.un; omega⟩
theorem Room.deeper {k:Nat} {A:Around} (r:Room (k+1) A) (env:Env):Room k (A.deeper env):=
 ⟨r.hd,by have:=r.dp; show A.depth+1+3*k+5<_; omega,by have:=r.un; show A.units+3+16*k+200<_; omega⟩
theorem Room.in1 {k:Nat} {A:Around} (r:Room (k+1) A):Room k A.in1:=
 ⟨r.hd,by have:=r.dp; show A.depth+3*k+5<_; omega,by have:=r.un; show A.units+1+16*k+200<_; omega⟩
theorem Room.depth {k:Nat} {A:Around} (r:Room k A):A.depth<recursionLimit:=by have:=r.dp; omega
theorem Room.units {k:Nat} {A:Around} (r:Room k A):A.units+64<cLine:=by have:=r.un; omega
noncomputable def tNil:TA:=fun _ H Q=>Q [] H
noncomputable def aS (ta:TE) (tr:TA):TA:=fun σ H Q=>ta σ H fun x H1=>tr σ H1 fun xs H2=>Q (x::xs) H2
section
variable {X:Cx} {e:Expr} {es:List Expr} {te:TE} {t:TA} {pos:Pos}
theorem pa_nil:PA X [] tNil:=fun _ _ _ _ H Q I h=>Calls.spliced_nil ⟨[],H,I,.nil,h⟩
theorem cD (ha:PE X e te) (hr:PA X es t) (hs:autoParam (starEach (e::es) X.env=(false,eval e X.env)::starEach es X.env) au0._auto_1):PA X (e::es) (aS te t):=by
 intro pos pins s σ H Q I h
 rw [hs]
 show wpAny _ _ (spliced ((false,eval e X.env)::backTo pos (starEach es X.env))) _ _ s
 refine Calls.spliced_cons (thn (ha pins s σ H _ I h) fun u s1 zz35=>?_)
 obtain ⟨x,H1,I1,r1,q1⟩:=zz35
 exact thn (hr pos pins s1 σ H1 _ I1 q1) fun us s2 zz36=>by obtain ⟨xs,H2,I2,r2,q2⟩:=zz36; exact ⟨x::xs,H2,I2,.cons r1 r2,q2⟩
noncomputable def pf (t:TA):TE:=fun σ H Q=>t σ H fun xs H1=>xs.length≤sizeLine∧∀ p,H1 p=none→Q (.ref p) (upd H1 p (.tup xs))
noncomputable def xk (t:TA):TE:=fun σ H Q=>t σ H fun xs H1=>xs.length≤sizeLine∧∀ p,H1 p=none→Q (.ref p) (upd H1 p (.lst xs))
theorem ny {x1} (h:PA X es t):PE X (.Tuple es x1 pos) (pf t):=by
 intro pins s σ H Q I hq
 refine wpAny_Tuple_spliced (thn (h pos pins s σ H _ I hq) fun us s1 ⟨xs,H1,I1,r,z,q⟩=>⟨by rw [← r.length]; exact z,?_⟩)
 have hf:H1 s1.heap.objs.size=none:=I1.hok.fresh (Nat.le_refl _)
 refine ⟨.ref s1.heap.objs.size,upd H1 s1.heap.objs.size (.tup xs),I1.laid (t':=s1.toks) (fun b u e=>Heap.get?_push_of_some _ e) (Nat.le_refl _) ?_,rfl,q _ hf⟩
 exact ⟨z,us,r,⟨_,Heap.get?_push_size _ rfl,rfl,_,rfl⟩⟩
theorem yK (h:PA X es t):PE X (.List es pos) (xk t):=by
 intro pins s σ H Q I hq
 refine wpAny_List_spliced (thn (h pos pins s σ H _ I hq) fun us s1 ⟨xs,H1,I1,r,z,q⟩=>⟨by rw [← r.length]; exact z,?_⟩)
 have hf:H1 s1.heap.objs.size=none:=I1.hok.fresh (Nat.le_refl _)
 refine ⟨.ref s1.heap.objs.size,upd H1 s1.heap.objs.size (.lst xs),I1.laid (t':=s1.toks) (fun b u e=>Heap.get?_push_of_some _ e) (Nat.le_refl _) ?_,rfl,q _ hf⟩
 exact ⟨z,us,0,r,Heap.get?_push_size _ rfl⟩
end
noncomputable abbrev Sp:=List V→Hp→VK→XK→Prop
noncomputable abbrev CXT:=List Env→Hp→Shared→XK→Value→Shared→Prop
structure lY (P:Program) (w:World) (K:Frag) (mg:Str→Option Value) (base:Heap) (A:Around) (outer:List Env) (s:Shared) (H:Hp):Prop where
 frames:A.frames=some outer
 mod:Mod K mg base
 bs:∀ b o,base.get? b=some o→s.heap.get? b=some o∧H b=none
 bsz:base.objs.size≤s.heap.objs.size
 funs:s.heap.FunFrames base outer
 frf:∀ b∈frs outer,H b=none
 hok:HOk P w H s.heap
 bare:AllBare s.gens
noncomputable def CE (outer:List Env) (P:Program) (w:World) (H:Hp) (s:Shared) (Q:VK) (u:Value) (s':Shared):Prop:=
 ∃ v H',s'.os=s.os∧AllBare s'.gens∧Un (frs outer) [] H H' s.heap s'.heap∧HOk P w H' s'.heap∧RelV v u∧Q v H'
noncomputable def CR (CX:CXT) (outer:List Env) (P:Program) (w:World) (H:Hp) (s:Shared) (Q:VK) (E:XK) (r:Result) (s':Shared):Prop:=
 match r with
 | .ok (.ret u)=>CE outer P w H s Q u s'
 | .ok _=>False
 | .error e=>CX outer H s E e s'
structure FnOk (P:Program) (w:World) (K:Frag) (mg:Str→Option Value) (base:Heap) (CX:CXT) (k:Nat) (f:Addr) (fd:FuncData) (ps:List Str) (sp:Sp):Prop where
 len:∀ vs H Q E,sp vs H Q E→vs.length=ps.length
 run:∀ (A:Around) (outer:List Env) (s:Shared) (H:Hp) (args:Args) (us:List Value) (vs:List V) (Q:VK) (E:XK),Room k A→lY P w K mg base A outer s H→BindsTo s fd args (ps.zip us)→Vals vs us→sp vs H Q E →
  codeAny (model P w) A (.call (.ref f) args) (CR CX outer P w H s Q E) s
theorem FnOk.imp {P:Program} {w:World} {K:Frag} {mg:Str→Option Value} {base:Heap} {CX:CXT} {k:Nat} {f:Addr} {fd:FuncData} {ps:List Str} {sp sp':Sp} (F:FnOk P w K mg base CX k f fd ps sp)
  (h:∀ vs H Q E,sp' vs H Q E→sp vs H Q E):FnOk P w K mg base CX k f fd ps sp':=
 ⟨fun vs H Q E q=>F.len vs H Q E (h _ _ _ _ q),fun A outer s H args us vs Q E hr he hb hv hs=>F.run A outer s H args us vs Q E hr he hb hv (h _ _ _ _ hs)⟩
section
variable {X:Cx} {pins:List (Addr×Obj)} {σ:St} {H:Hp} {s s':Shared}
theorem Inv.env0 (I:Inv X pins σ H s):lY X.prog X.w X.K X.mg X.base X.A X.stack s H:=
 ⟨I.ok.frames,I.ok.mod,I.bs,Nat.le_trans I.ok.bsz I.sz,I.stack,I.stkFree,I.hok,I.bare⟩
theorem Inv.after {Q:VK} {u:Value} (I:Inv X pins σ H s) (h:CE X.stack X.prog X.w H s Q u s'):EP X pins σ Q u s':=by
 obtain ⟨v,H',os,bare,un,hok,r,q⟩:=h
 obtain ⟨hh,g,d,t,os'⟩:=s'
 obtain rfl:os'=s.os:=os
 exact ⟨v,H',I.call (h':=hh) (g':=g) (d':=d) (t':=t) (ch:=[]) un hok bare (fun b z=>absurd z (by simp)),r,q⟩
end
noncomputable def kB (sp:Sp) (dvs:List V) (E:XK) (t:TA):TE:=fun σ H Q=>t σ H fun vs H1=>sp (vs++dvs) H1 Q E
noncomputable def Binds (K:Frag) (fd:FuncData) (ps:List Str) (ds:List Value):Prop:=
 ∀ (s:Shared) (us:List Value),K.In s.heap→(us++ds).length=ps.length→BindsTo s fd ⟨us,[]⟩ (ps.zip (us++ds))
theorem Binds.all {K:Frag} {fd:FuncData} {ps:List Str} (h:∀ us:List Value,us.length=ps.length→bindArgs fd ⟨us,[]⟩=pure (ps.zip us)):Binds K fd ps []:=fun s us _ hl=>by
 rw [List.append_nil] at hl ⊢
 exact .of_eq (h us hl)
noncomputable def iX (CX:CXT) (X:Cx) (E:XK):Prop:=∀ (pins:List (Addr×Obj)) (σ:St) (H:Hp) (s:Shared) (e:Value) (s':Shared),Inv X pins σ H s→CX X.stack H s E e s'→X.xe e s'
section
variable {X:Cx} {CX:CXT} {k:Nat} {f C:Addr} {fd:FuncData} {ps:List Str} {sp:Sp} {dvs:List V} {ds:List Value} {E:XK} {x m:Str} {p pos apos:Pos} {e o:Expr} {es:List Expr} {ta:TE} {t:TA}
theorem nc {pins:List (Addr×Obj)} {σ:St} {H:Hp} {s:Shared} {Q:VK} {us:List Value} {vs:List V} (F:FnOk X.prog X.w X.K X.mg X.base CX k f fd ps sp) (hr:Room k X.A) (hb:Binds X.K fd ps ds) (hd:Vals dvs ds) (hx:iX CX X E)
  (I:Inv X pins σ H s) (r:Vals vs us) (h:sp (vs++dvs) H Q E):wpAny (model X.prog X.w) X.A (call (.ref f) us) (EP X pins σ Q) X.xe s:=by
 have r2:Vals (vs++dvs) (us++ds):=r.append hd
 have hl:(us++ds).length=ps.length:=by rw [← r2.length]; exact F.len _ _ _ _ h
 refine wpAny_call (codeAny_mono (F.run X.A X.stack s H ⟨us,[]⟩ (us++ds) (vs++dvs) Q E hr I.env0 (hb s us I.kIn hl) r2 h) fun r s' hq=>?_)
 cases r with
 | error e=>exact hx pins σ H s e s' I hq
 | ok fl=>
  cases fl with
  | ret u=>exact I.after hq
  | next=>exact False.elim hq
  | brk=>exact False.elim hq
  | cont=>exact False.elim hq
theorem jI (F:FnOk X.prog X.w X.K X.mg X.base CX k f fd ps sp) (hr:Room k X.A) (hg:Gl X x) (hm:X.mg x=some (.ref f)) (hk:PySem.W.keepIn X.K (.ref f)=true) (hb:Binds X.K fd ps ds) (hd:Vals dvs ds) (hx:iX CX X E)
  (ha:PA X (e::es) t) (hdb:autoParam ((x == ("__debug__" : Str))=false) au1._auto_1) (he:autoParam (starEach (e::es) X.env=(false,eval e X.env)::starEach es X.env) au0._auto_1) (hpl:autoParam ((backTo pos (starEach es X.env)).any (·.1)=false) au0._auto_1) :
  PE X (.Call (.Name x p) (e::es) [] pos) (kB sp dvs E t):=by
 intro pins s σ H Q I h
 refine wpAny_Call_Name_kw (jR I hg hm ?_ hdb)
 refine PySem.W.callWith_K (h₀:=X.base) I.ok.mod.kin hk (thn (ha pos pins s σ H _ I h) fun us s1 ⟨vs,H1,I1,r,q⟩=>⟨I1.kIn,?_⟩) he hpl
 exact nc F hr hb hd hx I1 r q
end
noncomputable def PK (X:Cx) (kws:List Keyword) (t:TA):Prop:=
 ∀ (pos:Pos) (pins:List (Addr×Obj)) (s:Shared) (σ:St) (H:Hp) (Q:List V→Hp→Prop),Inv X pins σ H s→t σ H Q→wpAny (model X.prog X.w) X.A (evalAll ((backToKw pos (keywordEach kws X.env)).map (·.2))) (AP X pins σ Q) X.xe s
section
variable {X:Cx} {CX:CXT} {k:Nat} {f C:Addr} {fd:FuncData} {ps ks:List Str} {sp:Sp} {E:XK} {x m:Str} {p pos apos kpos:Pos} {e o:Expr} {es:List Expr} {kws:List Keyword} {te ta:TE} {t tk:TA} {nm:Option Str}
theorem yE:PK X [] tNil:=fun _ _ _ _ H Q I h=>wpAny_evalAll_nil ⟨[],H,I,.nil,h⟩
theorem jH (ha:PE X e te) (hr:PK X kws t):PK X (⟨nm,e,kpos⟩::kws) (aS te t):=by
 intro pos pins s σ H Q I h
 show wpAny _ _ (evalAll ((do let v ← eval e X.env; standAt pos; pure v)::(backToKw pos (keywordEach kws X.env)).map (·.2))) _ _ s
 refine wpAny_evalAll_cons (wpAny_bind (thn (ha pins s σ H _ I h) fun u s1 ⟨x,H1,I1,r1,q1⟩=>wpAny_bind (wpAny_standAt (wpAny_pure ?_))))
 exact thn (hr pos pins s1 σ H1 _ I1 q1) fun us s2 zz41=>by obtain ⟨xs,H2,I2,r2,q2⟩:=zz41; exact ⟨x::xs,H2,I2,.cons r1 r2,q2⟩
variable {g:List Value→List Value→List Value} {gV:List V→List V→List V}
end
structure g9 (N P:List Str) (sc:Scope):Prop where
 kind:sc.kind=.function
 co:sc.isCoroutine=false
 gen:sc.isGenerator=false
 nd:N.Nodup
 pre:N.take P.length=P
 par:∀ x∈P,sc.names.lookup x=some .local∨sc.names.lookup x=some .cell
 nofree:∀ y∈sc.names,y.2≠.free
theorem oE {kindOf:Str→Option NameKind} {x:Str}:∀ {binds:List (Str×Value)} {m:Str→Option Value},(∀ v,(x,v)∉binds)→bindL kindOf binds m x=m x:=by
 intro binds
 induction binds with
 | nil=>intro m _; rfl
 | cons p r ih=>
  intro m h
  unfold bindL
  rw [ih fun w hw=>h w (List.mem_cons_of_mem _ hw)]
  split
  ·have:x≠p.1:=by rintro rfl; exact h p.2 List.mem_cons_self
   simp [this]
  ·rfl
theorem oG {kindOf:Str→Option NameKind} {x:Str}:∀ {binds:List (Str×Value)} {m:Str→Option Value},(∀ v,(x,v)∉binds)→bindC kindOf binds m x=m x:=by
 intro binds
 induction binds with
 | nil=>intro m _; rfl
 | cons p r ih=>
  intro m h
  unfold bindC
  rw [ih fun w hw=>h w (List.mem_cons_of_mem _ hw)]
  split
  ·rfl
  ·have:x≠p.1:=by rintro rfl; exact h p.2 List.mem_cons_self
   simp [this]
theorem oF {kindOf:Str→Option NameKind} {x:Str} {v:Value}:∀ {P:List Str} {vs:List Value} {i:Nat} {m:Str→Option Value},P.Nodup→P[i]?=some x→vs[i]?=some v→kindOf x=some .local →
  bindL kindOf (P.zip vs) m x=some v:=by
 intro P
 induction P with
 | nil=>intro vs i m _ h _ _; cases h
 | cons p P ih=>
  intro vs i m nd h1 h2 hk
  cases vs with
  | nil=>cases h2
  | cons w vs=>
   show bindL kindOf ((p,w)::P.zip vs) m x=_
   unfold bindL
   cases i with
   | zero=>
    cases h1
    cases h2
    rw [oE fun v hv=>(List.nodup_cons.mp nd).1 (List.of_mem_zip hv).1,if_pos hk]
    simp
   | succ i=>exact ih (List.nodup_cons.mp nd).2 h1 h2 hk
theorem oH {kindOf:Str→Option NameKind} {x:Str} {v:Value}:∀ {P:List Str} {vs:List Value} {i:Nat} {m:Str→Option Value},P.Nodup→P[i]?=some x→vs[i]?=some v→kindOf x≠some .local →
  bindC kindOf (P.zip vs) m x=some v:=by
 intro P
 induction P with
 | nil=>intro vs i m _ h _ _; cases h
 | cons p P ih=>
  intro vs i m nd h1 h2 hk
  cases vs with
  | nil=>cases h2
  | cons w vs=>
   show bindC kindOf ((p,w)::P.zip vs) m x=_
   unfold bindC
   cases i with
   | zero=>
    cases h1
    cases h2
    rw [oG fun v hv=>(List.nodup_cons.mp nd).1 (List.of_mem_zip hv).1,if_neg hk]
    simp
   | succ i=>exact ih (List.nodup_cons.mp nd).2 h1 h2 hk
noncomputable def start (N:List Str) (vs:List V):St:=vs.map some++List.replicate (N.length-vs.length) none
noncomputable def fv (CX:CXT) (P:Program) (w:World) (K:Frag) (mg:Str→Option Value) (base:Heap) (N:List Str) (qual:Str) (scope:Scope) (f:Addr) (cd:Value) (A:Around) (outer:List Env) (s:Shared) (H:Hp) (E:XK):Cx where
 prog:=P
 w:=w
 K:=K
 mg:=mg
 base:=base
 A:=A.deeper (envOfC qual scope s.heap.objs.size f cd)
 N:=N
 s₀:=s
 H₀:=H
 env:=envOfC qual scope s.heap.objs.size f cd
 outer:=outer
 stack:=envOfC qual scope s.heap.objs.size f cd::outer
 ex:=[]
 calm:=true
 fn:=fun _=>true
 pn:=[]
 xe:=fun e s'=>wpAny (model P w) (A.deeper (envOfC qual scope s.heap.objs.size f cd)) (leaving (envOfC qual scope s.heap.objs.size f cd) e) (fun _ s''=>CX outer H s E e s'') (fun e' s''=>CX outer H s E e' s'') s'
theorem iQ {sc:Scope} {n:Nat} {x:Str} (h:sc.names.lookup x=some .cell):∃ c,(cellsFrom n sc.names []).lookup x=some c:=by
 have q:=PySem.W.cellsFrom_some sc.names n [] (.inl h)
 exact Option.isSome_iff_exists.mp q
theorem nW {CX:CXT} {P:Program} {w:World} {K:Frag} {mg:Str→Option Value} {base:Heap} {N ps:List Str} {qual:Str} {scope:Scope} {f:Addr} {cd:Value} {A:Around} {outer:List Env} {s s1:Shared} {H:Hp} {E:XK} {us:List Value} {vs:List V}
  (S:g9 N ps scope) (hd:A.handled=none) (e0:lY P w K mg base A outer s H) (hl:vs.length=ps.length) (r:Vals vs us)
  (x:InCallC s s.heap.objs.size (bindL (envOfC qual scope s.heap.objs.size f cd).kindOf (ps.zip us) fun _=>none) (cellsFrom (s.heap.objs.size+1) scope.names []) (bindC (envOfC qual scope s.heap.objs.size f cd).kindOf (ps.zip us) fun _=>none) s1) :
  Inv (fv CX P w K mg base N qual scope f cd A outer s H E) [] (start N vs) H s1:=by
 have hpl:ps.length≤N.length:=by have:=congrArg List.length S.pre; rw [List.length_take] at this; omega
 obtain ⟨h1,tk,rfl,hk⟩:=x.done
 have noA:∀ b:Addr,b∉(fv CX P w K mg base N qual scope f cd A outer s H E).ex:=fun b z=>absurd (show b∈([]:List Addr) from z) (by simp)
 refine ⟨⟨e0.mod,S.kind,rfl,rfl,Nat.le_refl _,fun y z c h1 h2=>?_,fun y hy=>?_,fun y c _ h=>?_,fun _=>hd,Around.frames_deeper e0.frames,.inr ⟨rfl,rfl⟩,fun b z=>absurd z (noA b),e0.bs,e0.bsz,fun b _ _=>noA b,fun b z=>absurd z (noA b),e0.funs,e0.frf⟩,
  rfl,e0.bare,Un.kept hk,⟨_,x.toInCall.ns,fun i y v h1 h2 h3=>?_⟩,fun y c h=>⟨_,x.cell y c h⟩,e0.hok.fresh (Nat.le_refl _),fun y c h=>?_,fun p hp=>absurd (show p∈([]:List (Addr×Obj)) from hp) (by simp),e0.hok.kept hk,?_⟩
 ·exact name_of_addr x.apart (PySem.mem_of_lookup h1) (PySem.mem_of_lookup h2)
 ·have hy:scope.names.lookup y=some .cell∨scope.names.lookup y=some .free:=hy
  rcases hy with hy | hy
  ·exact iQ hy
  ·exact absurd rfl (S.nofree _ (PySem.mem_of_lookup hy))
 ·exact Nat.le_of_lt (x.above y c (PySem.mem_of_lookup h))
 ·have hi:i<vs.length:=by
   unfold start at h2
   by_cases hi:i<vs.length
   ·exact hi
   ·rw [List.getElem?_append_right (by simpa using hi)] at h2
    rw [List.getElem?_replicate] at h2
    split at h2 <;> cases h2
  have ha:vs[i]?=some v:=by
   unfold start at h2
   rw [List.getElem?_append_left (by simpa using hi),List.getElem?_map] at h2
   cases e:vs[i]? with
   | none=>rw [e] at h2; cases h2
   | some a=>rw [e] at h2; cases h2; rfl
  obtain ⟨u,hu,rv⟩:=r.get ha
  have hp:ps[i]?=some y:=by
   rw [← S.pre,List.getElem?_take_of_lt (by omega)]; exact h1
  have ndP:ps.Nodup:=by rw [← S.pre]; exact S.nd.sublist (List.take_sublist _ _)
  refine ⟨u,rv,?_⟩
  rcases S.par y (List.mem_of_getElem? hp) with k | k
  ·exact .inl ⟨k,oF ndP hp hu k⟩
  ·obtain ⟨c,e⟩:=iQ (n:=s.heap.objs.size+1) k
   refine .inr ⟨.inl k,c,e,?_⟩
   have q:=x.cell y c e
   rw [oH ndP hp hu (by show scope.names.lookup y≠_; rw [k]; decide)] at q
   exact q
 ·exact e0.hok.fresh (Nat.le_of_lt (x.above y c (PySem.mem_of_lookup h)))
 ·unfold start
  show _=N.length
  rw [List.length_append,List.length_map,List.length_replicate]
  omega
theorem Ck {CX:CXT} {P:Program} {w:World} {K:Frag} {mg:Str→Option Value} {base:Heap} {k:Nat} {f:Addr} {name qual:Str} {params:Arguments} {body:List Stmt} {scope:Scope} {dV kV doc pm cdv ct oc:Value} {an od:Option Addr}
  {osl:Array (Option Value)} {N ps:List Str} {sp:Sp} (lk:K.lookup f=some ⟨oc,od,.func (PySem.W.fnOf name qual params body scope dV kV doc pm an cdv ct),osl⟩) (hcd:PySem.W.codeIn K cdv qual=true) (S:g9 N ps scope)
  (len:∀ vs H Q E,sp vs H Q E→vs.length=ps.length)
  (hbody:∀ (A:Around) (outer:List Env) (s:Shared) (H:Hp) (vs:List V) (Q:VK) (E:XK),Room k (A.deeper (envOfC qual scope s.heap.objs.size f cdv))→sp vs H Q E →
   ∃ t,PSs (fv CX P w K mg base N qual scope f cdv A outer s H E) body t∧t { nx:=fun _ H'=>Q .non H',rt:=Q } (start N vs) H) :
  FnOk P w K mg base CX (k+1) f (PySem.W.fnOf name qual params body scope dV kV doc pm an cdv ct) ps sp:=by
 refine ⟨len,fun A outer s H args us vs Q E hr e0 hb r hsp=>?_⟩
 have hl:=len _ _ _ _ hsp
 have KX:K.In s.heap:=e0.mod.kin.keeps fun b o e=>(e0.bs b o e).1
 have lim:s.heap.NoLimit:=e0.mod.nolimit.keeps fun b o e=>(e0.bs b o e).1
 have hkind:∀ y∈ps.zip us,scope.names.lookup y.1=some .local∨(scope.names.lookup y.1=some .cell∧((cellsFrom (s.heap.objs.size+1) scope.names []).lookup y.1).isSome=true):=fun zz42 hy=>by
  obtain ⟨n,v⟩:=zz42
  rcases S.par n (List.of_mem_zip hy).1 with q | q
  ·exact .inl q
  ·exact .inr ⟨q,PySem.W.cellsFrom_some _ _ _ (.inl q)⟩
 refine codeAny_call_function hr.depth (KX _ _ lk) rfl S.co S.gen rfl (PySem.W.codeRec_of KX hcd) (hb _ _ _ _ ?_)
 refine wpAny_newFunctionEnv_cells S.kind hkind fun env he s1 x=>?_
 subst he
 refine ⟨lim.keeps x.toInCall.keep,codeAny_func ?_⟩
 obtain ⟨t,ht,hq⟩:=hbody A outer s H vs Q E (hr.deeper _) hsp
 have I:Inv (fv CX P w K mg base N qual scope f cdv A outer s H E) [] (start N vs) H s1:=nW S hr.hd e0 hl r x
 refine wpAny_mono (ht [] s1 (start N vs) H _ I hq) (fun fl s' hs=>?_) fun e s' hs=>hs
 have fin:∀ {σ':St} {H':Hp} {v:V} {u:Value},Inv (fv CX P w K mg base N qual scope f cdv A outer s H E) [] σ' H' s'→RelV v u→Q v H'→CE outer P w H s Q u s':=
  fun {σ' H' v u} J rv q=>⟨v,H',J.os,J.bare,J.base,J.hok,rv,q⟩
 cases fl with
 | ret u=>
  obtain ⟨v,σ',H',J,rv,q⟩:=hs
  exact fin J rv q
 | next=>
  obtain ⟨σ',H',J,q⟩:=hs
  exact fin (v:=V.non) (u:=Value.none) J rfl q
 | brk=>
  obtain ⟨_,_,_,q⟩:=hs
  exact False.elim q
 | cont=>
  obtain ⟨_,_,_,q⟩:=hs
  exact False.elim q
end L2
namespace L2
open PySem PySem.Spec PyProof.Rows
section
variable {X:Cx} {x:Str} {p pos:Pos} {e:Expr} {es:List Expr} {t:TA} {id T:String} {r:List V→Hp→VK→Prop}
noncomputable def tCB (r:List V→Hp→VK→Prop) (t:TA):TE:=fun σ H Q=>t σ H fun vs H1=>r vs H1 Q
theorem qj (hc:F5 X (.builtin id) r) (hg:Gl X x) (hm:X.mg x=none) (hv:bootBuiltins x=some (.builtin id)) (ha:PA X (e::es) t) (hn:autoParam (x ≠ "__name__") au1._auto_1) (hdb:autoParam ((x == ("__debug__" : Str))=false) au1._auto_1)
  (he:autoParam (starEach (e::es) X.env=(false,eval e X.env)::starEach es X.env) au0._auto_1) (hpl:autoParam ((backTo pos (starEach es X.env)).any (·.1)=false) au0._auto_1):PE X (.Call (.Name x p) (e::es) [] pos) (tCB r t):=by
 intro pins s σ H Q I h
 refine wpAny_Call_Name_kw (Q0 I hg hm hv ?_ hn hdb)
 exact PyProof.Rows.callWith_builtin1 (thn (ha pos pins s σ H _ I h) fun us s1 zz43=>by obtain ⟨vs,H1,I1,r1,q1⟩:=zz43; exact hc pins s1 σ H1 vs us Q I1 r1 q1) he hpl
theorem nz (hc:F5 X (.type T) r) (hg:Gl X x) (hm:X.mg x=none) (hv:bootBuiltins x=some (.type T)) (ha:PA X (e::es) t) (hn:autoParam (x ≠ "__name__") au1._auto_1) (hdb:autoParam ((x == ("__debug__" : Str))=false) au1._auto_1)
  (he:autoParam (starEach (e::es) X.env=(false,eval e X.env)::starEach es X.env) au0._auto_1) (hpl:autoParam ((backTo pos (starEach es X.env)).any (·.1)=false) au0._auto_1):PE X (.Call (.Name x p) (e::es) [] pos) (tCB r t):=by
 intro pins s σ H Q I h
 refine wpAny_Call_Name_kw (Q0 I hg hm hv ?_ hn hdb)
 exact PyProof.Rows.callWith_type1 (thn (ha pos pins s σ H _ I h) fun us s1 zz44=>by obtain ⟨vs,H1,I1,r1,q1⟩:=zz44; exact hc pins s1 σ H1 vs us Q I1 r1 q1) he hpl
end
end L2
namespace HT
open PySem PyProof.Rows
noncomputable def lexLt:List Int→List Int→Bool
 | [],[]=>false
 | [],_::_=>true
 | _::_,[]=>false
 | x::xs,y::ys=>if x=y then lexLt xs ys else decide (x<y)
section
open PySem.SeqAt
open PySem.AutoSeq1 (wpAny_loadPart')
open PySem.MeetsSeq PySem.MeetsSeq2 PySem.MeetsSeq3
end
section
variable {prog:Program} {w:World} {A:Around} {E:Value→Shared→Prop} {s:Shared}
noncomputable def sIx (n d:Nat):Option Int→Nat
 | none=>d
 | some v=>if v<0 then (v+(n:Int)).toNat else min v.toNat n
theorem sIx_none (n d:Nat):sIx n d none=d:=rfl
theorem sIx_nat (n d k:Nat):sIx n d (some (k:Int))=min k n:=by
 show (if (k:Int)<0 then ((k:Int)+(n:Int)).toNat else min (k:Int).toNat n)=min k n
 rw [if_neg (by omega),Int.toNat_natCast]
end
end HT
namespace L2
open PySem PySem.Spec PyProof.Rows
noncomputable abbrev TO:=St→Hp→(Option Int→Hp→Prop)→Prop
noncomputable def PO (X:Cx) (e:Option Expr) (t:TO):Prop:=
 ∀ (pins:List (Addr×Obj)) (s:Shared) (σ:St) (H:Hp) (Q:Option Int→Hp→Prop),Inv X pins σ H s→t σ H Q →
  wpAny (model X.prog X.w) X.A (evalPart e X.env) (fun u s'=>∃ o H',Inv X pins σ H' s'∧IsPart u o∧Q o H') X.xe s
noncomputable def tNoPart:TO:=fun _ H Q=>Q none H
noncomputable def sh (t:TE):TO:=fun σ H Q=>t σ H fun x H1=>∃ i,x=.int i∧Q (some i) H1
section
variable {X:Cx} {e:Expr} {te:TE} {lo hi:Option Expr} {tl th:TO} {pos p2:Pos}
theorem po_none:PO X none tNoPart:=by
 intro pins s σ H Q I h
 rw [evalPart_none]
 exact wpAny_pure ⟨none,H,I,.none,h⟩
theorem uA (h:PE X e te):PO X (some e) (sh te):=by
 intro pins s σ H Q I hw
 rw [evalPart_some]
 refine thn (h pins s σ H _ I hw) fun u s1 zz45=>?_
 obtain ⟨x,H1,I1,r1,q1⟩:=zz45
 obtain ⟨i,rfl,q⟩:=q1
 obtain ⟨t,rfl⟩:=r1
 exact ⟨some i,H1,I1,.int i t,q⟩
noncomputable def SlR (X:Cx) (r:V→Option Int→Option Int→Hp→VK→Prop):Prop:=
 ∀ (pins:List (Addr×Obj)) (s:Shared) (σ:St) (H:Hp) (x:V) (v vl vu:Value) (lo hi:Option Int) (sl:Addr) (Q:VK),Inv X pins σ H s→RelV x v→s.heap.IsSliceOf sl vl vu .none→IsPart vl lo→IsPart vu hi→r x lo hi H Q →
  ∃ T id,typeLookup (.type T) "__getitem__" = pure (some (.builtin id))∧s.TypeIs v T∧wpAny (model X.prog X.w) X.A (getItem v (.ref sl)) (EP X pins σ Q) X.xe s
noncomputable def tSl (r:V→Option Int→Option Int→Hp→VK→Prop) (te:TE) (tl th:TO):TE:=fun σ H Q=>te σ H fun x H1=>tl σ H1 fun l H2=>th σ H2 fun u H3=>r x l u H3 Q
theorem qg {r:V→Option Int→Option Int→Hp→VK→Prop} (hr:SlR X r) (he:PE X e te) (hl:PO X lo tl) (hu:PO X hi th):PE X (.Subscript e (.Slice lo hi none p2) pos) (tSl r te tl th):=by
 intro pins s σ H Q I h
 refine Subscript_ (thn (he pins s σ H _ I h) fun v s1 zz46=>?_)
 obtain ⟨x,H1,I1,r1,q1⟩:=zz46
 refine wpAny_Slice (thn (hl pins s1 σ H1 _ I1 q1) fun vl s2 ⟨l,H2,I2,pl,q2⟩=>thn (hu pins s2 σ H2 _ I2 q2) fun vu s3 zz48=>?_)
 obtain ⟨u,H3,I3,pu,q3⟩:=zz48
 rw [evalPart_none]
 refine wpAny_pure ?_
 have I4:Inv X pins σ H3 { s3 with heap:=s3.heap.push { cls:=.type "slice",data:=.fields #[vl,vu,.none] } }:=I3.kept (t':=s3.toks) fun b ob q=>Heap.get?_push_of_some _ q
 obtain ⟨T,id,hT,ht,hg⟩:=hr pins { s3 with heap:=s3.heap.push { cls:=.type "slice",data:=.fields #[vl,vu,.none] } } σ H3 x v vl vu l u s3.heap.objs.size Q I4 r1 (Heap.IsSliceOf.new ..) pl pu q3
 show wpAny (model X.prog X.w) X.A (subscriptTail e (.Slice lo hi none p2) v (.ref s3.heap.objs.size)) (EP X pins σ Q) X.xe { s3 with heap:=s3.heap.push { cls:=.type "slice",data:=.fields #[vl,vu,.none] } }
 exact tail_any (ops:=[.ref s3.heap.objs.size,v]) ht hT hg (by with_unfolding_all rfl)
noncomputable def fx (xs:List V) (lo hi:Option Int):List V:=(xs.drop (HT.sIx xs.length 0 lo)).take (HT.sIx xs.length xs.length hi-HT.sIx xs.length 0 lo)
theorem jl (xs:List V) (lo hi:Option Int):(fx xs lo hi).length≤xs.length:=by
 unfold fx
 rw [List.length_take,List.length_drop]
 omega
theorem Vals.nil_iff {xs:List V} {us:List Value} (r:Vals xs us):us = []↔xs = []:=by
 cases r with
 | nil=>simp
 | cons _ _=>simp
end
end L2
namespace L2
open PySem PySem.Spec PyProof.Rows
noncomputable def ixN (n:Nat) (i:Int):Option Nat:=if 0≤i then (if i<n then some i.toNat else none) else if -(n:Int)≤i then some (i+n).toNat else none
noncomputable def atI {α:Type} (xs:List α) (i:Int):Option α:=(ixN xs.length i).bind fun j=>xs[j]?
theorem jU {n:Nat} {i:Int} {j:Nat} (h:ixN n i=some j):seqIndex? i n=some j∧j<n ∧ -(n:Int)≤i∧i<n:=by
 unfold ixN at h
 by_cases h0:0≤i
 ·rw [if_pos h0] at h
  by_cases h1:i<n
  ·rw [if_pos h1] at h
   have e:i.toNat=j:=Option.some.inj h
   exact ⟨by rw [seqIndex_of h0 h1,e],by omega,by omega,h1⟩
  ·rw [if_neg h1] at h; cases h
 ·rw [if_neg h0] at h
  by_cases h1:-(n:Int)≤i
  ·rw [if_pos h1] at h
   have e:(i+n).toNat=j:=Option.some.inj h
   exact ⟨by rw [seqIndex_neg (by omega) h1,e],by omega,h1,by omega⟩
  ·rw [if_neg h1] at h; cases h
theorem fy {α:Type} {xs:List α} {i:Int} {v:α} (h:atI xs i=some v):∃ j,seqIndex? i xs.length=some j∧xs[j]?=some v∧j<xs.length ∧ -(xs.length:Int)≤i∧i<xs.length:=by
 unfold atI at h
 cases e:ixN xs.length i with
 | none=>rw [e] at h; cases h
 | some j=>
  rw [e] at h
  obtain ⟨h1,h2,h3,h4⟩:=jU e
  exact ⟨j,h1,h,h2,h3,h4⟩
noncomputable def fB (b:Expr):Prop:=∀ o i,subscripted b false o i=operate [o,i] (getItem o i)
noncomputable def IxR (X:Cx) (r:R2):Prop:=
 ∀ (value slice:Expr) (pins:List (Addr×Obj)) (s:Shared) (σ:St) (H:Hp) (x y:V) (v u:Value) (Q:VK),Inv X pins σ H s→RelV x v→RelV y u→r x y H Q →
  subscripted slice false v u=operate [v,u] (getItem v u)→wpAny (model X.prog X.w) X.A (subscriptTail value slice v u) (EP X pins σ Q) X.xe s
noncomputable def MtR (X:Cx) (id:String) (r:V→List V→Hp→VK→Prop):Prop:=
 ∀ (pins:List (Addr×Obj)) (s:Shared) (σ:St) (H:Hp) (x:V) (xs:List V) (v:Value) (us:List Value) (Q:VK),Inv X pins σ H s→RelV x v→Vals xs us→r x xs H Q →
  wpAny (model X.prog X.w) X.A (call (.builtin id) (v::us)) (EP X pins σ Q) X.xe s
section
variable {X:Cx} {a b:Expr} {ta tb:TE} {pos:Pos}
theorem IxR.or {r r':R2} (h:IxR X r) (h':IxR X r'):IxR X (fun x y H Q=>r x y H Q∨r' x y H Q):=by
 intro value slice pins s σ H x y v u Q I rx ry q hs
 rcases q with q | q
 ·exact h value slice pins s σ H x y v u Q I rx ry q hs
 ·exact h' value slice pins s σ H x y v u Q I rx ry q hs
theorem sM {r:R2} (hr:IxR X r) (ha:PE X a ta) (hb:PE X b tb) (hs:fB b):PE X (.Subscript a b pos) (tOp r ta tb):=by
 intro pins s σ H Q I h
 exact Subscript_ (rR ha hb I h fun v u s2 x y H2 I2 rx ry q=>hr a b pins s2 σ H2 x y v u Q I2 rx ry q (hs _ _))
noncomputable def yj (K:Frag):R2:=fun x y H Q=>∃ p xs i v,x=.ref p∧y=.int i∧SqL K H p xs∧atI xs i=some v∧Q v H
noncomputable def yi (K:Frag):R2:=fun x y H Q=>∃ p xs i v,x=.ref p∧y=.int i∧SqT K H p xs∧atI xs i=some v∧Q v H
noncomputable def rIxS:R2:=fun x y H Q=>∃ z i c,x=.str z∧y=.int i∧z.length≤sizeLine∧atI z.cps.toList i=some c∧Q (.str ⟨#[c]⟩) H
theorem ix_list:IxR X (yj X.K):=by
 intro value slice pins s σ H x y v u Q I rx ry h hs
 obtain ⟨p,xs,i,z,rfl,rfl,hq,he,q⟩:=h
 cases rx
 obtain ⟨t,rfl⟩:=ry
 obtain ⟨its,r,pl,hz⟩:=I.list hq
 obtain ⟨j,h1,h2,h3,h4,h5⟩:=fy he
 obtain ⟨w,ew,rw'⟩:=r.get h2
 have hl:=r.length
 have hn:=cc
 have fin:EP X pins σ Q w s:=⟨z,H,I,rw',q⟩
 by_cases h0:0≤i
 ·have hj:i.toNat=j:=by
   rw [seqIndex_of h0 h5] at h1
   exact Option.some.inj h1
  exact item_listR pl.isList h0 (by omega) (by rw [hj]; simpa using ew) fin hs
 ·have hj:(i+(its.toArray.size:Int)).toNat=j:=by
   rw [seqIndex_neg (by omega) h4] at h1
   rw [List.size_toArray,← hl]
   exact Option.some.inj h1
  exact subscriptTail_builtinR (x:=w) pl.isList.typeIs slot_list_getitem.lookup
   (wpAny_getItem_list_neg (Q:=fun r s'=>r=w∧EP X pins σ Q r s') pl.isList (by omega) (by rw [List.size_toArray] <;> omega) (by omega) (by rw [hj]; simpa using ew) ⟨rfl,fin⟩) hs
theorem ix_tup:IxR X (yi X.K):=by
 intro value slice pins s σ H x y v u Q I rx ry h hs
 obtain ⟨p,xs,i,z,rfl,rfl,hq,he,q⟩:=h
 cases rx
 obtain ⟨t,rfl⟩:=ry
 obtain ⟨its,r,pl,hz⟩:=I.tuple hq
 obtain ⟨j,h1,h2,h3,h4,h5⟩:=fy he
 obtain ⟨w,ew,rw'⟩:=r.get h2
 have hl:=r.length
 have hn:=cc
 have fin:EP X pins σ Q w s:=⟨z,H,I,rw',q⟩
 exact subscriptTail_builtinR (x:=w) pl.typeIs slot_tuple_getitem.lookup
  (getItem_tuple (j:=j) (Q:=fun r s'=>r=w∧EP X pins σ Q r s') pl (by omega) (by omega) (by rw [List.size_toArray,← hl]; exact h1) (by simpa using ew) ⟨rfl,fin⟩) hs
theorem zn:IxR X rIxS:=by
 intro value slice pins s σ H x y v u Q I rx ry h hs
 obtain ⟨z,i,c,rfl,rfl,hz,he,q⟩:=h
 obtain ⟨t,rfl⟩:=rx
 obtain ⟨t',rfl⟩:=ry
 obtain ⟨j,h1,h2,h3,h4,h5⟩:=fy he
 have hl:z.cps.toList.length=z.length:=by simp [Str.length]
 rw [hl] at h1 h4 h5
 have hn:=cc
 exact tail_any (typeIs_str s z t) slot_str_getitem.lookup (getItem_str (c:=c) (by
  have e1:decide (i < -(2^63:Int))=false:=decide_eq_false (by omega)
  have e2:decide (i≥2^63)=false:=decide_eq_false (by omega)
  rw [e1,e2,Bool.or_false]) (by rw [h1]; simpa using h2) ⟨.str ⟨#[c]⟩,H,I.tok _,⟨_,rfl⟩,q⟩) hs
noncomputable def rIx (K:Frag):R2:=fun x y H Q=>yj K x y H Q∨yi K x y H Q∨rIxS x y H Q
theorem nR:IxR X (rIx X.K):=ix_list.or (ix_tup.or zn)
theorem lv (its:List Value) (n j:Nat) (u:Value):Obj.mapSeq (·.setIfInBounds j u) { cls:=.type "list",data:=.seq its.toArray n }={ cls:=.type "list",data:=.seq (its.set j u).toArray n }:=by
 simp [Obj.mapSeq]
theorem Inv.lst {pins:List (Addr×Obj)} {σ:St} {H:Hp} {s:Shared} {p:Addr} {xs:List V} (I:Inv X pins σ H s) (h:H p=some (.lst xs)) :
  ∃ (its:List Value) (n:Nat),Vals xs its∧s.heap.get? p=some { cls:=.type "list",data:=.seq its.toArray n }∧xs.length≤sizeLine:=by
 obtain ⟨z,its,n,r,e⟩:=I.hok p _ h
 exact ⟨its,n,r,e,z⟩
theorem Inv.lstUpd {pins:List (Addr×Obj)} {σ:St} {H:Hp} {s:Shared} {p:Addr} {xs ys:List V} {its its':List Value} {n n':Nat} {f:Obj→Obj} (I:Inv X pins σ H s) (h:H p=some (.lst xs))
  (ho:s.heap.get? p=some { cls:=.type "list",data:=.seq its.toArray n }) (hf:f { cls:=.type "list",data:=.seq its.toArray n }={ cls:=.type "list",data:=.seq its'.toArray n' }) (r:Vals ys its') (hz:ys.length≤sizeLine) (t:Nat) :
  Inv X pins σ (upd H p (.lst ys)) { s with heap:=s.heap.update p f,toks:=t }:=by
 have e:(s.heap.update p f).get? p=some { cls:=.type "list",data:=.seq its'.toArray n' }:=by
  rw [Heap.get?_update_self f ho (by rw [hf] <;> rfl),hf]
 refine I.write (x:=p) (e:=p) (by rw [h]; trivial) (.inl rfl) (fun b u hb q=>(Heap.get?_update_other _ _ (Ne.symm hb)).trans q) ⟨_,e⟩ ?_
 exact ⟨hz,its',n',r,e⟩
noncomputable def rSetL:V→V→V→Hp→(Hp→Prop)→Prop:=fun o i v H Q=>∃ p xs k j,o=.ref p∧i=.int k∧H p=some (.lst xs)∧ixN xs.length k=some j∧Q (upd H p (.lst (xs.set j v)))
theorem set_list:Bv X rSetL:=by
 intro pins s σ H o i v ov iv u Q I ro ri rv h
 obtain ⟨p,xs,k,j,rfl,rfl,hp,hj,q⟩:=h
 cases ro
 obtain ⟨t,rfl⟩:=ri
 obtain ⟨its,n,r,ho,hz⟩:=I.lst hp
 obtain ⟨h1,h2,h3,h4⟩:=jU hj
 have hl:=r.length
 have hn:=cc
 have I':Inv X pins σ (upd H p (.lst (xs.set j v))) { s with heap:=s.heap.update p (Obj.mapSeq (·.setIfInBounds j u)) }:=
  I.lstUpd hp ho (lv its n j u) (r.set rv j) (by rw [List.length_set]; exact hz) s.toks
 by_cases h0:0≤k
 ·have hk:k.toNat=j:=by
   rw [seqIndex_of h0 h4] at h1
   exact Option.some.inj h1
  exact PySem.W.ki_setAt ho h0 (by omega) (by rw [List.size_toArray,← hl]; exact h4) (by rw [hk]; exact ⟨_,I',q⟩)
 ·have hk:(k+(its.toArray.size:Int)).toNat=j:=by
   rw [seqIndex_neg (by omega) h3] at h1
   rw [List.size_toArray,← hl]
   exact Option.some.inj h1
  exact PySem.W.ki_setBack ho (by omega) (by rw [List.size_toArray,← hl]; exact h3) (by omega) (by rw [hk]; exact ⟨_,I',q⟩)
theorem gL (lo hi:Option Int) (n:Nat):(sliceBounds lo hi none n).1=((HT.sIx n 0 lo:Nat):Int)∧(sliceBounds lo hi none n).2.1=((HT.sIx n n hi:Nat):Int)∧(sliceBounds lo hi none n).2.2=1:=by
 refine ⟨?_,?_,rfl⟩
 ·cases lo with
  | none=>simp [sliceBounds,HT.sIx]
  | some i=>
   simp only [sliceBounds,HT.sIx,Option.getD_none,show (1:Int)>0 by decide,if_true]
   by_cases h:i<0
   ·simp only [h,if_true] <;> omega
   ·simp only [h,if_false] <;> omega
 ·cases hi with
  | none=>simp [sliceBounds,HT.sIx]
  | some i=>
   simp only [sliceBounds,HT.sIx,Option.getD_none,show (1:Int)>0 by decide,if_true]
   by_cases h:i<0
   ·simp only [h,if_true] <;> omega
   ·simp only [h,if_false] <;> omega
theorem gb (its:List Value) (lo hi:Option Int):slicePick its.toArray lo hi none=((its.drop (HT.sIx its.length 0 lo)).take (HT.sIx its.length its.length hi-HT.sIx its.length 0 lo)).toArray:=by
 obtain ⟨h1,h2,h3⟩:=gL lo hi its.toArray.size
 unfold slicePick
 rw [h1,h2,h3]
 simp only [sliceRange_one,pick_run,List.size_toArray] <;> rfl
noncomputable def ye (K:Frag):V→Option Int→Option Int→Hp→VK→Prop:=fun x lo hi H Q=>∃ a xs,x=.ref a∧SqL K H a xs∧∀ p,H p=none→Q (.ref p) (upd H p (.lst (fx xs lo hi)))
theorem tP:SlR X (ye X.K):=by
 intro pins s σ H x v vl vu lo hi sl Q I rx hs pl pu h
 obtain ⟨a,xs,rfl,hx,q⟩:=h
 cases rx
 obtain ⟨its,r,ht,hz⟩:=I.list hx
 have hlen:=r.length
 refine ⟨"list",_,slot_list_getitem.lookup,ht.isList.typeIs,?_⟩
 refine wpAny_getItem_list_slice ht.isList hs pl pu .none (by simp) ?_ (by rw [List.size_toArray] <;> omega)
 rw [gb,← hlen]
 refine ⟨.ref s.heap.objs.size,_,I.laid (t':=s.toks) (o:=.lst (fx xs lo hi)) (fun b ob q=>Heap.get?_push_of_some _ q) (Nat.le_refl _) ?_,rfl,q _ (I.hok.fresh (Nat.le_refl _))⟩
 exact ⟨Nat.le_trans (jl xs lo hi) hz,_,0,(r.drop (HT.sIx xs.length 0 lo)).take (HT.sIx xs.length xs.length hi-HT.sIx xs.length 0 lo),Heap.get?_push_size _ rfl⟩
noncomputable def sR:V→Bool
 | .non=>true
 | .bl _=>true
 | .int _=>true
 | .str _=>true
 | _=>false
noncomputable def eqV:V→V→Bool
 | .non,.non=>true
 | .bl a,.bl b=>a == b
 | .bl a,.int b=>(if a then 1 else 0) == b
 | .int a,.bl b=>a == (if b then 1 else 0)
 | .int a,.int b=>a == b
 | .str a,.str b=>a == b
 | _,_=>false
noncomputable def inV (x:V) (xs:List V):Bool:=xs.any fun y=>eqV y x
noncomputable def rIn (K:Frag) (neg:Bool):R2:=fun x y H Q=>∃ p xs,y=.ref p∧(SqL K H p xs∨SqT K H p xs)∧sR x=true∧xs.all sR=true∧Q (.bl (if neg then !inV x xs else inV x xs)) H
theorem iS:F5 X (.builtin "len") (fun xs H Q=>∃ p ys,xs = [.ref p]∧(SqL X.K H p ys∨SqT X.K H p ys)∧Q (.int ys.length) H):=by
 intro pins s σ H xs us Q I r h
 obtain ⟨p,ys,rfl,hq,q⟩:=h
 obtain ⟨u,rfl,rx⟩:=vals1 r
 cases rx
 have hn:=cc
 rcases hq with hq | hq
 ·obtain ⟨its,r',pl,hz⟩:=I.list hq
  have hlen:=r'.length
  exact Calls.call_len_list pl.isList (by simp only [List.size_toArray] <;> omega) ⟨.int ys.length,H,I.tok _,⟨s.toks+1,by rw [List.size_toArray,hlen]⟩,q⟩
 ·obtain ⟨its,r',pl,hz⟩:=I.tuple hq
  have hlen:=r'.length
  exact len_tuple pl (by simp only [List.size_toArray] <;> omega) ⟨.int ys.length,H,I.tok _,⟨s.toks+1,by rw [List.size_toArray,hlen]⟩,q⟩
theorem iR:F5 X (.type "list") (fun xs H Q=>∃ p ys,xs = [.ref p]∧(SqL X.K H p ys∨SqT X.K H p ys)∧∀ l,H l=none→Q (.ref l) (upd H l (.lst ys))):=by
 intro pins s σ H xs us Q I r h
 obtain ⟨p,ys,rfl,hq,q⟩:=h
 obtain ⟨u,rfl,rx⟩:=vals1 r
 cases rx
 have fin:∀ (its:List Value),Vals ys its→ys.length≤sizeLine→∀ (h':Heap) (c':Nat),(∀ b o',s.heap.get? b=some o'→h'.get? b=some o') →
   h'.get? s.heap.objs.size=some { cls:=.type "list",dict:=none,data:=.seq its.toArray c',slots:=#[] }→EP X pins σ Q (.ref s.heap.objs.size) { s with heap:=h' }:=fun its r' hz h' c' kp e=>
  ⟨.ref s.heap.objs.size,_,I.laid (t':=s.toks) kp (Nat.le_refl _) (show ObjOk X.prog X.w _ h' _ (.lst ys) from ⟨hz,its,c',r',e⟩),rfl,q _ (I.hok.fresh (Nat.le_refl _))⟩
 rcases hq with hq | hq
 ·obtain ⟨its,r',pl,hz⟩:=I.list hq
  have hlen:=r'.length
  obtain ⟨o,ho,hc,n,hd⟩:=pl.isList
  exact call_list_seq p (.inl rfl) ho hc hd (fun h' c' kp e=>fin its r' hz h' c' kp e) (by simp only [List.size_toArray] <;> omega)
 ·obtain ⟨its,r',pl,hz⟩:=I.tuple hq
  have hlen:=r'.length
  obtain ⟨o,ho,hc,n,hd⟩:=pl
  exact call_list_seq p (.inr rfl) ho hc hd (fun h' c' kp e=>fin its r' hz h' c' kp e) (by simp only [List.size_toArray] <;> omega)
theorem ge:F5 X (.type "tuple") (fun xs H Q=>∃ p ys,xs = [.ref p]∧((SqL X.K H p ys∧∀ l,H l=none→Q (.ref l) (upd H l (.tup ys)))∨(SqT X.K H p ys∧Q (.ref p) H))):=by
 intro pins s σ H xs us Q I r h
 obtain ⟨p,ys,rfl,h⟩:=h
 obtain ⟨u,rfl,rx⟩:=vals1 r
 cases rx
 rcases h with ⟨hq,q⟩ | ⟨hq,q⟩
 ·obtain ⟨its,r',pl,hz⟩:=I.list hq
  have hlen:=r'.length
  refine call_tuple_list pl.isList (fun h' kp=>?_) (by simp only [List.size_toArray] <;> omega)
  have I1:Inv X pins σ H { s with heap:=h' }:=I.kept (t':=s.toks) kp
  have I2:Inv X pins σ (upd H h'.objs.size (.tup ys)) { s with heap:=h'.push { cls:=.type "tuple",data:=.seq its.toArray } }:=
   I1.laid (t':=s.toks) (fun b o e=>Heap.get?_push_of_some _ e) (Nat.le_refl _) (show ObjOk X.prog X.w _ _ _ (.tup ys) from ⟨hz,its,r',IsTup.new _ _⟩)
  exact ⟨.ref h'.objs.size,_,I2,rfl,q _ (I1.hok.fresh (Nat.le_refl _))⟩
 ·obtain ⟨its,r',pl,hz⟩:=I.tuple hq
  exact call_tuple_same pl ⟨.ref p,H,I,rfl,q⟩
noncomputable def tyV (K:Frag) (T:String) (x:V) (H:Hp):Prop:=match x with
 | .str _=>T = "str"
 | .int _=>T = "int"
 | .ref p=>(T = "list" ∧ ∃ xs,SqL K H p xs)∨(T = "tuple" ∧ ∃ o,K.lookup p=some o∧o.cls=.type "tuple" ∧ o.dict=none) ∨
   (T = "dict" ∧ ((∃ kvs,H p=some (.dK kvs))∨∃ kvs,H p=some (.dT kvs)))∨(T = "set" ∧ ∃ S n,H p=some (.set S n))
 | _=>False
theorem gC {pins:List (Addr×Obj)} {σ:St} {H:Hp} {s:Shared} {T:String} {x:V} {v:Value} (I:Inv X pins σ H s) (r:RelV x v) (ty:tyV X.K T x H) :
  s.TypeIs v T∧∀ a,v=.ref a→∃ ob,s.heap.get? a=some ob∧ob.dict=none:=by
 cases x with
 | str z=>
  obtain ⟨t,rfl⟩:=r
  cases (show T = "str" from ty)
  exact ⟨typeIs_str s z t,fun _ e=>nomatch e⟩
 | int i=>
  obtain ⟨t,rfl⟩:=r
  cases (show T = "int" from ty)
  exact ⟨typeIs_int s i t,fun _ e=>nomatch e⟩
 | ref p=>
  cases r
  rcases ty with ⟨rfl,xs,hq⟩ | ⟨rfl,o,hk,hc,hd⟩ | ⟨rfl,hk⟩ | ⟨rfl,S,n,hk⟩
  ·obtain ⟨its,_,pl,_⟩:=I.list hq
   refine ⟨pl.isList.typeIs,fun a e=>?_⟩
   cases e
   obtain ⟨o,n,e,c,hd,_⟩:=pl
   exact ⟨o,e,hd⟩
  ·refine ⟨⟨o,I.kIn p o hk,hc⟩,fun a e=>?_⟩
   cases e
   exact ⟨o,I.kIn _ o hk,hd⟩
  ·have z:∃ o,s.heap.get? p=some o∧o.ExactDict:=by
    rcases hk with ⟨kvs,hk⟩ | ⟨kvs,hk⟩
    ·obtain ⟨_,_,_,_,o,_,_,e,ex,_⟩:=I.hok p _ hk
     exact ⟨o,e,ex⟩
    ·obtain ⟨_,_,_,_,o,_,_,e,ex,_⟩:=I.hok p _ hk
     exact ⟨o,e,ex⟩
   obtain ⟨o,e,ex⟩:=z
   refine ⟨⟨o,e,ex.1⟩,fun a e2=>?_⟩
   cases e2
   exact ⟨o,e,ex.2.1⟩
  ·obtain ⟨o,_,_,_,e,ex,_⟩:=I.hok p _ hk
   refine ⟨⟨o,e,ex.1⟩,fun a e2=>?_⟩
   cases e2
   exact ⟨o,e,ex.2.1⟩
 | _=>exact False.elim ty
noncomputable def xn (K:Frag) (T:String) (r:V→List V→Hp→VK→Prop) (to:TE):TE:=fun σ H Q=>to σ H fun x H1=>tyV K T x H1∧r x [] H1 Q
noncomputable def tBM (K:Frag) (T:String) (r:V→List V→Hp→VK→Prop) (to:TE) (t:TA):TE:=fun σ H Q=>to σ H fun x H1=>tyV K T x H1∧t σ H1 fun xs H2=>r x xs H2 Q
variable {o e:Expr} {es:List Expr} {to:TE} {t:TA} {name:Str} {apos cpos:Pos} {T id:String} {r:V→List V→Hp→VK→Prop}
theorem yL (pa:PlainAttrs T) (slot:Slot T name id) (hty:typeOf (.builtin id)=pure (.type "method_descriptor")) (hm:MtR X id r) (ho:PE X o to)
  (hbase:autoParam (attributeBase o name X.env (eval o X.env)=eval o X.env) au0._auto_1) (hline:autoParam ((apos.endLine == cpos.line)=true) au0._auto_1):PE X (.Call (.Attribute o name apos) [] [] cpos) (xn X.K T r to):=by
 intro pins s σ H Q I h
 refine wpAny_Call_method0_late hbase hline (thn (ho pins s σ H _ I h) fun v s1 zz49=>?_)
 obtain ⟨x,H1,I1,r1,ty,q1⟩:=zz49
 obtain ⟨h1,h2⟩:=gC I1 r1 ty
 exact ⟨T,id,pa,slot,hty,h1,h2,Calls.callWith_builtin rfl (PySem.evalArgs_none (hm pins s1 σ H1 x [] v [] Q I1 r1 .nil q1))⟩
theorem BS (pa:PlainAttrs T) (slot:Slot T name id) (hty:typeOf (.builtin id)=pure (.type "method_descriptor")) (hm:MtR X id r) (ho:PE X o to) (ha:PA X (e::es) t)
  (hbase:autoParam (attributeBase o name X.env (eval o X.env)=eval o X.env) au0._auto_1)
  (hfew:autoParam (((backTo cpos (starEach (e::es) X.env)).all (fun x=>!x.1)&&(backToKw cpos (keywordEach [] X.env)).all (fun x=>x.1.isSome)
   && decide ((e::es).length+([]:List Keyword).length+(if ([]:List Keyword).isEmpty then 0 else 1)<30))=true) au0._auto_1)
  (hline:autoParam ((apos.endLine == cpos.line)=true) au0._auto_1) (hs:autoParam (starEach (e::es) X.env=(false,eval e X.env)::starEach es X.env) au0._auto_1) (hplain:autoParam ((backTo cpos (starEach es X.env)).any (·.1)=false) au0._auto_1) :
  PE X (.Call (.Attribute o name apos) (e::es) [] cpos) (tBM X.K T r to t):=by
 intro pins s σ H Q I h
 refine wpAny_Call_method_late hbase hfew hline rfl (thn (ho pins s σ H _ I h) fun v s1 zz50=>?_)
 obtain ⟨x,H1,I1,r1,ty,q1⟩:=zz50
 obtain ⟨h1,h2⟩:=gC I1 r1 ty
 refine ⟨T,id,pa,slot,hty,h1,h2,?_⟩
 have hA:=ha cpos pins s1 σ H1 _ I1 q1
 rw [hs] at hA ⊢
 refine Calls.callWith_builtin (by show (false||(backTo cpos (starEach es X.env)).any (·.1))=false; rw [hplain] <;> rfl) (Calls.evalArgs_plain ?_)
 exact thn hA fun us s2 zz51=>by obtain ⟨vs,H2,I2,r2,q2⟩:=zz51; exact hm pins s2 σ H2 x vs v us Q I2 r1 r2 q2
end
end L2
namespace L2
open PySem PySem.Spec PyProof.Rows
noncomputable def MtM (X:Cx) (id:String) (r:V→List V→Hp→VK→Prop):Prop:=
 ∀ (pins:List (Addr×Obj)) (s:Shared) (σ:St) (H:Hp) (x:V) (xs:List V) (v:Value) (us:List Value) (Q:VK),Inv X pins σ H s→RelV x v→Vals xs us→r x xs H Q →
  wpAny (model X.prog X.w) X.A (call (.builtin id) (v::us)) (EP X pins σ Q) X.xe s
theorem Vals.one:∀ {x:V} {us:List Value},Vals [x] us→∃ u,us = [u]∧RelV x u:=by
 intro x us r
 cases r with
 | cons r t=>cases t; exact ⟨_,rfl,r⟩
theorem Vals.zero:∀ {us:List Value},Vals [] us→us = []
 | _,.nil=>rfl
theorem Vals.reverse {xs:List V} {us:List Value} (h:Vals xs us):Vals xs.reverse us.reverse:=by
 induction h with
 | nil=>exact .nil
 | cons r t ih=>rw [List.reverse_cons,List.reverse_cons]; exact Vals.append ih (.cons r .nil)
theorem Vals.rep {xs:List V} {us:List Value} (h:Vals xs us):∀ k:Nat,Vals (List.replicate k xs).flatten (List.replicate k us).flatten
 | 0=>.nil
 | k+1=>by
  rw [List.replicate_succ,List.replicate_succ,List.flatten_cons,List.flatten_cons]
  exact Vals.append h (Vals.rep h k)
section
variable {X:Cx} {pins:List (Addr×Obj)} {σ:St} {H:Hp} {s:Shared} {l b:Addr} {xs ys zs:List V}
theorem Inv.lset {its its':List Value} {n:Nat} {f:Array Value→Array Value} {t':Nat} (I:Inv X pins σ H s) (hH:H l=some (.lst xs))
  (e:s.heap.get? l=some { cls:=.type "list",data:=.seq its.toArray n }) (hf:f its.toArray=its'.toArray) (hv:Vals ys its') (hz:ys.length≤sizeLine) :
  Inv X pins σ (upd H l (.lst ys)) { s with heap:=s.heap.update l (Obj.mapSeq f),toks:=t' }:=by
 have q:=PySem.IsL.update e f
 rw [hf] at q
 refine I.write (x:=l) (e:=l) (by rw [hH]; exact trivial) (.inl rfl) (fun b' u hb hu=>(Heap.get?_update_other s.heap (Obj.mapSeq f) (Ne.symm hb)).trans hu) ⟨_,q⟩ ?_
 exact ⟨hz,its',_,hv,q⟩
theorem Inv.lnew {its:List Value} {t':Nat} (I:Inv X pins σ H s) (hv:Vals ys its) (hz:ys.length≤sizeLine) :
  Inv X pins σ (upd H s.heap.objs.size (.lst ys)) { s with heap:=s.heap.push { cls:=.type "list",data:=.seq its.toArray },toks:=t' }:=
 I.laid (fun _ _ q=>Heap.get?_push_of_some _ q) (Nat.le_refl _) ⟨hz,its,0,hv,Heap.get?_push_size _ rfl⟩
theorem Inv.fresh (I:Inv X pins σ H s):H s.heap.objs.size=none:=I.hok.fresh (Nat.le_refl _)
theorem Inv.lstM (I:Inv X pins σ H s) (hH:H l=some (.lst xs)):xs.length≤sizeLine∧∃ (its:List Value) (n:Nat),Vals xs its∧xs.length=its.length∧s.heap.get? l=some { cls:=.type "list",data:=.seq its.toArray n }:=by
 obtain ⟨z,its,n,r,e⟩:=I.hok l _ hH
 exact ⟨z,its,n,r,r.length,e⟩
end
section
variable {X:Cx}
noncomputable def rAppend:V→List V→Hp→VK→Prop:=fun x vs H Q=>∃ l xs y,x=.ref l∧vs = [y]∧H l=some (.lst xs)∧xs.length<sizeLine∧Q .non (upd H l (.lst (xs ++ [y])))
theorem fN:MtM X "list.append" rAppend:=by
 intro pins s σ H x vs v us Q I rx rv h
 obtain ⟨l,xs,y,rfl,rfl,hH,hz,q⟩:=h
 cases rx
 obtain ⟨u,rfl,ru⟩:=rv.one
 obtain ⟨z,its,n,r,hl,e⟩:=I.lstM hH
 refine call_meets F.slot_list_append ⟨_,e,rfl⟩ F.entry_list_append (F.args_list_append_2 _ _) (PySem.list_append l its.toArray n u (by rw [List.size_toArray]; omega)) ⟨e,?_⟩
 refine ⟨.non,_,I.lset (its':=its ++ [u]) hH e (by simp) (r.append (.cons ru .nil)) ?_,rfl,q⟩
 rw [List.length_append,List.length_singleton]
 omega
noncomputable def rReverse:V→List V→Hp→VK→Prop:=fun x vs H Q=>∃ l xs,x=.ref l∧vs = []∧H l=some (.lst xs)∧Q .non (upd H l (.lst xs.reverse))
theorem lq:MtM X "list.reverse" rReverse:=by
 intro pins s σ H x vs v us Q I rx rv h
 obtain ⟨l,xs,rfl,rfl,hH,q⟩:=h
 cases rx
 have hus:=rv.zero
 subst hus
 obtain ⟨z,its,n,r,hl,e⟩:=I.lstM hH
 refine call_meets F.slot_list_reverse ⟨_,e,rfl⟩ F.entry_list_reverse (F.args_list_reverse_1 _) (AutoSeq1.list_reverse_list_0 l its.toArray n (by rw [List.size_toArray]; omega)) ⟨e,?_⟩
 refine ⟨.non,_,I.lset (its':=its.reverse) hH e (by simp) r.reverse ?_,rfl,q⟩
 rw [List.length_reverse]
 omega
noncomputable def rCat:R2:=fun x y H Q=>∃ l b xs zs,x=.ref l∧y=.ref b∧H l=some (.lst xs)∧H b=some (.lst zs)∧xs.length+zs.length≤sizeLine∧∀ p,H p=none→Q (.ref p) (upd H p (.lst (xs++zs)))
theorem yN:OpR X (binaryOp .Add) rCat:=by
 intro pins s σ H x y v u Q I rx ry h
 obtain ⟨l,b,xs,zs,rfl,rfl,hH,hB,hz,q⟩:=h
 cases rx
 cases ry
 obtain ⟨z,its,n,r,hl,e⟩:=I.lstM hH
 obtain ⟨z2,its2,n2,r2,hl2,e2⟩:=I.lstM hB
 refine PySem.P.add_list e e2 ?_ (by rw [List.size_toArray,List.size_toArray]; omega)
 have ea:its.toArray++its2.toArray=(its++its2).toArray:=by simp
 rw [ea]
 exact ⟨.ref _,_,I.lnew (t':=s.toks) (r.append r2) (by rw [List.length_append]; omega),rfl,q _ I.fresh⟩
end
section
variable {prog:Program} {w:World} {A:Around} {E:Value→Shared→Prop} {s:Shared}
end
section
variable {X:Cx}
end
end L2
namespace Att
open PySem PySem.W PySem.Calls PyProof.Rows
theorem dW {P:Params} {h:Heap}:∀ (ns:List Int) (vs:List Value),WellAll P h vs (ns.map WData.int)→IntsAre vs ns:=by
 intro ns
 induction ns with
 | nil=>
  intro vs w
  rw [List.map_nil] at w
  cases w
  exact .nil
 | cons n ns ih=>
  intro vs w
  rw [List.map_cons] at w
  cases w with
  | cons a b=>
   cases a
   exact .cons _ _ (ih _ b)
theorem mU {l:OpenLaw} {n:Nat} (hn:l.most=some n) {P:Params} {h:Heap} {args:List WData} {vals:List Value}
  (hpre:l.row.toRowW.claim.pre args=true) (hwl:WellAll P h vals args) :
  ∃ a vs ns,vals = [Value.ref a]∧args = [WData.list (ns.map WData.int)]∧h.get? a=some { cls:=.type "list",data:=.seq vs.toArray }∧IntsAre vs ns∧ns.length≤n:=by
 have hsh:WShape.hasAll [] args [.list .int]=true:=(pre_splitW hpre).1
 have hc:l.pre.holds [] { args:=args }=true:=(pre_splitW hpre).2
 obtain ⟨d,r,rfl,h1,h2⟩:=hasAllW_cons hsh
 obtain rfl:=hasAllW_nil h2
 obtain ⟨xs,rfl,h3⟩:=hasW_list h1
 obtain ⟨ns,rfl⟩:=items_int h3
 have hlen:ns.length≤n:=by
  unfold OpenLaw.pre at hc
  have h4:(WTm.not (.lt (.lit (.int (n:Int))) (.len (.arg 0)))).holds [] { args:=[.list (ns.map .int)] }=true:=by
   have h4:=(holds_andW hc).1
   rw [hn] at h4
   exact h4
  have h5:=condW_of h4 (w_not (w_lt w_lit (w_len_list (w_arg rfl))))
  rw [List.length_map] at h5
  refine Nat.le_of_not_lt fun q=>?_
  have q':(n:Int)<((ns.length:Nat):Int):=by omega
  first
   | (rw [decide_eq_true q'] at h5; exact absurd h5 (by decide))
   | (simp at h5; omega)
 cases hwl with
 | cons w1 w2=>
  cases w2
  cases w1 with
  | list ho hall=>exact ⟨_,_,ns,rfl,rfl,ho,dW ns _ hall,hlen⟩
theorem nt (l:OpenLaw) (args:List WData):l.row.toRowW.claim.post args (.bool true) args=true:=
 postW_of (r:=l.row.toRowW) (X:=(true == true))
  (show WShape.has [] (.bool true) .bool=true by first | rfl | decide | simp [WShape.has,WShape.arms,WShape.armsAll])
  (show (WTm.eq .res (.lit (.bool true))).value [] { args:=args,res:=some (.bool true),after:=args }=some (.bool (true == true)) from w_eq_bool (w_res rfl) w_lit) rfl
theorem attach_call {l:OpenLaw} {n:Nat} {q:Program} {loose:List Str} {XP:(Str→Option Value)→Heap→Prop} {YP:World→Heap→Prop} {d:DefRec}
  (hn:l.most=some n) (hdf:d.params.defaults = [])
  (call:∀ (w:World) (s₀ s₁:Shared) (mg mb:Str→Option Value) (fa:Addr) (o:Obj) (pm cd doc:Value) (a:Addr) (vs:List Value) (ns:List Int),
   Ground q loose [] XP w s₀ mg mb s₁.heap→YP w s₁.heap →
   s₁.heap.get? fa=some o→o.data=.func (docDef d.name d.params d.body d.scope pm cd doc)→s₁.heap.CodeRec cd d.name→mg d.name=some (.ref fa) →
   s₁.heap.get? a=some { cls:=.type "list",data:=.seq vs.toArray }→IntsAre vs ns→ns.length≤n→s₁.gens=#[] →
   codeAny (model l.prog w) callerA (.call (.ref fa) ⟨[.ref a],[]⟩) (fun r s'=>r=.ok (.ret (.bool true))∧OldK s₁.heap s'.heap∧s'.os=s₁.os∧AllBare s'.gens) s₁) :
  WalkO q loose XP YP l.row.toRowW d [] (fun f vs=>PySem.call f vs):=by
 intro w s₀ s₁ mg mb G Y fa o pm cd doc dV kV ho hd hcd hD hmg hg args vals as hpre hlay hrd hwl hlo
 obtain rfl:dV=.none:=Dflts.none hD hdf
 obtain rfl:kV=.none:=Dflts.noKw hD
 obtain ⟨a,vs,ns,rfl,rfl,hobj,hints,hlen⟩:=mU hn hpre hwl
 refine enter_call (codeAny_mono (call w s₀ s₁ mg mb fa o pm cd doc a vs ns G Y ho (fd_plain hd) hcd hmg hobj hints hlen hg) fun r s' hq=>?_)
 obtain ⟨rfl,h2,h3,h4⟩:=hq
 exact ⟨.inl ⟨.bool true,.bool true,[],rfl,fun _=>rfl,.bool true,nt l _,fun _=>⟨List.Pairwise.nil,fun _ hm=>(nomatch hm)⟩⟩,h2,h3,h4⟩
section
variable {prog:Program} {w:World} {A:Around} {E:Value→Shared→Prop} {s:Shared} {K:Frag}
end
end Att
namespace L2
open PySem PySem.Spec PyProof.Rows
theorem mq:∀ {vs:List Value} {ns:List Int},IntsAre vs ns→Vals (ns.map V.int) vs:=by
 intro vs ns h
 induction h with
 | nil=>exact .nil
 | cons n t h ih=>exact .cons ⟨t,rfl⟩ ih
noncomputable def lW (H:Hp):Prop:=∀ b,H b=none∨∃ o xs,H b=some (.frz o (.lst xs))
theorem qK {P:Program} {w:World} {K:Frag} {mg mb:Str→Option Value} {CX:CXT} {k:Nat} {fa a:Addr} {fd:FuncData} {x:Str} {sp:Sp} {s₁:Shared} {vs:List Value} {ns:List Int}
  (KX:K.In s₁.heap) (hns:s₁.heap.Ns mainGlobals mg) (hb:s₁.heap.Ns builtinsNs mb) (hbb:∀ x:Str,x ≠ "__name__" → mb x=bootBuiltins x) (hlim:s₁.heap.NoLimit) (hg:s₁.gens=#[])
  (ha:s₁.heap.get? a=some { cls:=.type "list",data:=.seq vs.toArray }) (hi:IntsAre vs ns) (hl:ns.length≤sizeLine) (hr:Room k callerA)
  (F:∀ base:Heap,K.In base→base.Ns mainGlobals mg→FnOk P w K mg base CX k fa fd [x] sp) (hbind:∀ (s:Shared) (u:Value),BindsTo s fd ⟨[u],[]⟩ [(x,u)])
  (hsp:∀ H:Hp,lW H→SqL K H a (ns.map V.int)→sp [.ref a] H (fun v _=>v=.bl true) fun _ _ _=>False)
  (hCX:∀ H e s',CX [] H s₁ (fun _ _ _=>False) e s'→False) :
  codeAny (model P w) callerA (.call (.ref fa) ⟨[.ref a],[]⟩) (fun r s'=>r=.ok (.ret (.bool true))∧OldK s₁.heap s'.heap∧s'.os=s₁.os∧AllBare s'.gens) s₁:=by
 have rv:=mq hi
 have lenV:=hi.length
 -- from an abstract heap in which nothing but the script may be tracked
 have core:∀ H:Hp,lW H→SqL K H a (ns.map V.int)→HOk P w H s₁.heap→(∀ b,H b≠none→b=a)→(H a≠none→K.lookup a=none) →
   codeAny (model P w) callerA (.call (.ref fa) ⟨[.ref a],[]⟩) (fun r s'=>r=.ok (.ret (.bool true))∧OldK s₁.heap s'.heap∧s'.os=s₁.os∧AllBare s'.gens) s₁:=by
  intro H hO hS hok hA hK
  have base_of:∀ {b:Addr} {o:Obj},s₁.heap.get? b=some o→H b=none→(bu s₁.heap H).get? b=some o:=fun e n=>qU e n
  have noA:∀ {b:Addr} {o:Obj} {es:Array DictEntry} {ep:Nat},s₁.heap.get? b=some o→o.data=.dict es ep→H b=none:=fun {b o es ep} e d=>by
   cases q:H b with
   | none=>rfl
   | some u=>
    have e':b=a:=hA b (by rw [q]; simp)
    subst e'
    rw [ha] at e; cases e
    have d':Data.seq vs.toArray _=Data.dict es ep:=d
    cases d'
  have nsK:∀ {b:Addr} {m:Str→Option Value},s₁.heap.Ns b m→(bu s₁.heap H).Ns b m:=fun {b m} zz52=>by obtain ⟨o,es,ep,e,d,r⟩:=zz52; exact ⟨o,es,ep,base_of e (noA e d),d,r⟩
  have hKb:K.In (bu s₁.heap H):=fun b o e=>base_of (KX b o e) (by
   cases q:H b with
   | none=>rfl
   | some u=>
    have e':b=a:=hA b (by rw [q]; simp)
    subst e'
    rw [hK (by rw [q]; simp)] at e; cases e)
  have hM:Mod K mg (bu s₁.heap H):=⟨hKb,nsK hns,⟨mb,nsK hb,hbb⟩,let ⟨mc,h1,h2⟩:=hlim; ⟨mc,nsK h1,h2⟩⟩
  have e0:lY P w K mg (bu s₁.heap H) callerA [] s₁ H:=⟨rfl,hM,fun b o e=>uP e,Nat.le_of_eq (nZ _ _),trivial,fun b hb=>absurd (show b∈([]:List Addr) from hb) (by simp),hok,.of_eq hg⟩
  refine codeAny_mono ((F _ hKb (nsK hns)).run callerA [] s₁ H ⟨[.ref a],[]⟩ [.ref a] [.ref a] _ _ hr e0 (hbind s₁ (.ref a)) (.cons rfl .nil) (hsp H hO hS)) fun r s' h=>?_
  cases r with
  | error e=>exact (hCX H e s' h).elim
  | ok fl=>
   cases fl with
   | next=>exact False.elim h
   | brk=>exact False.elim h
   | cont=>exact False.elim h
   | ret u=>
    obtain ⟨v,H',os,bare,un,hok',r',q⟩:=h
    have q':v=.bl true:=q
    subst q'
    obtain rfl:u=Value.bool true:=r'
    refine ⟨rfl,OldK.of_keep fun b o e=>?_,os,bare⟩
    cases q:H b with
    | none=>exact un.keep b o e q (by intro z; exact absurd (show b∈([]:List Addr) from z) (by simp)) (by simp)
    | some u=>
     rcases hO b with z | ⟨ob,xs,z⟩
     ·rw [q] at z; cases z
     ·have z2:=un.frzs b ob _ z
      obtain ⟨e1,_⟩:=hok b _ z
      obtain ⟨e2,_⟩:=hok' b _ z2
      rw [e] at e1; cases e1
      exact e2
 cases hk:K.lookup a with
 | some o=>
  -- the script is one of the module's own objects
  have e:=KX a o hk
  rw [ha] at e
  cases e
  refine core (fun _=>none) (fun _=>.inl rfl) (.inr ⟨_,vs.toArray,_,hk,rfl,rfl,rfl,by rw [List.size_toArray,lenV]; exact hl,by simpa using rv⟩) (fun b u z=>by have z':(none:Option HO)=some u:=z; cases z') (fun b z=>absurd rfl z) fun z=>absurd rfl z
 | none=>
  refine core (fun b=>if b=a then some (.frz { cls:=.type "list",data:=.seq vs.toArray } (.lst (ns.map V.int))) else none) (fun b=>?_) (.inl (.inr ⟨{ cls:=.type "list",data:=.seq vs.toArray },if_pos rfl⟩)) (fun b u z=>?_) (fun b z=>?_) fun _=>hk
  ·by_cases hb:b=a
   ·exact .inr ⟨_,_,if_pos hb⟩
   ·exact .inl (if_neg hb)
  ·by_cases hb:b=a
   ·have z':=(if_pos hb).symm.trans z
    cases z'
    subst hb
    exact ⟨ha,by rw [List.length_map]; exact hl,vs,_,rv,ha⟩
   ·have z':=(if_neg hb).symm.trans z
    cases z'
  ·by_cases hb:b=a
   ·exact hb
   ·exact absurd (if_neg hb) z
end L2
namespace L2
open PySem PySem.Spec PyProof.Rows
theorem tD {l:PySem.W.OpenLaw} {n k:Nat} {q:Program} {loose:List Str} {XP:(Str→Option Value)→Heap→Prop} {YP:World→Heap→Prop} {d:DefRec} {K:Params→Frag} {CX:World→CXT} {sp:World→Sp} {x:Str}
  (hn:l.most=some n) (hn2:n≤sizeLine) (hdf:d.params.defaults = []) (hr:Room k callerA)
  (hY:∀ (w:World) (h:Heap),YP w h→(K w.params).In h)
  (F:∀ (w:World) (mg:Str→Option Value) (fa:Addr) (h:Heap),(K w.params).In h→h.Ns mainGlobals mg→mg d.name=some (.ref fa) →
   ∃ fd:FuncData,(∀ (s:Shared) (u:Value),BindsTo s fd ⟨[u],[]⟩ [(x,u)]) ∧
    ∀ base:Heap,(K w.params).In base→base.Ns mainGlobals mg→FnOk l.prog w (K w.params) mg base (CX w) k fa fd [x] (sp w))
  (hsp:∀ (w:World) (H:Hp) (a:Addr) (ns:List Int),ns.length≤n→lW H→SqL (K w.params) H a (ns.map V.int)→sp w [.ref a] H (fun v _=>v=.bl true) fun _ _ _=>False)
  (hCX:∀ (w:World) (H:Hp) (s:Shared) (e:Value) (s':Shared),CX w [] H s (fun _ _ _=>False) e s'→False) :
  PySem.W.WalkO q loose XP YP l.row.toRowW d [] (fun f vs=>PySem.call f vs):=by
 refine Att.attach_call hn hdf fun w s₀ s₁ mg mb fa o pm cd doc a vs ns G Y ho hd hcd hmg hobj hints hlen hg=>?_
 have KX:=hY w _ Y
 obtain ⟨fd,hb,hF⟩:=F w mg fa _ KX G.T.g hmg
 exact qK KX G.T.g G.T.b G.T.builtins G.T.nolimit hg hobj hints (Nat.le_trans hlen hn2) hr hF hb (fun H hO hS=>hsp w H a ns hlen hO hS) fun H e s'=>hCX w H s₁ e s'
theorem walk_ofK {l:PySem.W.OpenLaw} {n k:Nat} {q:Program} {loose:List Str} {XP:(Str→Option Value)→Heap→Prop} {YP:World→Heap→Prop} {d:DefRec} {K:Params→Frag} {CX:CXT} {sp:Frag→Sp} {x:Str}
  (hn:l.most=some n) (hn2:n≤sizeLine) (hdf:d.params.defaults = []) (hr:Room k callerA)
  (hY:∀ (w:World) (h:Heap),YP w h→(K w.params).In h)
  (F:∀ (w:World) (mg:Str→Option Value) (fa:Addr) (h:Heap),(K w.params).In h→h.Ns mainGlobals mg→mg d.name=some (.ref fa) →
   ∃ fd:FuncData,(∀ (s:Shared) (u:Value),BindsTo s fd ⟨[u],[]⟩ [(x,u)]) ∧
    ∀ base:Heap,(K w.params).In base→base.Ns mainGlobals mg→FnOk l.prog w (K w.params) mg base CX k fa fd [x] (sp (K w.params)))
  (hsp:∀ (K:Frag) (H:Hp) (a:Addr) (ns:List Int),ns.length≤n→lW H→SqL K H a (ns.map V.int)→sp K [.ref a] H (fun v _=>v=.bl true) fun _ _ _=>False)
  (hCX:∀ (H:Hp) (s:Shared) (e:Value) (s':Shared),CX [] H s (fun _ _ _=>False) e s'→False) :
  PySem.W.WalkO q loose XP YP l.row.toRowW d [] (fun f vs=>PySem.call f vs):=
 tD (K:=K) (CX:=fun _=>CX) (sp:=fun w=>sp (K w.params)) hn hn2 hdf hr hY F (fun w H a ns h1 h2 h3=>hsp (K w.params) H a ns h1 h2 h3) fun _ H s e s'=>hCX H s e s'
end L2
namespace L2
open PySem PySem.Spec PyProof.Rows
noncomputable def O6 (s:Stmt):Arguments:=match s with
 | .FunctionDef _ a _ _ _ _ _ _ _ _=>a
 | _=>{ posonlyargs:=[],args:=[],vararg:=none,kwonlyargs:=[],kw_defaults:=[],kwarg:=none,defaults:=[] }
noncomputable def L6 (s:Stmt):List Stmt:=match s with
 | .FunctionDef _ _ b _ _ _ _ _ _ _=>b
 | _=>[]
noncomputable def c0 (s:Stmt):Scope:=match s with
 | .FunctionDef _ _ _ _ _ _ sc _ _ _=>sc
 | _=>{ kind:=.function,names:=[],isGenerator:=false,isCoroutine:=false }
noncomputable abbrev CX0:CXT:=fun _ _ _ _ _ _=>False
noncomputable abbrev E0:XK:=fun _ _ _=>False
theorem kY {X:Cx}:iX CX0 X E0:=fun _ _ _ _ _ _ _ h=>h.elim
structure Fun (K:Frag) (x qual:Str) (st:Stmt) (f:Addr) (fd:FuncData):Prop where
 ex:∃ (oc:Value) (od:Option Addr) (kV doc pm:Value) (an:Option Addr) (cdv ct:Value) (osl:Array (Option Value)),
  fd=PySem.W.fnOf x qual (O6 st) (L6 st) (c0 st) .none kV doc pm an cdv ct∧K.lookup f=some ⟨oc,od,.func fd,osl⟩∧PySem.W.codeIn K cdv qual=true
 kp:PySem.W.keepIn K (.ref f)=true
section
variable {P:Program} {w:World} {K:Frag} {mg:Str→Option Value} {base:Heap}
theorem Fun.ok {x qual:Str} {st:Stmt} {f:Addr} {fd:FuncData} {N ps:List Str} {k:Nat} {sp:Sp} (F:Fun K x qual st f fd) (S:g9 N ps (c0 st)) (len:∀ vs H Q E,sp vs H Q E→vs.length=ps.length)
  (hbody:∀ (cdv:Value) (A:Around) (outer:List Env) (s:Shared) (H:Hp) (vs:List V) (Q:VK) (E:XK),Room k (A.deeper (envOfC qual (c0 st) s.heap.objs.size f cdv))→sp vs H Q E →
   ∃ t,PSs (fv CX0 P w K mg base N qual (c0 st) f cdv A outer s H E).nox (L6 st) t∧t { nx:=fun _ H'=>Q .non H',rt:=Q } (start N vs) H):FnOk P w K mg base CX0 (k+1) f fd ps sp:=by
 obtain ⟨oc,od,kV,doc,pm,an,cdv,ct,osl,rfl,lk,hcd⟩:=F.ex
 refine Ck lk hcd S len fun A outer s H vs Q E hr hsp=>?_
 obtain ⟨t,h,q⟩:=hbody cdv A outer s H vs Q E hr hsp
 exact ⟨t,h.nox,q⟩
theorem Fun.binds {x qual:Str} {st:Stmt} {f:Addr} {fd:FuncData} {ps:List Str} (F:Fun K x qual st f fd)
  (h:∀ (kV doc pm:Value) (an:Option Addr) (cdv ct:Value) (us:List Value),us.length=ps.length→bindArgs (PySem.W.fnOf x qual (O6 st) (L6 st) (c0 st) .none kV doc pm an cdv ct) ⟨us,[]⟩=pure (ps.zip us)):Binds K fd ps []:=by
 obtain ⟨oc,od,kV,doc,pm,an,cdv,ct,osl,rfl,lk,hcd⟩:=F.ex
 exact .all (h kV doc pm an cdv ct)
theorem oh {x qual:Str} {st:Stmt} {f:Addr} {oc:Value} {od an:Option Addr} {osl:Array (Option Value)} {kV doc pm cdv ct:Value} (l:K.lookup f=some ⟨oc,od,.func (PySem.W.fnOf x qual (O6 st) (L6 st) (c0 st) .none kV doc pm an cdv ct),osl⟩)
  (c:PySem.W.codeIn K cdv qual=true) (k:PySem.W.keepIn K (.ref f)=true):Fun K x qual st f (PySem.W.fnOf x qual (O6 st) (L6 st) (c0 st) .none kV doc pm an cdv ct):=⟨⟨oc,od,kV,doc,pm,an,cdv,ct,osl,rfl,l,c⟩,k⟩
end
section
variable {X:Cx}
theorem pv (i:Nat) {x:Str} {pos:Pos} (hN:autoParam (X.N[i]?=some x) au0._auto_1) (hv:autoParam (Vis X.env.scope x) au5._auto_1) (hd:autoParam ((x == ("__debug__" : Str))=false) au1._auto_1)
  (hcd:autoParam ((x == ("__classdict__" : Str))=false) au1._auto_1):PE X (.Name x pos) (ac i):=X3 hN hv hd hcd
end
noncomputable def Same (H H':Hp):Prop:=∀ b o,H b=some o→H' b=some o
theorem Same.refl (H:Hp):Same H H:=fun _ _ h=>h
theorem Same.trans {H H1 H2:Hp} (a:Same H H1) (b:Same H1 H2):Same H H2:=fun c o h=>b c o (a c o h)
theorem Same.free {H H':Hp} (e:Same H H') {l:Addr} (h:H' l=Option.none):H l=Option.none:=by
 cases q:H l with
 | none=>rfl
 | some o=>
  rw [e l o q] at h
  cases h
theorem Same.seq {K:Frag} {H H':Hp} {a:Addr} {xs:List V} (e:Same H H') (h:SqL K H a xs):SqL K H' a xs:=by
 rcases h with (h | ⟨o,h⟩) | h
 ·exact .inl (.inl (e _ _ h))
 ·exact .inl (.inr ⟨o,e _ _ h⟩)
 ·exact .inr h
end L2
namespace L2
open PySem PySem.Spec PyProof.Rows
noncomputable def Dk (h h':Heap):Prop:=∀ b o,h.get? b=some o→∃ o',h'.get? b=some o'∧o'.cls=o.cls∧o'.dict=o.dict
structure KD {α:Type} (t:Sem α):Prop where
 out:∀ (M:Model) (Γ:PySem.Ctx) (P:α→Pos→Shared→Prop) (Ee:Value→Pos→Shared→Prop) (p:Pos) (s:Shared),
  Sem.wp M Γ t P Ee p s→Sem.wp M Γ t (fun a p' s'=>P a p' s'∧Dk s.heap s'.heap) Ee p s
noncomputable def cut (h:Heap) (fs:List Addr):Heap:={ h with objs:=h.objs.mapIdx fun i o=>if i∈fs then { o with data:=.freed } else o }
section
variable {P:Program} {w:World} {K:Frag} {mg:Str→Option Value} {base:Heap} {N:List Str} {qual:Str} {scope:Scope} {f:Addr} {cd:Value} {A:Around} {outer:List Env} {s:Shared} {H:Hp} {E:XK}
 {pins:List (Addr×Obj)} {σ:St} {H':Hp} {s2:Shared} {a:Addr}
end
end L2
namespace L2
open PySem PySem.Spec PyProof.Rows
section
variable {prog:Program} {w:World} {A:Around} {E:Value→Shared→Prop} {s:Shared} {K:Frag} {x C:Addr} {ox:Obj} {od:Option Obj} {name:Str} {tk:Tok} {fill expr:Bool} {v:Value} {Q:Value→Shared→Prop}
end
end L2
namespace L2
open PySem PySem.Spec PyProof.Rows
section
variable {prog:Program} {w:World} {A:Around} {E:Value→Shared→Prop} {s:Shared} {K:Frag} {x C:Addr} {ox:Obj} {name:Str} {tk:Tok} {v:Value} {Q:Unit→Shared→Prop}
end
end L2
namespace L2
open PySem PySem.Spec PyProof.Rows
section
variable {prog:Program} {w:World} {A:Around} {s:Shared} {K:Frag} {C f:Addr} {R:Result→Shared→Prop} {nm q:Str} {N:Addr} {bs bm bmB:List Value} {hdct:Bool} {sn:List Str} {sub:List Value} {ab:Bool} {col:Option Bool} {dd:Option Addr} {k0 k1 k2 k3 k5:Option Value}
 {B Bn newId nid initId inN:String} {bmN:List Value} {rest:List Value}
end
end L2
namespace L2
open PySem PySem.Spec PyProof.Rows
section
variable {prog:Program} {w:World} {A:Around} {E:Value→Shared→Prop} {s:Shared} {K:Frag} {env:Env} {x:Expr} {pos:Pos} {Q:Flow→Shared→Prop}
end
end L2
namespace L2
open PySem PySem.Spec PyProof.Rows
section
variable {X:Cx} {pins:List (Addr×Obj)} {σ σ':St} {H:Hp} {s:Shared}
theorem cm {b:Addr} {o:Obj} (I:Inv X pins σ H s) (e:X.s₀.heap.get? b=some o):b≠X.env.locals:=by
 intro z
 have l:=Heap.lt_size e
 have a:=I.ok.above
 rw [← z] at a
 exact absurd l (Nat.not_lt.mpr a)
theorem Inv.reloc {h':Heap} {tk:Nat} {m':Str→Option Value} (I:Inv X pins σ H s) (hs:Heap.SameBut X.env.locals s.heap h') (hn:h'.Ns X.env.locals m') (hl:σ'.length=σ.length)
  (lk:∀ (i:Nat) (x:Str) (v:V),X.N[i]?=some x→σ'[i]?=some (some v)→Vis X.env.scope x→∃ u,RelV v u∧Look X.env h' m' x u):Inv X pins σ' H { s with heap:=h',toks:=tk } where
 ok:=I.ok
 os:=I.os
 bare:=I.bare
 base:={
  keep:=fun b o e n p q=>(hs.2 b (cm I e)).trans (I.base.keep b o e n p q)
  slot:=fun b o e n p q=>by
   obtain ⟨sl,y⟩:=I.base.slot b o e n p q
   exact ⟨sl,(hs.2 b (cm I e)).trans y⟩
  free:=I.base.free
  there:=fun b o e q=>by
   obtain ⟨o',y⟩:=I.base.there b o e q
   exact ⟨o',(hs.2 b (cm I e)).trans y⟩
  tups:=I.base.tups
  frzs:=I.base.frzs
  tbls:=I.base.tbls }
 loc:=⟨m',hn,lk⟩
 cell:=fun x c e=>by
  obtain ⟨v,z⟩:=I.cell x c e
  exact ⟨v,z.sameBut hs (I.cne x c e)⟩
 free:=I.free
 freeC:=I.freeC
 pin:=fun p hp=>by
  obtain ⟨a,b,c,d⟩:=I.pin p hp
  exact ⟨(hs.2 p.1 c).trans a,b,c,d⟩
 hok:=fun b ob e=>by
  have key:∀ c,(∃ q,H c=some q)→c≠X.env.locals:=fun c zz53 z=>by obtain ⟨q,hq⟩:=zz53; rw [z,I.free] at hq; cases hq
  exact (I.hok b ob e).stay (fun c u hc q=>(hs.2 c (key c (hc.elim (fun z=>⟨ob,z ▸ e⟩) fun z=>⟨_,z⟩))).trans q) (fun _ q=>q) fun _ _ q=>q
 len:=hl.trans I.len
theorem jX {M:Model} {A:Around} {E:Value→Shared→Prop} {i:Nat} {x:Str} {pos:Pos} {Q:Unit→Shared→Prop} (I:Inv X pins σ H s) (hN:X.N.Nodup) (hi:X.N[i]?=some x) (hk:X.env.kindOf x=some .local)
  (hq:∀ s',Inv X pins (σ.set i none) H s'→Q () s'):wpAny M A (do bindName X.env x Value.none; unbindBehindTheSuite X.env x pos) Q E s:=by
 have hcls:(X.env.scope.kind == .class||(X.env.scope.kind == .module&&X.env.locals != X.env.globals))=false:=by rw [I.ok.kind]; rfl
 have hiσ:i<σ.length:=by rw [I.len]; exact (List.getElem?_eq_some_iff.mp hi).1
 unfold bindName
 refine wpAny_bind (wpAny_bind (wpAny_holding (wpAny_point (wpAny_bind (aT (v:=.non) I hN hi (.inl hk) rfl (fun s1 I1=>?_) (.inr hk))))))
 refine wpAny_point ?_
 unfold unbindBehindTheSuite
 obtain ⟨m,hn,lk⟩:=I1.loc
 obtain ⟨u,ru,l⟩:=lk i x .non hi (List.getElem?_set_self hiσ) (.inl hk)
 have hm:m x=some u:=by
  rcases l with ⟨_,e⟩ | ⟨k,_⟩
  ·exact e
  ·rcases k with k | k <;> (rw [hk] at k; cases k)
 refine wpAny_onRaise (wpAny_unbindName_local hk hn hm hcls fun h' z hn' hs=>hq _ (Inv.reloc (tk:=s1.toks) I1 hs hn' (by simp) fun j y v e1 e2 e3=>?_))
 by_cases hj:j=i
 ·subst hj
  rw [List.getElem?_set_self hiσ] at e2
  cases e2
 ·rw [List.getElem?_set_ne (Ne.symm hj)] at e2
  obtain ⟨u',r',q⟩:=lk j y v e1 (by rw [List.getElem?_set_ne (Ne.symm hj)]; exact e2) e3
  refine ⟨u',r',?_⟩
  rcases q with ⟨k,e⟩ | ⟨k,c,e,z⟩
  ·refine .inl ⟨k,?_⟩
   have:y≠x:=fun e=>hj (cZ hN e1 (e ▸ hi))
   simp [this,e]
  ·exact .inr ⟨k,c,e,z.sameBut hs (I1.cne y c e)⟩
end
end L2
namespace L2
open PySem PySem.Spec PyProof.Rows
section
variable {X:Cx} {pins:List (Addr×Obj)} {σ:St} {H H':Hp} {s s1:Shared}
end
end L2
namespace L2
open PySem PySem.Spec PyProof.Rows
section
variable {X:Cx} {pins:List (Addr×Obj)} {σ:St} {H H':Hp} {s s1:Shared} {a:Addr} {B:Heap} {cls:Value} {od:Option Addr}
structure Here (X:Cx) (pins:List (Addr×Obj)) (σ:St) (H':Hp) (a:Addr) (B:Heap) (cls:Value) (od:Option Addr) (s:Shared):Prop where
 inv:Inv X pins σ H' s
 dict:∃ o,s.heap.get? a=some o∧o.dict=od
end
end L2
namespace L2
open PySem PySem.Spec PyProof.Rows
section
variable {X:Cx} {k:Nat} {f:Addr} {fd:FuncData} {ps:List Str} {sp:Sp} {fn cn n y:Str} {fp cp ap np hpos yp pos:Pos} {e:Expr} {es:List Expr} {t:TA} {C:Addr} {i jn:Nat} {b0:Stmt} {suite:List Stmt} {tb:TS}
noncomputable def tCatch (X:Cx) (C:Addr) (jn:Nat) (tb:TS) (D:Ends) (σ:St):XK:=fun cls od H'=>∃ Dc,cls=.ref Dc∧PySem.W.exmOne X.K (.ref Dc) (.ref C)=some true ∧
 ∀ (a:Addr) (o:Obj),H' a=none→o.cls=cls→o.dict=od→(∃ vs:Array Value,o.data=.fields vs) →
  tb { nx:=fun σ' H'=>D.nx (σ'.set jn none) H',rt:=D.rt,bk:=fun σ' H'=>D.bk (σ'.set jn none) H',ct:=fun σ' H'=>D.ct (σ'.set jn none) H' } (σ.set jn (some (.ref a))) (upd H' a (.ext fun h=>h.get? a=some o))
end
end L2
namespace L2
open PySem PySem.Spec PyProof.Rows
section
variable {X:Cx} {pins:List (Addr×Obj)} {σ:St} {H:Hp} {s:Shared}
end
end L2
namespace L2
open PySem PySem.Spec PyProof.Rows
section
variable {X:Cx}
end
end L2
namespace L2
open PySem PySem.Spec PyProof.Rows
section
variable {X:Cx} {pins:List (Addr×Obj)} {σ:St} {H:Hp} {s:Shared}
end
end L2
namespace L2
open PySem PySem.Spec PyProof.Rows
section
variable {P:Program} {w:World} {K:Frag} {mg:Str→Option Value} {base:Heap} {N:List Str} {qual:Str} {scope:Scope} {f0:Addr} {cd:Value} {A:Around} {outer:List Env} {s0:Shared} {H0:Hp} {E:XK}
 {k:Nat} {C f:Addr} {fd:FuncData} {ps:List Str} {sp:Sp} {cn:Str} {np cp pos:Pos} {e:Expr} {es:List Expr} {t:TA}
end
end L2
namespace L2
open PySem PySem.Spec PyProof.Rows
section
variable {P:Program} {w:World} {K:Frag} {mg:Str→Option Value} {base:Heap} {k:Nat} {f:Addr} {fd:FuncData} {ps N:List Str} {sp:Sp} {CX:CXT}
end
end L2
namespace L2
open PySem PySem.Spec PyProof.Rows
section
variable {X:Cx} {o:Expr} {ta:TE} {name:Str} {pos:Pos}
end
end L2
namespace L2
open PySem PySem.Spec PyProof.Rows
section
variable {X:Cx} {pins:List (Addr×Obj)} {σ:St} {H:Hp} {s:Shared} {A:Around} {E:Value→Shared→Prop} {Q:Value→Shared→Prop} {c:Value} {b:Bool} {a C:Addr} {ox:Obj} {vs:Array Value}
end
end L2
namespace L2
open PySem PySem.Spec PyProof.Rows
section
variable {P:Program} {w:World} {K:Frag} {mg:Str→Option Value} {base:Heap} {N:List Str} {qual:Str} {scope:Scope} {f0:Addr} {cd:Value} {A:Around} {outer:List Env} {s0:Shared} {H0:Hp} {E:XK}
 {C:Addr} {cn:Str} {np cp pos:Pos} {e:Expr} {es:List Expr} {t:TA}
end
end L2
namespace L2
open PySem
structure Nx {α:Type} (t:Sem α):Prop where
 out:∀ (M:Model) (Γ:PySem.Ctx) (P:α→Pos→Shared→Prop) (Ee Ef:Value→Pos→Shared→Prop) (p:Pos) (s:Shared),Sem.wp M Γ t P Ee p s→Sem.wp M Γ t P Ef p s
structure Po {α:Type} (t:Sem α) (pre:Shared→Prop) (post:α→Shared→Prop):Prop where
 out:∀ (M:Model) (Γ:PySem.Ctx) (P:α→Pos→Shared→Prop) (Ee Ef:Value→Pos→Shared→Prop) (p:Pos) (s:Shared),
  pre s→Sem.wp M Γ t P Ee p s→Sem.wp M Γ t (fun a p' s'=>P a p' s'∧post a s') Ef p s
noncomputable def sZ (v:Value) (i:Nat) (x:Value) (h:Heap):Prop:=∃ (a:Addr) (o:Obj) (vs:Array Value),v=.ref a∧h.get? a=some o∧o.data=.fields vs∧vs[i]?=some x
noncomputable def Marked (e:Value) (f:Addr) (h:Heap):Prop:=∃ t,sZ e 1 t h∧sZ t 3 (rawInt f) h∧t≠.none
structure Free {α:Type} (t:Sem α):Prop where
 out:∀ (M:Model) (Γ Γ':PySem.Ctx) (P P':α→Pos→Shared→Prop) (E E':Value→Pos→Shared→Prop) (p p':Pos) (s:Shared),(∀ a p p' s,P a p s→P' a p' s)→(∀ a p p' s,E a p s→E' a p' s)→Sem.wp M Γ t P E p s→Sem.wp M Γ' t P' E' p' s
end L2
namespace L2
open PySem PySem.Spec PyProof.Rows
section
variable {X:Cx} {k:Nat} {f:Addr} {fd:FuncData} {ps:List Str} {sp:Sp} {fn cn n y:Str} {fp cp ap np hpos yp pos:Pos} {e:Expr} {es:List Expr} {t:TA} {C:Addr} {i jn:Nat} {b0:Stmt} {suite:List Stmt} {tb:TS}
end
end L2
namespace L2
open PySem PySem.Spec PyProof.Rows
section
variable {X:Cx} {k:Nat} {C f:Addr} {fd:FuncData} {ps:List Str} {sp:Sp} {cn:Str} {np cp pos:Pos} {e:Expr} {es:List Expr} {t:TA}
end
end L2
namespace L2
open PySem PySem.Spec PyProof.Rows
section
variable {κ:Type} [DecidableEq κ]
noncomputable def wT (kvs:List (κ×V)) (k:κ):Option V:=(kvs.find? fun kv=>decide (kv.1=k)).map (·.2)
noncomputable def putK (kvs:List (κ×V)) (k:κ) (v:V):List (κ×V):=
 if (kvs.any fun kv=>decide (kv.1=k))=true then kvs.map (fun kv=>if kv.1=k then (kv.1,v) else kv) else kvs ++ [(k,v)]
noncomputable def dropK (kvs:List (κ×V)) (k:κ):List (κ×V):=kvs.filter fun kv=>decide (kv.1≠k)
end
noncomputable abbrev KT (H:Hp):List (List Key×V)→List (List Key×Addr×Value)→Prop:=Paired fun p q=>p.1=q.1∧H q.2.1=some (.tup (p.1.map kV))∧RelV p.2 q.2.2
section
variable {P:Program} {w:World} {H:Hp} {h:Heap} {a:Addr}
end
noncomputable def DGet (H:Hp) (a:Addr) (y:V) (r:Option V):Prop:=
 (∃ kvs k,Rd H a (.dK kvs)∧y=kV k∧r=wT kvs k)∨∃ kvs k b,Rd H a (.dT kvs)∧y=.ref b∧H b=some (.tup (k.map kV))∧r=wT kvs k
noncomputable def DPut (H:Hp) (a:Addr) (y v:V) (H':Hp):Prop:=
 (∃ kvs k,H a=some (.dK kvs)∧y=kV k∧kvs.length<sizeLine∧H'=upd H a (.dK (putK kvs k v))) ∨
 ∃ kvs k b,H a=some (.dT kvs)∧y=.ref b∧H b=some (.tup (k.map kV))∧kvs.length<sizeLine∧H'=upd H a (.dT (putK kvs k v))
section
variable {X:Cx} {pins:List (Addr×Obj)} {σ:St} {H:Hp} {s:Shared} {a:Addr} {y v:V} {u r:Value} {o:Option V} {A:Around} {E:Value→Shared→Prop}
end
section
variable {X:Cx} {pins:List (Addr×Obj)} {σ:St} {H:Hp} {s:Shared} {a:Addr} {kvs:List (Key×V)} {k:Key} {u:Value} {A:Around} {E:Value→Shared→Prop}
end
section
variable {X:Cx} {o i e value:Expr} {pos pos' tpos:Pos} {td ty tv:TE}
end
section
variable {X:Cx} {pos:Pos}
end
end L2
namespace L2
open PySem
structure Sub where
 t:Bool
 i:Addr
 l:Addr
noncomputable def Sub.At (u:Sub) (h:Heap) (n:Nat):Prop:=if u.t=true then h.IsTupleIter u.i u.l n else h.IsListIter u.i u.l n
noncomputable def Sub.Src (u:Sub) (h:Heap) (xs:Array Value):Prop:=if u.t=true then h.IsTuple u.l xs else h.IsList u.l xs
theorem Sub.At.obj {u:Sub} {h:Heap} {n:Nat} (x:u.At h n):∃ o,h.get? u.i=some o∧o.data=.fields #[.ref u.l,.int n 0]:=by
 unfold Sub.At at x
 split at x <;> (obtain ⟨o,e,_,d⟩:=x; exact ⟨o,e,d⟩)
theorem Sub.At.keep {u:Sub} {h h':Heap} {n:Nat} (x:u.At h n) (k:∀ o,h.get? u.i=some o→h'.get? u.i=some o):u.At h' n:=by
 unfold Sub.At at x ⊢
 split at x <;> (rename_i ht; obtain ⟨o,e,r⟩:=x; simp only [ht,if_true,if_false,Bool.false_eq_true]; exact ⟨o,k o e,r⟩)
theorem Sub.Src.keep {u:Sub} {h h':Heap} {xs:Array Value} (x:u.Src h xs) (k:∀ o,h.get? u.l=some o→h'.get? u.l=some o):u.Src h' xs:=by
 unfold Sub.Src at x ⊢
 split at x <;> (rename_i ht; obtain ⟨o,e,r⟩:=x; simp only [ht,if_true,if_false,Bool.false_eq_true]; exact ⟨o,k o e,r⟩)
section
variable {prog:Program} {w:World} {A:Around} {E:Value→Shared→Prop} {s:Shared}
theorem dS {it t:Addr} {i:Nat} {items:Array Value} {x:Value} {Q:Value→Shared→Prop} (hit:s.heap.IsTupleIter it t i) (ht:s.heap.IsTuple t items) (hx:items[i]?=some x)
  (hQ:∀ h',h'.IsTupleIter it t (i+1)→Heap.SameBut it s.heap h'→Q x { s with heap:=h' }):wpAny (model prog w) A (Builtin.SmallTypes.nextOf (.ref it)) Q E s:=by
 obtain ⟨o,ho,hc,hd⟩:=id hit; obtain ⟨ol,hol,_,nl,hdl⟩:=ht; unfold Builtin.SmallTypes.nextOf
 refine wpAny_bind (wpAny_callSpecial?_slot (name:=Str.ofString "__next__") hit.typeIs F.slot_tuple_iterator_next (wpAny_call_entry F.slot_tuple_iterator_next hit.typeIs F.entry_tuple_iterator_next ?_ (F.args_tuple_iterator_next_1 _)))
 show wpAny _ _ (field (.ref it) 0>>=_) _ _ s; refine wpAny_bind (wpAny_field ho hd (x:=.ref t) rfl ?_)
 show wpAny _ _ (if (Value.ref t == Value.none)=true then _ else _) _ _ s; rw [if_neg (show ¬ ((Value.ref t == Value.none)=true) from Bool.false_ne_true)]
 show wpAny _ _ (field (.ref it) 1>>=_) _ _ s; refine wpAny_bind (wpAny_field ho hd (x:=.int i 0) rfl ?_)
 show wpAny _ _ (seqItems? (.ref t)>>=_) _ _ s; refine wpAny_bind (wpAny_seqItems hol hdl ?_); simp only [Int.toNat_natCast,hx]
 refine wpAny_bind (wpAny_setField ho hd (by simp) (wpAny_pure ⟨x,rfl,wpAny_pure (hQ _ ?_ (Heap.SameBut.update ..))⟩)); exact ⟨_,Heap.get?_update_self _ ho (Obj.isFreed_of_fields (Obj.data_mapFields hd _)),(Obj.cls_mapFields ..).trans hc,by rw [Obj.data_mapFields hd]; simp [rawInt]⟩
theorem eZ {it t:Addr} {i:Nat} {items:Array Value} {Q:Value→Shared→Prop} (hh:A.handled=none) (hit:s.heap.IsTupleIter it t i) (ht:s.heap.IsTuple t items) (hx:items[i]?=none)
  (hE:∀ h' e,Heap.ExtBut it s.heap h'→(∃ o,h'.get? e=some o∧o.cls=.type "StopIteration")→E (.ref e) { s with heap:=h' }):wpAny (model prog w) A (Builtin.SmallTypes.nextOf (.ref it)) Q E s:=by
 obtain ⟨o,ho,hc,hd⟩:=id hit; obtain ⟨ol,hol,_,nl,hdl⟩:=ht; unfold Builtin.SmallTypes.nextOf
 refine wpAny_bind (wpAny_callSpecial?_slot (name:=Str.ofString "__next__") hit.typeIs F.slot_tuple_iterator_next (wpAny_call_entry F.slot_tuple_iterator_next hit.typeIs F.entry_tuple_iterator_next ?_ (F.args_tuple_iterator_next_1 _)))
 show wpAny _ _ (field (.ref it) 0>>=_) _ _ s; refine wpAny_bind (wpAny_field ho hd (x:=.ref t) rfl ?_)
 show wpAny _ _ (if (Value.ref t == Value.none)=true then _ else _) _ _ s; rw [if_neg (show ¬ ((Value.ref t == Value.none)=true) from Bool.false_ne_true)]
 show wpAny _ _ (field (.ref it) 1>>=_) _ _ s; refine wpAny_bind (wpAny_field ho hd (x:=.int i 0) rfl ?_)
 show wpAny _ _ (seqItems? (.ref t)>>=_) _ _ s; refine wpAny_bind (wpAny_seqItems hol hdl ?_); simp only [Int.toNat_natCast,hx]
 refine wpAny_bind (wpAny_rule (wpAny_bind (wpAny_setField ho hd (by simp) ?_))); show wpAny _ _ (newExc (.type "StopIteration") []>>=_) _ _ _
 refine wpAny_bind ?_; simp only [newExc,newTuple]; refine wpAny_bind (wpAny_newObj_type ?_ (by size_fits))
 refine wpAny_bind (m:=firstArgMember _ _) (wpAny_of_eq (a:=Value.none) (by first | rfl | (simp only [firstArgMember]; rfl)) ?_); refine wpAny_newObj_type ?_ (by size_fits); simp only [raiseNew]
 refine wpAny_bind (wpAny_handled ?_); first | rw [show A.in1.handled=none from hh] | rw [hh]
 refine wpAny_bind (wpAny_pure (wpAny_throw ?_)); exact hE _ _ (((Heap.SameBut.update ..).extBut.push _).push _) ⟨_,Heap.get?_push_size _ rfl,rfl⟩
theorem Sub.item {u:Sub} {n:Nat} {xs:Array Value} {x:Value} {Q:Value→Shared→Prop} (ha:u.At s.heap n) (hs:u.Src s.heap xs) (hx:xs[n]?=some x)
  (hQ:∀ h',u.At h' (n+1)→Heap.SameBut u.i s.heap h'→Q x { s with heap:=h' }):wpAny (model prog w) A (Builtin.SmallTypes.nextOf (.ref u.i)) Q E s:=by
 unfold Sub.At at ha hQ; unfold Sub.Src at hs
 cases ht:u.t with
 | true=>simp only [ht,if_true] at ha hs hQ; exact dS ha hs hx hQ
 | false=>simp only [ht,if_false,Bool.false_eq_true] at ha hs hQ; exact wpAny_nextOf_list_item ha hs hx hQ
theorem Sub.ends {u:Sub} {n:Nat} {xs:Array Value} {Q:Value→Shared→Prop} (hh:A.handled=none) (ha:u.At s.heap n) (hs:u.Src s.heap xs) (hx:xs[n]?=none)
  (hE:∀ h' e,Heap.ExtBut u.i s.heap h'→(∃ o,h'.get? e=some o∧o.cls=.type "StopIteration")→E (.ref e) { s with heap:=h' }):wpAny (model prog w) A (Builtin.SmallTypes.nextOf (.ref u.i)) Q E s:=by
 unfold Sub.At at ha; unfold Sub.Src at hs
 cases ht:u.t with
 | true=>simp only [ht,if_true] at ha hs; exact eZ hh ha hs hx hE
 | false=>simp only [ht,if_false,Bool.false_eq_true] at ha hs; exact wpAny_nextOf_list_end hh ha hs hx hE
noncomputable abbrev C2 (h:Heap) (T:Addr) (arr:Array Value):Prop:=h.get? T=some { cls:=.type "tuple",data:=.seq arr }
noncomputable def drawn (n:Nat):List (Sub×Array Value)→Nat→Array Value→Array Value
 | [],_,arr=>arr
 | u::r,c,arr=>drawn n r (c+1) (arr.setIfInBounds c (u.2.getD n .none))
noncomputable def tf (prog:Program) (w:World) (A:Around) (z TO:Addr) (E:Value→Shared→Prop) (B:Value×Nat→Option Fin×Unit→Sem (ForInStep (Option Fin×Unit))):Prop:=
 ∀ (v:Value) (k:Nat) (s:Shared) (Q:ForInStep (Option Fin×Unit)→Shared→Prop),
  wpAny (model prog w) A (Builtin.SmallTypes.nextOf v) (fun x s1=>∃ arr,C2 s1.heap TO arr∧arr.size≤sizeLine∧∀ h',C2 h' TO (arr.setIfInBounds k x)→Heap.SameBut TO s1.heap h'→Q (.yield (none,())) { s1 with heap:=h' })
   (fun e s1=>wpAny (model prog w) A (setField (.ref z) 0 .none) (fun _ s2=>E e s2) E s1) s→wpAny (model prog w) A (B (v,k) (none,())) Q E s
structure Apart (z TO:Addr) (ss:List (Sub×Array Value)):Prop where
 zTO:z≠TO
 zi:∀ u∈ss,u.1.i≠z
 ti:∀ u∈ss,u.1.i≠TO
 nd:ss.Pairwise fun u v=>u.1.i≠v.1.i
 lz:∀ u∈ss,u.1.l≠z
 lt:∀ u∈ss,u.1.l≠TO
 li:∀ u∈ss,∀ v∈ss,u.1.l≠v.1.i
theorem Apart.tail {z TO:Addr} {u:Sub×Array Value} {ss:List (Sub×Array Value)} (D:Apart z TO (u::ss)):Apart z TO ss:=
 ⟨D.zTO,fun v hv=>D.zi v (List.mem_cons_of_mem _ hv),fun v hv=>D.ti v (List.mem_cons_of_mem _ hv),(List.pairwise_cons.mp D.nd).2,fun v hv=>D.lz v (List.mem_cons_of_mem _ hv),fun v hv=>D.lt v (List.mem_cons_of_mem _ hv),
  fun v hv x hx=>D.li v (List.mem_cons_of_mem _ hv) x (List.mem_cons_of_mem _ hx)⟩
theorem draws {z TI TO:Addr} {n:Nat} {B:Value×Nat→Option Fin×Unit→Sem (ForInStep (Option Fin×Unit))} (hB:tf prog w A z TO E B) :
  ∀ (ss:List (Sub×Array Value)) (c:Nat) (arr:Array Value) (s:Shared) (Q:Option Fin×Unit→Shared→Prop),Apart z TO ss→IsZip s.heap z TI TO .ellipsis→C2 s.heap TO arr→arr.size≤sizeLine →
   (∀ u∈ss,u.1.At s.heap n∧u.1.Src s.heap u.2∧∃ x,u.2[n]?=some x) →
   (∀ h',IsZip h' z TI TO .ellipsis→C2 h' TO (drawn n ss c arr)→(∀ u∈ss,u.1.At h' (n+1))→h'.objs.size=s.heap.objs.size →
    (∀ b o,b≠TO→(∀ u∈ss,b≠u.1.i)→s.heap.get? b=some o→h'.get? b=some o)→Q (none,()) { s with heap:=h' }) →
   wpAny (model prog w) A (forIn ((ss.map fun u=>Value.ref u.1.i).zipIdx c) (none,()) B) Q E s:=by
 intro ss
 induction ss with
 | nil=>
  intro c arr s Q D hz hT hl hu hQ
  simp only [List.map_nil,List.zipIdx_nil,List.forIn_nil]
  exact wpAny_pure (hQ s.heap hz hT (fun _ h=>absurd h List.not_mem_nil) rfl fun _ _ _ _ e=>e)
 | cons u r ih=>
  intro c arr s Q D hz hT hl hu hQ
  simp only [List.map_cons,List.zipIdx_cons,List.forIn_cons]
  obtain ⟨ha,hsrc,x,hx⟩:=hu u List.mem_cons_self
  refine wpAny_bind (hB _ _ _ _ (Sub.item ha hsrc hx fun h1 ha1 sb1=>⟨arr,sb1.extBut _ _ (D.ti u List.mem_cons_self).symm hT,hl,fun h2 hT2 sb2=>?_⟩))
  have uz:=D.zi u List.mem_cons_self
  have ut:=D.ti u List.mem_cons_self
  have kp:∀ b o,b≠TO→b≠u.1.i→s.heap.get? b=some o→h2.get? b=some o:=fun b o h1 h2 e=>sb2.extBut _ _ h1 (sb1.extBut _ _ h2 e)
  have hui:∀ v∈r,v.1.i≠u.1.i:=fun v hv=>((List.pairwise_cons.mp D.nd).1 v hv).symm
  refine ih (c+1) (arr.setIfInBounds c x) { s with heap:=h2 } Q D.tail (kp _ _ D.zTO uz.symm hz) hT2 (by simpa using hl) (fun v hv=>?_) fun h3 z3 T3 a3 s3 k3=>?_
  ·obtain ⟨a,b,y⟩:=hu v (List.mem_cons_of_mem _ hv)
   exact ⟨a.keep fun o e=>kp _ o (D.ti v (List.mem_cons_of_mem _ hv)) (hui v hv) e,b.keep fun o e=>kp _ o (D.lt v (List.mem_cons_of_mem _ hv)) (D.li v (List.mem_cons_of_mem _ hv) u List.mem_cons_self) e,y⟩
  ·refine hQ h3 z3 ?_ (fun v hv=>?_) (by rw [s3]; show h2.objs.size=_; rw [sb2.1,sb1.1]) fun b o h1 h2 e=>k3 b o h1 (fun v hv=>h2 v (List.mem_cons_of_mem _ hv)) (kp b o h1 (h2 u List.mem_cons_self) e)
   ·have e:u.2.getD n .none=x:=by simp [Array.getD_eq_getD_getElem?,hx]
    show C2 h3 TO (drawn n r (c+1) (arr.setIfInBounds c (u.2.getD n .none)))
    rw [e]; exact T3
   ·rcases List.mem_cons.mp hv with rfl | hv
    ·exact ha1.keep fun o e=>k3 _ o ut (fun v' hv'=>(hui v' hv').symm) (sb2.extBut _ _ ut e)
    ·exact a3 v hv
theorem on {z TI TO:Addr} {n:Nat} {B:Value×Nat→Option Fin×Unit→Sem (ForInStep (Option Fin×Unit))} (hh:A.handled=none) (hB:tf prog w A z TO E B) :
  ∀ (ss:List (Sub×Array Value)) (c:Nat) (arr:Array Value) (s:Shared) (Q:Option Fin×Unit→Shared→Prop),Apart z TO ss→IsZip s.heap z TI TO .ellipsis→C2 s.heap TO arr→arr.size≤sizeLine →
   (∀ u∈ss,u.1.At s.heap n∧u.1.Src s.heap u.2)→(∃ u∈ss,u.2[n]?=none) →
   (∀ h' e,(∀ b o,b≠z→b≠TO→(∀ u∈ss,b≠u.1.i)→s.heap.get? b=some o→h'.get? b=some o)→(∃ o,h'.get? e=some o∧o.cls=.type "StopIteration")→E (.ref e) { s with heap:=h' }) →
   wpAny (model prog w) A (forIn ((ss.map fun u=>Value.ref u.1.i).zipIdx c) (none,()) B) Q E s:=by
 intro ss
 induction ss with
 | nil=>
  intro c arr s Q D hz hT hl hu hx hQ
  obtain ⟨_,h,_⟩:=hx
  exact absurd h List.not_mem_nil
 | cons u r ih=>
  intro c arr s Q D hz hT hl hu hx hQ
  simp only [List.map_cons,List.zipIdx_cons,List.forIn_cons]
  obtain ⟨ha,hsrc⟩:=hu u List.mem_cons_self
  have uz:=D.zi u List.mem_cons_self
  have ut:=D.ti u List.mem_cons_self
  cases hu0:u.2[n]? with
  | none=>
   refine wpAny_bind (hB _ _ _ _ (Sub.ends hh ha hsrc hu0 fun h1 e eb he=>?_))
   obtain ⟨oe,hoe,hce⟩:=he
   have hz1:IsZip h1 z TI TO .ellipsis:=eb _ _ uz.symm hz
   have hez:e≠z:=fun x=>by subst x; rw [hz1] at hoe; cases hoe; simp at hce
   exact wpAny_setField_rec hz1 (by simp) fun h3 _ sb3=>hQ h3 e (fun b o b1 b2 b3 q=>sb3.extBut _ _ b1 (eb _ _ (b3 u List.mem_cons_self) q)) ⟨oe,sb3.extBut _ _ hez hoe,hce⟩
  | some x=>
   refine wpAny_bind (hB _ _ _ _ (Sub.item ha hsrc hu0 fun h1 ha1 sb1=>⟨arr,sb1.extBut _ _ ut.symm hT,hl,fun h2 hT2 sb2=>?_⟩))
   have kp:∀ b o,b≠TO→b≠u.1.i→s.heap.get? b=some o→h2.get? b=some o:=fun b o h1 h2 e=>sb2.extBut _ _ h1 (sb1.extBut _ _ h2 e)
   have hui:∀ v∈r,v.1.i≠u.1.i:=fun v hv=>((List.pairwise_cons.mp D.nd).1 v hv).symm
   refine ih (c+1) (arr.setIfInBounds c x) { s with heap:=h2 } Q D.tail (kp _ _ D.zTO uz.symm hz) hT2 (by simpa using hl) (fun v hv=>?_) ?_ fun h3 e k3 he=>?_
   ·obtain ⟨a,b⟩:=hu v (List.mem_cons_of_mem _ hv)
    exact ⟨a.keep fun o e=>kp _ o (D.ti v (List.mem_cons_of_mem _ hv)) (hui v hv) e,b.keep fun o e=>kp _ o (D.lt v (List.mem_cons_of_mem _ hv)) (D.li v (List.mem_cons_of_mem _ hv) u List.mem_cons_self) e⟩
   ·obtain ⟨v,hv,e⟩:=hx
    rcases List.mem_cons.mp hv with rfl | hv
    ·rw [hu0] at e; cases e
    ·exact ⟨v,hv,e⟩
   ·exact hQ h3 e (fun b o b1 b2 b3 q=>k3 b o b1 b2 (fun v hv=>b3 v (List.mem_cons_of_mem _ hv)) (kp b o b2 (b3 u List.mem_cons_self) q)) he
theorem lG (n:Nat):∀ (ss:List (Sub×Array Value)) (c:Nat) (arr:Array Value),(drawn n ss c arr).size=arr.size:=by
 intro ss
 induction ss with
 | nil=>intro c arr; rfl
 | cons u r ih=>intro c arr; unfold drawn; rw [ih]; simp
theorem oo (n:Nat):∀ (ss:List (Sub×Array Value)) (c:Nat) (arr:Array Value),c+ss.length=arr.size→(drawn n ss c arr).toList=arr.toList.take c++ss.map fun u=>u.2.getD n .none:=by
 intro ss
 induction ss with
 | nil=>
  intro c arr h
  unfold drawn
  simp at h; subst h
  rw [List.map_nil,List.append_nil]
  exact (List.take_of_length_le (by simp)).symm
 | cons u r ih=>
  intro c arr h
  unfold drawn
  have hc:c<arr.size:=by simp at h; omega
  rw [ih (c+1) _ (by simp at h ⊢; omega)]
  rw [List.map_cons,Array.toList_setIfInBounds]
  have:(arr.toList.set c (u.2.getD n Value.none)).take (c+1)=arr.toList.take c ++ [u.2.getD n Value.none]:=by
   rw [List.take_add_one,List.take_set,List.getElem?_set_self (by simpa using hc)]
   rw [List.set_eq_of_length_le (by simp; omega)]; rfl
  rw [this,List.append_assoc]; rfl
theorem oQ {z TI TO:Addr} {n:Nat} {ss:List (Sub×Array Value)} {arr:Array Value} {Q:Option Value→Shared→Prop} (D:Apart z TO ss) (hne:ss ≠ []) (hsz:arr.size=ss.length) (hline:ss.length≤sizeLine)
  (hz:IsZip s.heap z TI TO .none) (hTI:C2 s.heap TI (ss.map fun u=>Value.ref u.1.i).toArray) (hTO:C2 s.heap TO arr) (hu:∀ u∈ss,u.1.At s.heap n∧u.1.Src s.heap u.2∧∃ x,u.2[n]?=some x)
  (hQ:∀ h',IsZip h' z TI TO (rawInt s.heap.objs.size)→(∃ arr',C2 h' TO arr'∧arr'.size=ss.length)→(∀ u∈ss,u.1.At h' (n+1))→C2 h' s.heap.objs.size (ss.map fun u=>u.2.getD n .none).toArray →
   (∀ b o,b≠z→b≠TO→(∀ u∈ss,b≠u.1.i)→s.heap.get? b=some o→h'.get? b=some o)→Q (some (.ref s.heap.objs.size)) { s with heap:=h' }) :
  wpAny (model prog w) A (pyNext (.ref z)) Q E s:=by
 have hT:s.TypeIs (.ref z) "zip" := ⟨_,hz,rfl⟩
 unfold pyNext
 refine wpAny_bind (wpAny_attempt (wpAny_callSpecial?_slot (name:=Str.ofString "__next__") hT F.slot_zip_next (wpAny_call_entry F.slot_zip_next hT F.entry_zip_next ?_ (F.args_zip_next_1 _))))
 show wpAny _ _ (field (.ref z) 2>>=_) _ _ _; refine wpAny_bind (wpAny_field hz rfl (x:=.bool false) rfl ?_)
 show wpAny _ _ (field (.ref z) 3>>=_) _ _ _; refine wpAny_bind (wpAny_field hz rfl (x:=.ref TI) rfl ?_); refine wpAny_bind (wpAny_seqItems hTI rfl ?_)
 have e1:(ss.map fun u=>Value.ref u.1.i).toArray.isEmpty=false:=by cases ss <;> simp_all
 simp only [e1]
 refine wpAny_bind ?_; unfold Builtin.SmallTypes.ownedTupleIsFree; refine wpAny_bind (wpAny_field hz rfl (x:=.none) rfl (wpAny_pure ?_)); simp only [if_true]
 refine wpAny_bind (wpAny_rule ?_); refine wpAny_bind (wpAny_field hz rfl (x:=.ref TO) rfl ?_)
 refine wpAny_bind (wpAny_setField_rec hz (by simp) fun h1 z1 sb1=>?_); replace z1:IsZip h1 z TI TO .ellipsis:=z1
 refine wpAny_bind (draws (TI:=TI) (n:=n) (z:=z) (TO:=TO) ?_ ss 0 arr _ _ D z1 (sb1.extBut _ _ D.zTO.symm hTO) (by omega) (fun u hm=>?_) fun h2 z2 T2 a2 s2 k2=>?_)
 ·intro v k s Q h
  refine wpAny_bind (wpAny_onRaise ?_)
  show wpAny _ _ (Builtin.SmallTypes.nextOf v>>=_) _ _ _
  refine wpAny_bind (wpAny_mono h (fun x s1 ⟨arr,hT1,hl,hq⟩=>wpAny_pure ?_) fun e s1 he=>he)
  refine wpAny_bind (wpAny_seqItems hT1 rfl ?_)
  refine wpAny_bind (wpAny_updateSeq hT1 rfl ?_ hl (by rw [Array.size_setIfInBounds]; omega))
  refine wpAny_bind (wpAny_letGo (wpAny_pure (hq _ ?_ (Heap.SameBut.update ..))))
  show Heap.get? _ _=_
  rw [Heap.get?_update_self _ hT1 rfl]; simp [Obj.mapSeq]
 ·obtain ⟨a,b,x⟩:=hu u hm
  exact ⟨a.keep fun o e=>sb1.extBut _ _ (D.zi u hm) e,b.keep fun o e=>sb1.extBut _ _ (D.lz u hm) e,x⟩
 ·have ed:(drawn n ss 0 arr).toList=ss.map fun u=>u.2.getD n .none:=by rw [oo n ss 0 arr (by omega)]; simp
  refine wpAny_bind (wpAny_seqItems T2 rfl ?_)
  have hs2:h2.objs.size=s.heap.objs.size:=by rw [s2]; exact sb1.1
  have hlz:z<h2.objs.size:=Heap.lt_size z2
  refine wpAny_bind (wpAny_newTuple (wpAny_bind ?_) (by rw [ed,List.length_map]; exact hline))
  unfold Builtin.SmallTypes.ownedTupleHandOut
  have z3:IsZip (h2.push { cls:=.type "tuple",data:=.seq (drawn n ss 0 arr).toList.toArray }) z TI TO .ellipsis:=Heap.get?_push_of_some _ z2
  refine wpAny_bind (wpAny_setField_rec z3 (by simp) fun h4 z4 sb4=>?_); replace z4:IsZip h4 z TI TO (rawInt h2.objs.size):=z4
  refine wpAny_setField_rec z4 (by simp) fun h5 z5 sb5=>?_; replace z5:IsZip h5 z TI TO (rawInt h2.objs.size):=z5
  have up:∀ b o,b≠z→h2.get? b=some o→h5.get? b=some o:=fun b o hb e=>sb5.extBut _ _ hb (sb4.extBut _ _ hb (Heap.get?_push_of_some _ e))
  have T5:C2 h5 h2.objs.size (drawn n ss 0 arr).toList.toArray:=sb5.extBut _ _ (Nat.ne_of_gt hlz) (sb4.extBut _ _ (Nat.ne_of_gt hlz) (Heap.get?_push_size _ rfl))
  rw [ed] at T5
  rw [hs2] at z5 T5
  refine wpAny_pure ⟨_,rfl,wpAny_pure ?_⟩
  show Q (some (.ref h2.objs.size)) _
  rw [hs2]
  exact hQ h5 z5 ⟨_,up _ _ D.zTO.symm T2,by rw [lG,hsz]⟩ (fun u hm=>(a2 u hm).keep fun o e=>up _ o (D.zi u hm) e) T5 fun b o b1 b2 b3 e=>up b o b1 (k2 b o b2 b3 (sb1.extBut _ _ b1 e))
theorem oP {z TI TO:Addr} {n:Nat} {ss:List (Sub×Array Value)} {arr:Array Value} {Q:Option Value→Shared→Prop} (hh:A.handled=none) (D:Apart z TO ss) (hsz:arr.size=ss.length) (hline:ss.length≤sizeLine)
  (hz:IsZip s.heap z TI TO .none) (hTI:C2 s.heap TI (ss.map fun u=>Value.ref u.1.i).toArray) (hTO:C2 s.heap TO arr) (hu:∀ u∈ss,u.1.At s.heap n∧u.1.Src s.heap u.2) (hx:∃ u∈ss,u.2[n]?=none)
  (hQ:∀ h',(∀ b o,b≠z→b≠TO→(∀ u∈ss,b≠u.1.i)→s.heap.get? b=some o→h'.get? b=some o)→Q none { s with heap:=h' }) :
  wpAny (model prog w) A (pyNext (.ref z)) Q E s:=by
 have hT:s.TypeIs (.ref z) "zip" := ⟨_,hz,rfl⟩
 unfold pyNext
 refine wpAny_bind (wpAny_attempt (wpAny_callSpecial?_slot (name:=Str.ofString "__next__") hT F.slot_zip_next (wpAny_call_entry F.slot_zip_next hT F.entry_zip_next ?_ (F.args_zip_next_1 _))))
 show wpAny _ _ (field (.ref z) 2>>=_) _ _ _; refine wpAny_bind (wpAny_field hz rfl (x:=.bool false) rfl ?_)
 show wpAny _ _ (field (.ref z) 3>>=_) _ _ _; refine wpAny_bind (wpAny_field hz rfl (x:=.ref TI) rfl ?_); refine wpAny_bind (wpAny_seqItems hTI rfl ?_)
 have e1:(ss.map fun u=>Value.ref u.1.i).toArray.isEmpty=false:=by
  obtain ⟨u,hm,_⟩:=hx
  cases ss with
  | nil=>exact nomatch hm
  | cons a b=>simp
 simp only [e1]
 refine wpAny_bind ?_; unfold Builtin.SmallTypes.ownedTupleIsFree; refine wpAny_bind (wpAny_field hz rfl (x:=.none) rfl (wpAny_pure ?_)); simp only [if_true]
 refine wpAny_bind (wpAny_rule ?_); refine wpAny_bind (wpAny_field hz rfl (x:=.ref TO) rfl ?_)
 refine wpAny_bind (wpAny_setField_rec hz (by simp) fun h1 z1 sb1=>?_); replace z1:IsZip h1 z TI TO .ellipsis:=z1
 refine wpAny_bind (on (A:=A.in1) (TI:=TI) (n:=n) (z:=z) (TO:=TO) (show A.in1.handled=none from hh) ?_ ss 0 arr _ _ D z1 (sb1.extBut _ _ D.zTO.symm hTO) (by omega) (fun u hm=>?_) hx fun h2 e k2 he=>?_)
 ·intro v k s Q h
  refine wpAny_bind (wpAny_onRaise ?_)
  show wpAny _ _ (Builtin.SmallTypes.nextOf v>>=_) _ _ _
  refine wpAny_bind (wpAny_mono h (fun x s1 ⟨arr,hT1,hl,hq⟩=>wpAny_pure ?_) fun e s1 he=>he)
  refine wpAny_bind (wpAny_seqItems hT1 rfl ?_)
  refine wpAny_bind (wpAny_updateSeq hT1 rfl ?_ hl (by rw [Array.size_setIfInBounds]; omega))
  refine wpAny_bind (wpAny_letGo (wpAny_pure (hq _ ?_ (Heap.SameBut.update ..))))
  show Heap.get? _ _=_
  rw [Heap.get?_update_self _ hT1 rfl]; simp [Obj.mapSeq]
 ·obtain ⟨a,b⟩:=hu u hm
  exact ⟨a.keep fun o e=>sb1.extBut _ _ (D.zi u hm) e,b.keep fun o e=>sb1.extBut _ _ (D.lz u hm) e⟩
 ·obtain ⟨o,ho,hc⟩:=he
  refine wpAny_bind (wpAny_isInstance (T := "StopIteration") (b:=true) ⟨o,ho,hc⟩ isSubtype_stop ?_)
  exact wpAny_pure (hQ _ fun b o b1 b2 b3 e=>k2 b o b1 b2 b3 (sb1.extBut _ _ b1 e))
noncomputable def SrcAt (h:Heap) (u:Bool×Addr×Array Value):Prop:=if u.1=true then h.IsTuple u.2.1 u.2.2 else h.IsList u.2.1 u.2.2
noncomputable def j4 (n:Nat):List (Bool×Addr×Array Value)→List (Sub×Array Value)
 | []=>[]
 | u::r=>(⟨u.1,n,u.2.1⟩,u.2.2)::j4 (n+1) r
theorem qO {u:Bool×Addr×Array Value} {Q:Value→Shared→Prop} (hs:SrcAt s.heap u)
  (hQ:∀ h',(Sub.mk u.1 s.heap.objs.size u.2.1).At h' 0→h'.objs.size=s.heap.objs.size+1→(∀ b o,s.heap.get? b=some o→h'.get? b=some o)→Q (.ref s.heap.objs.size) { s with heap:=h' }) :
  wpAny (model prog w) A (pyIter (.ref u.2.1)) Q E s:=by
 unfold SrcAt at hs
 cases ht:u.1 with
 | true=>
  simp only [ht,if_true] at hs
  refine wpAny_pyIter_tuple hs (hQ _ ?_ (Heap.size_push ..) fun b o e=>Heap.get?_push_of_some _ e)
  unfold Sub.At
  simp only [ht,if_true]
  exact ⟨_,Heap.get?_push_size _ rfl,rfl,rfl⟩
 | false=>
  simp only [ht,Bool.false_eq_true,if_false] at hs
  refine wpAny_pyIter_list hs (hQ _ ?_ (Heap.size_push ..) fun b o e=>Heap.get?_push_of_some _ e)
  unfold Sub.At
  simp only [ht,Bool.false_eq_true,if_false]
  exact ⟨_,Heap.get?_push_size _ rfl,rfl,rfl⟩
theorem SrcAt.keep {h h':Heap} {u:Bool×Addr×Array Value} (x:SrcAt h u) (k:∀ b o,h.get? b=some o→h'.get? b=some o):SrcAt h' u:=by
 unfold SrcAt at x ⊢
 split at x <;> (rename_i ht; obtain ⟨o,e,r⟩:=x; simp only [ht,if_true,if_false,Bool.false_eq_true]; exact ⟨o,k _ o e,r⟩)
theorem jj:∀ (us:List (Bool×Addr×Array Value)) (acc:Array Value) (s:Shared) (Q:Array Value→Shared→Prop),(∀ u∈us,SrcAt s.heap u) →
  (∀ h',(∀ v∈j4 s.heap.objs.size us,v.1.At h' 0)→h'.objs.size=s.heap.objs.size+us.length→(∀ b o,s.heap.get? b=some o→h'.get? b=some o) →
   Q (acc++((j4 s.heap.objs.size us).map fun v=>Value.ref v.1.i).toArray) { s with heap:=h' }) →
  wpAny (model prog w) A (forIn (us.map fun u=>Value.ref u.2.1) acc fun x r=>do let y ← holding r.toList (pyIter x); pure (ForInStep.yield (r.push y))) Q E s:=by
 intro us
 induction us with
 | nil=>
  intro acc s Q _ hQ
  simp only [List.map_nil,List.forIn_nil]
  have:=hQ s.heap (fun _ h=>absurd h List.not_mem_nil) rfl fun _ _ e=>e
  exact wpAny_pure (by simpa [j4] using this)
 | cons u r ih=>
  intro acc s Q hs hQ
  simp only [List.map_cons,List.forIn_cons]
  refine wpAny_bind (wpAny_bind (wpAny_holding (qO (hs u List.mem_cons_self) fun h1 a1 s1 k1=>wpAny_pure ?_)))
  refine ih (acc.push (.ref s.heap.objs.size)) { s with heap:=h1 } Q (fun v hv=>(hs v (List.mem_cons_of_mem _ hv)).keep k1) fun h2 a2 s2 k2=>?_
  have e0:j4 h1.objs.size r=j4 (s.heap.objs.size+1) r:=by rw [s1]
  have q:=hQ h2 (fun v hv=>?_) (by rw [s2]; show h1.objs.size+_=_; rw [s1,List.length_cons]; omega) fun b o e=>k2 b o (k1 b o e)
  ·have e:acc.push (Value.ref s.heap.objs.size)++(List.map (fun v=>Value.ref v.1.i) (j4 h1.objs.size r)).toArray=acc++(List.map (fun v=>Value.ref v.1.i) (j4 s.heap.objs.size (u::r))).toArray:=by
    rw [e0]; simp [j4]
   show Q (acc.push (Value.ref s.heap.objs.size)++(List.map (fun v=>Value.ref v.1.i) (j4 h1.objs.size r)).toArray) _
   rw [e]; exact q
  ·rcases List.mem_cons.mp hv with rfl | hv
   ·exact a1.keep fun o e=>k2 _ o e
   ·exact a2 v (by show v∈j4 h1.objs.size r; rw [e0]; exact hv)
theorem qP {us:List (Bool×Addr×Array Value)} {Q:List Value→Shared→Prop} (hs:∀ u∈us,SrcAt s.heap u)
  (hQ:∀ h',(∀ v∈j4 s.heap.objs.size us,v.1.At h' 0)→h'.objs.size=s.heap.objs.size+us.length→(∀ b o,s.heap.get? b=some o→h'.get? b=some o) →
   Q ((j4 s.heap.objs.size us).map fun v=>Value.ref v.1.i) { s with heap:=h' }):wpAny (model prog w) A (Builtin.SmallTypes.iterAll (us.map fun u=>Value.ref u.2.1)) Q E s:=by
 unfold Builtin.SmallTypes.iterAll
 refine wpAny_bind (jj us #[] s _ hs fun h' a1 s1 k1=>wpAny_pure ?_)
 have:=hQ h' a1 s1 k1
 simpa using this
theorem S3:∀ (us:List (Bool×Addr×Array Value)) (n:Nat),(j4 n us).length=us.length:=by
 intro us
 induction us with
 | nil=>intro n; rfl
 | cons u r ih=>intro n; unfold j4; rw [List.length_cons,ih,List.length_cons]
theorem fO (us:List (Bool×Addr×Array Value)) (hl:us.length≤sizeLine) :
  Meets (Builtin.«zip.__new__» ⟨.type "zip" :: us.map fun u=>Value.ref u.2.1,[]⟩) (fun _ R s=>(∀ u∈us,SrcAt s.heap u) ∧
   ∀ h',(∀ v∈j4 s.heap.objs.size us,v.1.At h' 0)→C2 h' (s.heap.objs.size+us.length) ((j4 s.heap.objs.size us).map fun v=>Value.ref v.1.i).toArray →
    (∃ arr,C2 h' (s.heap.objs.size+us.length+1) arr∧arr.size=us.length)→IsZip h' (s.heap.objs.size+us.length+2) (s.heap.objs.size+us.length) (s.heap.objs.size+us.length+1) .none →
    (∀ b o,s.heap.get? b=some o→h'.get? b=some o)→R (.ok (.ret (.ref (s.heap.objs.size+us.length+2)))) { s with heap:=h' }):=
 .of_wp fun prog w A R s h=>by
  obtain ⟨hs,h⟩:=h
  show wpAny _ _ (Builtin.SmallTypes.newClass "zip" _>>=_) _ _ _
  refine wpAny_bind ?_
  unfold Builtin.SmallTypes.newClass
  refine wpAny_bind (wpAny_of_eq (a:=true) rfl ?_)
  simp only [Bool.not_true,Bool.false_eq_true,if_false]
  refine wpAny_bind (wpAny_of_eq (a:=true) sub_zip ?_)
  simp only [Bool.not_true,Bool.false_eq_true,if_false]
  refine wpAny_pure ?_
  simp only [List.length_nil,show ¬ (0>1) by decide,if_false]
  refine wpAny_bind (qP hs fun h1 a1 s1 k1=>?_)
  refine wpAny_bind (wpAny_newTuple ?_ (by simp [S3,hl]))
  refine wpAny_bind (wpAny_newTuple ?_ (by simp [S3,hl]))
  generalize hI:((j4 s.heap.objs.size us).map fun v=>Value.ref v.1.i)=I at h ⊢
  have hIl:I.length=us.length:=by rw [← hI,List.length_map,S3]
  refine wpAny_bind ?_
  show wpAny _ _ (newObj (.type "zip") (.fields #[.none,.bool false,.bool false,.ref h1.objs.size,.ref (h1.push { cls:=.type "tuple",data:=.seq I.toArray }).objs.size]) none) _ _ _
  refine wpAny_newObj_type (wpAny_pure ?_) (by size_fits)
  have z0:h1.objs.size=s.heap.objs.size+us.length:=s1
  have z1:(h1.push { cls:=.type "tuple",data:=.seq I.toArray }).objs.size=s.heap.objs.size+us.length+1:=by rw [Heap.size_push,s1]
  have z2:((h1.push { cls:=.type "tuple",data:=.seq I.toArray }).push { cls:=.type "tuple",data:=.seq (I.map fun _=>Value.none).toArray }).objs.size=s.heap.objs.size+us.length+2:=by rw [Heap.size_push,z1]
  refine ⟨_,rfl,?_⟩
  have g:=h (((h1.push { cls:=.type "tuple",data:=.seq I.toArray }).push { cls:=.type "tuple",data:=.seq (I.map fun _=>Value.none).toArray }).push { cls:=.type "zip",data:=.fields #[.none,.bool false,.bool false,.ref h1.objs.size,.ref (h1.push { cls:=.type "tuple",data:=.seq I.toArray }).objs.size] })
   (fun v hv=>(a1 v hv).keep fun o e=>Heap.get?_push_of_some _ (Heap.get?_push_of_some _ (Heap.get?_push_of_some _ e))) ?_ ⟨(I.map fun _=>Value.none).toArray,?_,by simp [hIl]⟩ ?_ fun b o e=>Heap.get?_push_of_some _ (Heap.get?_push_of_some _ (Heap.get?_push_of_some _ (k1 b o e)))
  ·rw [← z2] at g
   exact g
  ·rw [← z0]; exact Heap.get?_push_of_some _ (Heap.get?_push_of_some _ (Heap.get?_push_size _ rfl))
  ·rw [← z1]; exact Heap.get?_push_of_some _ (Heap.get?_push_size _ rfl)
  ·rw [← z2,← z1,← z0]; exact Heap.get?_push_size _ rfl
theorem kx (a b c:Value):checkTypeCall "zip" ⟨[a,b,c],[]⟩=pure ():=by kernel_rfl
theorem ln (a b c:Value):checkBuiltinCall "zip.__new__" ⟨[.type "zip",a,b,c],[]⟩=pure ():=by kernel_rfl
theorem lN (a b c d:Value):argsOk "object.__init__" ⟨[a,b,c,d],[]⟩:=by
 unfold argsOk; rw [signature?_of (id := "object.__init__") (n:=['_','_','t','i','n','i','_','_']) (o:=['t','c','e','j','b','o']) (by kernel_rfl) F.owner_object]; kernel_rfl
theorem rM (us:List (Bool×Addr×Array Value)) (hl:us.length=2∨us.length=3) {Q:Value→Shared→Prop} (hs:∀ u∈us,SrcAt s.heap u)
  (h:∀ h',(∀ v∈j4 s.heap.objs.size us,v.1.At h' 0)→C2 h' (s.heap.objs.size+us.length) ((j4 s.heap.objs.size us).map fun v=>Value.ref v.1.i).toArray →
    (∃ arr,C2 h' (s.heap.objs.size+us.length+1) arr∧arr.size=us.length)→IsZip h' (s.heap.objs.size+us.length+2) (s.heap.objs.size+us.length) (s.heap.objs.size+us.length+1) .none →
    (∀ b o,s.heap.get? b=some o→h'.get? b=some o)→Q (.ref (s.heap.objs.size+us.length+2)) { s with heap:=h' }) :
  wpAny (model prog w) A (call (.type "zip") (us.map fun u=>Value.ref u.2.1)) Q E s:=by
 have hle:us.length≤sizeLine:=Nat.le_trans (show us.length≤3 by omega) (by decide)
 have k:∀ h',_→_→_→_→_→({ s with heap:=h' }:Shared).TypeIs (.ref (s.heap.objs.size+us.length+2)) "zip" ∧ Q (.ref (s.heap.objs.size+us.length+2)) { s with heap:=h' }:=fun h' c1 c2 c3 c4 c5=>⟨⟨_,c4,rfl⟩,h h' c1 c2 c3 c4 c5⟩
 cases us with
 | nil=>rcases hl with hl | hl <;> cases hl
 | cons a us=>
  cases us with
  | nil=>rcases hl with hl | hl <;> cases hl
  | cons b us=>
   cases us with
   | nil=>exact callType_new F.called_zip (by decide) (F.typeCall_zip_2 _ _) (F.newCall_zip_2 _ _) (fun obj=>F.args_object_init_3 obj _ _) F.entry_zip_new (fO [a,b] hle) ⟨hs,k⟩
   | cons c us=>
    cases us with
    | nil=>exact callType_new F.called_zip (by decide) (kx _ _ _) (ln _ _ _) (fun obj=>lN obj _ _ _) F.entry_zip_new (fO [a,b,c] hle) ⟨hs,k⟩
    | cons d us=>rcases hl with hl | hl <;> (simp only [List.length_cons] at hl; omega)
end
end L2
namespace L2
open PySem PySem.Spec PyProof.Rows
theorem aq {α β:Type} {R:α→β→Prop}:∀ {l:List α},(∀ a∈l,∃ b,R a b)→∃ l':List (α×β),l'.map (·.1)=l∧∀ p∈l',R p.1 p.2:=by
 intro l
 induction l with
 | nil=>exact fun _=>⟨[],rfl,fun _ h=>absurd h List.not_mem_nil⟩
 | cons a l ih=>
  intro h
  obtain ⟨b,hb⟩:=h a List.mem_cons_self
  obtain ⟨l',e,q⟩:=ih fun x hx=>h x (List.mem_cons_of_mem _ hx)
  refine ⟨(a,b)::l',by rw [List.map_cons,e],fun p hp=>?_⟩
  rcases List.mem_cons.mp hp with rfl | hp
  ·exact hb
  ·exact q p hp
noncomputable def Sq (K:Frag) (H:Hp) (t:Bool) (a:Addr) (xs:List V):Prop:=if t=true then SqT K H a xs else SqL K H a xs
section
variable {X:Cx} {pins:List (Addr×Obj)} {σ:St} {H:Hp} {s:Shared}
theorem kne {b a:Addr} {o:Obj} (I:Inv X pins σ H s) (h:X.K.lookup a=some o) (f:F3 X pins H b):a≠b:=by
 intro e
 subst e
 have hb:X.base.get? a=some o:=I.mod.kin a o h
 obtain ⟨f0,f1,f2,f3,f4,f5⟩:=f
 rcases f3 with z | z
 ·exact I.ok.noex a o hb z
 ·exact absurd (Nat.lt_of_lt_of_le (Heap.lt_size (I.ok.bs a o hb).1) z) (Nat.lt_irrefl _)
theorem Sq.ne {t:Bool} {a b:Addr} {xs:List V} (I:Inv X pins σ H s) (h:Sq X.K H t a xs) (f:F3 X pins H b):a≠b:=by
 have tr:∀ {u:HO},Rd H a u→a≠b:=fun {u} r e=>by
  subst e
  have f0:=f.1
  rcases r with r | ⟨o,r⟩ <;> (rw [f0] at r; cases r)
 unfold Sq at h
 split at h
 ·rcases h with h | ⟨o,its,n,hk,_⟩
  ·exact tr h
  ·exact kne I hk f
 ·rcases h with h | ⟨o,its,n,hk,_⟩
  ·exact tr h
  ·exact kne I hk f
theorem Sq.src {t:Bool} {a:Addr} {xs:List V} (I:Inv X pins σ H s) (h:Sq X.K H t a xs):∃ its:List Value,Vals xs its∧(Sub.mk t 0 a).Src s.heap its.toArray:=by
 unfold Sq at h
 unfold Sub.Src
 split at h
 ·rename_i ht
  obtain ⟨its,r,p,_⟩:=I.tuple h
  exact ⟨its,r,by simp only [ht,if_true]; exact p⟩
 ·rename_i ht
  obtain ⟨its,r,p,_⟩:=I.list h
  exact ⟨its,r,by simp only [ht,if_false]; exact p.isList⟩
theorem Sq.inj {t:Bool} {a:Addr} {xs ys:List V} (I:Inv X pins σ H s) (h:Sq X.K H t a xs) (h':Sq X.K H t a ys):xs=ys:=by
 unfold Sq at h h'
 split at h
 ·rename_i ht; simp only [ht,if_true] at h'; exact I.tuple_inj h h'
 ·rename_i ht; simp only [ht,if_false] at h'; exact I.list_inj h h'
end
noncomputable def ItZ (K:Frag) (us:List (Bool×Addr)):It:=
  ⟨fun i H=>∀ u∈us,∃ xs x,Sq K H u.1 u.2 xs∧xs[i]?=some x,
   fun i H x H'=>∃ p ys,x=.ref p∧H p=none∧H'=upd H p (.tup ys)∧Paired (fun (u:Bool×Addr) (y:V)=>∀ xs,Sq K H u.1 u.2 xs→xs[i]?=some y) us ys,
   fun i H=>(∀ u∈us,∃ xs,Sq K H u.1 u.2 xs)∧∃ u∈us,∃ xs,Sq K H u.1 u.2 xs∧xs.length≤i⟩
structure ZSt (z TI TO:Addr) (subs:List Sub):Prop where
 zTO:z≠TO
 TIz:TI≠z
 TITO:TI≠TO
 zi:∀ u∈subs,u.i≠z
 ti:∀ u∈subs,u.i≠TO
 Ii:∀ u∈subs,u.i≠TI
 nd:subs.Pairwise fun u v=>u.i≠v.i
noncomputable abbrev zTn (z TI TO:Addr) (subs:List Sub) (i:Nat) (h:Heap):Prop:=
 IsZip h z TI TO .none∧C2 h TI (subs.map fun u=>Value.ref u.i).toArray∧(∃ arr,C2 h TO arr∧arr.size=subs.length)∧∀ u∈subs,u.At h i
theorem V3 {α β γ:Type} {F:α→γ→Prop} {f:β→α} {g:β→γ}:∀ {l:List β},(∀ b∈l,F (f b) (g b))→Paired F (l.map f) (l.map g)
 | [],_=>.nil
 | _::_,h=>.cons (h _ List.mem_cons_self) (V3 fun b hb=>h b (List.mem_cons_of_mem _ hb))
theorem oV {P:Program} {w:World} {K:Frag} {elts:List Expr} {k:Nat} {tp:Pos} {z TI TO:Addr} {subs:List Sub} (D:ZSt z TI TO subs) (hne:subs ≠ []) (hln:subs.length≤sizeLine) :
  Turn P w K (.Tuple elts k tp) (ItZ K (subs.map fun u=>(u.t,u.l))) (z::TI::TO::subs.map (·.i)) z (zTn z TI TO subs) where
 mem:=by simp
 obj:=fun i h st b hb=>by
  obtain ⟨hz,hTI,⟨arr,hTO,_⟩,hs⟩:=st
  simp only [List.mem_cons,List.mem_map] at hb
  rcases hb with rfl | rfl | rfl | ⟨u,hu,rfl⟩
  ·exact ⟨_,hz,fun v q=>by cases q⟩
  ·exact ⟨_,hTI,fun v q=>by cases q⟩
  ·exact ⟨_,hTO,fun v q=>by cases q⟩
  ·obtain ⟨o,e,d⟩:=(hs u hu).obj
   exact ⟨o,e,fun v q=>by rw [d] at q; cases q⟩
 keep:=fun i h h' st kp=>by
  obtain ⟨hz,hTI,⟨arr,hTO,ha⟩,hs⟩:=st
  exact ⟨kp z (by simp) _ hz,kp TI (by simp) _ hTI,⟨arr,kp TO (by simp) _ hTO,ha⟩,fun u hu=>(hs u hu).keep fun o e=>kp u.i (by simp only [List.mem_cons,List.mem_map]; exact .inr (.inr (.inr ⟨u,hu,rfl⟩))) o e⟩
 item:=by
  intro X hP hw hK hc i pins s σ H E I hf st hg
  subst hP hw hK
  obtain ⟨hz,hTI,⟨arr,hTO,ha⟩,hs⟩:=st
  have fz:=hf z (by simp)
  have fT:=hf TO (by simp)
  have fi:∀ u∈subs,F3 X pins H u.i:=fun u hu=>hf u.i (by simp only [List.mem_cons,List.mem_map]; exact .inr (.inr (.inr ⟨u,hu,rfl⟩)))
  obtain ⟨ss,ess,hss⟩:=aq (R:=fun (u:Sub) (q:List Value×List V×V)=>Sq X.K H u.t u.l q.2.1∧Vals q.2.1 q.1∧u.Src s.heap q.1.toArray∧q.2.1[i]?=some q.2.2) (l:=subs) (fun u hu=>by
   obtain ⟨xs,x,h1,h2⟩:=hg (u.t,u.l) (List.mem_map.mpr ⟨u,hu,rfl⟩)
   obtain ⟨its,r,hsrc⟩:=Sq.src I h1
   exact ⟨(its,xs,x),h1,r,hsrc,h2⟩)
  have mss:∀ v∈ss,v.1∈subs:=fun v hv=>by rw [← ess]; exact List.mem_map.mpr ⟨v,hv,rfl⟩
  have nd2:ss.Pairwise fun u v=>u.1.i≠v.1.i:=by
   have:=D.nd
   rw [← ess,List.pairwise_map] at this
   exact this
  have DA:Apart z TO (ss.map fun v=>(v.1,v.2.1.toArray)):=by
   refine ⟨D.zTO,?_,?_,?_,?_,?_,?_⟩
   ·rintro _ hu; obtain ⟨v,hv,rfl⟩:=List.mem_map.mp hu; exact D.zi _ (mss v hv)
   ·rintro _ hu; obtain ⟨v,hv,rfl⟩:=List.mem_map.mp hu; exact D.ti _ (mss v hv)
   ·rw [List.pairwise_map]; exact nd2
   ·rintro _ hu; obtain ⟨v,hv,rfl⟩:=List.mem_map.mp hu; exact Sq.ne I (hss v hv).1 fz
   ·rintro _ hu; obtain ⟨v,hv,rfl⟩:=List.mem_map.mp hu; exact Sq.ne I (hss v hv).1 fT
   ·rintro _ hu _ hu2; obtain ⟨v,hv,rfl⟩:=List.mem_map.mp hu; obtain ⟨v2,hv2,rfl⟩:=List.mem_map.mp hu2; exact Sq.ne I (hss v hv).1 (fi _ (mss v2 hv2))
  have el:(ss.map fun v=>(v.1,v.2.1.toArray)).length=subs.length:=by rw [List.length_map,← ess,List.length_map]
  have eI:((ss.map fun v=>(v.1,v.2.1.toArray)).map fun u=>Value.ref u.1.i)=subs.map fun u=>Value.ref u.i:=by rw [← ess,List.map_map,List.map_map]; rfl
  have ys:∀ v∈ss,∃ u,v.2.1.toArray[i]?=some u∧RelV v.2.2.2 u:=fun v hv=>by
   obtain ⟨u,e,r⟩:=(hss v hv).2.1.get (hss v hv).2.2.2
   exact ⟨u,by simpa using e,r⟩
  refine oQ (n:=i) DA (by intro q; apply hne; have:=congrArg List.length q; rw [el] at this; exact List.length_eq_zero_iff.mp this) (by rw [ha,el]) (by rw [el]; exact hln) hz (by rw [eI]; exact hTI) hTO (fun u hu=>?_) fun h1 z1 T1 a1 p1 k1=>?_
  ·obtain ⟨v,hv,rfl⟩:=List.mem_map.mp hu
   obtain ⟨u,e,_⟩:=ys v hv
   exact ⟨hs _ (mss v hv),(hss v hv).2.2.1,u,e⟩
  refine ⟨_,rfl,wpAny_letOwnedTupleGo_zip z1 fun h2 z2 sb2=>?_⟩
  have hzl:z<s.heap.objs.size:=Heap.lt_size hz
  have kp:∀ b o,b≠z→b≠TO→(∀ u∈subs,b≠u.i)→s.heap.get? b=some o→h2.get? b=some o:=fun b o b1 b2 b3 e=>sb2.extBut _ _ b1 (k1 b o b1 b2 (fun u hu=>by obtain ⟨v,hv,rfl⟩:=List.mem_map.mp hu; exact b3 _ (mss v hv)) e)
  have hfr:H s.heap.objs.size=none:=I.hok.fresh (Nat.le_refl _)
  have trk:∀ b u,H b=some u→b≠z∧b≠TO∧∀ v∈subs,b≠v.i:=fun b u e=>⟨fun q=>(by subst q; rw [fz.1] at e; cases e),fun q=>(by subst q; rw [fT.1] at e; cases e),fun v hv q=>(by subst q; rw [(fi v hv).1] at e; cases e)⟩
  have hP2:C2 h2 s.heap.objs.size (ss.map fun v=>v.2.1.toArray.getD i .none).toArray:=by
   have:=sb2.extBut _ _ (Nat.ne_of_gt hzl) p1
   rw [List.map_map] at this
   exact this
  have rel:Vals (ss.map fun v=>v.2.2.2) (ss.map fun v=>v.2.1.toArray.getD i .none):=V3 fun v hv=>by
   obtain ⟨u,e,r⟩:=ys v hv
   rw [show v.2.1.toArray.getD i Value.none=u by simp only [Array.getD_eq_getD_getElem?,e,Option.getD_some]]
   exact r
  have len:(ss.map fun v=>v.2.2.2).length≤sizeLine:=by rw [List.length_map,show ss.length=subs.length by rw [← ess,List.length_map]]; exact hln
  refine ⟨.ref s.heap.objs.size,upd H s.heap.objs.size (.tup (ss.map fun v=>v.2.2.2)),?_,rfl,⟨_,_,rfl,hfr,rfl,?_⟩,⟨z2,?_,?_,fun u hu=>?_⟩,fun b hb=>?_⟩
  ·show Inv X pins σ _ { s with heap:=h2 }
   refine I.step (g':=s.gens) (t':=s.toks) (d':=s.drawn) (ch:=z::TO::subs.map (·.i)) (fun b hb=>?_) (fun b o _ _ hc e _=>kp b o ?_ ?_ ?_ e) (fun b o _ _ hc e _=>⟨o.slots,kp b o ?_ ?_ ?_ e⟩) (fun b o hc e n=>?_) (fun b o hc e=>⟨o,kp b o ?_ ?_ ?_ e⟩) (fun b xs e=>?_) (fun b o u e=>?_) (fun b ps e=>?_) (fun m hm=>?_) ?_ I.bare
   ·simp only [List.mem_cons,List.mem_map] at hb
    rcases hb with rfl | rfl | ⟨u,hu,rfl⟩
    ·exact ⟨fz.2.2.2.1,fz.2.1,fz.2.2.2.2.1,fz.2.2.2.2.2⟩
    ·exact ⟨fT.2.2.2.1,fT.2.1,fT.2.2.2.2.1,fT.2.2.2.2.2⟩
    ·have f:=fi u hu; exact ⟨f.2.2.2.1,f.2.1,f.2.2.2.2.1,f.2.2.2.2.2⟩
   all_goals first
    | (intro q; exact hc (by simp [q]; done))
    | (intro u hu q; exact hc (by rw [q]; exact List.mem_cons_of_mem _ (List.mem_cons_of_mem _ (List.mem_map.mpr ⟨u,hu,rfl⟩))))
    | skip
   ·rw [c7 (Nat.ne_of_lt (Heap.lt_size e))]; exact n
   ·rw [c7 (g8 e hfr)]; exact e
   ·rw [c7 (g8 e hfr)]; exact e
   ·exact ⟨#[],by rw [c7 (g8 e hfr),e]; simp⟩
   ·obtain ⟨o,es,ep,ho,r⟩:=hm
    exact ⟨o,es,ep,kp _ o (Ne.symm fz.2.1) (Ne.symm fT.2.1) (fun u hu=>Ne.symm (fi u hu).2.1) ho,r⟩
   ·intro b u e
    by_cases hb:b=s.heap.objs.size
    ·subst hb
     rw [l7] at e; cases e
     exact ⟨len,_,rel,⟨_,hP2,rfl,_,rfl⟩⟩
    ·rw [c7 hb] at e
     refine (I.hok b u e).stay (fun c v hcc q=>?_) (fun c q=>by rw [c7 (g8 q hfr)]; exact q) fun c xs q=>by rw [c7 (g8 q hfr)]; exact q
     rcases hcc with rfl | hcc
     ·exact kp _ v (trk _ _ e).1 (trk _ _ e).2.1 (trk _ _ e).2.2 q
     ·exact kp _ v (trk _ _ hcc).1 (trk _ _ hcc).2.1 (trk _ _ hcc).2.2 q
  ·rw [← ess,List.map_map]
   exact V3 fun v hv xs hx=>by rw [Sq.inj I hx (hss v hv).1]; exact (hss v hv).2.2.2
  ·exact kp TI _ D.TIz D.TITO (fun u hu=>Ne.symm (D.Ii u hu)) hTI
  ·obtain ⟨arr',hT',ha'⟩:=T1
   exact ⟨arr',sb2.extBut _ _ D.zTO.symm hT',by rw [ha',el]⟩
  ·have hv:∃ v∈ss,v.1=u:=by rw [← ess] at hu; exact List.mem_map.mp hu
   obtain ⟨v,hv,rfl⟩:=hv
   exact (a1 (v.1,v.2.1.toArray) (List.mem_map.mpr ⟨v,hv,rfl⟩)).keep fun o e=>sb2.extBut _ _ (D.zi _ (mss v hv)) e
  ·have:b≠s.heap.objs.size:=by
    simp only [List.mem_cons,List.mem_map] at hb
    rcases hb with rfl | rfl | rfl | ⟨u,hu,rfl⟩
    ·exact Nat.ne_of_lt hzl
    ·exact Nat.ne_of_lt (Heap.lt_size hTI)
    ·exact Nat.ne_of_lt (Heap.lt_size hTO)
    ·obtain ⟨o,e,_⟩:=(hs u hu).obj; exact Nat.ne_of_lt (Heap.lt_size e)
   rw [c7 this]
   exact (hf b hb).1
 done:=by
  intro X hP hw hK hc i pins s σ H E I hf st hg
  subst hP hw hK
  obtain ⟨hz,hTI,⟨arr,hTO,ha⟩,hs⟩:=st
  obtain ⟨hall,u0,hu0,xs0,hq0,hl0⟩:=hg
  have fz:=hf z (by simp)
  have fT:=hf TO (by simp)
  have fi:∀ u∈subs,F3 X pins H u.i:=fun u hu=>hf u.i (by simp only [List.mem_cons,List.mem_map]; exact .inr (.inr (.inr ⟨u,hu,rfl⟩)))
  obtain ⟨ss,ess,hss⟩:=aq (R:=fun (u:Sub) (q:List Value×List V)=>Sq X.K H u.t u.l q.2∧Vals q.2 q.1∧u.Src s.heap q.1.toArray) (l:=subs) (fun u hu=>by
   obtain ⟨xs,h1⟩:=hall (u.t,u.l) (List.mem_map.mpr ⟨u,hu,rfl⟩)
   obtain ⟨its,r,hsrc⟩:=Sq.src I h1
   exact ⟨(its,xs),h1,r,hsrc⟩)
  have mss:∀ v∈ss,v.1∈subs:=fun v hv=>by rw [← ess]; exact List.mem_map.mpr ⟨v,hv,rfl⟩
  have nd2:ss.Pairwise fun u v=>u.1.i≠v.1.i:=by
   have:=D.nd
   rw [← ess,List.pairwise_map] at this
   exact this
  have DA:Apart z TO (ss.map fun v=>(v.1,v.2.1.toArray)):=by
   refine ⟨D.zTO,?_,?_,?_,?_,?_,?_⟩
   ·rintro _ hu; obtain ⟨v,hv,rfl⟩:=List.mem_map.mp hu; exact D.zi _ (mss v hv)
   ·rintro _ hu; obtain ⟨v,hv,rfl⟩:=List.mem_map.mp hu; exact D.ti _ (mss v hv)
   ·rw [List.pairwise_map]; exact nd2
   ·rintro _ hu; obtain ⟨v,hv,rfl⟩:=List.mem_map.mp hu; exact Sq.ne I (hss v hv).1 fz
   ·rintro _ hu; obtain ⟨v,hv,rfl⟩:=List.mem_map.mp hu; exact Sq.ne I (hss v hv).1 fT
   ·rintro _ hu _ hu2; obtain ⟨v,hv,rfl⟩:=List.mem_map.mp hu; obtain ⟨v2,hv2,rfl⟩:=List.mem_map.mp hu2; exact Sq.ne I (hss v hv).1 (fi _ (mss v2 hv2))
  have el:(ss.map fun v=>(v.1,v.2.1.toArray)).length=subs.length:=by rw [List.length_map,← ess,List.length_map]
  have eI:((ss.map fun v=>(v.1,v.2.1.toArray)).map fun u=>Value.ref u.1.i)=subs.map fun u=>Value.ref u.i:=by rw [← ess,List.map_map,List.map_map]; rfl
  refine oP (n:=i) (I.ok.hd hc) DA (by rw [ha,el]) (by rw [el]; exact hln) hz (by rw [eI]; exact hTI) hTO (fun u hu=>?_) ?_ fun h1 k1=>⟨rfl,?_⟩
  ·obtain ⟨v,hv,rfl⟩:=List.mem_map.mp hu
   exact ⟨hs _ (mss v hv),(hss v hv).2.2⟩
  ·obtain ⟨u,hu,e0⟩:=List.mem_map.mp hu0
   have hv:∃ v∈ss,v.1=u:=by rw [← ess] at hu; exact List.mem_map.mp hu
   obtain ⟨v,hv,rfl⟩:=hv
   subst e0
   refine ⟨(v.1,v.2.1.toArray),List.mem_map.mpr ⟨v,hv,rfl⟩,?_⟩
   have e1:=Sq.inj I (hss v hv).1 hq0
   have e2:=(hss v hv).2.1.length
   rw [e1] at e2
   simp only [List.getElem?_toArray]
   exact List.getElem?_eq_none (by omega)
  ·have kp:∀ b o,b≠z→b≠TO→(∀ u∈subs,b≠u.i)→s.heap.get? b=some o→h1.get? b=some o:=fun b o b1 b2 b3 e=>k1 b o b1 b2 (fun u hu=>by obtain ⟨v,hv,rfl⟩:=List.mem_map.mp hu; exact b3 _ (mss v hv)) e
   have trk:∀ b u,H b=some u→b≠z∧b≠TO∧∀ v∈subs,b≠v.i:=fun b u e=>⟨fun q=>(by subst q; rw [fz.1] at e; cases e),fun q=>(by subst q; rw [fT.1] at e; cases e),fun v hv q=>(by subst q; rw [(fi v hv).1] at e; cases e)⟩
   refine I.step (g':=s.gens) (t':=s.toks) (d':=s.drawn) (ch:=z::TO::subs.map (·.i)) (fun b hb=>?_) (fun b o _ _ hc e _=>kp b o ?_ ?_ ?_ e) (fun b o _ _ hc e _=>⟨o.slots,kp b o ?_ ?_ ?_ e⟩) (fun b o hc e n=>n) (fun b o hc e=>⟨o,kp b o ?_ ?_ ?_ e⟩) (fun b xs e=>e) (fun b o u e=>e) (fun b ps e=>⟨#[],by rw [e]; simp⟩) (fun m hm=>?_) (fun b u e=>?_) I.bare
   ·simp only [List.mem_cons,List.mem_map] at hb
    rcases hb with rfl | rfl | ⟨u,hu,rfl⟩
    ·exact ⟨fz.2.2.2.1,fz.2.1,fz.2.2.2.2.1,fz.2.2.2.2.2⟩
    ·exact ⟨fT.2.2.2.1,fT.2.1,fT.2.2.2.2.1,fT.2.2.2.2.2⟩
    ·have f:=fi u hu; exact ⟨f.2.2.2.1,f.2.1,f.2.2.2.2.1,f.2.2.2.2.2⟩
   all_goals first
    | (intro q; exact hc (by simp [q]; done))
    | (intro u hu q; exact hc (by rw [q]; exact List.mem_cons_of_mem _ (List.mem_cons_of_mem _ (List.mem_map.mpr ⟨u,hu,rfl⟩))))
    | skip
   ·obtain ⟨o,es,ep,ho,r⟩:=hm
    exact ⟨o,es,ep,kp _ o (Ne.symm fz.2.1) (Ne.symm fT.2.1) (fun u hu=>Ne.symm (fi u hu).2.1) ho,r⟩
   ·refine (I.hok b u e).stay (fun c v hcc q=>?_) (fun c q=>q) fun c xs q=>q
    rcases hcc with rfl | hcc
    ·exact kp _ v (trk _ _ e).1 (trk _ _ e).2.1 (trk _ _ e).2.2 q
    ·exact kp _ v (trk _ _ hcc).1 (trk _ _ hcc).2.1 (trk _ _ hcc).2.2 q
 self:=fun _ _ _ _ _ st h=>wpAny_pyIter_zip st.1 h
noncomputable def zV (K:Frag) (ta:TA):TI:=fun σ H R=>ta σ H fun vs H1=>∃ us:List (Bool×Addr),vs=us.map (fun u=>V.ref u.2)∧(us.length=2∨us.length=3)∧(∀ u∈us,∃ xs,Sq K H1 u.1 u.2 xs)∧R (ItZ K us) H1
theorem neN {a b:Nat} (h:a≠b):(a:Addr)≠b:=h
theorem mm:∀ {us:List (Bool×Addr)} {vs:List Value},Vals (us.map fun u=>V.ref u.2) vs→vs=us.map fun u=>Value.ref u.2:=by
 intro us
 induction us with
 | nil=>intro vs h; cases h; rfl
 | cons u us ih=>
  intro vs h
  cases h with
  | cons r t=>
   have r':_=Value.ref _:=r
   rw [r',ih t]; rfl
theorem bL:∀ (us:List (Bool×Addr×Array Value)) (n:Nat),∀ v∈j4 n us,n≤v.1.i∧n+us.length>v.1.i:=by
 intro us
 induction us with
 | nil=>exact fun _ _ h=>absurd h List.not_mem_nil
 | cons u r ih=>
  intro n v h
  rcases List.mem_cons.mp h with rfl | h
  ·exact ⟨Nat.le_refl _,by show n+(r.length+1)>n; omega⟩
  ·have:=ih (n+1) v h
   rw [List.length_cons]; omega
theorem js:∀ (us:List (Bool×Addr×Array Value)) (n:Nat),(j4 n us).Pairwise fun u v=>u.1.i≠v.1.i
 | [],_=>.nil
 | u::r,n=>by
  refine List.pairwise_cons.mpr ⟨fun v hv=>?_,js r (n+1)⟩
  have:=bL r (n+1) v hv
  show (n:Nat)≠v.1.i
  omega
theorem gJ:∀ (us:List (Bool×Addr×Array Value)) (n:Nat),(j4 n us).map (fun u=>(u.1.t,u.1.l))=us.map fun u=>(u.1,u.2.1)
 | [],_=>rfl
 | u::r,n=>by unfold j4; rw [List.map_cons,gJ r,List.map_cons]
section
variable {X:Cx}
theorem yF {a:Expr} {es elts:List Expr} {ta:TA} {p pos tp:Pos} {k:Nat} (hg:Gl X "zip") (hm:X.mg "zip" = none) (ha:PA X (a::es) ta) (hs:autoParam (starEach (a::es) X.env=(false,eval a X.env)::starEach es X.env) au0._auto_1)
  (hpl:autoParam ((backTo pos (starEach es X.env)).any (·.1)=false) au0._auto_1):PI X (.Tuple elts k tp) (.Call (.Name "zip" p) (a::es) [] pos) (zV X.K ta):=by
 intro pins s σ H R I h
 refine Call_ (Q0 I hg hm boot_zip (PyProof.Rows.callWith_type1 (thn (ha pos pins s σ H _ I h) fun vs s1 zz56=>?_) hs hpl))
 obtain ⟨xs,H1,I1,r1,us,e1,hl,hsq,q⟩:=zz56
 subst e1
 have e2:=mm r1
 subst e2
 obtain ⟨ws,ew,hws⟩:=aq (R:=fun (u:Bool×Addr) (its:Array Value)=>SrcAt s1.heap (u.1,u.2,its)) (l:=us) (fun u hu=>by
  obtain ⟨ys,hy⟩:=hsq u hu
  obtain ⟨its,_,hsrc⟩:=Sq.src I1 hy
  exact ⟨its.toArray,by unfold SrcAt; unfold Sub.Src at hsrc; exact hsrc⟩)
 have ev:us.map (fun u=>Value.ref u.2)=(ws.map fun w=>(w.1.1,w.1.2,w.2)).map fun u=>Value.ref u.2.1:=by rw [← ew,List.map_map,List.map_map]; rfl
 have el:(ws.map fun w=>(w.1.1,w.1.2,w.2)).length=us.length:=by rw [← ew,List.length_map,List.length_map]
 rw [ev]
 generalize hW:(ws.map fun w=>(w.1.1,w.1.2,w.2))=W at el ev
 have hsw:∀ u∈W,SrcAt s1.heap u:=fun u hu=>by
  rw [← hW] at hu
  obtain ⟨w,hw,rfl⟩:=List.mem_map.mp hu
  exact hws w hw
 refine rM W (by rw [el]; exact hl) hsw fun h' hA hTI hTO hz hk=>wpAny_pyIter_zip hz ?_
 have I2:Inv X pins σ H1 { s1 with heap:=h' }:=I1.kept (t':=s1.toks) hk
 have eS:((j4 s1.heap.objs.size W).map (·.1)).map (fun u=>(u.t,u.l))=us:=by
  rw [List.map_map]
  show (j4 s1.heap.objs.size W).map (fun u=>(u.1.t,u.1.l))=us
  rw [gJ,← hW,List.map_map,← ew]
  rfl
 have D:ZSt (s1.heap.objs.size+W.length+2) (s1.heap.objs.size+W.length) (s1.heap.objs.size+W.length+1) ((j4 s1.heap.objs.size W).map (·.1)):=by
  refine ⟨neN (by omega),neN (by omega),neN (by omega),?_,?_,?_,?_⟩
  ·rintro _ hu; obtain ⟨v,hv,rfl⟩:=List.mem_map.mp hu; have:=bL W _ v hv; exact neN (by omega)
  ·rintro _ hu; obtain ⟨v,hv,rfl⟩:=List.mem_map.mp hu; have:=bL W _ v hv; exact neN (by omega)
  ·rintro _ hu; obtain ⟨v,hv,rfl⟩:=List.mem_map.mp hu; have:=bL W _ v hv; exact neN (by omega)
  ·rw [List.pairwise_map]; exact js W _
 have ls:((j4 s1.heap.objs.size W).map (·.1)).length=W.length:=by rw [List.length_map,S3]
 have TZ:=oV (P:=X.prog) (w:=X.w) (K:=X.K) (elts:=elts) (k:=k) (tp:=tp) D (by intro q; have:=congrArg List.length q; rw [ls,el] at this; have h0:us.length=0:=this; omega) (by rw [ls,el]; exact Nat.le_trans (show us.length≤3 by omega) (by decide))
 rw [eS] at TZ
 refine ⟨_,_,_,_,H1,rfl,I2,TZ,⟨hz,?_,?_,fun u hu=>?_⟩,fun b hb=>?_,q⟩
 ·rw [List.map_map]; exact hTI
 ·obtain ⟨arr,h1,h2⟩:=hTO
  exact ⟨arr,h1,by rw [ls]; exact h2⟩
 ·obtain ⟨v,hv,rfl⟩:=List.mem_map.mp hu
  exact hA v hv
 ·have hb':s1.heap.objs.size≤b:=by
   simp only [List.mem_cons,List.mem_map] at hb
   rcases hb with rfl | rfl | rfl | ⟨_,⟨v,hv,rfl⟩,rfl⟩
   ·omega
   ·omega
   ·omega
   ·exact (bL W _ v hv).1
  have f:=I1.fpOk (H':=H1) hb' (I1.hok.fresh hb')
  exact f
end
end L2
namespace L2
open PySem PySem.Spec PyProof.Rows
theorem K9 (cs:Scope) (env:Env) (x:Str):(relabel cs env).names.lookup x=(cs.names.lookup x).map fun k=>if (k == .free&&env.scope.kind == .function&&env.kindOf x == some .cell)=true then .cell else k:=by
 unfold relabel
 show List.lookup x (cs.names.map _)=_
 induction cs.names with
 | nil=>rfl
 | cons p r ih=>
  obtain ⟨n,k⟩:=p
  by_cases hx:x=n
  ·subst hx
   rw [List.map_cons]
   simp only [List.lookup_cons]
   split <;> simp_all
  ·have hb:(x == n)=false:=by simpa using hx
   have er:List.lookup x ((n,k)::r)=List.lookup x r:=by rw [List.lookup_cons,hb]
   rw [List.map_cons,er]
   refine Eq.trans ?_ ih
   dsimp only
   by_cases hc:(k == NameKind.free&&env.scope.kind == ScopeKind.function&&env.kindOf n == some NameKind.cell)=true
   ·rw [if_pos hc,List.lookup_cons,hb]
   ·rw [if_neg hc,List.lookup_cons,hb]
theorem eA {env : Env} : ∀ (names : List (Str × NameKind)) (cs0 : List (Str × Addr)), (∀ x ∈ names, x.2 = .free → ∃ c, env.cells.lookup x.1 = some c) → (∀ x c, cs0.lookup x = some c → env.cells.lookup x = some c) →
    ∃ cl, (forIn (m := Sem) names cs0 fun x __s => if (x.snd == NameKind.free) = true then do
              let __do_lift ← cellOf env x.fst
              pure (ForInStep.yield ((x.fst, __do_lift) :: __s))
            else pure (ForInStep.yield __s)) = pure cl ∧ (∀ x c, cl.lookup x = some c → env.cells.lookup x = some c) ∧ (∀ x, (x, NameKind.free) ∈ names → ∃ c, cl.lookup x = some c) ∧ ∀ x c, cs0.lookup x = some c → ∃ c', cl.lookup x = some c' := by
  intro names
  induction names with
  | nil =>
    intro cs0 _ h0
    exact ⟨cs0, by simp only [List.forIn_nil], h0, fun _ h => absurd h List.not_mem_nil, fun _ c h => ⟨c, h⟩⟩
  | cons p r ih =>
    intro cs0 hf h0
    obtain ⟨n, k⟩ := p
    by_cases hk : k = .free
    · subst hk
      obtain ⟨c, hc⟩ := hf (n, .free) List.mem_cons_self rfl
      obtain ⟨cl, e, h1, h2, h3⟩ := ih ((n, c) :: cs0) (fun x hx => hf x (List.mem_cons_of_mem _ hx)) (fun x c' hx => by
        rw [List.lookup_cons] at hx
        split at hx
        · rename_i hb
          have hxn : x = n := by simpa using hb
          cases hx; rw [hxn]; exact hc
        · exact h0 x c' hx)
      have hn : ∃ c', cl.lookup n = some c' := h3 n c (by simp)
      refine ⟨cl, ?_, h1, fun x hx => ?_, fun x c' hx => ?_⟩
      · rw [List.forIn_cons]
        simp only [beq_self_eq_true, if_true, cellOf, hc]
        exact e
      · rcases List.mem_cons.mp hx with q | hx
        · cases q; exact hn
        · exact h2 x hx
      · by_cases hxn : x = n
        · subst hxn; exact hn
        · exact h3 x c' (by
            have hb : (x == n) = false := by simpa using hxn
            rw [List.lookup_cons, hb]; exact hx)
    · have hb : (k == NameKind.free) = false := by simpa using hk
      obtain ⟨cl, e, h1, h2, h3⟩ := ih cs0 (fun x hx => hf x (List.mem_cons_of_mem _ hx)) h0
      refine ⟨cl, ?_, h1, fun x hx => ?_, h3⟩
      · rw [List.forIn_cons]
        simp only [hb, Bool.false_eq_true, if_false]
        exact e
      · rcases List.mem_cons.mp hx with q | hx
        · cases q; exact absurd rfl hk
        · exact h2 x hx
structure i4 (sc cs:Scope) (N N':List Str):Prop where
 kind:cs.kind=.function
 ncell:∀ x∈cs.names,x.2≠.cell
 loc:∀ x∈cs.names,x.2=.local→cs.names.lookup x.1=some .local
 free:∀ x∈cs.names,x.2=.free→sc.names.lookup x.1=some .cell∨sc.names.lookup x.1=some .free
 nd:N'.Nodup
 len:N.length≤N'.length
 same:∀ i∈List.range N.length,N'[i]?=N[i]?∨∀ x∈N'[i]?,cs.names.lookup x=none
 out:∀ x∈N'.take N.length,cs.names.lookup x≠some .local
noncomputable abbrev l5 (X:Cx) (cs:Scope) (cl:List (Str×Addr)) (N':List Str) (ex:List Addr) (s:Shared) (H:Hp):Cx:=
 { X with N:=N',s₀:=s,H₀:=H,env:=compEnvC cs cl s.heap.objs.size X.env,outer:=X.stack,stack:=X.stack,ex:=ex,fn:=fun _=>false,pn:=[],xe:=fun _ _=>False }
noncomputable def inner (N':List Str) (σ:St):St:=σ++List.replicate (N'.length-σ.length) none
theorem fV {N':List Str} {σ:St} {i:Nat} {v:V} (h:(inner N' σ)[i]?=some (some v)):σ[i]?=some (some v):=by
 unfold inner at h
 by_cases hi:i<σ.length
 ·rwa [List.getElem?_append_left hi] at h
 ·rw [List.getElem?_append_right (by omega),List.getElem?_replicate] at h
  split at h <;> cases h
theorem rJ {X:Cx} {pins:List (Addr×Obj)} {σ:St} {H:Hp} {s3 s4:Shared} {cs:Scope} {cl:List (Str×Addr)} {N':List Str} {fp:List Addr} {m:Str→Option Value} (S:i4 X.env.scope cs X.N N') (I:Inv X pins σ H s3)
  (hcl1:∀ x c,cl.lookup x=some c→X.env.cells.lookup x=some c) (hcl2:∀ x,(x,NameKind.free)∈cs.names→∃ c,cl.lookup x=some c) (hf:∀ b∈fp,F3 X pins H b) (hlt:∀ b∈fp,b<s3.heap.objs.size)
  (kp:∀ b o,s3.heap.get? b=some o→s4.heap.get? b=some o) (hn:s4.heap.Ns s3.heap.objs.size m) (hos:s4.os=s3.os) (hg:s4.gens=s3.gens):Inv (l5 X cs cl N' fp s3 H) [] (inner N' σ) H s4:=by
 have kcell:∀ {c:Addr} {v:Option Value},s3.heap.IsCell c v→s4.heap.IsCell c v:=fun {c v} z=>by obtain ⟨o,e,d⟩:=z; exact ⟨o,kp c o e,d⟩
 refine ⟨⟨I.ok.mod,S.kind,I.ok.glob,I.ok.blt,Nat.le_refl _,fun x y c h1 h2=>I.ok.inj x y c (hcl1 x c h1) (hcl1 y c h2),fun x hx=>?_,fun x c h _=>absurd (show false=true from h) (by decide),I.ok.hd,I.ok.frames,.inl rfl,fun b hb=>⟨?_,fun x c e=>(hf b hb).2.2.2.2.1 x c (hcl1 x c e)⟩,I.bs,Nat.le_trans I.ok.bsz I.sz,fun b o e hb=>?_,fun b hb hfs=>?_,I.stack,I.stkFree⟩,
  hos,by rw [hg]; exact I.bare,Un.kept kp,⟨m,hn,fun i x v e1 e2 e3=>?_⟩,fun x c e=>?_,I.hok.fresh (Nat.le_refl _),fun x c e=>I.freeC x c (hcl1 x c e),fun p hp=>absurd (show p∈([]:List (Addr×Obj)) from hp) (by simp),I.hok.kept kp,?_⟩
 ·have hx':(relabel cs X.env).names.lookup x=some .cell∨(relabel cs X.env).names.lookup x=some .free:=hx
  rw [K9] at hx'
  cases hl:cs.names.lookup x with
  | none=>rw [hl] at hx'; rcases hx' with h | h <;> cases h
  | some k=>
   have hm:=PySem.mem_of_lookup hl
   by_cases hk:k=.free
   ·subst hk; exact hcl2 x hm
   ·exfalso
    have hb:(k == NameKind.free)=false:=by simpa using hk
    rw [hl] at hx'
    simp only [Option.map_some,hb,Bool.false_and,Bool.false_eq_true,if_false] at hx'
    rcases hx' with h | h
    ·cases h; exact S.ncell _ hm rfl
    ·cases h; exact hk rfl
 ·intro q
  have hb':b=s3.heap.objs.size:=q
  exact absurd (hlt b hb) (by rw [hb']; exact Nat.lt_irrefl _)
 ·obtain ⟨f0,f1,f2,f3,f4,f5⟩:=hf b hb
  rcases f3 with z | z
  ·exact I.ok.noex b o e z
  ·exact absurd (Nat.lt_of_lt_of_le (Heap.lt_size (I.ok.bs b o e).1) z) (Nat.lt_irrefl _)
 ·have hfs':b∈frs X.stack:=hfs
  rcases List.mem_cons.mp (I.stkSub b hfs') with z | z
  ·exact (hf b hb).2.1 z
  ·exact (hf b hb).2.2.1 z
 ·have e2':=fV e2
  have hi:i<X.N.length:=by rw [← I.len]; exact (List.getElem?_eq_some_iff.mp e2').1
  have e1':N'[i]?=some x:=e1
  have e3':Vis (relabel cs X.env) x:=e3
  have hv:∃ k,cs.names.lookup x=some k:=by
   unfold Vis at e3'
   rw [K9] at e3'
   cases hl:cs.names.lookup x with
   | none=>rw [hl] at e3'; rcases e3' with h | h | h <;> cases h
   | some k=>exact ⟨k,rfl⟩
  obtain ⟨k,hk⟩:=hv
  have hN:X.N[i]?=some x:=by
   rcases S.same i (List.mem_range.mpr hi) with q | q
   ·rw [← q]; exact e1'
   ·have:=q x (by rw [e1']; rfl)
    rw [hk] at this; cases this
  have hnl:k≠.local:=fun q=>by
   subst q
   exact S.out x (List.mem_of_getElem? (i:=i) (by rw [List.getElem?_take_of_lt hi]; exact e1')) hk
  have hm:=PySem.mem_of_lookup hk
  have hfree:k=.free:=by
   unfold Vis at e3'
   rw [K9,hk] at e3'
   by_cases hkf:k=.free
   ·exact hkf
   ·exfalso
    have hb:(k == NameKind.free)=false:=by simpa using hkf
    simp only [Option.map_some,hb,Bool.false_and,Bool.false_eq_true,if_false] at e3'
    rcases e3' with h | h | h
    ·exact hnl (Option.some.inj h)
    ·exact S.ncell _ hm (Option.some.inj h)
    ·exact hkf (Option.some.inj h)
  subst hfree
  obtain ⟨m0,hn0,hl0⟩:=I.loc
  have hvis:Vis X.env.scope x:=by
   rcases S.free _ hm rfl with h | h
   ·exact .inr (.inl h)
   ·exact .inr (.inr h)
  obtain ⟨u,r,l⟩:=hl0 i x v hN e2' hvis
  refine ⟨u,r,.inr ⟨?_,?_⟩⟩
  ·show (relabel cs X.env).names.lookup x=some .cell∨(relabel cs X.env).names.lookup x=some .free
   rw [K9,hk]
   show some (if _ then _ else _)=_∨some (if _ then _ else _)=_
   split
   ·exact .inl rfl
   ·exact .inr rfl
  ·obtain ⟨c,hc⟩:=hcl2 x hm
   have hc':=hcl1 x c hc
   rcases l with ⟨q,_⟩ | ⟨_,c',e,z⟩
   ·exfalso
    have q':X.env.scope.names.lookup x=some .local:=q
    rcases S.free _ hm rfl with h | h <;> (rw [q'] at h; cases h)
   ·rw [hc'] at e; cases e
    exact ⟨c,hc,kcell z⟩
 ·obtain ⟨v,z⟩:=I.cell x c (hcl1 x c e)
  exact ⟨v,kcell z⟩
 ·unfold inner
  rw [List.length_append,List.length_replicate,I.len]
  have:=S.len
  show _=N'.length
  omega
noncomputable def Z9 (n:Nat) (g:TG):Prop:=∀ (v:V) (σ:St) (H:Hp) (Q:St→Hp→Prop),g v σ H Q→g v σ H fun σ2 H2=>Q σ2 H2∧σ2.length=σ.length∧∀ j,j<n→σ2[j]?=σ[j]?
noncomputable def eH (n:Nat) (g:TGs):Prop:=∀ (vs:List V) (σ:St) (H:Hp) (Q:St→Hp→Prop),g vs σ H Q→g vs σ H fun σ2 H2=>Q σ2 H2∧σ2.length=σ.length∧∀ j,j<n→σ2[j]?=σ[j]?
theorem u7 {n i:Nat} (h:n≤i):Z9 n (Q3 i):=fun v σ H Q q=>⟨q,by simp,fun j hj=>List.getElem?_set_ne (by omega)⟩
theorem aI {n:Nat}:eH n gNil:=fun vs σ H Q zz57=>by obtain ⟨e,q⟩:=zz57; exact ⟨e,q,rfl,fun _ _=>rfl⟩
theorem x8 {n i:Nat} {u:TGs} (h:n≤i) (hu:eH n u):eH n (lD (Q3 i) u):=fun vs σ H Q zz58=>by
 obtain ⟨v,r,e,q⟩:=zz58
 refine ⟨v,r,e,?_⟩
 have q':=hu r (σ.set i (some v)) H Q q
 show u r (σ.set i (some v)) H _
 have e1:∀ σ2:St,(σ2.length=(σ.set i (some v)).length∧∀ j,j<n→σ2[j]?=(σ.set i (some v))[j]?)=(σ2.length=σ.length∧∀ j,j<n→σ2[j]?=σ[j]?):=fun σ2=>by
  have:∀ j,j<n→(σ.set i (some v))[j]?=σ[j]?:=fun j hj=>List.getElem?_set_ne (by omega)
  rw [List.length_set]
  exact propext ⟨fun zz59=>by obtain ⟨a,b⟩:=zz59; exact ⟨a,fun j hj=>(b j hj).trans (this j hj)⟩,fun zz60=>by obtain ⟨a,b⟩:=zz60; exact ⟨a,fun j hj=>(b j hj).trans (this j hj).symm⟩⟩
 have e2:(fun (σ2:St) (H2:Hp)=>Q σ2 H2∧σ2.length=σ.length∧∀ j,j<n→σ2[j]?=σ[j]?)=fun σ2 H2=>Q σ2 H2∧σ2.length=(σ.set i (some v)).length∧∀ j,j<n→σ2[j]?=(σ.set i (some v))[j]?:=by
  funext σ2 H2; rw [e1]
 rw [e2]; exact q'
theorem aH {K:Frag} {n k:Nat} {u:TGs} (hu:eH n u):Z9 n (lB K k u):=fun v σ H Q zz61=>by obtain ⟨a,xs,e,h1,h2,q⟩:=zz61; exact ⟨a,xs,e,h1,h2,hu xs σ H Q q⟩
noncomputable def PIf (X:Cx) (ifs:List Expr) (t:TT):Prop:=
 ∀ (pins:List (Addr×Obj)) (s:Shared) (σ:St) (H:Hp) (Q:Bool→Hp→Prop),Inv X pins σ H s→t σ H Q →
  wpAny (model X.prog X.w) X.A (forIn ifs true fun c r=>if r=true then do let ok ← isTrue c X.env (eval c X.env); pure (ForInStep.yield ok) else pure (ForInStep.yield r)) (TP X pins σ Q) X.xe s
noncomputable def tYes:TT:=fun _ H Q=>Q true H
theorem uE {X:Cx}:PIf X [] tYes:=fun _ _ _ H _ I h=>wpAny_tests_nil ⟨H,I,h⟩
theorem uD {X:Cx} {c:Expr} {t:TT} (h:PT X c t):PIf X [c] t:=fun pins s σ H Q I q=>wpAny_tests_one (h pins s σ H Q I q)
noncomputable def tj (J:It) (D:Addr) (g:TG) (tc:TT) (te:TE) (σ':St) (H1:Hp) (Q:Hp→Prop):Prop:=
 ∃ W:Nat→Nat→Hp→Prop,(∃ m,W 0 m (upd H1 D (.lst [])))∧∀ i m H2,W i m H2 →
  (J.stop i H2∧Q H2)∨(J.go i H2∧∀ x H3,J.yld i H2 x H3→g x σ' H3 fun σ4 H4=>tc σ4 H4 fun b H5=>
   if b=true then te σ4 H5 fun y H6=>∃ ys,H6 D=some (.lst ys)∧ys.length<sizeLine∧∃ m',m'<m∧W (i+1) m' (upd H6 D (.lst (ys ++ [y])))
   else ∃ m',m'<m∧W (i+1) m' H5)
noncomputable def kA (N':List Str) (wi:TI) (g:TG) (tc:TT) (te:TE):TE:=fun σ H Q=>wi σ H fun J H1=>∀ D,H1 D=none→tj J D g tc te (inner N' σ) H1 (Q (.ref D))
section
variable {X:Cx} {cs:Scope} {N':List Str} {tg iter elt:Expr} {ifs:List Expr} {wi:TI} {g:TG} {tc:TT} {te:TE} {pos:Pos}
theorem Cj {cl:List (Str×Addr)} {pins:List (Addr×Obj)} {fp:List Addr} {H3 H':Hp} {s3:Shared} (hcl1:∀ x c,cl.lookup x=some c→X.env.cells.lookup x=some c) (stk:∀ b∈frs X.stack,b∈X.env.locals::X.fs)
  (hf3:∀ b∈fp,F3 X pins H3 b) (hlt:∀ b∈fp,b<s3.heap.objs.size) (hn:∀ b∈fp,H' b=none):∀ b∈fp,F3 (l5 X cs cl N' fp s3 H3) [] H' b:=fun b hb=>by
 obtain ⟨f0,f1,f2,f3,f4,f5⟩:=hf3 b hb
 refine ⟨hn b hb,Nat.ne_of_lt (hlt b hb),fun hfs=>?_,.inl hb,fun x c e=>f4 x c (hcl1 x c e),fun p hp=>absurd (show p∈([]:List (Addr×Obj)) from hp) (by simp)⟩
 have hfs':b∈frs X.stack:=hfs
 rcases List.mem_cons.mp (stk b hfs') with z | z
 ·exact f1 z
 ·exact f2 z
theorem ow {cl:List (Str×Addr)} {pins:List (Addr×Obj)} {σ:St} {R:Result→Shared→Prop} {Q:Hp→Prop} {s3 s4:Shared} {H3:Hp} {it D:Addr} {fp:List Addr} {tn:Nat→Heap→Prop} {J:It} {W:Nat→Nat→Hp→Prop} {m0:Nat}
  (hc:X.calm=true) (hg:PG (l5 X cs cl N' fp s3 H3) tg g) (hk:Z9 X.N.length g) (ht:PIf (l5 X cs cl N' fp s3 H3) ifs tc) (he:PE (l5 X cs cl N' fp s3 H3) elt te)
  (hcl1:∀ x c,cl.lookup x=some c→X.env.cells.lookup x=some c)
  (I3:Inv X pins σ H3 s3) (I4:Inv (l5 X cs cl N' fp s3 H3) [] (inner N' σ) H3 s4) (T:Turn X.prog X.w X.K tg J fp it tn) (st:tn 0 s4.heap) (hf3:∀ b∈fp,F3 X pins H3 b) (hlt:∀ b∈fp,b<s3.heap.objs.size)
  (w0:W 0 m0 H3)
  (turn:∀ i m H2,W i m H2→(J.stop i H2∧Q H2)∨(J.go i H2∧∀ x H3,J.yld i H2 x H3→g x (inner N' σ) H3 fun σ4 H4=>tc σ4 H4 fun b H5=>
   if b=true then te σ4 H5 fun y H6=>∃ ys,H6 D=some (.lst ys)∧ys.length<sizeLine∧∃ m',m'<m∧W (i+1) m' (upd H6 D (.lst (ys ++ [y])))
   else ∃ m',m'<m∧W (i+1) m' H5))
  (hR:∀ (H':Hp) (s':Shared),Inv X pins σ H' s'→Q H'→(∃ m,s'.heap.Ns s3.heap.objs.size m)→F3 X pins H' s3.heap.objs.size→R (.ok .next) s') :
  codeAny (model X.prog X.w) X.A (.compLoop (.ListComp elt [⟨tg,iter,ifs,0⟩] cs pos) 0 (.ref it) (.ref D) (l5 X cs cl N' fp s3 H3).env) R s4:=by
 have fpx:∀ {H':Hp},(∀ b∈fp,H' b=none)→∀ b∈fp,F3 (l5 X cs cl N' fp s3 H3) [] H' b:=fun hn=>Cj hcl1 I3.stkSub hf3 hlt hn
 have lσ:(inner N' σ).length=N'.length:=I4.len
 refine codeAny_loop rfl (fun n s'=>∃ i H',Inv (l5 X cs cl N' fp s3 H3) [] (inner N' σ) H' s'∧tn i s'.heap∧(∀ b∈fp,H' b=none)∧W i n H') (fun n s5 hI=>?_) m0 ⟨0,H3,I4,st,fun b hb=>(hf3 b hb).1,w0⟩
 obtain ⟨i,H5,I5,st5,fr5,w5⟩:=hI
 show wpAny _ _ ((compTurn (.ListComp elt [⟨tg,iter,ifs,0⟩] cs pos) 0 (.ref it) (.ref D) (l5 X cs cl N' fp s3 H3).env).onRaise _) _ _ s5
 refine wpAny_noted ?_
 rw [compTurn_list]
 refine wpAny_bind (wpAny_standAt (wpAny_bind ?_))
 have cvt:∀ {α:Type} {t:Sem α} {P:α→Shared→Prop} {E':Value→Shared→Prop} {s:Shared},wpAny (model X.prog X.w) X.A t P (fun _ _=>False) s→wpAny (model X.prog X.w) X.A t P E' s:=fun h=>wpAny_mono h (fun _ _ q=>q) fun _ _ q=>q.elim
 rcases turn i n H5 w5 with ⟨stop,q⟩ | ⟨go,step⟩
 ·refine thn (T.done (l5 X cs cl N' fp s3 H3) rfl rfl rfl hc i [] s5 _ H5 _ I5 (fpx fr5) st5 stop) fun r s6 ⟨hr,I6⟩=>?_
  subst hr
  refine wpAny_pure ?_
  have J6:Inv X pins σ H5 s6:=I3.call' (H':=H5) (ch:=fp) I6.os I6.base I6.hok I6.bare fun b hb=>by
   obtain ⟨f0,f1,f2,f3,f4,f5⟩:=hf3 b hb
   exact ⟨f3,f1,f4,f5⟩
  obtain ⟨m,hn,_⟩:=I6.loc
  exact hR H5 s6 J6 q ⟨m,hn⟩ (I3.fpOk (Nat.le_refl _) I6.free)
 ·refine thn (T.item (l5 X cs cl N' fp s3 H3) rfl rfl rfl hc i [] s5 _ H5 _ I5 (fpx fr5) st5 go) fun r s6 ⟨u,hr,h6⟩=>?_
  subst hr
  refine wpAny_bind (thn h6 fun _ s7 zz64=>?_)
  obtain ⟨x,H7,I7,r7,y7,st7,fr7⟩:=zz64
  have I7':=I7.pinned (fpx fr7) (T.obj _ _ st7)
  refine wpAny_bind (cvt (thn (hg _ s7 _ H7 x u _ I7' r7 (hk x _ H7 _ (step x H7 y7))) fun _ s8 zz65=>?_))
  obtain ⟨σ8,H8,I8,q8,l8,k8⟩:=zz65
  refine wpAny_bind (cvt (thn (ht _ s8 σ8 H8 _ I8 q8) fun b s9 zz66=>?_))
  obtain ⟨H9,I9,q9⟩:=zz66
  have again:∀ {s':Shared} {H':Hp},Inv (l5 X cs cl N' fp s3 H3) ([]++bX fp s7.heap) σ8 H' s'→(∃ m',m'<n∧W (i+1) m' H') →
    ∃ m',m'<n∧∃ i H',Inv (l5 X cs cl N' fp s3 H3) [] (inner N' σ) H' s'∧tn i s'.heap∧(∀ b∈fp,H' b=none)∧W i m' H':=fun {s' H'} I' zz67=>by
   obtain ⟨m',hm,w'⟩:=zz67
   refine ⟨m',hm,i+1,H',(I'.unpinned).weak (by rw [l8]) (fun j v e=>?_),T.keep _ _ _ st7 fun b hb o e=>(I'.pin (b,o) (List.mem_append_right _ (List.mem_append_right _ (V6 hb e)))).1,fun b hb=>?_,w'⟩
   ·have hj:j<X.N.length:=by rw [← I3.len]; exact (List.getElem?_eq_some_iff.mp (fV e)).1
    rw [k8 j hj]; exact e
   ·obtain ⟨o,e,d⟩:=T.obj _ _ st7 b hb
    exact (I'.pin (b,o) (List.mem_append_right _ (List.mem_append_right _ (V6 hb e)))).2.1
  cases b with
  | false=>
   have q9':∃ m',m'<n∧W (i+1) m' H9:=q9
   exact wpAny_pure ⟨rfl,again I9 q9'⟩
  | true=>
   have q9':te σ8 H9 _:=q9
   refine wpAny_bind (wpAny_bind (cvt (thn (he _ s9 σ8 H9 _ I9 q9') fun v s10 zz68=>?_)))
   obtain ⟨y,H10,I10,r10,ys,hD,hy,q10⟩:=zz68
   refine wpAny_bind (cvt (thn (fN _ s10 σ8 H10 (.ref D) [y] (.ref D) [v] (fun _ H'=>∃ m',m'<n∧W (i+1) m' H') I10 rfl (.cons r10 .nil) ⟨D,ys,y,rfl,rfl,hD,hy,q10⟩) fun _ s11 zz69=>?_))
   obtain ⟨_,H11,I11,_,q11⟩:=zz69
   exact wpAny_pure (wpAny_pure ⟨rfl,again I11 q11⟩)
theorem fX {cl:List (Str×Addr)} {pins:List (Addr×Obj)} {σ:St} {R:Value→Addr→Result→Shared→Prop} {Q:V→Hp→Prop} {s2:Shared} {itv:Value} (S:i4 X.env.scope cs X.N N') (hc:X.calm=true)
  (hg:∀ cl ex s H,PG (l5 X cs cl N' ex s H) tg g) (hk:Z9 X.N.length g) (ht:∀ cl ex s H,PIf (l5 X cs cl N' ex s H) ifs tc) (he:∀ cl ex s H,PE (l5 X cs cl N' ex s H) elt te)
  (hcl1:∀ x c,cl.lookup x=some c→X.env.cells.lookup x=some c) (hcl2:∀ x,(x,NameKind.free)∈cs.names→∃ c,cl.lookup x=some c)
  (h:PIE X pins σ tg (fun J H1=>∀ D,H1 D=none→tj J D g tc te (inner N' σ) H1 (Q (.ref D))) itv s2)
  (hR:∀ (D C:Addr) (H':Hp) (s':Shared),Inv X pins σ H' s'→Q (.ref D) H'→(∃ m,s'.heap.Ns C m)→F3 X pins H' C→R (.ref D) C (.ok .next) s') :
  wpAny (model X.prog X.w) X.A (newList []) (fun acc s₃=>wpAny (model X.prog X.w) X.A (newFunctionEnv cs X.env.globals cl [] X.env.qual none .none (some X.env)) (fun cenv s₄=>
   codeAny (model X.prog X.w) X.A (.compStart (.ListComp elt [⟨tg,iter,ifs,0⟩] cs pos) 0 itv acc { cenv with scope:=relabel cs X.env }) (R acc cenv.locals) s₄) X.xe s₃) X.xe s2:=by
 obtain ⟨it,fp,tn,J,H2,e,I2,T,st2,f2,hw⟩:=h
 subst e
 refine wpAny_newObj_type (wpAny_newFunctionEnv S.ncell (by intro y hy; simp at hy) (fun h1 hns1 hsb1=>?_) S.kind)
 dsimp only at hns1 hsb1 ⊢
 have hD:=I2.hok.fresh (Nat.le_refl _)
 obtain ⟨W,⟨m0,w0⟩,turn⟩:=hw s2.heap.objs.size hD
 have I3:Inv X pins σ (upd H2 s2.heap.objs.size (.lst [])) { s2 with heap:=s2.heap.push { cls:=.type "list",dict:=none,data:=.seq ([]:List Value).toArray } }:=I2.lnew (t':=s2.toks) .nil (Nat.zero_le _)
 have hfp3:∀ b∈fp,b<s2.heap.objs.size:=fun b hb=>by
  obtain ⟨o,e,_⟩:=T.obj 0 _ st2 b hb
  exact Heap.lt_size e
 have hf3:∀ b∈fp,F3 X pins (upd H2 s2.heap.objs.size (.lst [])) b:=fun b hb=>by
  obtain ⟨f0,r⟩:=f2 b hb
  exact ⟨by rw [c7 (Nat.ne_of_lt (hfp3 b hb))]; exact f0,r⟩
 have hlt:∀ b∈fp,b<(s2.heap.push { cls:=.type "list",dict:=none,data:=.seq ([]:List Value).toArray }).objs.size:=fun b hb=>by rw [Heap.size_push]; exact Nat.lt_succ_of_lt (hfp3 b hb)
 have kp:∀ b o,(s2.heap.push { cls:=.type "list",dict:=none,data:=.seq ([]:List Value).toArray }).get? b=some o→h1.get? b=some o:=fun b o e=>hsb1.extBut b o (Nat.ne_of_lt (Heap.lt_size e)) (Heap.get?_push_of_some _ e)
 have I4:=rJ (cs:=cs) (cl:=cl) (N':=N') (fp:=fp) (s4:={ s2 with heap:=h1,toks:=s2.toks+([]:List (Str×Value)).length }) S I3 hcl1 hcl2 hf3 hlt kp hns1 rfl rfl
 have st4:tn 0 h1:=T.keep 0 _ _ st2 fun b hb o e=>kp b o (Heap.get?_push_of_some _ e)
 have loop:=ow (R:=R (.ref s2.heap.objs.size) (s2.heap.push { cls:=.type "list",dict:=none,data:=.seq ([]:List Value).toArray }).objs.size) (D:=s2.heap.objs.size) (iter:=iter) (pos:=pos) (it:=it) (Q:=Q (.ref s2.heap.objs.size)) hc (hg cl fp _ _) hk (ht cl fp _ _) (he cl fp _ _) hcl1 I3 I4 T st4 hf3 hlt w0 turn fun H' s' I' q n f=>hR _ _ H' s' I' q n f
 exact codeAny_compStart_list loop (T.self _ 0 _ _ _ st4 loop)
theorem uG (S:i4 X.env.scope cs X.N N') (hc:X.calm=true) (hi:PI X tg iter wi)
  (hg:∀ cl ex s H,PG (l5 X cs cl N' ex s H) tg g) (hk:Z9 X.N.length g) (ht:∀ cl ex s H,PIf (l5 X cs cl N' ex s H) ifs tc) (he:∀ cl ex s H,PE (l5 X cs cl N' ex s H) elt te)
  (hs:autoParam (∀ x,foldedSetIterable iter X.env x=pure x) au3._auto_1):PE X (.ListComp elt [⟨tg,iter,ifs,0⟩] cs pos) (kA N' wi g tc te):=by
 intro pins s σ H Q I h
 obtain ⟨cl,e,h1,h2,_⟩:=eA (env:=X.env) cs.names [] (fun x hx hk=>I.ok.has x.1 (S.free x hx hk)) (fun _ _ z=>nomatch z)
 have hclos:closureFor cs X.env=pure cl:=by
  simp only [closureFor]
  rw [e]; rfl
 rw [eval_ListComp]
 refine wpAny_comprehension_free (use:=none) rfl hs hclos S.kind S.loc (thn (hi pins s σ H _ I h) fun v s1 q1=>thn q1 fun itv s2 q2=>?_)
 refine fX (R:=fun acc C=>compPost (model X.prog X.w) X.A X.xe none (EP X pins σ Q) acc C) (Q:=Q) S hc hg hk ht he h1 h2 q2 fun D C H' s' I' q n f=>?_
 obtain ⟨m,hn⟩:=n
 obtain ⟨f0,f1,f2,f3,f4,f5⟩:=f
 exact ⟨m,hn,fun h' sb=>⟨.ref D,H',I'.turned (t':=s'.toks) (fun b o hb e=>sb.extBut b o hb e) f0 f1 f3 f4 f5,rfl,q⟩⟩
theorem ux {i:Nat} {y:Str} {py spos:Pos} (S:i4 X.env.scope cs X.N N') (hc:X.calm=true) (hi:PI X tg iter wi)
  (hg:∀ cl ex s H,PG (l5 X cs cl N' ex s H) tg g) (hk:Z9 X.N.length g) (ht:∀ cl ex s H,PIf (l5 X cs cl N' ex s H) ifs tc) (he:∀ cl ex s H,PE (l5 X cs cl N' ex s H) elt te)
  (hN:X.N.Nodup) (hy:X.N[i]?=some y) (hl:Loc X.env.scope y)
  (hsw:autoParam (swapsWith (.ListComp elt [⟨tg,iter,ifs,0⟩] cs pos) (some (.Name y py)) spos.line X.env=pure true) au0._auto_1) (hf:autoParam (X.fn y=true∨X.env.scope.names.lookup y=some .local) au2._auto_1)
  (hs:autoParam (∀ x,foldedSetIterable iter X.env x=pure x) au3._auto_1):PS X (.Assign [.Name y py] (.ListComp elt [⟨tg,iter,ifs,0⟩] cs pos) spos) (bK (kA N' wi g tc te) (Q3 i)):=by
 intro pins s σ H Q I h
 obtain ⟨cl,e,h1,h2,_⟩:=eA (env:=X.env) cs.names [] (fun x hx hk=>I.ok.has x.1 (S.free x hx hk)) (fun _ _ z=>nomatch z)
 have hclos:closureFor cs X.env=pure cl:=by
  simp only [closureFor]
  rw [e]; rfl
 rw [exec_Assign_Name_used _ _ _ _ hsw]
 refine wpAny_bind (wpAny_standAt (wpAny_bind ?_))
 show wpAny _ _ (comprehension (.ListComp elt [⟨tg,iter,ifs,0⟩] cs pos) cs X.env _ (newList []) false (eval iter X.env) (some (assign (.Name y py) X.env))>>=_) _ _ s
 refine wpAny_bind (thn (wpAny_comprehension_free (use:=some (assign (.Name y py) X.env)) (Q:=fun _ s'=>SP X pins Q .next s') rfl hs hclos S.kind S.loc (thn (hi pins s σ H _ I h) fun v s1 q1=>thn q1 fun itv s2 q2=>?_)) fun _ s' q=>wpAny_pure (wpAny_pure q))
 refine fX (R:=fun acc C=>compPost (model X.prog X.w) X.A X.xe (some (assign (.Name y py) X.env)) (fun _ s'=>SP X pins Q .next s') acc C) (Q:=fun x H1=>Q3 i x σ H1 Q.nx) S hc hg hk ht he h1 h2 q2 fun D C H' s' I' q n f=>?_
 obtain ⟨m,hn⟩:=n
 obtain ⟨f0,f1,f2,f3,f4,f5⟩:=f
 show wpAny _ _ (assign (.Name y py) X.env (.ref D)) _ _ _
 refine wpAny_assign_Name (fE (v:=.ref D) (u:=.ref D) I' hN hy hl rfl (fun s'' I'' zz70=>?_) hf)
 obtain ⟨a,sb,ha⟩:=zz70
 have hCa:C≠a:=by
  rcases ha with rfl | ha
  ·exact f1
  ·exact fun q=>f4 _ _ ha q.symm
 refine ⟨m,hn.sameBut sb hCa,fun h' sb'=>?_⟩
 exact ⟨_,H',I''.turned (t':=s''.toks) (fun b o hb e=>sb'.extBut b o hb e) f0 f1 f3 f4 f5,q⟩
end
end L2
namespace L2
open PySem PySem.Spec PyProof.Rows
theorem Sq.same {K:Frag} {H H':Hp} {t:Bool} {a:Addr} {xs:List V} (e:Same H H') (h:Sq K H t a xs):Sq K H' t a xs:=by
 unfold Sq at h ⊢
 split
 ·rename_i ht; rw [if_pos ht] at h
  rcases h with (h | ⟨o,h⟩) | h
  ·exact .inl (.inl (e _ _ h))
  ·exact .inl (.inr ⟨o,e _ _ h⟩)
  ·exact .inr h
 ·rename_i ht; rw [if_neg ht] at h
  exact e.seq h
noncomputable def seqAt (K:Frag) (H:Hp) (p:Addr) (R:List V→Prop):Prop:=match H p with
 | some (.tup xs)=>R xs
 | some (.lst xs)=>R xs
 | _=>∃ t xs,Sq K H t p xs∧R xs
section
variable {X:Cx}
noncomputable def ItQ (K:Frag) (t:Bool) (a:Addr):It:=if t=true then Itt K a else Itl K a
noncomputable def iSq (K:Frag) (tl:TE):TI:=fun σ H R=>tl σ H fun x H1=>∃ a,x=.ref a∧∃ t xs,Sq K H1 t a xs∧R (ItQ K t a) H1
theorem sL {tg l:Expr} {tl:TE} (hl:PE X l tl):PI X tg l (iSq X.K tl):=by
 intro pins s σ H R I h
 refine thn (hl pins s σ H _ I h) fun v s1 zz71=>?_
 obtain ⟨x,H1,I1,r1,q1⟩:=zz71
 obtain ⟨a,e,t,xs,hq,q⟩:=q1
 subst e
 cases r1
 cases t with
 | true=>
  have hq':SqT X.K H1 a xs:=by unfold Sq at hq; rw [if_pos rfl] at hq; exact hq
  obtain ⟨its,rv,p,hz⟩:=I1.tuple hq'
  refine wpAny_pyIter_tuple (show s1.heap.IsTuple a its.toArray from p) ?_
  refine ⟨s1.heap.objs.size,[s1.heap.objs.size],_,Itt X.K a,H1,rfl,I1.kept (t':=s1.toks) fun b o e=>Heap.get?_push_of_some _ e,ko a _,⟨_,Heap.get?_push_size _ rfl,rfl,rfl⟩,fun b hb=>?_,q⟩
  have e:b=s1.heap.objs.size:=by simpa using hb
  subst e
  exact I1.fpOk (Nat.le_refl _) (I1.hok.fresh (Nat.le_refl _))
 | false=>
  have hq':SqL X.K H1 a xs:=by unfold Sq at hq; rw [if_neg Bool.false_ne_true] at hq; exact hq
  obtain ⟨its,rv,p,hz⟩:=I1.list hq'
  refine wpAny_pyIter_list p.isList ?_
  refine ⟨s1.heap.objs.size,[s1.heap.objs.size],_,Itl X.K a,H1,rfl,I1.kept (t':=s1.toks) fun b o e=>Heap.get?_push_of_some _ e,mF a _,⟨_,Heap.get?_push_size _ rfl,rfl,rfl⟩,fun b hb=>?_,q⟩
  have e:b=s1.heap.objs.size:=by simpa using hb
  subst e
  exact I1.fpOk (Nat.le_refl _) (I1.hok.fresh (Nat.le_refl _))
theorem wA:bootBuiltins "bool" = some (.type "bool"):=by decide +kernel
theorem Bh:bootBuiltins "int" = some (.type "int"):=by decide +kernel
theorem R6:bootBuiltins "list" = some (.type "list"):=by decide +kernel
theorem u6:bootBuiltins "tuple" = some (.type "tuple"):=by decide +kernel
theorem Bg:bootBuiltins "str" = some (.type "str"):=by decide +kernel
theorem Y3:bootBuiltins "max" = some (.builtin "max"):=by decide +kernel
noncomputable def tyO:Option HO→Option String
 | some (.lst _)=>some "list"
 | some (.tup _)=>some "tuple"
 | some (.dK _)=>some "dict"
 | _=>none
noncomputable def tyB (H:Hp):V→Option String
 | .non=>some "NoneType"
 | .bl _=>some "bool"
 | .int _=>some "int"
 | .str _=>some "str"
 | .ref a=>tyO (H a)
 | _=>none
noncomputable def v8 (A T:String):Option Bool:=
 if A=T then some true else if A = "bool" ∧ T = "int" then some true
 else if (A = "NoneType" ∨ A = "bool" ∨ A = "int" ∨ A = "str" ∨ A = "list" ∨ A = "tuple" ∨ A = "dict")∧(T = "bool" ∨ T = "int" ∨ T = "list" ∨ T = "tuple") then some false else none
theorem wZ {K:Frag} {H:Hp} {x:V} {A:String} (h:tyB H x=some A):S1 K H x (.type A):=by
 cases x with
 | non=>cases h; exact .non
 | bl _=>cases h; exact .bl _
 | int _=>cases h; exact .int _
 | str _=>cases h; exact .str _
 | ref a=>
  have h:tyO (H a)=some A:=h
  cases e:H a with
  | none=>rw [e] at h; cases h
  | some o=>
   rw [e] at h
   cases o <;> first | (cases h; exact .lst e) | (cases h; exact .tup e) | (cases h; exact .dK e) | cases h
 | _=>cases h
theorem vA {K:Frag} {A T:String} {b:Bool} (h:v8 A T=some b):PySem.W.kitOne K (.type A) (.type T)=some b:=by
 unfold v8 at h
 split at h
 ·rename_i e; subst e; cases h
  unfold PySem.W.kitOne
  rw [if_pos (by simp)]
 ·split at h
  ·rename_i e; obtain ⟨rfl,rfl⟩:=e; cases h; with_unfolding_all rfl
  ·split at h
   ·rename_i h1 h2 e
    obtain ⟨e1,e2⟩:=e
    cases h
    rcases e1 with rfl | rfl | rfl | rfl | rfl | rfl | rfl <;> rcases e2 with rfl | rfl | rfl | rfl <;>
     first | exact absurd rfl h1 | exact absurd ⟨rfl,rfl⟩ h2 | with_unfolding_all rfl
   ·cases h
noncomputable def rIsi:List V→Hp→VK→Prop:=fun xs H Q=>∃ x T,xs = [x,.ty T]∧∃ A,tyB H x=some A∧∃ b,v8 A T=some b∧Q (.bl b) H
theorem N8:F5 X (.builtin "isinstance") rIsi:=by
 intro pins s σ H xs us Q I r h
 obtain ⟨x,T,rfl,A,ty,b,e,q⟩:=h
 obtain ⟨u,w',rfl,r1,r2⟩:=vals2 r
 have e2:w'=Value.type T:=r2
 subst e2
 exact nU I r1 (wZ ty) (vA e) fun tk=>⟨.bl b,H,I.tok tk,rfl,q⟩
end
theorem zH:v8 "bool" "bool" = some true:=by decide
theorem zG:v8 "bool" "int" = some true:=by decide
theorem zF:v8 "int" "bool" = some false:=by decide
theorem zE:v8 "int" "int" = some true:=by decide
theorem zo:v8 "tuple" "tuple" = some true:=by decide
theorem zB:v8 "list" "list" = some true:=by decide
theorem zy:v8 "NoneType" "int" = some false:=by decide
theorem zz:v8 "NoneType" "bool" = some false:=by decide
theorem zt:v8 "str" "int" = some false:=by decide
theorem zu:v8 "str" "bool" = some false:=by decide
theorem zC:v8 "list" "int" = some false:=by decide
theorem zD:v8 "list" "bool" = some false:=by decide
theorem zq:v8 "tuple" "int" = some false:=by decide
theorem zr:v8 "tuple" "bool" = some false:=by decide
theorem aG {n:Nat} {i:Int} (h0:0≤i) (h1:i<n):ixN n i=some i.toNat:=by unfold ixN; rw [if_pos h0,if_pos h1]
theorem mem_getD {ms:List Int} {P:Int→Prop} (h:∀ x∈ms,P x) {i:Nat} (hi:i<ms.length):P (ms.getD i 0):=by
 have:ms.getD i 0=ms[i]:=by simp [hi]
 rw [this]; exact h _ (List.getElem_mem hi)
structure Runs (J:It) (n:Nat) (H1:Hp) (Y:Nat→V→Hp→Hp→Prop):Prop where
 go:∀ i H,i<n→Same H1 H→J.go i H
 stop:∀ H,Same H1 H→J.stop n H
 yld:∀ i H x H',i<n→Same H1 H→J.yld i H x H'→Y i x H H'
theorem mZ {K:Frag} {t u:Bool} {a b:Addr} {xs ys:List V} {H1:Hp} (h:Sq K H1 t a xs) (h':Sq K H1 u b ys) :
  Runs (ItZ K [(t,a),(u,b)]) (min xs.length ys.length) H1 fun i x H H'=>∃ p y z,x=.ref p∧H p=none∧H'=upd H p (.tup [y,z])∧xs[i]?=some y∧ys[i]?=some z:=by
 refine ⟨fun i H hi s v hv=>?_,fun H s=>⟨fun v hv=>?_,?_⟩,fun i H x H' hi s hy=>?_⟩
 ·simp only [List.mem_cons,List.not_mem_nil,or_false] at hv
  rcases hv with rfl | rfl
  ·exact ⟨xs,xs[i]'(Nat.lt_of_lt_of_le hi (Nat.min_le_left _ _)),Sq.same s h,by simp⟩
  ·exact ⟨ys,ys[i]'(Nat.lt_of_lt_of_le hi (Nat.min_le_right _ _)),Sq.same s h',by simp⟩
 ·simp only [List.mem_cons,List.not_mem_nil,or_false] at hv
  rcases hv with rfl | rfl
  ·exact ⟨xs,Sq.same s h⟩
  ·exact ⟨ys,Sq.same s h'⟩
 ·rcases Nat.le_total xs.length ys.length with q | q
  ·exact ⟨(t,a),by simp,xs,Sq.same s h,by omega⟩
  ·exact ⟨(u,b),by simp,ys,Sq.same s h',by omega⟩
 ·obtain ⟨p,zs,e1,e2,e3,pr⟩:=hy
  cases pr with
  | cons r1 pr=>
   cases pr with
   | cons r2 pr=>
    cases pr
    exact ⟨p,_,_,e1,e2,e3,r1 xs (Sq.same s h),r2 ys (Sq.same s h')⟩
theorem mY {K:Frag} {t u w:Bool} {a b c:Addr} {xs ys zs:List V} {H1:Hp} (h:Sq K H1 t a xs) (h':Sq K H1 u b ys) (h'':Sq K H1 w c zs) :
  Runs (ItZ K [(t,a),(u,b),(w,c)]) (min xs.length (min ys.length zs.length)) H1 fun i x H H'=>∃ p y z v,x=.ref p∧H p=none∧H'=upd H p (.tup [y,z,v])∧xs[i]?=some y∧ys[i]?=some z∧zs[i]?=some v:=by
 refine ⟨fun i H hi s v hv=>?_,fun H s=>⟨fun v hv=>?_,?_⟩,fun i H x H' hi s hy=>?_⟩
 ·simp only [List.mem_cons,List.not_mem_nil,or_false] at hv
  rcases hv with rfl | rfl | rfl
  ·exact ⟨xs,xs[i]'(Nat.lt_of_lt_of_le hi (Nat.min_le_left _ _)),Sq.same s h,by simp⟩
  ·exact ⟨ys,ys[i]'(Nat.lt_of_lt_of_le hi (Nat.le_trans (Nat.min_le_right _ _) (Nat.min_le_left _ _))),Sq.same s h',by simp⟩
  ·exact ⟨zs,zs[i]'(Nat.lt_of_lt_of_le hi (Nat.le_trans (Nat.min_le_right _ _) (Nat.min_le_right _ _))),Sq.same s h'',by simp⟩
 ·simp only [List.mem_cons,List.not_mem_nil,or_false] at hv
  rcases hv with rfl | rfl | rfl
  ·exact ⟨xs,Sq.same s h⟩
  ·exact ⟨ys,Sq.same s h'⟩
  ·exact ⟨zs,Sq.same s h''⟩
 ·have:min xs.length (min ys.length zs.length)=xs.length∨min xs.length (min ys.length zs.length)=ys.length∨min xs.length (min ys.length zs.length)=zs.length:=by omega
  rcases this with q | q | q
  ·exact ⟨(t,a),by simp,xs,Sq.same s h,by omega⟩
  ·exact ⟨(u,b),by simp,ys,Sq.same s h',by omega⟩
  ·exact ⟨(w,c),by simp,zs,Sq.same s h'',by omega⟩
 ·obtain ⟨p,vs,e1,e2,e3,pr⟩:=hy
  cases pr with
  | cons r1 pr=>
   cases pr with
   | cons r2 pr=>
    cases pr with
    | cons r3 pr=>
     cases pr
     exact ⟨p,_,_,_,e1,e2,e3,r1 xs (Sq.same s h),r2 ys (Sq.same s h'),r3 zs (Sq.same s h'')⟩
structure Def (K:Frag) (mg:Str→Option Value) (x:Str) (st:Stmt) (ps:List Str) (f:Addr) (fd:FuncData):Prop where
 F:Fun K x x st f fd
 m:mg x=some (.ref f)
 b:Binds K fd ps []
section
variable {X:Cx}
theorem L3 (K:Frag) {es:List Expr} {pos:Pos} {k:Nat} {t:TGs} (n:Nat) (hc:X.calm=true) (h:PGs X es t) (hK:autoParam (X.K=K) au0._auto_1)
  (hn:autoParam ((assignEach es X.env).length=n) au0._auto_1) (hst:autoParam ((assignEach es X.env).findIdx? (·.1)=none) au0._auto_1):PG X (.Tuple es k pos) (lB K n t):=by subst hK; exact yH hc h hn hst
noncomputable def pj (to:TE) (te:TE):TE:=fun σ H Q=>to σ H fun x H1=>∃ p,x=.ref p∧(∃ xs,H1 p=some (.lst xs))∧te σ H1 fun y H2=>match H2 p with
 | some (.lst xs)=>xs.length<sizeLine∧Q .non (upd H2 p (.lst (xs ++ [y])))
 | _=>False
theorem fK {o e:Expr} {to te:TE} {apos cpos:Pos} (ho:PE X o to) (ha:PE X e te)
  (hbase:autoParam (attributeBase o "append" X.env (eval o X.env)=eval o X.env) au0._auto_1)
  (hfew:autoParam (((backTo cpos (starEach [e] X.env)).all (fun x=>!x.1)&&(backToKw cpos (keywordEach [] X.env)).all (fun x=>x.1.isSome)
   && decide (([e]:List Expr).length+([]:List Keyword).length+(if ([]:List Keyword).isEmpty then 0 else 1)<30))=true) au0._auto_1)
  (hline:autoParam ((apos.endLine == cpos.line)=true) au0._auto_1) (hs:autoParam (starEach [e] X.env=(false,eval e X.env)::starEach [] X.env) au0._auto_1):PE X (.Call (.Attribute o "append" apos) [e] [] cpos) (pj to te):=by
 intro pins s σ H Q I h
 refine wpAny_Call_method_late hbase hfew hline rfl (thn (ho pins s σ H _ I h) fun v s1 zz72=>?_)
 obtain ⟨x,H1,I1,r1,p,ex,⟨xs,e1⟩,q1⟩:=zz72
 subst ex
 obtain ⟨h1,h2⟩:=gC (T := "list") I1 r1 (.inl ⟨rfl,xs,SqL.of e1⟩)
 refine ⟨"list", "list.append",PySem.F.plainAttrs_list,PySem.F.slot_list_append,PySem.F.type_list_append,h1,h2,?_⟩
 have hA:=cD ha pa_nil hs cpos pins s1 σ H1 (fun vs H2=>∃ y,vs = [y]∧match H2 p with
  | some (.lst xs)=>xs.length<sizeLine∧Q .non (upd H2 p (.lst (xs ++ [y])))
  | _=>False) I1 (by
   have e:(fun (y:V) (H2:Hp)=>match H2 p with
     | some (.lst xs)=>xs.length<sizeLine∧Q .non (upd H2 p (.lst (xs ++ [y])))
     | _=>False)=fun (y:V) (H2:Hp)=>∃ y',[y] = [y']∧match H2 p with
     | some (.lst xs)=>xs.length<sizeLine∧Q .non (upd H2 p (.lst (xs ++ [y'])))
     | _=>False:=by
    funext y H2
    exact propext ⟨fun q=>⟨y,rfl,q⟩,fun zz73=>by obtain ⟨y',e,q⟩:=zz73; cases e; exact q⟩
   rw [e] at q1
   exact q1)
 rw [hs] at hA ⊢
 refine Calls.callWith_builtin rfl (Calls.evalArgs_plain ?_)
 refine thn hA fun us s2 zz74=>?_
 obtain ⟨vs,H2,I2,r2,y,ev,q2⟩:=zz74
 subst ev
 refine fN pins s2 σ H2 (.ref p) [y] v us Q I2 r1 r2 ?_
 split at q2
 ·rename_i ys e2; exact ⟨p,ys,y,rfl,rfl,e2,q2.1,q2.2⟩
 ·exact q2.elim
end
section
variable {X:Cx}
end
noncomputable def tq (i j:Int):Prop:=0≤j∧(Builtin.Int.intBits i:Int)*j≤2^27
theorem vI {ns:List Int} {i:Nat} {z:Int} (h:ns[i]?=some z):ns.getD i 0=z:=by rw [List.getD_eq_getElem?_getD,h]; rfl
theorem O1 {ns:List Int} {i:Nat} (h:i<ns.length):ns[i]?=some (ns.getD i 0):=by rw [List.getD_eq_getElem?_getD]; simp [h]
end L2
namespace TP
open PySem L2
inductive W where
 | non | bl (b:Bool) | int (i:Int) | str (x:Str) | ty (n:String) | tup (ws:List W) | lst (ws:List W) | scr (ws:List W)
 | exc (c:Str) (i:Option Int) | cls (c:Str)
noncomputable def XD (F:Hp) (od:Option Addr):Option Int→Prop
 | none=>od=none
 | some i=>∃ d,od=some d∧F d=some (.xd [("at",.int i)])
mutual
inductive Rep (K:Frag) (F:Hp):V→W→Prop where
 | non:Rep K F .non .non
 | bl {b:Bool}:Rep K F (.bl b) (.bl b)
 | int {i:Int}:Rep K F (.int i) (.int i)
 | str {x:Str}:Rep K F (.str x) (.str x)
 | ty {n:String}:Rep K F (.ty n) (.ty n)
 | tup {a:Addr} {vs:List V} {ws:List W}:F a=some (.tup vs)→Reps K F vs ws→Rep K F (.ref a) (.tup ws)
 | lst {a:Addr} {vs:List V} {ws:List W}:F a=some (.lst vs)→Reps K F vs ws→Rep K F (.ref a) (.lst ws)
 | scr {a:Addr} {vs:List V} {ws:List W}:SqL K F a vs→Reps K F vs ws→Rep K F (.ref a) (.scr ws)
 | exc {a C:Addr} {o:Obj} {vs:Array Value} {c:Str} {i:Option Int}:F a=some (.ext fun h=>h.get? a=some o)→o.cls=.ref C→o.data=.fields vs→PySem.W.nsIn K mainGlobals c=some (some (.ref C))→XD F o.dict i→Rep K F (.ref a) (.exc c i)
 | cls {C:Addr} {c:Str}:PySem.W.nsIn K mainGlobals c=some (some (.ref C))→Rep K F (.ref C) (.cls c)
inductive Reps (K:Frag) (F:Hp):List V→List W→Prop where
 | nil:Reps K F [] []
 | cons {v:V} {w:W} {vs:List V} {ws:List W}:Rep K F v w→Reps K F vs ws→Reps K F (v::vs) (w::ws)
end
section
variable {K:Frag} {F F':Hp}
theorem pq {a:Addr} {xs:List V} (e:Same F F') (h:SqT K F a xs):SqT K F' a xs:=by
 rcases h with (h | ⟨o,h⟩) | h
 ·exact .inl (.inl (e _ _ h))
 ·exact .inl (.inr ⟨o,e _ _ h⟩)
 ·exact .inr h
theorem XD.same (e:Same F F') {od:Option Addr}:∀ {i:Option Int},XD F od i→XD F' od i:=by
 intro i h
 cases i with
 | none=>exact h
 | some _=>obtain ⟨d,h1,h2⟩:=h; exact ⟨d,h1,e _ _ h2⟩
theorem Rep.same (e:Same F F') {v:V} {w:W} (r:Rep K F v w):Rep K F' v w:=
 @Rep.rec K F (fun v w _=>Rep K F' v w) (fun vs ws _=>Reps K F' vs ws) .non .bl .int .str .ty (fun h _ r=>.tup (e _ _ h) r) (fun h _ r=>.lst (e _ _ h) r) (fun h _ r=>.scr (Same.seq e h) r) (fun h1 h2 h3 h4 h5=>.exc (e _ _ h1) h2 h3 h4 (XD.same e h5)) (fun h=>.cls h) .nil (fun _ _ a b=>.cons a b) v w r
theorem Reps.same (e:Same F F') {vs:List V} {ws:List W} (r:Reps K F vs ws):Reps K F' vs ws:=
 @Reps.rec K F (fun _ _ _=>True) (fun vs ws _=>Reps K F' vs ws) trivial trivial trivial trivial trivial (fun _ _ _=>trivial) (fun _ _ _=>trivial) (fun _ _ _=>trivial) (fun _ _ _ _ _=>trivial) (fun _=>trivial) .nil (fun h _ _ b=>.cons (Rep.same e h) b) vs ws r
theorem Reps.ind {P:List V→List W→Prop} (h0:P [] []) (h1:∀ {v:V} {w:W} {vs:List V} {ws:List W},Rep K F v w→Reps K F vs ws→P vs ws→P (v::vs) (w::ws)) {vs:List V} {ws:List W} (r:Reps K F vs ws):P vs ws:=
 @Reps.rec K F (fun _ _ _=>True) (fun vs ws _=>P vs ws) trivial trivial trivial trivial trivial (fun _ _ _=>trivial) (fun _ _ _=>trivial) (fun _ _ _=>trivial) (fun _ _ _ _ _=>trivial) (fun _=>trivial) h0 (fun h r _ b=>h1 h r b) vs ws r
noncomputable def Br (K:Frag) (F:Hp) (v:V):W→Prop
 | .non=>v=.non
 | .bl b=>v=.bl b
 | .int i=>v=.int i
 | .str x=>v=.str x
 | .ty n=>v=.ty n
 | .tup ws=>∃ a vs,v=.ref a∧F a=some (.tup vs)∧Reps K F vs ws
 | .lst ws=>∃ a vs,v=.ref a∧F a=some (.lst vs)∧Reps K F vs ws
 | .scr ws=>∃ a vs,v=.ref a∧SqL K F a vs∧Reps K F vs ws
 | .exc _ _=>True
 | .cls _=>True
theorem Rep.inv {v:V} {w:W} (r:Rep K F v w):Br K F v w:=
 @Rep.rec K F (fun v w _=>Br K F v w) (fun _ _ _=>True) rfl rfl rfl rfl rfl (fun h r _=>⟨_,_,rfl,h,r⟩) (fun h r _=>⟨_,_,rfl,h,r⟩) (fun h r _=>⟨_,_,rfl,h,r⟩) (fun _ _ _ _ _=>trivial) (fun _=>trivial) trivial (fun _ _ _ _=>trivial) v w r
noncomputable def sW (K:Frag) (F:Hp) (vs:List V):List W→Prop
 | []=>vs = []
 | w::ws=>∃ v us,vs=v::us∧Rep K F v w∧Reps K F us ws
theorem Reps.inv {vs:List V} {ws:List W} (r:Reps K F vs ws):sW K F vs ws:=
 Reps.ind (P:=fun vs ws=>sW K F vs ws) rfl (fun h t _=>⟨_,_,rfl,h,t⟩) r
theorem Reps.length {vs:List V} {ws:List W} (r:Reps K F vs ws):vs.length=ws.length:=
 Reps.ind (P:=fun vs ws=>vs.length=ws.length) rfl (fun _ _ h=>congrArg (·+1) h) r
theorem Reps.get {vs:List V} {ws:List W} {i:Nat} {w:W} (r:Reps K F vs ws):ws[i]?=some w→∃ v,vs[i]?=some v∧Rep K F v w:=
 Reps.ind (P:=fun vs ws=>∀ (i:Nat) (w:W),ws[i]?=some w→∃ v,vs[i]?=some v∧Rep K F v w) (fun i w e=>by cases e) (fun h _ b i w e=>by
  cases i with
  | zero=>cases e; exact ⟨_,rfl,h⟩
  | succ i=>exact b i w e) r i w
theorem Reps.get' {vs:List V} {ws:List W} {i:Nat} {v:V} (r:Reps K F vs ws):vs[i]?=some v→∃ w,ws[i]?=some w∧Rep K F v w:=
 Reps.ind (P:=fun vs ws=>∀ (i:Nat) (v:V),vs[i]?=some v→∃ w,ws[i]?=some w∧Rep K F v w) (fun i w e=>by cases e) (fun h _ b i w e=>by
  cases i with
  | zero=>cases e; exact ⟨_,rfl,h⟩
  | succ i=>exact b i w e) r i v
theorem Reps.append {vs us:List V} {ws xs:List W} (r:Reps K F vs ws) (s:Reps K F us xs):Reps K F (vs++us) (ws++xs):=
 Reps.ind (P:=fun vs ws=>Reps K F (vs++us) (ws++xs)) s (fun h _ b=>.cons h b) r
theorem Reps.take {vs:List V} {ws:List W} (n:Nat) (r:Reps K F vs ws):Reps K F (vs.take n) (ws.take n):=
 Reps.ind (P:=fun vs ws=>∀ n,Reps K F (vs.take n) (ws.take n)) (fun n=>by simpa using .nil) (fun h _ b n=>by
  cases n with
  | zero=>exact .nil
  | succ n=>exact .cons h (b n)) r n
theorem Reps.drop {vs:List V} {ws:List W} (n:Nat) (r:Reps K F vs ws):Reps K F (vs.drop n) (ws.drop n):=
 Reps.ind (P:=fun vs ws=>∀ n,Reps K F (vs.drop n) (ws.drop n)) (fun n=>by simpa using .nil) (fun h r b n=>by
  cases n with
  | zero=>exact .cons h r
  | succ n=>exact b n) r n
theorem Reps.reverse {vs:List V} {ws:List W} (r:Reps K F vs ws):Reps K F vs.reverse ws.reverse:=by
 induction r using Reps.rec (motive_1:=fun _ _ _=>True) with
 | nil=>exact .nil
 | cons h _ _ ih=>rw [List.reverse_cons,List.reverse_cons]; exact Reps.append ih (.cons h .nil)
 | _=>trivial
theorem Reps.set {v:V} {w:W} (h:Rep K F v w) {vs:List V} {ws:List W} (i:Nat) (r:Reps K F vs ws):Reps K F (vs.set i v) (ws.set i w):=
 Reps.ind (P:=fun vs ws=>∀ i,Reps K F (vs.set i v) (ws.set i w)) (fun _=>.nil) (fun q t b i=>by
  cases i with
  | zero=>exact .cons h t
  | succ i=>exact .cons q (b i)) r i
theorem Reps.snoc {vs:List V} {ws:List W} {v:V} {w:W} (r:Reps K F vs ws) (h:Rep K F v w):Reps K F (vs ++ [v]) (ws ++ [w]):=r.append (.cons h .nil)
end
mutual
noncomputable def noL:W→Bool
 | .lst _=>false
 | .scr _=>false
 | .tup ws=>l9 ws
 | _=>true
noncomputable def l9:List W→Bool
 | []=>true
 | w::ws=>noL w&&l9 ws
end
noncomputable def isL:HO→Bool
 | .lst _=>true
 | .dT _=>true
 | .dK _=>true
 | .frz _ (.lst _)=>true
 | _=>false
noncomputable def join (H0 G:Hp):Hp:=fun a=>match H0 a with
 | some o=>if isL o then some o else G a
 | none=>G a
inductive Sl where
 | un | val (w:W) | par (w:W) | own (ws:List W) | dic (ks:List (List Int)) | dik (ks:List Int) | iop (p:Addr) (ws:List W) | hz (w:W)
noncomputable abbrev Rho:=List Sl
noncomputable def eY (G:Hp):Hp:=fun a=>match G a with
 | some o=>if isL o then none else some o
 | none=>none
theorem Z4 {G G':Hp} (h:Same G G'):Same (eY G) (eY G'):=fun a o e=>by
 unfold eY at e ⊢
 cases q:G a with
 | none=>rw [q] at e; cases e
 | some u=>rw [q] at e; rw [h a u q]; exact e
theorem qA {G:Hp}:Same (eY G) G:=fun a o e=>by
 unfold eY at e
 cases q:G a with
 | none=>rw [q] at e; cases e
 | some u=>
  rw [q] at e
  dsimp only at e
  cases hl:isL u
  ·rw [hl] at e; exact e
  ·rw [hl] at e; cases e
noncomputable def SlR (K:Frag) (H0 G H:Hp):Sl→Option V→Prop
 | .un,_=>True
 | .val w,o=>∃ v,o=some v∧Rep K G v w
 | .par w,o=>∃ v,o=some v∧Rep K (join H0 G) v w
 | .own ws,o=>∃ a vs,o=some (.ref a)∧H a=some (.lst vs)∧G a=none∧H0 a=none∧Reps K G vs ws
 | .dic ks,o=>∃ (a:Addr) (kvs:List (List Key×V)),o=some (.ref a)∧H a=some (.dT kvs)∧G a=none∧H0 a=none∧kvs.map (·.1)=ks.map fun k=>k.map Sum.inl
 | .dik ks,o=>∃ (a:Addr) (kvs:List (Key×V)),o=some (.ref a)∧H a=some (.dK kvs)∧G a=none∧H0 a=none∧kvs.map (·.1)=ks.map Sum.inl
 | .iop p ws,o=>o=some (.ref p)∧∃ vs,H0 p=some (.lst vs)∧Reps K G vs ws
 | .hz w,o=>∃ v,o=some v∧Rep K (join H0 (eY G)) v w
structure PIv (K:Frag) (H0 G:Hp) (ρ:Rho) (σ:St) (H:Hp):Prop where
 g0:∀ a o,H0 a=some o→isL o=false→G a=some o
 gl:∀ a o,H0 a=some o→isL o=true→G a=none
 gh:Same G H
 hh:Same H0 H
 len:ρ.length=σ.length
 sl:∀ (i:Nat) (x:Sl) (o:Option V),ρ[i]?=some x→σ[i]?=some o→SlR K H0 G H x o
 ne:∀ (i j:Nat) (ws us:List W) (a:Addr),i≠j→ρ[i]?=some (.own ws)→ρ[j]?=some (.own us)→σ[i]?=some (some (.ref a))→σ[j]?≠some (some (.ref a))
structure Ext (G H G' H':Hp):Prop where
 gg:Same G G'
 hh:Same H H'
 gh:Same G' H'
 keep:∀ a o,H a=some o→isL o=true→G a=none→G' a=none
theorem Ext.refl {G H:Hp} (h:Same G H):Ext G H G H:=⟨Same.refl G,Same.refl H,h,fun _ _ _ _ e=>e⟩
theorem Ext.trans {G H G1 H1 G2 H2:Hp} (a:Ext G H G1 H1) (b:Ext G1 H1 G2 H2):Ext G H G2 H2:=
 ⟨a.gg.trans b.gg,a.hh.trans b.hh,b.gh,fun x o h l e=>b.keep x o (a.hh x o h) l (a.keep x o h l e)⟩
section
variable {K:Frag} {H0 G H G' H':Hp} {ρ:Rho} {σ:St}
theorem t4 (h:Same G G'):Same (join H0 G) (join H0 G'):=fun a o e=>by
 unfold join at e ⊢
 cases q:H0 a with
 | none=>rw [q] at e; exact h a o e
 | some u=>
  rw [q] at e
  dsimp only at e ⊢
  by_cases hl:isL u=true
  ·rw [if_pos hl] at e ⊢; exact e
  ·rw [if_neg hl] at e ⊢; exact h a o e
theorem PIv.G_join (I:PIv K H0 G ρ σ H):Same G (join H0 G):=fun a o e=>by
 unfold join
 cases q:H0 a with
 | none=>exact e
 | some u=>
  dsimp only
  by_cases hl:isL u=true
  ·rw [I.gl a u q hl] at e; cases e
  ·rw [if_neg hl]; exact e
theorem PIv.join_H (I:PIv K H0 G ρ σ H):Same (join H0 G) H:=fun a o e=>by
 unfold join at e
 cases q:H0 a with
 | none=>rw [q] at e; exact I.gh a o e
 | some u=>
  rw [q] at e
  dsimp only at e
  by_cases hl:isL u=true
  ·rw [if_pos hl] at e; cases e; exact I.hh a _ q
  ·rw [if_neg hl] at e; exact I.gh a o e
theorem PIv.ext (I:PIv K H0 G ρ σ H) (x:Ext G H G' H'):PIv K H0 G' ρ σ H' where
 g0 a o e l:=x.gg a o (I.g0 a o e l)
 gl a o e l:=x.keep a o (I.hh a o e) l (I.gl a o e l)
 gh:=x.gh
 hh:=I.hh.trans x.hh
 len:=I.len
 sl i s o h1 h2:=by
  have:=I.sl i s o h1 h2
  cases s with
  | un=>trivial
  | val w=>obtain ⟨v,e,r⟩:=this; exact ⟨v,e,r.same x.gg⟩
  | par w=>obtain ⟨v,e,r⟩:=this; exact ⟨v,e,r.same (t4 x.gg)⟩
  | own ws=>
   obtain ⟨a,vs,e,h,g,h0,r⟩:=this
   exact ⟨a,vs,e,x.hh a _ h,x.keep a _ h rfl g,h0,r.same x.gg⟩
  | dic ks=>
   obtain ⟨a,kvs,e,h,g,h0,r⟩:=this
   exact ⟨a,kvs,e,x.hh a _ h,x.keep a _ h rfl g,h0,r⟩
  | dik ks=>
   obtain ⟨a,kvs,e,h,g,h0,r⟩:=this
   exact ⟨a,kvs,e,x.hh a _ h,x.keep a _ h rfl g,h0,r⟩
  | iop p ws=>
   obtain ⟨e,vs,h,r⟩:=this
   exact ⟨e,vs,h,r.same x.gg⟩
  | hz w=>obtain ⟨v,e,r⟩:=this; exact ⟨v,e,r.same (t4 (Z4 x.gg))⟩
 ne:=I.ne
theorem dt {a:Addr} {o:HO} (h:join H0 G a=some o) (l:isL o=false):G a=some o:=by
 unfold join at h
 cases q:H0 a with
 | none=>rw [q] at h; exact h
 | some u=>
  rw [q] at h
  dsimp only at h
  by_cases hl:isL u=true
  ·rw [if_pos hl] at h; cases h; rw [hl] at l; cases l
  ·rw [if_neg hl] at h; exact h
theorem XD.clean {od:Option Addr}:∀ {i:Option Int},XD (join H0 G) od i→XD G od i
 | none,h=>h
 | some _,⟨d,h1,h2⟩=>⟨d,h1,dt h2 rfl⟩
theorem Rep.clean (I:PIv K H0 G ρ σ H) {v:V} {w:W} (r:Rep K (join H0 G) v w):noL w=true→Rep K G v w:=
 @Rep.rec K (join H0 G) (fun v w _=>noL w=true→Rep K G v w) (fun vs ws _=>l9 ws=true→Reps K G vs ws) (fun _=>.non) (fun _=>.bl) (fun _=>.int) (fun _=>.str) (fun _=>.ty)
  (fun h _ r n=>.tup (dt h rfl) (r n)) (fun _ _ _ n=>by cases n) (fun _ _ _ n=>by cases n) (fun h1 h2 h3 h4 h5 _=>.exc (dt h1 rfl) h2 h3 h4 (XD.clean h5)) (fun h _=>.cls h) (fun _=>.nil)
  (fun _ _ a b n=>by rw [l9,Bool.and_eq_true] at n; exact .cons (a n.1) (b n.2)) v w r
theorem Reps.clean (I:PIv K H0 G ρ σ H) {vs:List V} {ws:List W} (r:Reps K (join H0 G) vs ws):l9 ws=true→Reps K G vs ws:=
 @Reps.rec K (join H0 G) (fun _ _ _=>True) (fun vs ws _=>l9 ws=true→Reps K G vs ws) trivial trivial trivial trivial trivial (fun _ _ _=>trivial) (fun _ _ _=>trivial) (fun _ _ _=>trivial) (fun _ _ _ _ _=>trivial) (fun _=>trivial) (fun _=>.nil)
  (fun h _ _ b n=>by rw [l9,Bool.and_eq_true] at n; exact .cons (Rep.clean I h n.1) (b n.2)) vs ws r
end
structure XW where
 cls:Str
 at_:Option Int
inductive R (α:Type) where
 | ok (a:α) | ex (e:XW) | stuck
noncomputable def R.bind {α β:Type} (x:R α) (f:α→R β):R β:=match x with
 | .ok a=>f a
 | .ex e=>.ex e
 | .stuck=>.stuck
noncomputable instance:Monad R where
 pure:=R.ok
 bind:=R.bind
@[simp] theorem R.ok_bind {α β:Type} (a:α) (f:α→R β):((R.ok a:R α)>>=f)=f a:=rfl
@[simp] theorem R.stuck_bind {α β:Type} (f:α→R β):((R.stuck:R α)>>=f)=.stuck:=rfl
@[simp] theorem R.ex_bind {α β:Type} (e:XW) (f:α→R β):((R.ex e:R α)>>=f)=.ex e:=rfl
@[simp] theorem R.pure_eq {α:Type} (a:α):(pure a:R α)=.ok a:=rfl
inductive Mode where
 | F | V | U | C | B
noncomputable def Md (K:Frag) (H0 H G' H':Hp) (v:V) (w:W):Mode→Prop
 | .V=>Rep K G' v w
 | .U=>Rep K (join H0 G') v w
 | .F=>match w with
  | .lst ws=>∃ a vs,v=.ref a∧H' a=some (.lst vs)∧G' a=none∧H a=none∧Reps K G' vs ws
  | w=>Rep K G' v w
 | .C=>Rep K G' v w∨∃ a vs ws,v=.ref a∧w=.lst ws∧H' a=some (.lst vs)∧Reps K G' vs ws
 | .B=>Rep K (join H0 G') v w∨∃ a vs ws,v=.ref a∧w=.lst ws∧H' a=some (.lst vs)∧Reps K G' vs ws
noncomputable abbrev EXT:=XW→Hp→Prop
noncomputable def Out {α β:Type} (EX:EXT) (G H:Hp) (md:α→β→Hp→Hp→Prop) (r:R α) (Q:β→Hp→Prop):Prop:=match r with
 | .ok w=>∀ v G' H',Ext G H G' H'→md w v G' H'→Q v H'
 | .ex e=>∀ H',Same H H'→EX e H'
 | .stuck=>False
noncomputable abbrev mdW (K:Frag) (d:Mode) (H0 H:Hp):W→V→Hp→Hp→Prop:=fun w v G' H'=>Md K H0 H G' H' v w d
noncomputable abbrev mdB:Bool→Bool→Hp→Hp→Prop:=fun b c _ _=>c=b
inductive MdA (K:Frag) (d:Mode) (H0 H G' H':Hp):List W→List V→Prop where
 | nil:MdA K d H0 H G' H' [] []
 | cons {w:W} {v:V} {ws:List W} {vs:List V}:Md K H0 H G' H' v w d→MdA K d H0 H G' H' ws vs→MdA K d H0 H G' H' (w::ws) (v::vs)
noncomputable def Bw (K:Frag) (d:Mode) (H0 H G' H':Hp) (vs:List V):List W→Prop
 | []=>vs = []
 | w::ws=>∃ v us,vs=v::us∧Md K H0 H G' H' v w d∧MdA K d H0 H G' H' ws us
theorem MdA.inv {K:Frag} {d:Mode} {H0 H G' H':Hp} {ws:List W} {vs:List V} (h:MdA K d H0 H G' H' ws vs):Bw K d H0 H G' H' vs ws:=
 @MdA.rec K d H0 H G' H' (fun ws vs _=>Bw K d H0 H G' H' vs ws) rfl (fun h t _=>⟨_,_,rfl,h,t⟩) ws vs h
noncomputable abbrev mdA (K:Frag) (d:Mode) (H0 H:Hp):List W→List V→Hp→Hp→Prop:=fun ws vs G' H'=>MdA K d H0 H G' H' ws vs
noncomputable def tM (K:Frag) (EX:EXT) (d:Mode) (m:Rho→R W):TE:=fun σ H Q=>∃ H0 G ρ,PIv K H0 G ρ σ H∧Out EX G H (mdW K d H0 H) (m ρ) Q
noncomputable def tT (K:Frag) (EX:EXT) (m:Rho→R Bool):TT:=fun σ H Q=>∃ H0 G ρ,PIv K H0 G ρ σ H∧Out EX G H mdB (m ρ) Q
noncomputable def tA (K:Frag) (EX:EXT) (d:Mode) (m:Rho→R (List W)):TA:=fun σ H Q=>∃ H0 G ρ,PIv K H0 G ρ σ H∧Out EX G H (mdA K d H0 H) (m ρ) Q
section
variable {K:Frag} {EX:EXT} {H0 G H G1 H1 G2 H2:Hp} {ρ:Rho} {σ:St}
theorem Out.bind {α β γ δ:Type} {md:α→β→Hp→Hp→Prop} {md':γ→δ→Hp→Hp→Prop} {m:R α} {k:α→R γ} {Q:δ→Hp→Prop} {Q1:β→Hp→Prop} (o:Out EX G H md' (m>>=k) Q)
  (h:∀ x G1 H1 w,Ext G H G1 H1→md w x G1 H1→Out EX G1 H1 md' (k w) Q→Q1 x H1):Out EX G H md m Q1:=by
 cases m with
 | ok w=>
  intro v G' H' e d
  refine h v G' H' w e d ?_
  rw [R.ok_bind] at o
  revert o
  cases k w with
  | ok u=>exact fun o v2 G2 H2 e2 d2=>o v2 G2 H2 (e.trans e2) d2
  | ex x=>exact fun o H2 s2=>o H2 (e.hh.trans s2)
  | stuck=>exact fun o=>o
 | ex x=>exact o
 | stuck=>exact o
theorem Md.start {v:V} {w:W} {d:Mode} (s:Same H H1) (h:Md K H0 H1 G2 H2 v w d):Md K H0 H G2 H2 v w d:=by
 cases d with
 | F=>
  cases w with
  | lst ws=>obtain ⟨a,vs,e,h1,h2,h3,r⟩:=h; exact ⟨a,vs,e,h1,h2,s.free h3,r⟩
  | _=>exact h
 | _=>exact h
theorem Md.move {v:V} {w:W} {d:Mode} (x:Ext G1 H1 G2 H2) (h:Md K H0 H G1 H1 v w d):Md K H0 H G2 H2 v w d:=by
 cases d with
 | V=>exact Rep.same x.gg h
 | U=>exact Rep.same (t4 x.gg) h
 | F=>
  cases w with
  | lst ws=>obtain ⟨a,vs,e,h1,h2,h3,r⟩:=h; exact ⟨a,vs,e,x.hh _ _ h1,x.keep _ _ h1 rfl h2,h3,r.same x.gg⟩
  | non=>exact Rep.same x.gg h
  | bl _=>exact Rep.same x.gg h
  | int _=>exact Rep.same x.gg h
  | str _=>exact Rep.same x.gg h
  | ty _=>exact Rep.same x.gg h
  | tup _=>exact Rep.same x.gg h
  | scr _=>exact Rep.same x.gg h
  | exc _ _=>exact Rep.same x.gg h
  | cls _=>exact Rep.same x.gg h
 | C=>
  rcases h with h | ⟨a,vs,ws,e,e2,h1,r⟩
  ·exact .inl (h.same x.gg)
  ·exact .inr ⟨a,vs,ws,e,e2,x.hh _ _ h1,r.same x.gg⟩
 | B=>
  rcases h with h | ⟨a,vs,ws,e,e2,h1,r⟩
  ·exact .inl (h.same (t4 x.gg))
  ·exact .inr ⟨a,vs,ws,e,e2,x.hh _ _ h1,r.same x.gg⟩
theorem Md.CB {v:V} {w:W} (I:PIv K H0 G1 ρ σ H1) (h:Md K H0 H G1 H1 v w .C):Md K H0 H G1 H1 v w .B:=by
 rcases h with h | h
 ·exact .inl (h.same I.G_join)
 ·exact .inr h
noncomputable def sca:W→Bool
 | .tup _=>false
 | .scr _=>false
 | .lst _=>false
 | _=>true
theorem Md.sca {v:V} {w:W} (hs:sca w=true) (r:∀ F,Rep K F v w) (d:Mode):Md K H0 H G1 H1 v w d:=by
 cases d with
 | V=>exact r _
 | U=>exact r _
 | C=>exact .inl (r _)
 | B=>exact .inl (r _)
 | F=>cases w <;> first | exact r _ | cases hs
theorem Md.repB {v:V} {w:W} (h:Md K H0 H G1 H1 v w .B) (n:∀ us,w≠.lst us):Rep K (join H0 G1) v w:=Or.elim h id fun zz75=>by obtain ⟨_,_,us,_,e,_⟩:=zz75; exact absurd e (n us)
theorem Md.repC {v:V} {w:W} (h:Md K H0 H G1 H1 v w .C) (n:∀ us,w≠.lst us):Rep K G1 v w:=Or.elim h id fun zz76=>by obtain ⟨_,_,us,_,e,_⟩:=zz76; exact absurd e (n us)
theorem Md.lstB {v:V} {ws:List W} (I:PIv K H0 G1 ρ σ H1) (h:Md K H0 H G1 H1 v (.lst ws) .B):∃ a vs,v=.ref a∧H1 a=some (.lst vs)∧Reps K (join H0 G1) vs ws:=by
 rcases h with h | ⟨a,vs,us,e,e2,h1,r⟩
 ·obtain ⟨a,vs,e,s,r⟩:=h.inv; exact ⟨a,vs,e,I.join_H _ _ s,r⟩
 ·rw [W.lst.inj e2]; exact ⟨a,vs,e,h1,r.same I.G_join⟩
theorem Md.scrB {v:V} {ws:List W} (I:PIv K H0 G1 ρ σ H1) (h:Md K H0 H G1 H1 v (.scr ws) .B):∃ a vs,v=.ref a∧SqL K H1 a vs∧Reps K (join H0 G1) vs ws:=by
 obtain ⟨a,vs,e,s,r⟩:=(h.repB fun _=>W.noConfusion).inv; exact ⟨a,vs,e,Same.seq I.join_H s,r⟩
theorem Md.lstC {v:V} {ws:List W} (I:PIv K H0 G1 ρ σ H1) (h:Md K H0 H G1 H1 v (.lst ws) .C):∃ a vs,v=.ref a∧H1 a=some (.lst vs)∧Reps K G1 vs ws:=by
 rcases h with h | ⟨a,vs,us,e,e2,h1,r⟩
 ·obtain ⟨a,vs,e,s,r⟩:=h.inv; exact ⟨a,vs,e,I.gh _ _ s,r⟩
 ·rw [W.lst.inj e2]; exact ⟨a,vs,e,h1,r⟩
theorem Md.tupB {v:V} {ws:List W} (I:PIv K H0 G1 ρ σ H1) (h:Md K H0 H G1 H1 v (.tup ws) .B):∃ a vs,v=.ref a∧H1 a=some (.tup vs)∧Reps K (join H0 G1) vs ws:=by
 obtain ⟨a,vs,e,s,r⟩:=(h.repB fun _=>W.noConfusion).inv; exact ⟨a,vs,e,I.join_H _ _ s,r⟩
theorem Md.tupC {v:V} {ws:List W} (I:PIv K H0 G1 ρ σ H1) (h:Md K H0 H G1 H1 v (.tup ws) .C):∃ a vs,v=.ref a∧H1 a=some (.tup vs)∧Reps K G1 vs ws:=by
 obtain ⟨a,vs,e,s,r⟩:=(h.repC fun _=>W.noConfusion).inv; exact ⟨a,vs,e,I.gh _ _ s,r⟩
theorem Md.intB {v:V} {i:Int} (h:Md K H0 H G1 H1 v (.int i) .B):v=.int i:=(h.repB fun _=>W.noConfusion).inv
theorem Md.blB {v:V} {i:Bool} (h:Md K H0 H G1 H1 v (.bl i) .B):v=.bl i:=(h.repB fun _=>W.noConfusion).inv
theorem Md.strB {v:V} {i:Str} (h:Md K H0 H G1 H1 v (.str i) .B):v=.str i:=(h.repB fun _=>W.noConfusion).inv
theorem Md.nonB {v:V} (h:Md K H0 H G1 H1 v .non .B):v=.non:=(h.repB fun _=>W.noConfusion).inv
theorem Md.tyB {v:V} {n:String} (h:Md K H0 H G1 H1 v (.ty n) .B):v=.ty n:=(h.repB fun _=>W.noConfusion).inv
theorem va {m:Rho→R W} {Q:VK} (h:tM K EX .V m σ H Q):tM K EX .F m σ H Q:=by
 obtain ⟨H0,G,ρ,I,o⟩:=h
 refine ⟨H0,G,ρ,I,?_⟩
 revert o
 cases m ρ with
 | ex e=>exact id
 | stuck=>exact id
 | ok w=>
  intro o v G' H' e d
  cases w with
  | lst ws=>
   obtain ⟨a,vs,rfl,h1,h2,h3,r⟩:=d
   have s1:Same G' (upd G' a (.lst vs)):=fun b o q=>by rw [c7 (g8 q h2)]; exact q
   refine o _ (upd G' a (.lst vs)) H' ⟨e.gg.trans s1,e.hh,fun b o q=>?_,fun b o q l g=>?_⟩ (.lst l7 (r.same s1))
   ·by_cases hb:b=a
    ·subst hb; rw [l7] at q; cases q; exact h1
    ·rw [c7 hb] at q; exact e.gh b o q
   ·rw [c7 (g8 q h3)]; exact e.keep b o q l g
  | _=>exact o v G' H' e d
theorem uY {m:Rho→R W} {Q:VK} (h:tM K EX .U m σ H Q):tM K EX .V m σ H Q:=by
 obtain ⟨H0,G,ρ,I,o⟩:=h
 refine ⟨H0,G,ρ,I,?_⟩
 revert o
 cases m ρ with
 | ex e=>exact id
 | stuck=>exact id
 | ok w=>exact fun o v G' H' e d=>o v G' H' e (Rep.same (I.ext e).G_join d)
theorem uZ {m:Rho→R W} {Q:VK} (h:tM K EX .B m σ H Q):tM K EX .U m σ H Q:=by
 obtain ⟨H0,G,ρ,I,o⟩:=h
 refine ⟨H0,G,ρ,I,?_⟩
 revert o
 cases m ρ with
 | ex e=>exact id
 | stuck=>exact id
 | ok w=>exact fun o v G' H' e d=>o v G' H' e (.inl d)
theorem vc {m:Rho→R W} {Q:VK} (h:tM K EX .B m σ H Q):tM K EX .C m σ H Q:=by
 obtain ⟨H0,G,ρ,I,o⟩:=h
 refine ⟨H0,G,ρ,I,?_⟩
 revert o
 cases m ρ with
 | ex e=>exact id
 | stuck=>exact id
 | ok w=>exact fun o v G' H' e d=>o v G' H' e (Md.CB (H:=H) (I.ext e) d)
theorem vb {m:Rho→R W} {Q:VK} (h:tM K EX .C m σ H Q):tM K EX .F m σ H Q:=by
 obtain ⟨H0,G,ρ,I,o⟩:=h
 refine ⟨H0,G,ρ,I,?_⟩
 revert o
 cases m ρ with
 | ex e=>exact id
 | stuck=>exact id
 | ok w=>
  intro o v G' H' e d
  cases w with
  | lst ws=>obtain ⟨a,vs,rfl,h1,h2,h3,r⟩:=d; exact o _ G' H' e (.inr ⟨a,vs,ws,rfl,rfl,h1,r⟩)
  | _=>exact o v G' H' e (.inl d)
noncomputable def chk (w:W):R W:=if noL w then .ok w else .stuck
theorem lm {v:V} {w:W} (n:noL w=true) (r:Rep K G1 v w):Md K H0 H G1 H1 v w .F:=by
 cases w with
 | lst ws=>cases n
 | _=>exact r
theorem ix {m:Rho→R W} {Q:VK} {d:Mode} (hd:d=.F∨d=.V) (h:tM K EX d (fun ρ=>m ρ>>=chk) σ H Q):tM K EX .U m σ H Q:=by
 obtain ⟨H0,G,ρ,I,o⟩:=h
 refine ⟨H0,G,ρ,I,Out.bind o fun x G1 H1 w e m1 o1=>?_⟩
 unfold chk at o1
 by_cases n:noL w=true
 ·rw [if_pos n] at o1
  have r:=Rep.clean (I.ext e) m1 n
  refine o1 x G1 H1 (Ext.refl e.gh) ?_
  rcases hd with rfl | rfl
  ·exact lm n r
  ·exact r
 ·rw [if_neg n] at o1; exact o1.elim
end
end TP
namespace TP
open PySem L2
section
variable {K:Frag} {EX:EXT} {H0 G H G1 H1 G2 H2:Hp} {ρ:Rho} {σ:St} {d:Mode} {Q:VK}
theorem aO {v:V} {w:W} (hs:sca w=true) (r:∀ F,Rep K F v w) (h:tM K EX d (fun _=>.ok w) σ H Q):tC v σ H Q:=by
 obtain ⟨H0,G,ρ,I,o⟩:=h
 exact o v G H (Ext.refl I.gh) (Md.sca hs r d)
noncomputable def b5 (d:Mode) (i:Nat):Rho→R W:=fun ρ=>match ρ[i]? with
 | some (.val w)=>(match d with | .F=>chk w | _=>.ok w)
 | some (.par w)=>(match d with | .F=>chk w | .V=>chk w | .C=>chk w | _=>.ok w)
 | some (.own ws)=>(match d with | .C=>.ok (.lst ws) | .B=>.ok (.lst ws) | _=>.stuck)
 | some (.iop _ ws)=>(match d with | .B=>.ok (.lst ws) | .U=>.ok (.lst ws) | _=>.stuck)
 | some (.hz w)=>(match d with | .B=>.ok w | .U=>.ok w | _=>.stuck)
 | _=>.stuck
theorem Out.chk {α:Type} {v:V} {w:W} {md:W→α→Hp→Hp→Prop} {Q:α→Hp→Prop} (o:Out EX G H md (chk w) Q):noL w=true∧Out EX G H md (.ok w) Q:=by
 unfold TP.chk at o
 by_cases n:noL w=true
 ·rw [if_pos n] at o; exact ⟨n,o⟩
 ·rw [if_neg n] at o; exact o.elim
theorem lM {i:Nat} (h:tM K EX d (b5 d i) σ H Q):ac i σ H Q:=by
 obtain ⟨H0,G,ρ,I,o⟩:=h
 unfold b5 at o
 cases e:ρ[i]? with
 | none=>rw [e] at o; exact o.elim
 | some s=>
  rw [e] at o
  have hi:i<σ.length:=by rw [← I.len]; exact (List.getElem?_eq_some_iff.mp e).1
  have es:σ[i]?=some σ[i]:=by simp
  have r:=I.sl i s _ e es
  cases s with
  | un=>exact o.elim
  | val w=>
   obtain ⟨v,ev,r⟩:=r
   refine ⟨v,by rw [es,ev],?_⟩
   cases d with
   | F=>obtain ⟨n,o⟩:=Out.chk (v:=v) o; exact o v G H (Ext.refl I.gh) (lm n r)
   | V=>exact o v G H (Ext.refl I.gh) r
   | U=>exact o v G H (Ext.refl I.gh) (r.same I.G_join)
   | C=>exact o v G H (Ext.refl I.gh) (.inl r)
   | B=>exact o v G H (Ext.refl I.gh) (.inl (r.same I.G_join))
  | par w=>
   obtain ⟨v,ev,r⟩:=r
   refine ⟨v,by rw [es,ev],?_⟩
   cases d with
   | F=>obtain ⟨n,o⟩:=Out.chk (v:=v) o; exact o v G H (Ext.refl I.gh) (lm n (Rep.clean I r n))
   | V=>obtain ⟨n,o⟩:=Out.chk (v:=v) o; exact o v G H (Ext.refl I.gh) (Rep.clean I r n)
   | U=>exact o v G H (Ext.refl I.gh) r
   | C=>obtain ⟨n,o⟩:=Out.chk (v:=v) o; exact o v G H (Ext.refl I.gh) (.inl (Rep.clean I r n))
   | B=>exact o v G H (Ext.refl I.gh) (.inl r)
  | own ws=>
   obtain ⟨a,vs,ev,ha,hg,h0,r⟩:=r
   refine ⟨.ref a,by rw [es,ev],?_⟩
   cases d with
   | F=>exact o.elim
   | V=>exact o.elim
   | U=>exact o.elim
   | C=>exact o _ G H (Ext.refl I.gh) (.inr ⟨a,vs,ws,rfl,rfl,ha,r⟩)
   | B=>exact o _ G H (Ext.refl I.gh) (.inr ⟨a,vs,ws,rfl,rfl,ha,r⟩)
  | dic ks=>exact o.elim
  | dik ks=>exact o.elim
  | hz w=>
   obtain ⟨v,ev,r⟩:=r
   refine ⟨v,by rw [es,ev],?_⟩
   have rj:=r.same (t4 (H0:=H0) (qA (G:=G)))
   cases d with
   | F=>exact o.elim
   | V=>exact o.elim
   | C=>exact o.elim
   | U=>exact o v G H (Ext.refl I.gh) rj
   | B=>exact o v G H (Ext.refl I.gh) (.inl rj)
  | iop p ws=>
   obtain ⟨ev,vs,h0,r⟩:=r
   refine ⟨.ref p,by rw [es,ev],?_⟩
   have rj:Rep K (join H0 G) (.ref p) (.lst ws):=by
    refine .lst (vs:=vs) ?_ (r.same I.G_join)
    unfold join
    rw [h0]; rfl
   cases d with
   | F=>exact o.elim
   | V=>exact o.elim
   | U=>exact o _ G H (Ext.refl I.gh) rj
   | C=>exact o.elim
   | B=>exact o _ G H (Ext.refl I.gh) (.inl rj)
noncomputable def Op2 (K:Frag) (b d:Mode) (r:R2) (f:W→W→R W):Prop:=∀ (EX:EXT) (H0 Hs G H:Hp) (ρ:Rho) (σ:St) (Ha Hb:Hp) (x y:V) (u v:W) (Q:VK),PIv K H0 G ρ σ H→Same Hs H→Md K H0 Ha G H x u b→Md K H0 Hb G H y v b →
 Out EX G H (mdW K d H0 Hs) (f u v) Q→r x y H Q
theorem iT {b:Mode} {r:R2} {f:W→W→R W} {ma mb:Rho→R W} (hr:Op2 K b d r f) (h:tM K EX d (fun ρ=>ma ρ>>=fun x=>mb ρ>>=fun y=>f x y) σ H Q):tOp r (tM K EX b ma) (tM K EX b mb) σ H Q:=by
 obtain ⟨H0,G,ρ,I,o⟩:=h
 refine ⟨H0,G,ρ,I,Out.bind o fun x G1 H1 u e1 m1 o1=>⟨H0,G1,ρ,I.ext e1,Out.bind o1 fun y G2 H2 v e2 m2 o2=>?_⟩⟩
 exact hr EX H0 H G2 H2 ρ σ H H1 x y u v Q ((I.ext e1).ext e2) (e1.hh.trans e2.hh) (m1.move e2) m2 o2
noncomputable def Op1 (K:Frag) (b d:Mode) (r:V→Hp→VK→Prop) (f:W→R W):Prop:=∀ (EX:EXT) (H0 Hs G H:Hp) (ρ:Rho) (σ:St) (Ha:Hp) (x:V) (u:W) (Q:VK),PIv K H0 G ρ σ H→Same Hs H→Md K H0 Ha G H x u b →
 Out EX G H (mdW K d H0 Hs) (f u) Q→r x H Q
theorem c_un {b:Mode} {r:V→Hp→VK→Prop} {f:W→R W} {ma:Rho→R W} (hr:Op1 K b d r f) (h:tM K EX d (fun ρ=>ma ρ>>=fun x=>f x) σ H Q):tUn r (tM K EX b ma) σ H Q:=by
 obtain ⟨H0,G,ρ,I,o⟩:=h
 exact ⟨H0,G,ρ,I,Out.bind o fun x G1 H1 u e1 m1 o1=>hr EX H0 H G1 H1 ρ σ H x u Q (I.ext e1) e1.hh m1 o1⟩
noncomputable def fI (C:Int→Int→Prop) [∀ i j,Decidable (C i j)] (g:Int→Int→W):W→W→R W
 | .int i,.int j=>if C i j then .ok (g i j) else .stuck
 | _,_=>.stuck
noncomputable def fI0 (g:Int→Int→W):W→W→R W
 | .int i,.int j=>.ok (g i j)
 | _,_=>.stuck
theorem t8 {C:Int→Int→Prop} [∀ i j,Decidable (C i j)] {g:Int→Int→W} {gv:Int→Int→V} (hs:∀ i j,sca (g i j)=true) (hg:∀ i j F,Rep K F (gv i j) (g i j)):Op2 K .B d (rI C gv) (fI C g):=by
 intro EX H0 Hs G H ρ σ Ha Hb x y u v Q I s mx my o
 cases u <;> first | exact o.elim | skip
 all_goals (cases v <;> first | exact o.elim | skip)
 rename_i i j
 have o':Out EX G H (mdW K d H0 Hs) (if C i j then R.ok (g i j) else .stuck) Q:=o
 by_cases c:C i j
 ·rw [if_pos c] at o'
  exact ⟨i,j,mx.intB,my.intB,c,o' _ G H (Ext.refl I.gh) (Md.sca (hs i j) (hg i j) d)⟩
 ·rw [if_neg c] at o'; exact o'.elim
theorem j1 {g:Int→Int→W} {gv:Int→Int→V} (hs:∀ i j,sca (g i j)=true) (hg:∀ i j F,Rep K F (gv i j) (g i j)):Op2 K .B d (rI0 gv) (fI0 g):=by
 intro EX H0 Hs G H ρ σ Ha Hb x y u v Q I s mx my o
 cases u <;> first | exact o.elim | skip
 all_goals (cases v <;> first | exact o.elim | skip)
 rename_i i j
 exact ⟨i,j,mx.intB,my.intB,o _ G H (Ext.refl I.gh) (Md.sca (hs i j) (hg i j) d)⟩
noncomputable def fU (g:Int→W):W→R W
 | .int i=>.ok (g i)
 | _=>.stuck
theorem qx {g:Int→W} {gv:Int→V} (hs:∀ i,sca (g i)=true) (hg:∀ i F,Rep K F (gv i) (g i)):Op1 K .B d (rU gv) (fU g):=by
 intro EX H0 Hs G H ρ σ Ha x u Q I s mx o
 cases u <;> first | exact o.elim | skip
 rename_i i
 exact ⟨i,mx.intB,o _ G H (Ext.refl I.gh) (Md.sca (hs i) (hg i) d)⟩
noncomputable def isN:W→Bool
 | .non=>true
 | _=>false
noncomputable def F2 (neg:Bool):W→W→R W
 | u,.non=>.ok (.bl (if neg then !isN u else isN u))
 | _,_=>.stuck
theorem nV {b:Mode} (hb:b=.B∨b=.U∨b=.V∨b=.C) {v:V} {w:W} {Hs:Hp} (h:Md K H0 Hs G1 H1 v w b):decide (v=.non)=isN w:=by
 have key:∀ F,Rep K F v w→decide (v=.non)=isN w:=fun F r=>by
  cases r <;> first | rfl | (apply decide_eq_false; intro z; cases z)
 rcases hb with rfl | rfl | rfl | rfl
 ·rcases h with h | ⟨a,vs,ws,rfl,rfl,_⟩
  ·exact key _ h
  ·apply decide_eq_false; intro z; cases z
 ·exact key _ h
 ·exact key _ h
 ·rcases h with h | ⟨a,vs,ws,rfl,rfl,_⟩
  ·exact key _ h
  ·apply decide_eq_false; intro z; cases z
theorem M2:Op2 K .B d (fun x y H Q=>y=.non∧Q (.bl (decide (x=.non))) H) (F2 false):=by
 intro EX H0 Hs G H ρ σ Ha Hb x y u v Q I s mx my o
 cases v <;> first | exact o.elim | skip
 refine ⟨my.nonB,?_⟩
 rw [nV (.inl rfl) mx]
 exact o _ G H (Ext.refl I.gh) (Md.sca rfl (fun _=>.bl) d)
theorem eX:Op2 K .B d (fun x y H Q=>y=.non∧Q (.bl (!decide (x=.non))) H) (F2 true):=by
 intro EX H0 Hs G H ρ σ Ha Hb x y u v Q I s mx my o
 cases v <;> first | exact o.elim | skip
 refine ⟨my.nonB,?_⟩
 rw [nV (.inl rfl) mx]
 exact o _ G H (Ext.refl I.gh) (Md.sca rfl (fun _=>.bl) d)
noncomputable def toB:W→R Bool
 | .bl b=>.ok b
 | _=>.stuck
theorem oA {ma:Rho→R W} {Q:Bool→Hp→Prop} (h:tT K EX (fun ρ=>ma ρ>>=toB) σ H Q):sf (tM K EX .B ma) σ H Q:=by
 obtain ⟨H0,G,ρ,I,o⟩:=h
 refine ⟨H0,G,ρ,I,Out.bind o fun x G1 H1 u e1 m1 o1=>?_⟩
 cases u <;> first | exact o1.elim | skip
 rename_i b
 exact ⟨b,m1.blB,o1 b G1 H1 (Ext.refl e1.gh) rfl⟩
theorem c_tB {ma:Rho→R W} {Q:Bool→Hp→Prop} (h:tT K EX (fun ρ=>ma ρ>>=toB) σ H Q):tB (tM K EX .B ma) σ H Q:=oA h
noncomputable def eP (a b:R Bool):R Bool:=a>>=fun c=>if c then b else .ok false
noncomputable def rOr (a b:R Bool):R Bool:=a>>=fun c=>if c then .ok true else b
noncomputable def kK (a:R Bool):R Bool:=a>>=fun c=>.ok (!c)
theorem CJ {ma mb:Rho→R Bool} {Q:Bool→Hp→Prop} (h:tT K EX (fun ρ=>eP (ma ρ) (mb ρ)) σ H Q):xp (tT K EX ma) (tT K EX mb) σ H Q:=by
 obtain ⟨H0,G,ρ,I,o⟩:=h
 refine ⟨H0,G,ρ,I,Out.bind o fun x G1 H1 u e1 m1 o1=>?_⟩
 cases m1
 cases x with
 | true=>exact ⟨H0,G1,ρ,I.ext e1,o1⟩
 | false=>exact o1 false G1 H1 (Ext.refl e1.gh) rfl
theorem c_or {ma mb:Rho→R Bool} {Q:Bool→Hp→Prop} (h:tT K EX (fun ρ=>rOr (ma ρ) (mb ρ)) σ H Q):tOr (tT K EX ma) (tT K EX mb) σ H Q:=by
 obtain ⟨H0,G,ρ,I,o⟩:=h
 refine ⟨H0,G,ρ,I,Out.bind o fun x G1 H1 u e1 m1 o1=>?_⟩
 cases m1
 cases x with
 | true=>exact o1 true G1 H1 (Ext.refl e1.gh) rfl
 | false=>exact ⟨H0,G1,ρ,I.ext e1,o1⟩
theorem Cw {ma:Rho→R Bool} {Q:Bool→Hp→Prop} (h:tT K EX (fun ρ=>kK (ma ρ)) σ H Q):xj (tT K EX ma) σ H Q:=by
 obtain ⟨H0,G,ρ,I,o⟩:=h
 refine ⟨H0,G,ρ,I,Out.bind o fun x G1 H1 u e1 m1 o1=>?_⟩
 cases m1
 exact o1 _ G1 H1 (Ext.refl e1.gh) rfl
noncomputable def cy (a b:R W):R W:=a>>=fun x=>toB x>>=fun c=>if c then b else .ok (.bl false)
noncomputable def hV (a b:R W):R W:=a>>=fun x=>toB x>>=fun c=>if c then .ok (.bl true) else b
noncomputable def gm (a:R W):R W:=a>>=fun x=>toB x>>=fun c=>.ok (.bl (!c))
theorem Bf {ma mb:Rho→R W} (h:tM K EX d (fun ρ=>cy (ma ρ) (mb ρ)) σ H Q):sk (tM K EX .B ma) (tM K EX d mb) σ H Q:=by
 obtain ⟨H0,G,ρ,I,o⟩:=h
 refine ⟨H0,G,ρ,I,Out.bind o fun x G1 H1 u e1 m1 o1=>?_⟩
 cases u <;> first | exact o1.elim | skip
 rename_i b
 refine ⟨b,m1.blB,?_⟩
 cases b with
 | true=>
  rw [if_pos rfl]
  refine ⟨H0,G1,ρ,I.ext e1,?_⟩
  have o2:Out EX G1 H1 (mdW K d H0 H) (mb ρ) Q:=o1
  revert o2
  cases mb ρ with
  | ok w=>exact fun o2 v G2 H2 e2 m2=>o2 v G2 H2 e2 (m2.start e1.hh)
  | ex _=>exact id
  | stuck=>exact id
 | false=>
  rw [if_neg Bool.false_ne_true]
  exact o1 _ G1 H1 (Ext.refl e1.gh) (Md.sca rfl (fun _=>.bl) d)
theorem AZ {ma:Rho→R W} (h:tM K EX d (fun ρ=>gm (ma ρ)) σ H Q):si (tM K EX .B ma) σ H Q:=by
 obtain ⟨H0,G,ρ,I,o⟩:=h
 refine ⟨H0,G,ρ,I,Out.bind o fun x G1 H1 u e1 m1 o1=>?_⟩
 cases u <;> first | exact o1.elim | skip
 rename_i b
 exact ⟨b,m1.blB,o1 _ G1 H1 (Ext.refl e1.gh) (Md.sca rfl (fun _=>.bl) d)⟩
theorem Out.restart {r:R W} (s:Same H H1) (o:Out EX G1 H1 (mdW K d H0 H) r Q):Out EX G1 H1 (mdW K d H0 H1) r Q:=by
 revert o
 cases r with
 | ok w=>exact fun o v G2 H2 e2 m2=>o v G2 H2 e2 (m2.start s)
 | ex _=>exact id
 | stuck=>exact id
theorem c_if {mc:Rho→R Bool} {ma mb:Rho→R W} (h:tM K EX d (fun ρ=>mc ρ>>=fun c=>if c then ma ρ else mb ρ) σ H Q):tIf (tT K EX mc) (tM K EX d ma) (tM K EX d mb) σ H Q:=by
 obtain ⟨H0,G,ρ,I,o⟩:=h
 refine ⟨H0,G,ρ,I,Out.bind o fun x G1 H1 u e1 m1 o1=>?_⟩
 cases m1
 cases x with
 | true=>exact ⟨H0,G1,ρ,I.ext e1,Out.restart e1.hh o1⟩
 | false=>exact ⟨H0,G1,ρ,I.ext e1,Out.restart e1.hh o1⟩
theorem wv {b:Mode} {r r':R2} {f f':W→W→R W} {ma mb mc:Rho→R W} (hr:Op2 K b .B r f) (hr':Op2 K b d r' f')
  (h:tM K EX d (fun ρ=>ma ρ>>=fun x=>mb ρ>>=fun y=>f x y>>=fun z=>toB z>>=fun c=>if c then mc ρ>>=fun u=>f' y u else .ok (.bl false)) σ H Q) :
  (fun σ H Q=>tM K EX b ma σ H fun x H1=>tM K EX b mb σ H1 fun y H2=>r x y H2 fun z H3=>∃ k,z=.bl k∧if k=true then tM K EX b mc σ H3 fun u H4=>r' y u H4 Q else Q (.bl false) H3) σ H Q:=by
 obtain ⟨H0,G,ρ,I,o⟩:=h
 refine ⟨H0,G,ρ,I,Out.bind o fun x G1 H1 u e1 m1 o1=>⟨H0,G1,ρ,I.ext e1,Out.bind o1 fun y G2 H2 v e2 m2 o2=>?_⟩⟩
 have I2:=(I.ext e1).ext e2
 refine hr EX H0 H G2 H2 ρ σ H H1 x y u v _ I2 (e1.hh.trans e2.hh) (m1.move e2) m2 (Out.bind o2 fun z G3 H3 wz e3 m3 o3=>?_)
 cases wz <;> first | exact o3.elim | skip
 rename_i k
 refine ⟨k,m3.blB,?_⟩
 cases k with
 | true=>
  rw [if_pos rfl]
  refine ⟨H0,G3,ρ,I2.ext e3,Out.bind (k:=fun u=>f' v u) o3 fun t G4 H4 wt e4 m4 o4=>?_⟩
  exact hr' EX H0 H G4 H4 ρ σ H1 H3 y t v wt Q ((I2.ext e3).ext e4) (((e1.hh.trans e2.hh).trans e3.hh).trans e4.hh) ((m2.move e3).move e4) m4 o4
 | false=>
  rw [if_neg Bool.false_ne_true]
  exact o3 _ G3 H3 (Ext.refl e3.gh) (Md.sca rfl (fun _=>.bl) d)
theorem Cy {QA:List V→Hp→Prop} (h:tA K EX d (fun _=>.ok []) σ H QA):tNil σ H QA:=by
 obtain ⟨H0,G,ρ,I,o⟩:=h
 exact o [] G H (Ext.refl I.gh) .nil
theorem Bc {ma:Rho→R W} {mr:Rho→R (List W)} {QA:List V→Hp→Prop} (h:tA K EX d (fun ρ=>ma ρ>>=fun x=>mr ρ>>=fun xs=>.ok (x::xs)) σ H QA):aS (tM K EX d ma) (tA K EX d mr) σ H QA:=by
 obtain ⟨H0,G,ρ,I,o⟩:=h
 refine ⟨H0,G,ρ,I,Out.bind o fun x G1 H1 u e1 m1 o1=>⟨H0,G1,ρ,I.ext e1,Out.bind o1 fun xs G2 H2 us e2 m2 o2=>?_⟩⟩
 refine o2 (x::xs) G2 H2 (Ext.refl e2.gh) (.cons (m1.move e2) ?_)
 have go:∀ {ws:List W} {vs:List V},MdA K d H0 H1 G2 H2 ws vs→MdA K d H0 H G2 H2 ws vs:=fun {ws vs} q=>by
  induction q with
  | nil=>exact .nil
  | cons a _ ih=>exact .cons (a.start e1.hh) ih
 exact go m2
theorem MdA.reps {ws:List W} {vs:List V} (h:MdA K .V H0 H G1 H1 ws vs):Reps K G1 vs ws:=
 @MdA.rec K .V H0 H G1 H1 (fun ws vs _=>Reps K G1 vs ws) .nil (fun h _ b=>.cons h b) ws vs h
theorem MdA.repsU {ws:List W} {vs:List V} (h:MdA K .U H0 H G1 H1 ws vs):Reps K (join H0 G1) vs ws:=
 @MdA.rec K .U H0 H G1 H1 (fun ws vs _=>Reps K (join H0 G1) vs ws) .nil (fun h _ b=>.cons h b) ws vs h
theorem uW {p:Addr} {o:HO} (hG:Same G H) (hp:H p=none):Ext G H G (upd H p o):=
 ⟨Same.refl G,fun b u q=>by rw [c7 (g8 q hp)]; exact q,fun b u q=>by rw [c7 (g8 (hG b u q) hp)]; exact hG b u q,fun _ _ _ _ e=>e⟩
theorem da {p:Addr} {o:HO} (hG:Same G H) (hp:H p=none):Ext G H (upd G p o) (upd H p o):=by
 have gp:G p=none:=hG.free hp
 refine ⟨fun b u q=>by rw [c7 (g8 q gp)]; exact q,fun b u q=>by rw [c7 (g8 q hp)]; exact q,fun b u q=>?_,fun b u q l g=>?_⟩
 ·by_cases hb:b=p
  ·subst hb; rw [l7] at q ⊢; exact q
  ·rw [c7 hb] at q ⊢; exact hG b u q
 ·rw [c7 (g8 q hp)]; exact g
theorem Out.newL {p:Addr} {vs:List V} {ws:List W} {Hs:Hp} (I:PIv K H0 G ρ σ H) (s:Same Hs H) (r:Reps K G vs ws) (hp:H p=none) (o:Out EX G H (mdW K .F H0 Hs) (.ok (.lst ws)) Q):Q (.ref p) (upd H p (.lst vs)):=
 o _ G _ (uW I.gh hp) ⟨p,vs,rfl,l7,I.gh.free hp,s.free hp,r⟩
theorem Out.newTF {p:Addr} {vs:List V} {ws:List W} {Hs:Hp} (I:PIv K H0 G ρ σ H) (r:Reps K G vs ws) (hp:H p=none) (o:Out EX G H (mdW K .F H0 Hs) (.ok (.tup ws)) Q):Q (.ref p) (upd H p (.tup vs)):=
 o _ (upd G p (.tup vs)) _ (da I.gh hp) (.tup l7 (r.same fun b u q=>by rw [c7 (g8 q (I.gh.free hp))]; exact q))
noncomputable def lim (n:Nat) (w:W):R W:=if n≤1000 then .ok w else .stuck
theorem Out.lim {α:Type} {n:Nat} {w:W} {md:W→α→Hp→Hp→Prop} {Q:α→Hp→Prop} (o:Out EX G H md (lim n w) Q):n≤1000∧Out EX G H md (.ok w) Q:=by
 unfold TP.lim at o
 by_cases n:n≤1000
 ·rw [if_pos n] at o; exact ⟨n,o⟩
 ·rw [if_neg n] at o; exact o.elim
theorem aF {n:Nat} (h:n≤1000):n≤sizeLine:=Nat.le_trans h (by decide)
theorem Cr {ma:Rho→R (List W)} (h:tM K EX .F (fun ρ=>ma ρ>>=fun ws=>lim ws.length (.tup ws)) σ H Q):pf (tA K EX .V ma) σ H Q:=by
 obtain ⟨H0,G,ρ,I,o⟩:=h
 refine ⟨H0,G,ρ,I,Out.bind o fun xs G1 H1 ws e1 m1 o1=>?_⟩
 obtain ⟨hl,o2⟩:=Out.lim o1
 have r:=MdA.reps m1
 exact ⟨by rw [r.length]; exact aF hl,fun p hp=>Out.newTF (I.ext e1) r hp o2⟩
theorem Cz {ma:Rho→R (List W)} (h:tM K EX .F (fun ρ=>ma ρ>>=fun ws=>lim ws.length (.lst ws)) σ H Q):xk (tA K EX .V ma) σ H Q:=by
 obtain ⟨H0,G,ρ,I,o⟩:=h
 refine ⟨H0,G,ρ,I,Out.bind o fun xs G1 H1 ws e1 m1 o1=>?_⟩
 obtain ⟨hl,o2⟩:=Out.lim o1
 have r:=MdA.reps m1
 exact ⟨by rw [r.length]; exact aF hl,fun p hp=>Out.newL (I.ext e1) e1.hh r hp o2⟩
theorem iG {p:Addr} {o:HO} (h:H0 p=none):join H0 (upd G p o)=upd (join H0 G) p o:=by
 funext b
 by_cases hb:b=p
 ·subst hb; unfold join; rw [h]; dsimp only; rw [l7,l7]
 ·rw [c7 hb]; unfold join; cases H0 b with
  | none=>dsimp only; rw [c7 hb]
  | some u=>dsimp only; rw [c7 hb]
theorem AS {ma:Rho→R (List W)} (h:tM K EX .U (fun ρ=>ma ρ>>=fun ws=>lim ws.length (.tup ws)) σ H Q):pf (tA K EX .U ma) σ H Q:=by
 obtain ⟨H0,G,ρ,I,o⟩:=h
 refine ⟨H0,G,ρ,I,Out.bind o fun xs G1 H1 ws e1 m1 o1=>?_⟩
 obtain ⟨hl,o2⟩:=Out.lim o1
 have r:=MdA.repsU m1
 have I1:=I.ext e1
 refine ⟨by rw [r.length]; exact aF hl,fun p hp=>o2 _ (upd G1 p (.tup xs)) _ (da I1.gh hp) ?_⟩
 show Rep K (join H0 (upd G1 p (.tup xs))) _ _
 rw [iG (I1.hh.free hp)]
 exact .tup l7 (r.same fun b u q=>by rw [c7 (g8 (I1.join_H b u q) hp)]; exact q)
end
end TP
namespace TP
open PySem L2
inductive Fl where
 | nx (ρ:Rho) | rt (w:W) | bk (ρ:Rho) | ct (ρ:Rho)
noncomputable def OutS (K:Frag) (EX:EXT) (d:Mode) (H0 G:Hp) (r:R Fl) (D:Ends):Prop:=match r with
 | .ok (.nx ρ)=>∀ G' σ' H',Same G G'→PIv K H0 G' ρ σ' H'→D.nx σ' H'
 | .ok (.bk ρ)=>∀ G' σ' H',Same G G'→PIv K H0 G' ρ σ' H'→D.bk σ' H'
 | .ok (.ct ρ)=>∀ G' σ' H',Same G G'→PIv K H0 G' ρ σ' H'→D.ct σ' H'
 | .ok (.rt w)=>∀ v G' H',Same G G'→Same G' H'→Same H0 H'→(∀ a o,H0 a=some o→isL o=true→G' a=none)→Md K H0 H0 G' H' v w d→D.rt v H'
 | .ex e=>∀ H',Same H0 H'→EX e H'
 | .stuck=>False
noncomputable def tSt (K:Frag) (EX:EXT) (d:Mode) (m:Rho→R Fl):TS:=fun D σ H=>∃ H0 G ρ,PIv K H0 G ρ σ H∧OutS K EX d H0 G (m ρ) D
section
variable {K:Frag} {EX:EXT} {H0 G H G1 H1 G2 H2:Hp} {ρ:Rho} {σ:St} {d:Mode} {D:Ends}
theorem OutS.move {r:R Fl} (s:Same G G1) (o:OutS K EX d H0 G r D):OutS K EX d H0 G1 r D:=by
 cases r with
 | stuck=>exact o
 | ex e=>exact o
 | ok f=>
  cases f with
  | nx ρ'=>exact fun G' σ' H' s' I'=>o G' σ' H' (s.trans s') I'
  | bk ρ'=>exact fun G' σ' H' s' I'=>o G' σ' H' (s.trans s') I'
  | ct ρ'=>exact fun G' σ' H' s' I'=>o G' σ' H' (s.trans s') I'
  | rt w=>exact fun v G' H' s0 s1 s2 c md=>o v G' H' (s.trans s0) s1 s2 c md
theorem OutS.bind {α β:Type} {md:α→β→Hp→Hp→Prop} {m:R α} {k:α→R Fl} {Q1:β→Hp→Prop} (I:PIv K H0 G ρ σ H) (o:OutS K EX d H0 G (m>>=k) D)
  (h:∀ x G1 H1 w,Ext G H G1 H1→md w x G1 H1→OutS K EX d H0 G1 (k w) D→Q1 x H1):Out EX G H md m Q1:=by
 cases m with
 | ok w=>exact fun v G' H' e q=>h v G' H' w e q (OutS.move e.gg o)
 | ex e=>exact fun H' s=>o H' (I.hh.trans s)
 | stuck=>exact o
noncomputable def c6 (m n:Rho→R Fl):Rho→R Fl:=fun ρ=>m ρ>>=fun f=>match f with
 | .nx ρ'=>n ρ'
 | .rt w=>.ok (.rt w)
 | .bk ρ'=>.ok (.bk ρ')
 | .ct ρ'=>.ok (.ct ρ')
theorem Ba (h:tSt K EX d (fun ρ=>.ok (.nx ρ)) D σ H):tNext D σ H:=by
 obtain ⟨H0,G,ρ,I,o⟩:=h
 exact o G σ H (Same.refl G) I
theorem Ct {m n:Rho→R Fl} (h:tSt K EX d (c6 m n) D σ H):ph (tSt K EX d m) (tSt K EX d n) D σ H:=by
 obtain ⟨H0,G,ρ,I,o⟩:=h
 refine ⟨H0,G,ρ,I,?_⟩
 unfold c6 at o
 revert o
 cases m ρ with
 | stuck=>exact id
 | ex e=>exact id
 | ok f=>
  cases f with
  | nx ρ'=>exact fun o G' σ' H' s' I'=>⟨H0,G',ρ',I',OutS.move s' o⟩
  | _=>exact id
theorem wq (h:tSt K EX d (fun _=>.stuck) D σ H):tNever D σ H:=by
 obtain ⟨H0,G,ρ,I,o⟩:=h
 exact o
theorem sS {m:Rho→R W} (h:tSt K EX d (fun ρ=>m ρ>>=fun w=>.ok (.rt w)) D σ H):kz (tM K EX d m) D σ H:=by
 obtain ⟨H0,G,ρ,I,o⟩:=h
 refine ⟨H0,G,ρ,I,OutS.bind I o fun x G1 H1 w e1 m1 o1=>?_⟩
 have I1:=I.ext e1
 exact o1 x G1 H1 (Same.refl _) e1.gh I1.hh I1.gl (m1.start I.hh)
noncomputable def t0 (d:Mode) (i:Nat):Rho→R Fl:=fun ρ=>match ρ[i]? with
 | some (.own ws)=>.ok (.rt (.lst ws))
 | _=>b5 d i ρ>>=fun w=>.ok (.rt w)
theorem rN {i:Nat} (hd:d=.F∨d=.V) (h:tSt K EX d (t0 d i) D σ H):kz (ac i) D σ H:=by
 obtain ⟨H0,G,ρ,I,o⟩:=h
 unfold t0 at o
 by_cases ho:∃ ws,ρ[i]?=some (.own ws)
 ·obtain ⟨ws,e⟩:=ho
  rw [e] at o
  have hi:i<σ.length:=by rw [← I.len]; exact (List.getElem?_eq_some_iff.mp e).1
  have es:σ[i]?=some σ[i]:=by simp
  obtain ⟨a,vs,ev,ha,hg,h0,r⟩:=I.sl i _ _ e es
  refine ⟨.ref a,by rw [es,ev],?_⟩
  rcases hd with rfl | rfl
  ·exact o _ G H (Same.refl _) I.gh I.hh I.gl ⟨a,vs,rfl,ha,hg,h0,r⟩
  ·have s1:Same G (upd G a (.lst vs)):=fun b o q=>by rw [c7 (g8 q hg)]; exact q
   refine o _ (upd G a (.lst vs)) H s1 (fun b o q=>?_) I.hh (fun b u q l=>?_) (.lst l7 (r.same s1))
   ·by_cases hb:b=a
    ·subst hb; rw [l7] at q; cases q; exact ha
    ·rw [c7 hb] at q; exact I.gh b o q
   ·rw [c7 (g8 q h0)]; exact I.gl b u q l
 ·have o':OutS K EX d H0 G (b5 d i ρ>>=fun w=>.ok (.rt w)) D:=by
   revert o
   split
   ·rename_i ws e; exact absurd ⟨ws,e⟩ ho
   ·exact id
  have c:kz (tM K EX d (b5 d i)) D σ H:=sS (m:=b5 d i) ⟨H0,G,ρ,I,o'⟩
  exact lM c
theorem PIv.setV {i:Nat} {v:V} {w:W} (I:PIv K H0 G ρ σ H) (r:Rep K G v w):PIv K H0 G (ρ.set i (.val w)) (σ.set i (some v)) H where
 g0:=I.g0
 gl:=I.gl
 gh:=I.gh
 hh:=I.hh
 len:=by rw [List.length_set,List.length_set]; exact I.len
 sl j x o h1 h2:=by
  by_cases hj:i=j
  ·subst hj
   rw [List.getElem?_set] at h1 h2
   simp only [if_true] at h1 h2
   split at h1 <;> split at h2 <;> simp only [Option.some.injEq,reduceCtorEq] at h1 h2
   subst h1; subst h2
   exact ⟨v,rfl,r⟩
  ·rw [List.getElem?_set_ne hj] at h1 h2; exact I.sl j x o h1 h2
 ne a b ws us c hab h1 h2 h3 h4:=by
  have na:i≠a:=by
   rintro rfl
   rw [List.getElem?_set] at h1
   simp only [if_true] at h1
   split at h1 <;> simp at h1
  have nb:i≠b:=by
   rintro rfl
   rw [List.getElem?_set] at h2
   simp only [if_true] at h2
   split at h2 <;> simp at h2
  rw [List.getElem?_set_ne na] at h1 h3
  rw [List.getElem?_set_ne nb] at h2 h4
  exact I.ne a b ws us c hab h1 h2 h3 h4
theorem PIv.setU {i:Nat} {v:V} {w:W} (I:PIv K H0 G ρ σ H) (r:Rep K (join H0 G) v w):PIv K H0 G (ρ.set i (.par w)) (σ.set i (some v)) H where
 g0:=I.g0
 gl:=I.gl
 gh:=I.gh
 hh:=I.hh
 len:=by rw [List.length_set,List.length_set]; exact I.len
 sl j x o h1 h2:=by
  by_cases hj:i=j
  ·subst hj
   rw [List.getElem?_set] at h1 h2
   simp only [if_true] at h1 h2
   split at h1 <;> split at h2 <;> simp only [Option.some.injEq,reduceCtorEq] at h1 h2
   subst h1; subst h2
   exact ⟨v,rfl,r⟩
  ·rw [List.getElem?_set_ne hj] at h1 h2; exact I.sl j x o h1 h2
 ne a b ws us c hab h1 h2 h3 h4:=by
  have na:i≠a:=by
   rintro rfl
   rw [List.getElem?_set] at h1
   simp only [if_true] at h1
   split at h1 <;> simp at h1
  have nb:i≠b:=by
   rintro rfl
   rw [List.getElem?_set] at h2
   simp only [if_true] at h2
   split at h2 <;> simp at h2
  rw [List.getElem?_set_ne na] at h1 h3
  rw [List.getElem?_set_ne nb] at h2 h4
  exact I.ne a b ws us c hab h1 h2 h3 h4
theorem PIv.setO {i:Nat} {a:Addr} {vs:List V} {ws:List W} (I:PIv K H0 G ρ σ H) (ha:H a=some (.lst vs)) (hg:G a=none) (h0:H0 a=none) (r:Reps K G vs ws)
  (nw:∀ (j:Nat) (us:List W),ρ[j]?=some (Sl.own us)→σ[j]?≠some (some (V.ref a))):PIv K H0 G (ρ.set i (.own ws)) (σ.set i (some (.ref a))) H where
 g0:=I.g0
 gl:=I.gl
 gh:=I.gh
 hh:=I.hh
 len:=by rw [List.length_set,List.length_set]; exact I.len
 sl j x o h1 h2:=by
  by_cases hj:i=j
  ·subst hj
   rw [List.getElem?_set] at h1 h2
   simp only [if_true] at h1 h2
   split at h1 <;> split at h2 <;> simp only [Option.some.injEq,reduceCtorEq] at h1 h2
   subst h1; subst h2
   exact ⟨a,vs,rfl,ha,hg,h0,r⟩
  ·rw [List.getElem?_set_ne hj] at h1 h2; exact I.sl j x o h1 h2
 ne p q ws' us c hab h1 h2 h3 h4:=by
  by_cases hp:i=p
  ·subst hp
   rw [List.getElem?_set_ne hab] at h2 h4
   rw [List.getElem?_set] at h3
   simp only [if_true] at h3
   split at h3 <;> simp only [Option.some.injEq,reduceCtorEq,V.ref.injEq] at h3
   subst h3
   exact nw q us h2 h4
  ·rw [List.getElem?_set_ne hp] at h1 h3
   by_cases hq:i=q
   ·subst hq
    rw [List.getElem?_set] at h4
    simp only [if_true] at h4
    split at h4 <;> simp only [Option.some.injEq,reduceCtorEq,V.ref.injEq] at h4
    subst h4
    exact nw p ws' h1 h3
   ·rw [List.getElem?_set_ne hq] at h2 h4
    exact I.ne p q ws' us c hab h1 h2 h3 h4
noncomputable def S4:W→Sl
 | .lst ws=>.own ws
 | w=>.val w
theorem AT {i:Nat} {m:Rho→R W} (h:tSt K EX d (fun ρ=>m ρ>>=fun w=>.ok (.nx (ρ.set i (.val w)))) D σ H):bK (tM K EX .V m) (Q3 i) D σ H:=by
 obtain ⟨H0,G,ρ,I,o⟩:=h
 exact ⟨H0,G,ρ,I,OutS.bind I o fun x G1 H1 w e1 m1 o1=>o1 G1 _ H1 (Same.refl _) ((I.ext e1).setV m1)⟩
theorem AU {i:Nat} {m:Rho→R W} (h:tSt K EX d (fun ρ=>m ρ>>=fun w=>.ok (.nx (ρ.set i (.par w)))) D σ H):bK (tM K EX .U m) (Q3 i) D σ H:=by
 obtain ⟨H0,G,ρ,I,o⟩:=h
 exact ⟨H0,G,ρ,I,OutS.bind I o fun x G1 H1 w e1 m1 o1=>o1 G1 _ H1 (Same.refl _) ((I.ext e1).setU m1)⟩
theorem oB {i:Nat} {m:Rho→R W} (h:tSt K EX d (fun ρ=>m ρ>>=fun w=>.ok (.nx (ρ.set i (S4 w)))) D σ H):bK (tM K EX .F m) (Q3 i) D σ H:=by
 obtain ⟨H0,G,ρ,I,o⟩:=h
 refine ⟨H0,G,ρ,I,OutS.bind I o fun x G1 H1 w e1 m1 o1=>?_⟩
 have I1:=I.ext e1
 cases w with
 | lst ws=>
  obtain ⟨a,vs,rfl,h1,h2,h3,r⟩:=m1
  refine o1 G1 _ H1 (Same.refl _) (I1.setO h1 h2 (I.hh.free h3) r fun j us q z=>?_)
  obtain ⟨b,us',eb,hb,_⟩:=I.sl j _ _ q z
  cases eb
  rw [h3] at hb; cases hb
 | non=>exact o1 G1 _ H1 (Same.refl _) (I1.setV m1)
 | bl _=>exact o1 G1 _ H1 (Same.refl _) (I1.setV m1)
 | int _=>exact o1 G1 _ H1 (Same.refl _) (I1.setV m1)
 | str _=>exact o1 G1 _ H1 (Same.refl _) (I1.setV m1)
 | ty _=>exact o1 G1 _ H1 (Same.refl _) (I1.setV m1)
 | tup _=>exact o1 G1 _ H1 (Same.refl _) (I1.setV m1)
 | scr _=>exact o1 G1 _ H1 (Same.refl _) (I1.setV m1)
 | exc _ _=>exact o1 G1 _ H1 (Same.refl _) (I1.setV m1)
 | cls _=>exact o1 G1 _ H1 (Same.refl _) (I1.setV m1)
noncomputable instance:DecidableEq Mode:=fun a b=>by cases a <;> cases b <;> first | exact isTrue rfl | exact isFalse (by intro h; cases h)
noncomputable def Gt (K:Frag) (e:Mode) (g:TG) (mg:W→Rho→Option Rho):Prop:=∀ (H0 Hs G:Hp) (ρ:Rho) (σ:St) (H:Hp) (v:V) (w:W) (ρ':Rho) (Q:St→Hp→Prop),PIv K H0 G ρ σ H→Md K H0 Hs G H v w e→mg w ρ=some ρ' →
 (∀ σ',PIv K H0 G ρ' σ' H→Q σ' H)→g v σ H Q
noncomputable def Gts (K:Frag) (e:Mode) (g:TGs) (mg:List W→Rho→Option Rho):Prop:=∀ (H0 G:Hp) (ρ:Rho) (σ:St) (H:Hp) (vs:List V) (ws:List W) (ρ':Rho) (Q:St→Hp→Prop),PIv K H0 G ρ σ H→Reps K (if e=.V then G else join H0 G) vs ws→mg ws ρ=some ρ' →
 (∀ σ',PIv K H0 G ρ' σ' H→Q σ' H)→g vs σ H Q
noncomputable def gN (e:Mode) (i:Nat):W→Rho→Option Rho:=fun w ρ=>some (ρ.set i (if e=.V then .val w else .par w))
theorem gt_V {i:Nat}:Gt K .V (Q3 i) (gN .V i):=fun H0 Hs G ρ σ H v w ρ' Q I m e h=>by
 cases e; exact h _ (I.setV m)
theorem j6 {i:Nat}:Gt K .U (Q3 i) (gN .U i):=fun H0 Hs G ρ σ H v w ρ' Q I m e h=>by
 cases e; exact h _ (I.setU m)
noncomputable def gsNil:List W→Rho→Option Rho
 | [],ρ=>some ρ
 | _,_=>none
noncomputable def o8 (f:W→Rho→Option Rho) (g:List W→Rho→Option Rho):List W→Rho→Option Rho
 | w::ws,ρ=>(f w ρ).bind (g ws)
 | [],_=>none
theorem L5 {e:Mode}:Gts K e gNil gsNil:=fun H0 G ρ σ H vs ws ρ' Q I r e h=>by
 cases r with
 | nil=>cases e; exact ⟨rfl,h _ I⟩
 | cons _ _=>cases e
theorem n4 {e:Mode} {t:TG} {u:TGs} {f:W→Rho→Option Rho} {g:List W→Rho→Option Rho} (he:e=.V∨e=.U) (h1:Gt K e t f) (h2:Gts K e u g):Gts K e (lD t u) (o8 f g):=fun H0 G ρ σ H vs ws ρ' Q I r q h=>by
 cases r with
 | nil=>cases q
 | cons a b=>
  unfold o8 at q
  obtain ⟨ρ1,q1,q2⟩:=Option.bind_eq_some_iff.mp q
  refine ⟨_,_,rfl,h1 H0 H G ρ σ H _ _ ρ1 _ I ?_ q1 fun σ1 I1=>h2 H0 G ρ1 σ1 H _ _ ρ' Q I1 b q2 h⟩
  rcases he with rfl | rfl
  ·exact a
  ·exact a
noncomputable def gT (n:Nat) (g:List W→Rho→Option Rho):W→Rho→Option Rho
 | .tup ws,ρ=>if ws.length=n then g ws ρ else none
 | _,_=>none
theorem Q2 {e:Mode} {n:Nat} {u:TGs} {g:List W→Rho→Option Rho} (he:e=.V∨e=.U) (h:Gts K e u g):Gt K e (lB K n u) (gT n g):=fun H0 Hs G ρ σ H v w ρ' Q I m q k=>by
 cases w <;> first | cases q | skip
 rename_i ws
 have q':(if ws.length=n then g ws ρ else none)=some ρ':=q
 by_cases hn:ws.length=n
 ·rw [if_pos hn] at q'
  rcases he with rfl | rfl
  ·obtain ⟨a,vs,e,s,r⟩:=Rep.inv m
   exact ⟨a,vs,e,SqT.of (I.gh _ _ s),by rw [r.length]; exact hn,h H0 G ρ σ H _ ws ρ' Q I (by rw [if_pos rfl]; exact r) q' k⟩
  ·obtain ⟨a,vs,e,s,r⟩:=Rep.inv m
   exact ⟨a,vs,e,SqT.of (I.join_H _ _ s),by rw [r.length]; exact hn,h H0 G ρ σ H _ ws ρ' Q I (by rw [if_neg (by intro z; cases z)]; exact r) q' k⟩
 ·rw [if_neg hn] at q'; cases q'
noncomputable def toR {α:Type}:Option α→R α
 | some a=>.ok a
 | none=>.stuck
theorem CH {e:Mode} {g:TG} {mg:W→Rho→Option Rho} {m:Rho→R W} (hg:Gt K e g mg) (h:tSt K EX d (fun ρ=>m ρ>>=fun w=>toR (mg w ρ)>>=fun ρ'=>.ok (.nx ρ')) D σ H):bK (tM K EX e m) g D σ H:=by
 obtain ⟨H0,G,ρ,I,o⟩:=h
 refine ⟨H0,G,ρ,I,OutS.bind I o fun x G1 H1 w e1 m1 o1=>?_⟩
 cases q:mg w ρ with
 | none=>rw [q] at o1; exact o1.elim
 | some ρ'=>
  rw [q] at o1
  exact hg H0 H G1 ρ σ H1 x w ρ' _ (I.ext e1) m1 q fun σ' I'=>o1 G1 σ' H1 (Same.refl _) I'
theorem PIv.own_upd {i:Nat} {a:Addr} {vs':List V} {ws ws':List W} (I:PIv K H0 G ρ σ H) (e:ρ[i]?=some (.own ws)) (es:σ[i]?=some (some (.ref a))) (r:Reps K G vs' ws'):PIv K H0 G (ρ.set i (.own ws')) σ (upd H a (.lst vs')):=by
 obtain ⟨a',vs,ev,ha,hg,h0,_⟩:=I.sl i _ _ e es
 cases ev
 refine ⟨I.g0,I.gl,fun b o q=>by rw [c7 (g8 q hg)]; exact I.gh b o q,fun b o q=>by rw [c7 (g8 q h0)]; exact I.hh b o q,by rw [List.length_set]; exact I.len,fun j x o h1 h2=>?_,fun p q ws1 us c hab h1 h2 h3 h4=>?_⟩
 ·by_cases hj:i=j
  ·subst hj
   rw [List.getElem?_set] at h1
   simp only [if_true] at h1
   split at h1 <;> simp only [Option.some.injEq,reduceCtorEq] at h1
   subst h1
   rw [es] at h2; cases h2
   exact ⟨a,vs',rfl,l7,hg,h0,r⟩
  ·rw [List.getElem?_set_ne hj] at h1
   have:=I.sl j x o h1 h2
   cases x with
   | own us=>
    obtain ⟨b,us',eb,hb,hgb,h0b,rb⟩:=this
    subst eb
    have hne:b≠a:=by
     rintro rfl
     exact I.ne i j ws us b hj e h1 es h2
    exact ⟨b,us',rfl,by rw [c7 hne]; exact hb,hgb,h0b,rb⟩
   | dic ks=>
    obtain ⟨b,us',eb,hb,hgb,h0b,rb⟩:=this
    have hne:b≠a:=by
     rintro rfl
     rw [ha] at hb; cases hb
    exact ⟨b,us',eb,by rw [c7 hne]; exact hb,hgb,h0b,rb⟩
   | dik ks=>
    obtain ⟨b,us',eb,hb,hgb,h0b,rb⟩:=this
    have hne:b≠a:=by
     rintro rfl
     rw [ha] at hb; cases hb
    exact ⟨b,us',eb,by rw [c7 hne]; exact hb,hgb,h0b,rb⟩
   | un=>exact this
   | val _=>exact this
   | par _=>exact this
   | iop _ _=>exact this
   | hz _=>exact this
 ·have key:∀ {k:Nat} {us:List W},(ρ.set i (.own ws'))[k]?=some (.own us)→∃ us',ρ[k]?=some (.own us'):=fun {k us} hk=>by
   by_cases hik:i=k
   ·subst hik; exact ⟨ws,e⟩
   ·rw [List.getElem?_set_ne hik] at hk; exact ⟨us,hk⟩
  obtain ⟨w1,k1⟩:=key h1
  obtain ⟨w2,k2⟩:=key h2
  exact I.ne p q w1 w2 c hab k1 k2 h3 h4
theorem PIv.own_at {i:Nat} {ws:List W} (I:PIv K H0 G ρ σ H) (e:ρ[i]?=some (.own ws)):∃ a vs,σ[i]?=some (some (.ref a))∧H a=some (.lst vs)∧G a=none∧H0 a=none∧Reps K G vs ws:=by
 have hi:i<σ.length:=by rw [← I.len]; exact (List.getElem?_eq_some_iff.mp e).1
 have es:σ[i]?=some σ[i]:=by simp
 obtain ⟨a,vs,ev,r⟩:=I.sl i _ _ e es
 exact ⟨a,vs,by rw [es,ev],r⟩
noncomputable def U5 (i:Nat) (m:Rho→R W):Rho→R Fl:=fun ρ=>match ρ[i]? with
 | some (.own ws)=>m ρ>>=fun w=>if ws.length<1000 then .ok (.nx (ρ.set i (.own (ws ++ [w])))) else .stuck
 | _=>.stuck
theorem CI {i:Nat} {m:Rho→R W} (h:tSt K EX d (U5 i m) D σ H):dB (pj (ac i) (tM K EX .V m)) D σ H:=by
 obtain ⟨H0,G,ρ,I,o⟩:=h
 unfold U5 at o
 split at o
 ·rename_i ws e
  obtain ⟨a,vs,es,ha,hg,h0,r⟩:=I.own_at e
  refine ⟨.ref a,es,a,rfl,⟨vs,ha⟩,H0,G,ρ,I,OutS.bind I o fun x G1 H1 w e1 m1 o1=>?_⟩
  by_cases hl:ws.length<1000
  ·rw [if_pos hl] at o1
   have h1:=e1.hh a _ ha
   dsimp only
   rw [h1]
   dsimp only
   have hlen:vs.length=ws.length:=r.length
   exact ⟨Nat.lt_of_lt_of_le (by omega:vs.length<1000) (by decide),o1 G1 σ _ (Same.refl _) ((I.ext e1).own_upd e es ((r.same e1.gg).snoc m1))⟩
  ·rw [if_neg hl] at o1; exact o1.elim
 ·exact o.elim
noncomputable def dm (i:Nat) (mk me:Rho→R W):Rho→R Fl:=fun ρ=>match ρ[i]? with
 | some (.own ws)=>me ρ>>=fun w=>mk ρ>>=fun k=>(match k with
  | .int k=>(match ixN ws.length k with
   | some j=>.ok (.nx (ρ.set i (.own (ws.set j w))))
   | none=>.stuck)
  | _=>.stuck)
 | _=>.stuck
theorem Cs {i:Nat} {mk me:Rho→R W} (h:tSt K EX d (dm i mk me) D σ H):bK (tM K EX .V me) (gSub (ac i) (tM K EX .B mk) rSetL) D σ H:=by
 obtain ⟨H0,G,ρ,I,o⟩:=h
 unfold dm at o
 split at o
 ·rename_i ws e
  obtain ⟨a,vs,es,ha,hg,h0,r⟩:=I.own_at e
  refine ⟨H0,G,ρ,I,OutS.bind I o fun x G1 H1 w e1 m1 o1=>⟨.ref a,es,H0,G1,ρ,I.ext e1,OutS.bind (I.ext e1) o1 fun y G2 H2 k e2 m2 o2=>?_⟩⟩
  cases k <;> first | exact o2.elim | skip
  rename_i k
  dsimp only at o2
  cases q:ixN ws.length k with
  | none=>rw [q] at o2; exact o2.elim
  | some j=>
   rw [q] at o2
   refine ⟨a,vs,k,j,rfl,m2.intB,e2.hh _ _ (e1.hh _ _ ha),by rw [r.length]; exact q,?_⟩
   exact o2 G2 σ _ (Same.refl _) (((I.ext e1).ext e2).own_upd e es (Reps.set (Rep.same e2.gg m1) j ((r.same e1.gg).same e2.gg)))
 ·exact o.elim
noncomputable def iB (i:Nat) (f:Int→Int→Int) (m:Rho→R W):Rho→R Fl:=fun ρ=>b5 .B i ρ>>=fun x=>m ρ>>=fun y=>match x,y with
 | .int a,.int b=>.ok (.nx (ρ.set i (.val (.int (f a b)))))
 | _,_=>.stuck
theorem CG {i:Nat} {f:Int→Int→Int} {m:Rho→R W} (h:tSt K EX d (iB i f m) D σ H):xo i (tM K EX .B m) (ipI f) D σ H:=by
 obtain ⟨H0,G,ρ,I,o⟩:=h
 unfold iB at o
 have c:tM K EX .B (b5 .B i) σ H (fun x H1=>∃ G1 w,Ext G H G1 H1∧Md K H0 H G1 H1 x w .B∧OutS K EX d H0 G1 (m ρ>>=fun y=>match w,y with
   | .int a,.int b=>.ok (.nx (ρ.set i (.val (.int (f a b)))))
   | _,_=>.stuck) D):=⟨H0,G,ρ,I,OutS.bind I o fun x G1 H1 w e1 m1 o1=>⟨G1,w,e1,m1,o1⟩⟩
 obtain ⟨v,es,G1,w,e1,m1,o1⟩:=lM c
 have I1:=I.ext e1
 refine ⟨v,es,H0,G1,ρ,I1,OutS.bind I1 o1 fun y G2 H2 u e2 m2 o2=>?_⟩
 cases w <;> first | exact o2.elim | skip
 cases u <;> first | exact o2.elim | skip
 rename_i a b
 exact ⟨a,b,m1.intB,m2.intB,o2 G2 _ H2 (Same.refl _) ((I1.ext e2).setV .int)⟩
noncomputable def mIf (c:Rho→R Bool) (m n:Rho→R Fl):Rho→R Fl:=fun ρ=>c ρ>>=fun b=>if b then m ρ else n ρ
theorem CA {c:Rho→R Bool} {m n:Rho→R Fl} (h:tSt K EX d (mIf c m n) D σ H):pi (tT K EX c) (tSt K EX d m) (tSt K EX d n) D σ H:=by
 obtain ⟨H0,G,ρ,I,o⟩:=h
 refine ⟨H0,G,ρ,I,OutS.bind I o fun x G1 H1 w e1 m1 o1=>?_⟩
 cases m1
 cases x with
 | true=>exact ⟨H0,G1,ρ,I.ext e1,o1⟩
 | false=>exact ⟨H0,G1,ρ,I.ext e1,o1⟩
noncomputable def frz (i:Nat) (ρ:Rho):Rho:=match ρ[i]? with
 | some (.own ws)=>ρ.set i (.val (.lst ws))
 | _=>ρ
theorem PIv.frz {i:Nat} (I:PIv K H0 G ρ σ H):∃ G',Same G G'∧PIv K H0 G' (frz i ρ) σ H:=by
 unfold TP.frz
 split
 ·rename_i ws e
  obtain ⟨a,vs,es,ha,hg,h0,r⟩:=I.own_at e
  have s1:Same G (upd G a (.lst vs)):=fun b o q=>by rw [c7 (g8 q hg)]; exact q
  refine ⟨upd G a (.lst vs),s1,?_⟩
  have I1:PIv K H0 G (ρ.set i .un) σ H:=by
   refine ⟨I.g0,I.gl,I.gh,I.hh,by rw [List.length_set]; exact I.len,fun j x o h1 h2=>?_,fun p q ws1 us c hab h1 h2 h3 h4=>?_⟩
   ·by_cases hj:i=j
    ·subst hj
     rw [List.getElem?_set] at h1
     simp only [if_true] at h1
     split at h1 <;> simp only [Option.some.injEq,reduceCtorEq] at h1
     subst h1; trivial
    ·rw [List.getElem?_set_ne hj] at h1; exact I.sl j x o h1 h2
   ·have na:i≠p:=by
     rintro rfl
     rw [List.getElem?_set] at h1
     simp only [if_true] at h1
     split at h1 <;> simp at h1
    have nb:i≠q:=by
     rintro rfl
     rw [List.getElem?_set] at h2
     simp only [if_true] at h2
     split at h2 <;> simp at h2
    rw [List.getElem?_set_ne na] at h1
    rw [List.getElem?_set_ne nb] at h2
    exact I.ne p q ws1 us c hab h1 h2 h3 h4
  have I2:PIv K H0 (upd G a (.lst vs)) (ρ.set i .un) σ H:=by
   refine ⟨fun b o q l=>s1 b o (I.g0 b o q l),fun b o q l=>by rw [c7 (g8 q h0)]; exact I.gl b o q l,fun b o q=>?_,I.hh,I1.len,fun j x o h1 h2=>?_,I1.ne⟩
   ·by_cases hb:b=a
    ·subst hb; rw [l7] at q; cases q; exact ha
    ·rw [c7 hb] at q; exact I.gh b o q
   ·have:=I1.sl j x o h1 h2
    cases x with
    | un=>trivial
    | val w=>obtain ⟨v,e1,r1⟩:=this; exact ⟨v,e1,r1.same s1⟩
    | par w=>obtain ⟨v,e1,r1⟩:=this; exact ⟨v,e1,r1.same (t4 s1)⟩
    | own us=>
     obtain ⟨b,us',eb,hb,hgb,h0b,rb⟩:=this
     subst eb
     have hij:i≠j:=by
      rintro rfl
      rw [List.getElem?_set] at h1
      simp only [if_true] at h1
      split at h1 <;> simp at h1
     rw [List.getElem?_set_ne hij] at h1
     have hne:b≠a:=by
      rintro rfl
      exact I.ne i j ws us b hij e h1 es h2
     exact ⟨b,us',rfl,hb,by rw [c7 hne]; exact hgb,h0b,rb.same s1⟩
    | dic ks=>
     obtain ⟨b,us',eb,hb,hgb,h0b,rb⟩:=this
     have hne:b≠a:=by
      rintro rfl
      rw [ha] at hb; cases hb
     exact ⟨b,us',eb,hb,by rw [c7 hne]; exact hgb,h0b,rb⟩
    | dik ks=>
     obtain ⟨b,us',eb,hb,hgb,h0b,rb⟩:=this
     have hne:b≠a:=by
      rintro rfl
      rw [ha] at hb; cases hb
     exact ⟨b,us',eb,hb,by rw [c7 hne]; exact hgb,h0b,rb⟩
    | iop p us=>obtain ⟨e1,vs1,h1',r1⟩:=this; exact ⟨e1,vs1,h1',r1.same s1⟩
    | hz w=>obtain ⟨v,e,r⟩:=this; exact ⟨v,e,r.same (t4 (Z4 s1))⟩
  have I3:=I2.setV (i:=i) (v:=.ref a) (w:=.lst ws) (.lst l7 (r.same s1))
  have e3:σ.set i (some (V.ref a))=σ:=by
   apply List.ext_getElem?
   intro j
   by_cases hj:i=j
   ·subst hj; rw [es,List.getElem?_set]; simp only [if_true]; rw [if_pos (List.getElem?_eq_some_iff.mp es).1]
   ·rw [List.getElem?_set_ne hj]
  rw [e3,List.set_set] at I3
  exact I3
 ·exact ⟨G,Same.refl G,I⟩
theorem CD {i:Nat} {m:Rho→R Fl} (h:tSt K EX d (fun ρ=>m (frz i ρ)) D σ H):tSt K EX d m D σ H:=by
 obtain ⟨H0,G,ρ,I,o⟩:=h
 obtain ⟨G',s,I'⟩:=I.frz (i:=i)
 exact ⟨H0,G',_,I',OutS.move s o⟩
end
end TP
namespace TP
open PySem L2
section
variable {K:Frag} {EX:EXT} {H0 G H G1 H1 G2 H2:Hp} {ρ:Rho} {σ:St} {d:Mode} {D:Ends}
structure cu (K:Frag) (e:Mode) (H0 Z G:Hp) (J:It) (ws:List W):Prop where
 go:∀ i H,i<ws.length→Same Z H→J.go i H
 stop:∀ H,Same Z H→J.stop ws.length H
 yld:∀ i H x H' w,ws[i]?=some w→Same Z H→J.yld i H x H'→∀ G2 ρ σ,PIv K H0 G2 ρ σ H→Same G G2→∃ G3,Ext G2 H G3 H'∧Md K H0 H G3 H' x w e
noncomputable def iY (K:Frag) (EX:EXT) (lp:Bool) (e:Mode) (H0 G H:Hp) (r:R (List W)) (Rr:It→Hp→Prop):Prop:=match r with
 | .ok ws=>∀ J G' H',Ext G H G' H'→cu K e H0 (if lp then join H0 G' else H') G' J ws→Rr J H'
 | .ex x=>∀ H',Same H H'→EX x H'
 | .stuck=>False
noncomputable def tIt (K:Frag) (EX:EXT) (lp:Bool) (e:Mode) (m:Rho→R (List W)):TI:=fun σ H Rr=>∃ H0 G ρ,PIv K H0 G ρ σ H∧iY K EX lp e H0 G H (m ρ) Rr
noncomputable def J9 (mg:W→Rho→Option Rho) (mb:Rho→R Fl):List W→Rho→R Fl
 | [],ρ=>.ok (.nx ρ)
 | w::ws,ρ=>toR (mg w ρ)>>=fun ρ1=>mb ρ1>>=fun f=>match f with
  | .nx ρ2=>J9 mg mb ws ρ2
  | .ct ρ2=>J9 mg mb ws ρ2
  | .bk ρ2=>.ok (.nx ρ2)
  | .rt w=>.ok (.rt w)
theorem CF {e:Mode} {g:TG} {mg:W→Rho→Option Rho} {mi:Rho→R (List W)} {mb:Rho→R Fl} (hg:Gt K e g mg) (h:tSt K EX d (fun ρ=>mi ρ>>=fun ws=>J9 mg mb ws ρ) D σ H) :
  xl (tIt K EX true e mi) g (tSt K EX d mb) D σ H:=by
 obtain ⟨H0,G,ρ,I,o⟩:=h
 refine ⟨H0,G,ρ,I,?_⟩
 replace o:OutS K EX d H0 G (mi ρ>>=fun ws=>J9 mg mb ws ρ) D:=o
 revert o
 cases mi ρ with
 | stuck=>exact id
 | ex x=>exact fun o H' s=>o H' (I.hh.trans s)
 | ok ws=>
  intro o J G1 H1 e1 T
  have o1:OutS K EX d H0 G1 (J9 mg mb ws ρ) D:=OutS.move e1.gg o
  refine ⟨fun i m σ H=>m=ws.length-i∧i≤ws.length∧∃ G2 ρ2,Same G1 G2∧PIv K H0 G2 ρ2 σ H∧OutS K EX d H0 G2 (J9 mg mb (ws.drop i) ρ2) D,⟨_,rfl,Nat.zero_le _,G1,ρ,Same.refl _,I.ext e1,o1⟩,?_⟩
  rintro i m σ2 Hh ⟨rfl,hi,G2,ρ2,s2,I2,o2⟩
  have hz:Same (join H0 G1) Hh:=(t4 s2).trans I2.join_H
  by_cases hlt:i<ws.length
  ·refine .inr ⟨T.go i Hh hlt hz,fun σ' H'=>∃ G4 ρ4,Same G1 G4∧PIv K H0 G4 ρ4 σ' H'∧OutS K EX d H0 G4 (J9 mg mb (ws.drop (i+1)) ρ4) D,fun σ' H' zz77=>by obtain ⟨G4,ρ4,s4,I4,o4⟩:=zz77; exact ⟨ws.length-(i+1),by omega,rfl,hlt,G4,ρ4,s4,I4,o4⟩,fun x H' y=>?_⟩
   obtain ⟨G3,e3,m3⟩:=T.yld i Hh x H' ws[i] (by simp) hz y G2 ρ2 σ2 I2 s2
   rw [List.drop_eq_getElem_cons hlt] at o2
   unfold J9 at o2
   cases q:mg ws[i] ρ2 with
   | none=>rw [q] at o2; exact o2.elim
   | some ρ'=>
    rw [q] at o2
    refine hg H0 Hh G3 ρ2 σ2 H' x _ ρ' _ (I2.ext e3) m3 q fun σ' I'=>⟨H0,G3,ρ',I',?_⟩
    have o3:OutS K EX d H0 G3 (mb ρ'>>=fun f=>match f with
     | .nx ρ2=>J9 mg mb (ws.drop (i+1)) ρ2
     | .ct ρ2=>J9 mg mb (ws.drop (i+1)) ρ2
     | .bk ρ2=>.ok (.nx ρ2)
     | .rt w=>.ok (.rt w)) D:=OutS.move e3.gg o2
    revert o3
    have s3:Same G1 G3:=s2.trans e3.gg
    cases mb ρ' with
    | stuck=>exact id
    | ex x=>exact id
    | ok f=>
     cases f with
     | nx ρ4=>exact fun o4 G4 σ4 H4 s4 I4=>⟨G4,ρ4,s3.trans s4,I4,OutS.move s4 o4⟩
     | ct ρ4=>exact fun o4 G4 σ4 H4 s4 I4=>⟨G4,ρ4,s3.trans s4,I4,OutS.move s4 o4⟩
     | bk ρ4=>exact id
     | rt w=>exact id
  ·have e:i=ws.length:=by omega
   subst e
   refine .inl ⟨T.stop Hh hz,?_⟩
   rw [List.drop_length] at o2
   exact o2 G2 σ2 Hh (Same.refl _) I2
noncomputable def F4 (c:Rho→R Bool) (b:Rho→R Fl):Nat→Rho→Option (R Fl)
 | 0,_=>none
 | n+1,ρ=>match c ρ with
  | .ok false=>some (.ok (.nx ρ))
  | .ok true=>(match b ρ with
   | .ok (.nx ρ')=>F4 c b n ρ'
   | .ok (.ct ρ')=>F4 c b n ρ'
   | .ok (.bk ρ')=>some (.ok (.nx ρ'))
   | .ok (.rt w)=>some (.ok (.rt w))
   | .ex e=>some (.ex e)
   | .stuck=>some .stuck)
  | .ex e=>some (.ex e)
  | .stuck=>some .stuck
theorem bq {c:Rho→R Bool} {b:Rho→R Fl}:∀ (n:Nat) (ρ:Rho) (r:R Fl),F4 c b n ρ=some r→∀ m,n≤m→F4 c b m ρ=some r:=by
 intro n
 induction n with
 | zero=>intro ρ r h; cases h
 | succ n ih=>
  intro ρ r h m hm
  obtain ⟨k,rfl⟩:∃ k,m=k+1:=⟨m-1,by omega⟩
  have hk:=Nat.le_of_succ_le_succ hm
  unfold F4 at h ⊢
  revert h
  cases c ρ with
  | ex e=>exact id
  | stuck=>exact id
  | ok t=>
   cases t with
   | false=>exact id
   | true=>
    cases b ρ with
    | ex e=>exact id
    | stuck=>exact id
    | ok f=>
     cases f with
     | nx ρ'=>exact fun h=>ih ρ' r h k hk
     | ct ρ'=>exact fun h=>ih ρ' r h k hk
     | bk ρ'=>exact id
     | rt w=>exact id
open Classical in
noncomputable def T8 (c:Rho→R Bool) (b:Rho→R Fl):Rho→R Fl:=fun ρ=>if h:∃ r n,F4 c b n ρ=some r then h.choose else .stuck
theorem fP {c:Rho→R Bool} {b:Rho→R Fl} {n:Nat} {r:R Fl} (h:F4 c b n ρ=some r):T8 c b ρ=r:=by
 unfold T8
 have hx:∃ r n,F4 c b n ρ=some r:=⟨r,n,h⟩
 rw [dif_pos hx]
 obtain ⟨m,hm⟩:=hx.choose_spec
 have a:=bq n ρ r h (max n m) (Nat.le_max_left _ _)
 have b:=bq m ρ _ hm (max n m) (Nat.le_max_right _ _)
 rw [a] at b
 exact (Option.some.inj b).symm
theorem wo {c:Rho→R Bool} {b:Rho→R Fl} (h:tSt K EX d (T8 c b) D σ H):mH (tT K EX c) (tSt K EX d b) D σ H:=by
 obtain ⟨H0,G,ρ,I,o⟩:=h
 by_cases hx:∃ r n,F4 c b n ρ=some r
 ·obtain ⟨r,n,hn⟩:=hx
  rw [fP hn] at o
  refine ⟨fun m σ2 Hh=>∃ G2 ρ2,Same G G2∧PIv K H0 G2 ρ2 σ2 Hh∧F4 c b m ρ2=some r,⟨n,G,ρ,Same.refl _,I,hn⟩,?_⟩
  rintro m σ2 Hh ⟨G2,ρ2,s2,I2,h2⟩
  have o2:OutS K EX d H0 G2 r D:=OutS.move s2 o
  refine ⟨H0,G2,ρ2,I2,?_⟩
  cases m with
  | zero=>cases h2
  | succ m=>
   unfold F4 at h2
   revert h2
   cases c ρ2 with
   | stuck=>intro h2; cases h2; exact o2
   | ex x=>intro h2; cases h2; exact fun H' s=>o2 H' (I2.hh.trans s)
   | ok t=>
    cases t with
    | false=>
     intro h2; cases h2
     intro v G3 H3 e3 q
     cases q
     rw [if_neg Bool.false_ne_true]
     exact o2 G3 σ2 H3 e3.gg (I2.ext e3)
    | true=>
     intro h2 v G3 H3 e3 q
     cases q
     rw [if_pos rfl]
     refine ⟨fun σ' H'=>∃ G4 ρ4,Same G G4∧PIv K H0 G4 ρ4 σ' H'∧F4 c b m ρ4=some r,fun σ' H' zz78=>by obtain ⟨G4,ρ4,s4,I4,h4⟩:=zz78; exact ⟨m,Nat.lt_succ_self m,G4,ρ4,s4,I4,h4⟩,H0,G3,ρ2,I2.ext e3,?_⟩
     have o3:OutS K EX d H0 G3 r D:=OutS.move e3.gg o2
     have s3:Same G G3:=s2.trans e3.gg
     revert h2
     cases b ρ2 with
     | stuck=>intro h2; cases h2; exact o3
     | ex x=>intro h2; cases h2; exact o3
     | ok f=>
      cases f with
      | nx ρ4=>exact fun h2 G4 σ4 H4 s4 I4=>⟨G4,ρ4,s3.trans s4,I4,h2⟩
      | ct ρ4=>exact fun h2 G4 σ4 H4 s4 I4=>⟨G4,ρ4,s3.trans s4,I4,h2⟩
      | bk ρ4=>intro h2; cases h2; exact o3
      | rt w=>intro h2; cases h2; exact o3
 ·unfold T8 at o
  rw [dif_neg hx] at o
  exact o.elim
theorem Md.whole {v:V} {w:W} {Hs:Hp} (I:PIv K H0 G ρ σ H) (h:Md K H0 Hs G H v w .B):Rep K H v w:=by
 rcases h with h | ⟨a,vs,ws,rfl,rfl,h1,r⟩
 ·exact h.same I.join_H
 ·exact .lst h1 (r.same I.gh)
theorem MdA.whole {Hs:Hp} (I:PIv K H0 G ρ σ H) {ws:List W} {vs:List V} (h:MdA K .B H0 Hs G H ws vs):Reps K H vs ws:=
 @MdA.rec K .B H0 Hs G H (fun ws vs _=>Reps K H vs ws) .nil (fun h _ b=>.cons (h.whole I) b) ws vs h
noncomputable def XE (_:XK):EXT:=fun _ _=>False
noncomputable def spM (K:Frag) (n:Nat) (d:Mode) (f:List W→R W):Sp:=fun vs H Q E=>vs.length=n∧∃ ws,Reps K H vs ws∧match f ws with
 | .ok w=>∀ v G' H',Same H H'→Same G' H'→(∀ a o,H a=some o→isL o=true→G' a=none)→Md K H H G' H' v w d→Q v H'
 | .ex e=>∀ H',Same H H'→XE E e H'
 | .stuck=>False
noncomputable def i6 (n N:Nat) (m:Rho→R Fl) (ws:List W):R W:=if ws.length=n then (m (ws.map Sl.par++List.replicate (N-n) Sl.un)>>=fun f=>match f with
 | .rt w=>.ok w
 | .nx _=>.ok .non
 | _=>.stuck) else .stuck
theorem pI {n N:Nat} {m:Rho→R Fl} (ws:List W) (h:i6 n N m ws≠.stuck):ws.length=n:=by
 unfold i6 at h
 by_cases e:ws.length=n
 ·exact e
 ·rw [if_neg e] at h; exact absurd rfl h
noncomputable def both (G G':Hp):Hp:=fun b=>match G b with
 | some o=>some o
 | none=>G' b
theorem Bd {n:Nat} {f:List W→R W} {E:XK} {ma:Rho→R (List W)} {Q:VK} (hd:d=.F∨d=.V) (hf:∀ ws,f ws≠.stuck→ws.length=n) (hE:∀ e H,EX e H→XE E e H) (h:tM K EX d (fun ρ=>ma ρ>>=fun ws=>f ws) σ H Q) :
  kB (spM K n d f) [] E (tA K EX .B ma) σ H Q:=by
 obtain ⟨H0,G,ρ,I,o⟩:=h
 refine ⟨H0,G,ρ,I,Out.bind o fun xs G1 H1 ws e1 m1 o1=>?_⟩
 have I1:=I.ext e1
 have r:=MdA.whole I1 m1
 rw [List.append_nil]
 refine ⟨?_,ws,r,?_⟩
 ·rw [r.length]
  refine hf ws fun z=>?_
  rw [z] at o1; exact o1
 ·revert o1
  cases f ws with
  | stuck=>exact id
  | ex e=>exact fun o1 H' s=>hE e H' (o1 H' s)
  | ok w=>
   intro o1 v G' H' sH gH cl md
   have sB:Same G1 (both G1 G'):=fun b o q=>by unfold both; rw [q]
   have sB':Same G' (both G1 G'):=fun b o q=>by
    unfold both
    cases q1:G1 b with
    | none=>exact q
    | some u=>
     have a1:=sH b u (I1.gh b u q1)
     rw [gH b o q] at a1
     exact a1.symm
   have sHB:Same (both G1 G') H':=fun b o q=>by
    unfold both at q
    cases q1:G1 b with
    | none=>rw [q1] at q; exact gH b o q
    | some u=>rw [q1] at q; cases q; exact sH b _ (I1.gh b _ q1)
   have ex:Ext G1 H1 (both G1 G') H':=⟨sB,sH,sHB,fun b o q l g=>by unfold both; rw [g]; exact cl b o q l⟩
   refine o1 v (both G1 G') H' ex ?_
   rcases hd with rfl | rfl
   ·cases w with
    | lst us=>
     obtain ⟨a,vs,rfl,h1,h2,h3,r3⟩:=md
     exact ⟨a,vs,rfl,h1,by unfold both; rw [I1.gh.free h3]; exact h2,e1.hh.free h3,r3.same sB'⟩
    | non=>exact Rep.same sB' md
    | bl _=>exact Rep.same sB' md
    | int _=>exact Rep.same sB' md
    | str _=>exact Rep.same sB' md
    | ty _=>exact Rep.same sB' md
    | tup _=>exact Rep.same sB' md
    | scr _=>exact Rep.same sB' md
    | exc _ _=>exact Rep.same sB' md
    | cls _=>exact Rep.same sB' md
   ·exact Rep.same sB' md
noncomputable def bc (H:Hp):Hp:=fun a=>match H a with
 | some o=>if isL o then none else some o
 | none=>none
theorem fS:join H (bc H)=H:=by
 funext a
 unfold join bc
 cases q:H a with
 | none=>rfl
 | some o=>
  dsimp only
  cases isL o <;> rfl
theorem Reps.slots {vs:List V} {ws:List W} {i:Nat} {x:Sl} {o:Option V} {k k':Nat} (r:Reps K H vs ws):(ws.map Sl.par++List.replicate k Sl.un)[i]?=some x→(vs.map some++List.replicate k' none)[i]?=some o→x=.un∨∃ v w,x=.par w∧o=some v∧Rep K H v w:=
 Reps.ind (P:=fun vs ws=>∀ i,(ws.map Sl.par++List.replicate k Sl.un)[i]?=some x→(vs.map some++List.replicate k' none)[i]?=some o→x=.un∨∃ v w,x=.par w∧o=some v∧Rep K H v w) (fun i h1 h2=>by
  have h1:(List.replicate k Sl.un)[i]?=some x:=h1
  rw [List.getElem?_replicate] at h1
  by_cases hk:i<k
  ·rw [if_pos hk] at h1; exact .inl (Option.some.inj h1).symm
  ·rw [if_neg hk] at h1; cases h1) (fun r _ b i h1 h2=>by
  cases i with
  | zero=>exact .inr ⟨_,_,(Option.some.inj h1).symm,(Option.some.inj h2).symm,r⟩
  | succ i=>exact b i h1 h2) r i
theorem PIv.begin {vs:List V} {ws:List W} {k k':Nat} (r:Reps K H vs ws) (hk:k=k'):PIv K H (bc H) (ws.map Sl.par++List.replicate k Sl.un) (vs.map some++List.replicate k' none) H where
 g0 a o e l:=by unfold bc; rw [e]; dsimp only; rw [l]; rfl
 gl a o e l:=by unfold bc; rw [e]; dsimp only; rw [l]; rfl
 gh a o e:=by
  unfold bc at e
  cases q:H a with
  | none=>rw [q] at e; cases e
  | some u=>
   rw [q] at e
   dsimp only at e
   cases hl:isL u
   ·rw [hl] at e; exact e
   ·rw [hl] at e; cases e
 hh:=Same.refl H
 len:=by subst hk; simp [r.length]
 sl i x o h1 h2:=by
  rcases Reps.slots r h1 h2 with rfl | ⟨v,w,rfl,rfl,q⟩
  ·trivial
  ·exact ⟨v,rfl,by rw [fS]; exact q⟩
 ne i j us xs a hij h1 _ _ _:=by
  have:∀ (i:Nat) (us:List W),(ws.map Sl.par++List.replicate k Sl.un)[i]?≠some (Sl.own us):=fun i us q=>by
   rw [List.getElem?_append] at q
   split at q
   ·rw [List.getElem?_map] at q
    cases hh:ws[i]? <;> rw [hh] at q <;> cases q
   ·rw [List.getElem?_replicate] at q
    split at q <;> cases q
  exact absurd h1 (this i us)
theorem j3 {n:Nat} {Nl:List Str} {m:Rho→R Fl} {vs:List V} {Q:VK} {E:XK} (hd:d=.F∨d=.V) (h:spM K n d (i6 n Nl.length m) vs H Q E):tSt K (fun _ _=>False) d m { nx:=fun _ H'=>Q .non H',rt:=Q } (L2.start Nl vs) H:=by
 obtain ⟨hl,ws,r,o⟩:=h
 have hw:ws.length=n:=by rw [← r.length]; exact hl
 unfold i6 at o
 rw [if_pos hw] at o
 refine ⟨H,bc H,_,PIv.begin (k:=Nl.length-n) r (by rw [hl]),?_⟩
 revert o
 cases m (ws.map Sl.par++List.replicate (Nl.length-n) Sl.un) with
 | stuck=>exact id
 | ex e=>exact fun o=>(o H (Same.refl H)).elim
 | ok f=>
  cases f with
  | nx ρ'=>exact fun o G' σ' H' s' I'=>o .non G' H' I'.hh I'.gh I'.gl (Md.sca rfl (fun _=>.non) d)
  | rt w=>exact fun o v G' H' _ s1 s2 c md=>o v G' H' s2 s1 c md
  | bk _=>exact fun o=>o.elim
  | ct _=>exact fun o=>o.elim
end
end TP
namespace TP
open PySem L2
section
variable {K:Frag} {EX:EXT} {H0 G H G1 H1 G2 H2:Hp} {ρ:Rho} {σ:St} {d:Mode} {D:Ends}
noncomputable def elR (mg:W→Rho→Option Rho) (mc:Rho→R Bool) (me:Rho→R W) (ρ:Rho) (w:W):R (Option W):=match mg w ρ with
 | none=>.stuck
 | some ρ1=>(match mc ρ1 with
  | .ok true=>(match me ρ1 with
   | .ok y=>.ok (some y)
   | _=>.stuck)
  | .ok false=>.ok none
  | _=>.stuck)
noncomputable def mapR (f:W→R (Option W)):List W→R (List W)
 | []=>.ok []
 | w::ws=>match f w,mapR f ws with
  | .ok (some y),.ok ys=>.ok (y::ys)
  | .ok none,.ok ys=>.ok ys
  | _,_=>.stuck
noncomputable def m5 (N':Nat) (mg:W→Rho→Option Rho) (mc:Rho→R Bool) (me:Rho→R W) (ws:List W) (ρ:Rho):R W:=
 if ws.length≤1000 then (match mapR (elR mg mc me (ρ++List.replicate (N'-ρ.length) Sl.un)) ws with
  | .ok ys=>.ok (.lst ys)
  | _=>.stuck) else .stuck
theorem vf {f:W→R (Option W)}:∀ {ws ys:List W},mapR f ws=.ok ys→(∀ w∈ws,∃ o,f w=.ok o)∧ys=ws.filterMap fun w=>match f w with
  | .ok o=>o
  | _=>none:=by
 intro ws
 induction ws with
 | nil=>intro ys h; cases h; exact ⟨by simp,rfl⟩
 | cons w ws ih=>
  intro ys h
  unfold mapR at h
  cases hf:f w with
  | stuck=>rw [hf] at h; cases h
  | ex e=>rw [hf] at h; cases h
  | ok o=>
   rw [hf] at h
   cases hm:mapR f ws with
   | stuck=>rw [hm] at h; cases o <;> cases h
   | ex e=>rw [hm] at h; cases o <;> cases h
   | ok zs=>
    rw [hm] at h
    obtain ⟨h1,h2⟩:=ih hm
    refine ⟨fun u hu=>?_,?_⟩
    ·rcases List.mem_cons.mp hu with rfl | hu
     ·exact ⟨o,hf⟩
     ·exact h1 u hu
    ·cases o with
     | none=>cases h; rw [List.filterMap_cons,hf]; exact h2
     | some y=>cases h; rw [List.filterMap_cons,hf,h2]
theorem PIv.inner {N':List Str} (I:PIv K H0 G ρ σ H):PIv K H0 G (ρ++List.replicate (N'.length-ρ.length) Sl.un) (inner N' σ) H:=by
 have hl:=I.len
 unfold L2.inner
 rw [hl]
 refine ⟨I.g0,I.gl,I.gh,I.hh,by simp [hl],fun i x o h1 h2=>?_,fun p q ws us c hab h1 h2 h3 h4=>?_⟩
 ·by_cases hi:i<ρ.length
  ·rw [List.getElem?_append_left hi] at h1
   rw [List.getElem?_append_left (by omega)] at h2
   exact I.sl i x o h1 h2
  ·rw [List.getElem?_append_right (by omega),List.getElem?_replicate] at h1
   split at h1 <;> simp only [Option.some.injEq,reduceCtorEq] at h1
   subst h1; trivial
 ·have key:∀ {k:Nat} {us:List W},(ρ++List.replicate (N'.length-σ.length) Sl.un)[k]?=some (Sl.own us)→k<ρ.length∧ρ[k]?=some (Sl.own us):=fun {k us} hk=>by
   by_cases hi:k<ρ.length
   ·rw [List.getElem?_append_left hi] at hk; exact ⟨hi,hk⟩
   ·rw [List.getElem?_append_right (by omega),List.getElem?_replicate] at hk
    split at hk <;> simp at hk
  obtain ⟨l1,k1⟩:=key h1
  obtain ⟨l2,k2⟩:=key h2
  rw [List.getElem?_append_left (by omega)] at h3 h4
  exact I.ne p q ws us c hab k1 k2 h3 h4
open Classical in
noncomputable def rest (G H:Hp) (Dd:Addr) (H':Hp):Hp:=fun b=>if b=Dd∨∃ o,H b=some o∧isL o=true∧G b=none then none else H' b
theorem A2 {Dd b:Addr} {H':Hp} (h:b=Dd∨∃ o,H b=some o∧isL o=true∧G b=none):rest G H Dd H' b=none:=by unfold rest; rw [if_pos h]
theorem Z0 {Dd b:Addr} {H':Hp} (h:¬ (b=Dd∨∃ o,H b=some o∧isL o=true∧G b=none)):rest G H Dd H' b=H' b:=by unfold rest; rw [if_neg h]
theorem jz {Dd b:Addr} {H':Hp} {o:HO} (h:rest G H Dd H' b=some o):H' b=some o∧¬ (b=Dd∨∃ o,H b=some o∧isL o=true∧G b=none):=by
 by_cases c:b=Dd∨∃ o,H b=some o∧isL o=true∧G b=none
 ·rw [A2 c] at h; cases h
 ·rw [Z0 c] at h; exact ⟨h,c⟩
theorem PIv.rest {Dd:Addr} {H':Hp} (I:PIv K H0 G ρ σ H) (hD:H Dd=none) (s:Same H H'):Same G (rest G H Dd H')∧PIv K H0 (rest G H Dd H') ρ σ H':=by
 have sG:Same G (TP.rest G H Dd H'):=fun b o q=>by
  rw [Z0]
  ·exact s b o (I.gh b o q)
  ·rintro (rfl | ⟨u,h1,h2,h3⟩)
   ·rw [I.gh _ _ q] at hD; cases hD
   ·rw [q] at h3; cases h3
 refine ⟨sG,fun a o e l=>sG a o (I.g0 a o e l),fun a o e l=>A2 (.inr ⟨o,I.hh a o e,l,I.gl a o e l⟩),fun b o q=>(jz q).1,I.hh.trans s,I.len,fun i x o h1 h2=>?_,I.ne⟩
 have:=I.sl i x o h1 h2
 cases x with
 | un=>trivial
 | val w=>obtain ⟨v,e,r⟩:=this; exact ⟨v,e,r.same sG⟩
 | par w=>obtain ⟨v,e,r⟩:=this; exact ⟨v,e,r.same (t4 sG)⟩
 | own ws=>
  obtain ⟨a,vs,e,h,g,h0,r⟩:=this
  exact ⟨a,vs,e,s a _ h,A2 (.inr ⟨_,h,rfl,g⟩),h0,r.same sG⟩
 | dic ks=>
  obtain ⟨a,vs,e,h,g,h0,r⟩:=this
  exact ⟨a,vs,e,s a _ h,A2 (.inr ⟨_,h,rfl,g⟩),h0,r⟩
 | dik ks=>
  obtain ⟨a,vs,e,h,g,h0,r⟩:=this
  exact ⟨a,vs,e,s a _ h,A2 (.inr ⟨_,h,rfl,g⟩),h0,r⟩
 | iop p ws=>obtain ⟨e1,vs1,h1',r1⟩:=this; exact ⟨e1,vs1,h1',r1.same sG⟩
 | hz w=>obtain ⟨v,e,r⟩:=this; exact ⟨v,e,r.same (t4 (Z4 sG))⟩
theorem bV {Dd:Addr} {Ha Hb:Hp} (s:∀ b o,b≠Dd→Ha b=some o→Hb b=some o):Same (rest G H Dd Ha) (rest G H Dd Hb):=fun b o q=>by
 obtain ⟨h,c⟩:=jz q
 rw [Z0 c]
 exact s b o (fun z=>c (.inl z)) h
theorem pR {Dd:Addr} {Ha Hb G':Hp} (hl:∃ ys,Ha Dd=some (.lst ys)) (s:Same H Ha) (e:Ext (rest G H Dd Ha) Ha G' Hb):Same G' (rest G H Dd Hb):=fun b o q=>by
 rw [Z0]
 ·exact e.gh b o q
 ·rintro (rfl | ⟨u,h1,h2,h3⟩)
  ·obtain ⟨ys,hl⟩:=hl
   rw [e.keep _ _ hl rfl (A2 (.inl rfl))] at q; cases q
  ·rw [e.keep _ _ (s _ _ h1) h2 (A2 (.inr ⟨u,h1,h2,h3⟩))] at q; cases q
theorem oC {Q:VK} {e:Mode} {N':List Str} {g:TG} {mg:W→Rho→Option Rho} {mi:Rho→R (List W)} {mc:Rho→R Bool} {me:Rho→R W} (hg:Gt K e g mg) (h:tM K EX .F (fun ρ=>mi ρ>>=fun ws=>m5 N'.length mg mc me ws ρ) σ H Q) :
  kA N' (tIt K EX false e mi) g (tT K EX mc) (tM K EX .V me) σ H Q:=by
 obtain ⟨H0,G,ρ,I,o⟩:=h
 refine ⟨H0,G,ρ,I,?_⟩
 replace o:Out EX G H (mdW K .F H0 H) (mi ρ>>=fun ws=>m5 N'.length mg mc me ws ρ) Q:=o
 revert o
 cases mi ρ with
 | stuck=>exact id
 | ex x=>exact id
 | ok ws=>
  intro o J G1 H1 e1 T Dd hD
  have I1:=I.ext e1
  replace o:Out EX G H (mdW K .F H0 H) (m5 N'.length mg mc me ws ρ) Q:=o
  unfold m5 at o
  by_cases hlen:ws.length≤1000
  ·rw [if_pos hlen] at o
   cases hm:mapR (elR mg mc me (ρ++List.replicate (N'.length-ρ.length) Sl.un)) ws with
   | stuck=>rw [hm] at o; exact o.elim
   | ex x=>rw [hm] at o; exact o.elim
   | ok ys=>
    rw [hm] at o
    obtain ⟨hall,hys⟩:=vf hm
    have T':cu K e H0 H1 G1 J ws:=by
     have:=T
     rw [if_neg Bool.false_ne_true] at this
     exact this
    generalize hρ:ρ++List.replicate (N'.length-ρ.length) Sl.un=ρi at hm hall hys
    refine ⟨fun i m H2=>m=ws.length-i∧i≤ws.length∧Same H1 H2∧∃ vs,H2 Dd=some (.lst vs)∧vs.length≤i∧Reps K (rest G1 H1 Dd H2) vs ((ws.take i).filterMap fun w=>match elR mg mc me ρi w with
     | .ok o=>o
     | _=>none),⟨_,rfl,Nat.zero_le _,fun b u q=>by rw [c7 (g8 q hD)]; exact q,[],l7,Nat.le_refl _,.nil⟩,?_⟩
    rintro i m H2 ⟨rfl,hi,s2,vs,hDv,hvl,r2⟩
    by_cases hlt:i<ws.length
    ·refine .inr ⟨T'.go i H2 hlt s2,fun x H3 y=>?_⟩
     obtain ⟨sG,I2⟩:=I1.rest (Dd:=Dd) hD s2
     have I2i:=I2.inner (N':=N')
     obtain ⟨G3,e3,m3⟩:=T'.yld i H2 x H3 ws[i] (by simp) s2 y _ _ _ I2i sG
     obtain ⟨op,hop⟩:=hall ws[i] (List.getElem_mem hlt)
     have hop':=hop
     unfold elR at hop
     rw [← hρ] at hop
     have htake:ws.take (i+1)=ws.take i ++ [ws[i]]:=by rw [List.take_succ_eq_append_getElem hlt]
     cases q:mg ws[i] (ρ++List.replicate (N'.length-ρ.length) Sl.un) with
     | none=>rw [q] at hop; cases hop
     | some ρ1=>
      rw [q] at hop
      dsimp only at hop
      refine hg H0 H2 G3 _ _ H3 x _ ρ1 _ (I2i.ext e3) m3 q fun σ4 I4=>⟨H0,G3,ρ1,I4,?_⟩
      cases hc:mc ρ1 with
      | stuck=>rw [hc] at hop; cases hop
      | ex x=>rw [hc] at hop; cases hop
      | ok b=>
       intro b' G5 H5 e5 eb
       cases eb
       rw [hc] at hop
       cases b with
       | false=>
        rw [if_neg Bool.false_ne_true]
        have hop2:op=none:=by cases hop; rfl
        have s5:Same H2 H5:=e3.hh.trans e5.hh
        refine ⟨ws.length-(i+1),by omega,rfl,hlt,s2.trans s5,vs,s5 _ _ hDv,by omega,?_⟩
        rw [htake,List.filterMap_append]
        have:([ws[i]].filterMap fun w=>match elR mg mc me ρi w with
         | .ok o=>o
         | _=>none) = []:=by
         rw [List.filterMap_cons,hop',hop2]; rfl
        rw [this,List.append_nil]
        exact r2.same (bV fun b o _ q=>s5 b o q)
       | true=>
        dsimp only at hop
        rw [if_pos rfl]
        refine ⟨H0,G5,ρ1,I4.ext e5,?_⟩
        cases hme:me ρ1 with
        | stuck=>rw [hme] at hop; cases hop
        | ex x=>rw [hme] at hop; cases hop
        | ok z=>
         rw [hme] at hop
         have hop2:op=some z:=by cases hop; rfl
         intro yv G6 H6 e6 m6
         have e36:Ext (TP.rest G1 H1 Dd H2) H2 G6 H6:=(e3.trans e5).trans e6
         have s6:Same H2 H6:=e36.hh
         refine ⟨vs,s6 _ _ hDv,Nat.lt_of_le_of_lt hvl (Nat.lt_of_lt_of_le (by omega:i<1000) (by decide)),ws.length-(i+1),by omega,rfl,hlt,fun b u q=>by rw [c7 (g8 q hD)]; exact s6 b u (s2 b u q),vs ++ [yv],l7,by rw [List.length_append]; simp; omega,?_⟩
         rw [htake,List.filterMap_append]
         have:([ws[i]].filterMap fun w=>match elR mg mc me ρi w with
          | .ok o=>o
          | _=>none) = [z]:=by
          rw [List.filterMap_cons,hop',hop2]; rfl
         rw [this]
         have k1:Same (TP.rest G1 H1 Dd H2) (TP.rest G1 H1 Dd (upd H6 Dd (.lst (vs ++ [yv])))):=bV fun b o hb q=>by rw [c7 hb]; exact s6 b o q
         have k2:Same G6 (TP.rest G1 H1 Dd (upd H6 Dd (.lst (vs ++ [yv])))):=(pR ⟨vs,hDv⟩ s2 e36).trans (bV fun b o hb q=>by rw [c7 hb]; exact q)
         exact (r2.same k1).snoc (Rep.same k2 m6)
    ·have ei:i=ws.length:=by omega
     subst ei
     refine .inl ⟨T'.stop H2 s2,?_⟩
     rw [List.take_length,← hys] at r2
     obtain ⟨sG,I2⟩:=I1.rest (Dd:=Dd) hD s2
     refine o _ (TP.rest G1 H1 Dd H2) H2 ⟨e1.gg.trans sG,e1.hh.trans s2,I2.gh,fun b u q l g=>A2 (.inr ⟨u,e1.hh b u q,l,e1.keep b u q l g⟩)⟩ ⟨Dd,vs,rfl,hDv,A2 (.inl rfl),e1.hh.free hD,r2⟩
  ·rw [if_neg hlen] at o; exact o.elim
noncomputable def y6:W→R (List W)
 | .lst ws=>.ok ws
 | .tup ws=>.ok ws
 | .scr ws=>.ok ws
 | _=>.stuck
theorem K5 {t:Bool} {a:Addr} {xs:List V} (e:Same H H1) (h:Sq K H t a xs):Sq K H1 t a xs:=by
 unfold Sq at h ⊢
 split at h
 ·rename_i ht; rw [if_pos ht]; exact pq e h
 ·rename_i ht; rw [if_neg ht]; exact Same.seq e h
theorem sqT {a:Addr} {xs:List V} (h:SqT K H a xs):Sq K H true a xs:=by unfold Sq; rw [if_pos rfl]; exact h
theorem sqL {a:Addr} {xs:List V} (h:SqL K H a xs):Sq K H false a xs:=by unfold Sq; rw [if_neg Bool.false_ne_true]; exact h
theorem Rep.sq {F:Hp} {x:V} {w:W} {ws:List W} (h:Rep K F x w) (hw:y6 w=.ok ws):∃ t a vs,x=.ref a∧Sq K F t a vs∧Reps K F vs ws:=by
 cases w <;> first | (cases hw; done) | skip
 ·obtain ⟨a,vs,e,s,r⟩:=h.inv; exact ⟨true,a,vs,e,sqT (SqT.of s),R.ok.inj hw ▸ r⟩
 ·obtain ⟨a,vs,e,s,r⟩:=h.inv; exact ⟨false,a,vs,e,sqL (SqL.of s),R.ok.inj hw ▸ r⟩
 ·obtain ⟨a,vs,e,s,r⟩:=h.inv; exact ⟨false,a,vs,e,sqL s,R.ok.inj hw ▸ r⟩
noncomputable def bM:Bool→Mode→Mode
 | true,e=>e
 | false,.V=>.C
 | false,_=>.B
noncomputable def fz (e:Mode) (H0 G:Hp):Hp:=if e=.V then G else join H0 G
theorem Md.src {lp:Bool} {e:Mode} {Hs:Hp} {x:V} {w:W} {ws:List W} (he:e=.V∨e=.U) (I:PIv K H0 G ρ σ H) (m:Md K H0 Hs G H x w (bM lp e)) (hw:y6 w=.ok ws) :
  ∃ t a vs,x=.ref a∧Sq K (if lp then join H0 G else H) t a vs∧Reps K (fz e H0 G) vs ws:=by
 unfold fz
 rcases he with rfl | rfl
 ·rw [if_pos rfl]
  cases lp with
  | true=>
   obtain ⟨t,a,vs,e1,e2,e3⟩:=Rep.sq m hw
   exact ⟨t,a,vs,e1,by rw [if_pos rfl]; exact K5 I.G_join e2,e3⟩
  | false=>
   rw [if_neg Bool.false_ne_true]
   rcases m with m | ⟨a,vs,us,rfl,rfl,h1,r⟩
   ·obtain ⟨t,a,vs,e1,e2,e3⟩:=Rep.sq m hw
    exact ⟨t,a,vs,e1,K5 I.gh e2,e3⟩
   ·cases hw; exact ⟨false,a,vs,rfl,sqL (SqL.of h1),r⟩
 ·rw [if_neg (show ¬ (Mode.U=Mode.V) by intro z; cases z)]
  cases lp with
  | true=>
   obtain ⟨t,a,vs,e1,e2,e3⟩:=Rep.sq m hw
   exact ⟨t,a,vs,e1,by rw [if_pos rfl]; exact e2,e3⟩
  | false=>
   rw [if_neg Bool.false_ne_true]
   rcases m with m | ⟨a,vs,us,rfl,rfl,h1,r⟩
   ·obtain ⟨t,a,vs,e1,e2,e3⟩:=Rep.sq m hw
    exact ⟨t,a,vs,e1,K5 I.join_H e2,e3⟩
   ·cases hw; exact ⟨false,a,vs,rfl,sqL (SqL.of h1),r.same I.G_join⟩
theorem Md.of_fz {e:Mode} {Hs:Hp} {v:V} {w:W} (he:e=.V∨e=.U) (h:Rep K (fz e H0 G) v w):Md K H0 Hs G H v w e:=by
 unfold fz at h
 rcases he with rfl | rfl
 ·rw [if_pos rfl] at h; exact h
 ·rw [if_neg (show ¬ (Mode.U=Mode.V) by intro z; cases z)] at h; exact h
theorem O3 {e:Mode} (s:Same G G1):Same (fz e H0 G) (fz e H0 G1):=by
 unfold fz
 split
 ·exact s
 ·exact t4 s
theorem vz {e:Mode} {Z:Hp} {t:Bool} {a:Addr} {vs:List V} {ws:List W} (he:e=.V∨e=.U) (s:Sq K Z t a vs) (r:Reps K (fz e H0 G) vs ws):cu K e H0 Z G (ItQ K t a) ws:=by
 have hl:=r.length
 cases t with
 | true=>
  have hq:∀ H,Same Z H→SqT K H a vs:=fun H z=>by have:=K5 z s; unfold Sq at this; rw [if_pos rfl] at this; exact this
  refine ⟨fun i H hi z=>⟨vs,vs[i]'(by omega),hq H z,by simp⟩,fun H z=>⟨vs,hq H z,by omega⟩,fun i H x H' w hw z zz79 G2 ρ σ I sg=>?_⟩
  obtain ⟨e1,y⟩:=zz79
  subst e1
  have hx:=y vs (hq _ z)
  obtain ⟨v,hv,rv⟩:=Reps.get r hw
  rw [hx] at hv; cases hv
  exact ⟨G2,Ext.refl I.gh,Md.of_fz he (rv.same (O3 sg))⟩
 | false=>
  have hq:∀ H,Same Z H→SqL K H a vs:=fun H z=>by have:=K5 z s; unfold Sq at this; rw [if_neg Bool.false_ne_true] at this; exact this
  refine ⟨fun i H hi z=>⟨vs,vs[i]'(by omega),hq H z,by simp⟩,fun H z=>⟨vs,hq H z,by omega⟩,fun i H x H' w hw z zz80 G2 ρ σ I sg=>?_⟩
  obtain ⟨e1,y⟩:=zz80
  subst e1
  have hx:=y vs (hq _ z)
  obtain ⟨v,hv,rv⟩:=Reps.get r hw
  rw [hx] at hv; cases hv
  exact ⟨G2,Ext.refl I.gh,Md.of_fz he (rv.same (O3 sg))⟩
theorem iC {lp:Bool} (I:PIv K H0 G ρ σ H):Same (if lp then join H0 G else H) H:=by
 cases lp
 ·exact Same.refl H
 ·exact I.join_H
theorem sT {lp:Bool} {e:Mode} {ml:Rho→R W} {Rr:It→Hp→Prop} (he:e=.V∨e=.U) (h:tIt K EX lp e (fun ρ=>ml ρ>>=y6) σ H Rr):iSq K (tM K EX (bM lp e) ml) σ H Rr:=by
 obtain ⟨H0,G,ρ,I,o⟩:=h
 refine ⟨H0,G,ρ,I,?_⟩
 replace o:iY K EX lp e H0 G H (ml ρ>>=y6) Rr:=o
 revert o
 cases ml ρ with
 | stuck=>exact id
 | ex x=>exact id
 | ok w=>
  intro o x G1 H1 e1 m1
  have I1:=I.ext e1
  have o':iY K EX lp e H0 G H (y6 w) Rr:=o
  cases q:y6 w with
  | stuck=>rw [q] at o'; exact o'.elim
  | ex z=>cases w <;> cases q
  | ok ws=>
   rw [q] at o'
   obtain ⟨t,a,vs,ex,s,r⟩:=Md.src he I1 m1 q
   exact ⟨a,ex,t,vs,K5 (iC I1) s,o' _ G1 H1 e1 (vz he s r)⟩
noncomputable def P1 (lo hi:Int):R (List W):=if -1000000≤lo∧lo≤1000000 ∧ -1000000≤hi∧hi≤1000000 then .ok ((List.range (hi-lo).toNat).map fun k=>W.int (lo+(k:Nat))) else .stuck
noncomputable def N2:List W→R (List W)
 | [.int j]=>P1 0 j
 | _=>.stuck
noncomputable def rng2:List W→R (List W)
 | [.int i,.int j]=>P1 i j
 | _=>.stuck
theorem qM {e:Mode} {Z:Hp} {lo:Int} {n:Nat} (he:e=.V∨e=.U):cu K e H0 Z G (Itr lo n) ((List.range n).map fun k=>W.int (lo+(k:Nat))):=by
 refine ⟨fun i H hi _=>by show i<n; simpa using hi,fun H _=>by simp [Itr],fun i H x H' w hw _ zz81 G2 ρ σ I _=>?_⟩
 obtain ⟨e1,e2⟩:=zz81
 subst e1; subst e2
 rw [List.getElem?_map] at hw
 cases q:(List.range n)[i]? with
 | none=>rw [q] at hw; cases hw
 | some k=>
  rw [q] at hw
  have hk:k=i:=by
   have:=List.getElem?_eq_some_iff.mp q
   obtain ⟨h1,h2⟩:=this
   simpa using h2.symm
  subst hk
  cases hw
  refine ⟨G2,Ext.refl I.gh,Md.sca rfl (fun _=>.int) e⟩
theorem cR {lp:Bool} {e b:Mode} {ma:Rho→R (List W)} {k:List W→R (List W)} {Rr:It→Hp→Prop} {Q:List V→Hp→Prop} (h:tIt K EX lp e (fun ρ=>ma ρ>>=k) σ H Rr)
  (hq:∀ H0 G ρ G1 H1 xs ws us,PIv K H0 G ρ σ H→Ext G H G1 H1→MdA K b H0 H G1 H1 ws xs→k ws=.ok us→(∀ J G' H',Ext G H G' H'→cu K e H0 (if lp then join H0 G' else H') G' J us→Rr J H')→Q xs H1)
  (hx:∀ ws e,k ws≠.ex e):tA K EX b ma σ H Q:=by
 obtain ⟨H0,G,ρ,I,o⟩:=h
 refine ⟨H0,G,ρ,I,?_⟩
 replace o:iY K EX lp e H0 G H (ma ρ>>=k) Rr:=o
 revert o
 cases ma ρ with
 | stuck=>exact id
 | ex x=>exact id
 | ok ws=>
  intro o xs G1 H1 e1 m1
  have o':iY K EX lp e H0 G H (k ws) Rr:=o
  cases q:k ws with
  | stuck=>rw [q] at o'; exact o'.elim
  | ex z=>exact absurd q (hx ws z)
  | ok us=>rw [q] at o'; exact hq H0 G ρ G1 H1 xs ws us I e1 m1 q o'
theorem tY {lo hi:Int} {us:List W} (h:P1 lo hi=.ok us):(-1000000≤lo∧lo≤1000000 ∧ -1000000≤hi∧hi≤1000000)∧us=(List.range (hi-lo).toNat).map fun k=>W.int (lo+(k:Nat)):=by
 unfold P1 at h
 split at h
 ·cases h; rename_i c; exact ⟨c,rfl⟩
 ·cases h
theorem pK {lo hi:Int} {e:XW} (h:P1 lo hi=.ex e):False:=by
 unfold P1 at h
 by_cases c:-1000000≤lo∧lo≤1000000 ∧ -1000000≤hi∧hi≤1000000
 ·rw [if_pos c] at h; cases h
 ·rw [if_neg c] at h; cases h
theorem AW {lp:Bool} {e:Mode} {ma:Rho→R (List W)} {Rr:It→Hp→Prop} (he:e=.V∨e=.U) (h:tIt K EX lp e (fun ρ=>ma ρ>>=N2) σ H Rr):sP (tA K EX .B ma) σ H Rr:=by
 refine cR h (fun H0 G ρ G1 H1 xs ws us I e1 m1 q o=>?_) (fun ws e z=>?_)
 ·cases m1 with
  | nil=>cases q
  | @cons w _ _ _ a t=>
   cases t with
   | cons _ _=>first | (cases q; done) | (cases w <;> cases q)
   | nil=>
    cases w <;> first | (cases q; done) | skip
    rename_i j
    obtain ⟨c,rfl⟩:=tY (show P1 0 j=_ from q)
    refine ⟨j,by rw [Md.intB a],by omega,by omega,?_⟩
    have:=o (Itr 0 j.toNat) G1 H1 e1
    rw [Int.sub_zero] at this
    exact this (qM he)
 ·cases ws with
  | nil=>cases z
  | cons w t=>
   cases t with
   | cons _ _=>first | (cases z; done) | (cases w <;> cases z)
   | nil=>
    cases w <;> first | (cases z; done) | skip
    exact pK (lo:=0) z
noncomputable def aP:List (List W)→List (List W)
 | [xs,ys]=>xs.zipWith (fun x y=>[x,y]) ys
 | [xs,ys,zs]=>(xs.zip ys).zipWith (fun p z=>[p.1,p.2,z]) zs
 | _=>[]
noncomputable def U9:List W→R (List (List W))
 | []=>.ok []
 | w::ws=>match y6 w,U9 ws with
  | .ok x,.ok xs=>.ok (x::xs)
  | _,_=>.stuck
noncomputable def F6 (ws:List W):R (List W):=if ws.length=2∨ws.length=3 then (match U9 ws with
 | .ok xs=>.ok ((aP xs).map W.tup)
 | _=>.stuck) else .stuck
theorem jB {e:Mode} {p:Addr} {vs:List V} {ws:List W} {Hs:Hp} (he:e=.V∨e=.U) (I:PIv K H0 G ρ σ H) (hp:H p=none) (r:Reps K (fz e H0 G) vs ws):Ext G H (upd G p (.tup vs)) (upd H p (.tup vs))∧Md K H0 Hs (upd G p (.tup vs)) (upd H p (.tup vs)) (.ref p) (.tup ws) e:=by
 refine ⟨da I.gh hp,?_⟩
 have gp:G p=none:=I.gh.free hp
 rcases he with rfl | rfl
 ·unfold fz at r
  rw [if_pos rfl] at r
  exact .tup l7 (r.same fun b u q=>by rw [c7 (g8 q gp)]; exact q)
 ·unfold fz at r
  rw [if_neg (show ¬ (Mode.U=Mode.V) by intro z; cases z)] at r
  show Rep K (join H0 (upd G p (.tup vs))) _ _
  rw [iG (I.hh.free hp)]
  exact .tup l7 (r.same fun b u q=>by rw [c7 (g8 (I.join_H b u q) hp)]; exact q)
theorem nT {e:Mode} {Z:Hp} {t u:Bool} {a b:Addr} {xs ys:List V} {us vs:List W} (he:e=.V∨e=.U) (s1:Sq K Z t a xs) (s2:Sq K Z u b ys) (r1:Reps K (fz e H0 G) xs us) (r2:Reps K (fz e H0 G) ys vs) :
  cu K e H0 Z G (ItZ K [(t,a),(u,b)]) ((us.zipWith (fun x y=>[x,y]) vs).map W.tup):=by
 have Rn:=mZ s1 s2
 have l1:=r1.length
 have l2:=r2.length
 have hl:((us.zipWith (fun x y=>[x,y]) vs).map W.tup).length=min xs.length ys.length:=by simp [l1,l2]
 refine ⟨fun i H hi z=>Rn.go i H (by omega) z,fun H z=>by rw [hl]; exact Rn.stop H z,fun i H x H' w hw z y G2 ρ σ I sg=>?_⟩
 have hi:i<min xs.length ys.length:=by
  rw [← hl]; exact (List.getElem?_eq_some_iff.mp hw).1
 obtain ⟨p,y1,z1,rfl,hp,rfl,hy,hz⟩:=Rn.yld i H x H' hi z y
 obtain ⟨w1,e1,q1⟩:=Reps.get' r1 hy
 obtain ⟨w2,e2,q2⟩:=Reps.get' r2 hz
 have hw':w=.tup [w1,w2]:=by
  rw [List.getElem?_map,List.getElem?_zipWith,e1,e2] at hw
  cases hw; rfl
 subst hw'
 obtain ⟨x1,x2⟩:=jB (Hs:=H) he I hp (.cons (q1.same (O3 sg)) (.cons (q2.same (O3 sg)) .nil))
 exact ⟨_,x1,x2⟩
theorem nS {e:Mode} {Z:Hp} {t u v:Bool} {a b c:Addr} {xs ys zs:List V} {us vs ts:List W} (he:e=.V∨e=.U) (s1:Sq K Z t a xs) (s2:Sq K Z u b ys) (s3:Sq K Z v c zs) (r1:Reps K (fz e H0 G) xs us) (r2:Reps K (fz e H0 G) ys vs) (r3:Reps K (fz e H0 G) zs ts) :
  cu K e H0 Z G (ItZ K [(t,a),(u,b),(v,c)]) (((us.zip vs).zipWith (fun p z=>[p.1,p.2,z]) ts).map W.tup):=by
 have Rn:=mY s1 s2 s3
 have l1:=r1.length
 have l2:=r2.length
 have l3:=r3.length
 have hl:(((us.zip vs).zipWith (fun p z=>[p.1,p.2,z]) ts).map W.tup).length=min xs.length (min ys.length zs.length):=by simp [l1,l2,l3,Nat.min_assoc]
 refine ⟨fun i H hi z=>Rn.go i H (by omega) z,fun H z=>by rw [hl]; exact Rn.stop H z,fun i H x H' w hw z y G2 ρ σ I sg=>?_⟩
 have hi:i<min xs.length (min ys.length zs.length):=by
  rw [← hl]; exact (List.getElem?_eq_some_iff.mp hw).1
 obtain ⟨p,y1,z1,t1,rfl,hp,rfl,hy,hz,ht⟩:=Rn.yld i H x H' hi z y
 obtain ⟨w1,e1,q1⟩:=Reps.get' r1 hy
 obtain ⟨w2,e2,q2⟩:=Reps.get' r2 hz
 obtain ⟨w3,e3,q3⟩:=Reps.get' r3 ht
 have hw':w=.tup [w1,w2,w3]:=by
  rw [List.getElem?_map,List.getElem?_zipWith,List.zip,List.getElem?_zipWith,e1,e2,e3] at hw
  cases hw; rfl
 subst hw'
 obtain ⟨x1,x2⟩:=jB (Hs:=H) he I hp (.cons (q1.same (O3 sg)) (.cons (q2.same (O3 sg)) (.cons (q3.same (O3 sg)) .nil)))
 exact ⟨_,x1,x2⟩
theorem aV {w:W} {ws:List W} {xs:List (List W)} (h:U9 (w::ws)=.ok xs):∃ y ys,y6 w=.ok y∧U9 ws=.ok ys∧xs=y::ys:=by
 unfold U9 at h
 cases h1:y6 w with
 | stuck=>rw [h1] at h; cases h
 | ex _=>rw [h1] at h; cases h
 | ok y=>
  rw [h1] at h
  cases h2:U9 ws with
  | stuck=>rw [h2] at h; cases h
  | ex _=>rw [h2] at h; cases h
  | ok ys=>rw [h2] at h; cases h; exact ⟨y,ys,rfl,rfl,rfl⟩
theorem Cq {lp:Bool} {e:Mode} {ma:Rho→R (List W)} {Rr:It→Hp→Prop} (he:e=.V∨e=.U) (h:tIt K EX lp e (fun ρ=>ma ρ>>=F6) σ H Rr):zV K (tA K EX (bM lp e) ma) σ H Rr:=by
 refine cR h (fun H0 G ρ G1 H1 xs ws us I e1 m1 q o=>?_) (fun ws e z=>?_)
 ·have I1:=I.ext e1
  unfold F6 at q
  split at q
  ·rename_i hn
   cases hs:U9 ws with
   | stuck=>rw [hs] at q; cases q
   | ex _=>rw [hs] at q; cases q
   | ok ls=>
    rw [hs] at q
    cases q
    cases m1 with
    | nil=>simp at hn
    | cons a1 m1=>
     cases m1 with
     | nil=>simp at hn
     | cons a2 m1=>
      obtain ⟨y1,ys,h1,hs1,rfl⟩:=aV hs
      obtain ⟨y2,ys,h2,hs2,rfl⟩:=aV hs1
      obtain ⟨t1,p1,v1,rfl,q1,r1⟩:=Md.src he I1 a1 h1
      obtain ⟨t2,p2,v2,rfl,q2,r2⟩:=Md.src he I1 a2 h2
      have k1:=K5 (iC I1) q1
      have k2:=K5 (iC I1) q2
      cases m1 with
      | nil=>
       cases hs2
       refine ⟨[(t1,p1),(t2,p2)],rfl,.inl rfl,fun u hu=>?_,o _ G1 H1 e1 (nT he q1 q2 r1 r2)⟩
       simp only [List.mem_cons,List.not_mem_nil,or_false] at hu
       rcases hu with rfl | rfl
       ·exact ⟨_,k1⟩
       ·exact ⟨_,k2⟩
      | cons a3 m1=>
       cases m1 with
       | cons _ _=>simp at hn
       | nil=>
        obtain ⟨y3,ys,h3,hs3,rfl⟩:=aV hs2
        cases hs3
        obtain ⟨t3,p3,v3,rfl,q3,r3⟩:=Md.src he I1 a3 h3
        refine ⟨[(t1,p1),(t2,p2),(t3,p3)],rfl,.inr rfl,fun u hu=>?_,o _ G1 H1 e1 (nS he q1 q2 q3 r1 r2 r3)⟩
        simp only [List.mem_cons,List.not_mem_nil,or_false] at hu
        rcases hu with rfl | rfl | rfl
        ·exact ⟨_,k1⟩
        ·exact ⟨_,k2⟩
        ·exact ⟨_,K5 (iC I1) q3⟩
  ·cases q
 ·unfold F6 at z
  split at z
  ·split at z <;> cases z
  ·cases z
end
end TP
namespace TP
open PySem L2
section
variable {K:Frag} {EX:EXT} {H0 G H G1 H1 G2 H2:Hp} {ρ:Rho} {σ:St} {d:Mode} {D:Ends} {Q:VK}
theorem Reps.atI {F:Hp} {vs:List V} {ws:List W} {i:Int} {w:W} (r:Reps K F vs ws) (h:L2.atI ws i=some w):∃ v,L2.atI vs i=some v∧Rep K F v w:=by
 unfold L2.atI at h ⊢
 rw [r.length]
 cases q:ixN ws.length i with
 | none=>rw [q] at h; cases h
 | some j=>rw [q] at h; exact Reps.get r h
noncomputable def fIx:W→W→R W
 | .lst ws,.int i=>toR (L2.atI ws i)
 | .tup ws,.int i=>toR (L2.atI ws i)
 | .scr ws,.int i=>toR (L2.atI ws i)
 | _,_=>.stuck
theorem yT:Op2 K .B .U (rIx K) fIx:=by
 intro EX H0 Hs G H ρ σ Ha Hb x y u v Q I s mx my o
 cases u <;> first | exact o.elim | skip
 all_goals (cases v <;> first | exact o.elim | skip)
 ·rename_i ws i
  obtain ⟨a,vs,rfl,hs,r⟩:=mx.tupB I
  replace o:Out EX G H (mdW K .U H0 Hs) (toR (L2.atI ws i)) Q:=o
  cases q:L2.atI ws i with
  | none=>rw [q] at o; exact o.elim
  | some w=>
   rw [q] at o
   obtain ⟨v,hv,rv⟩:=r.atI q
   exact .inr (.inl ⟨a,vs,i,v,rfl,my.intB,SqT.of hs,hv,o v G H (Ext.refl I.gh) rv⟩)
 ·rename_i ws i
  obtain ⟨a,vs,rfl,hs,r⟩:=mx.lstB I
  replace o:Out EX G H (mdW K .U H0 Hs) (toR (L2.atI ws i)) Q:=o
  cases q:L2.atI ws i with
  | none=>rw [q] at o; exact o.elim
  | some w=>
   rw [q] at o
   obtain ⟨v,hv,rv⟩:=r.atI q
   exact .inl ⟨a,vs,i,v,rfl,my.intB,SqL.of hs,hv,o v G H (Ext.refl I.gh) rv⟩
 ·rename_i ws i
  obtain ⟨a,vs,rfl,hs,r⟩:=mx.scrB I
  replace o:Out EX G H (mdW K .U H0 Hs) (toR (L2.atI ws i)) Q:=o
  cases q:L2.atI ws i with
  | none=>rw [q] at o; exact o.elim
  | some w=>
   rw [q] at o
   obtain ⟨v,hv,rv⟩:=r.atI q
   exact .inl ⟨a,vs,i,v,rfl,my.intB,hs,hv,o v G H (Ext.refl I.gh) rv⟩
theorem yS:Op2 K .C .V (rIx K) fIx:=by
 intro EX H0 Hs G H ρ σ Ha Hb x y u v Q I s mx my o
 cases u <;> first | exact o.elim | skip
 all_goals (cases v <;> first | exact o.elim | skip)
 ·rename_i ws i
  obtain ⟨a,vs,rfl,hs,r⟩:=mx.tupC I
  replace o:Out EX G H (mdW K .V H0 Hs) (toR (L2.atI ws i)) Q:=o
  cases q:L2.atI ws i with
  | none=>rw [q] at o; exact o.elim
  | some w=>
   rw [q] at o
   obtain ⟨v,hv,rv⟩:=r.atI q
   exact .inr (.inl ⟨a,vs,i,v,rfl,Md.intB (Md.CB I my),SqT.of hs,hv,o v G H (Ext.refl I.gh) rv⟩)
 ·rename_i ws i
  obtain ⟨a,vs,rfl,hs,r⟩:=mx.lstC I
  replace o:Out EX G H (mdW K .V H0 Hs) (toR (L2.atI ws i)) Q:=o
  cases q:L2.atI ws i with
  | none=>rw [q] at o; exact o.elim
  | some w=>
   rw [q] at o
   obtain ⟨v,hv,rv⟩:=r.atI q
   exact .inl ⟨a,vs,i,v,rfl,Md.intB (Md.CB I my),SqL.of hs,hv,o v G H (Ext.refl I.gh) rv⟩
 ·rename_i ws i
  obtain ⟨a,vs,rfl,hs,r⟩:=(Md.repC mx fun _=>W.noConfusion).inv
  replace o:Out EX G H (mdW K .V H0 Hs) (toR (L2.atI ws i)) Q:=o
  cases q:L2.atI ws i with
  | none=>rw [q] at o; exact o.elim
  | some w=>
    rw [q] at o
    obtain ⟨v,hv,rv⟩:=r.atI q
    exact .inl ⟨_,_,i,v,rfl,Md.intB (Md.CB I my),Same.seq I.gh hs,hv,o v G H (Ext.refl I.gh) rv⟩
noncomputable def bJ (K:Frag) (EX:EXT) (m:Rho→R (Option Int)):TO:=fun σ H Q=>∃ H0 G ρ,PIv K H0 G ρ σ H∧Out EX G H (fun (b c:Option Int) _ _=>c=b) (m ρ) Q
noncomputable def gn:W→R (Option Int)
 | .int i=>.ok (some i)
 | _=>.stuck
theorem rP {Q:Option Int→Hp→Prop} (h:bJ K EX (fun _=>.ok none) σ H Q):tNoPart σ H Q:=by
 obtain ⟨H0,G,ρ,I,o⟩:=h
 exact o none G H (Ext.refl I.gh) rfl
theorem AY {m:Rho→R W} {Q:Option Int→Hp→Prop} (h:bJ K EX (fun ρ=>m ρ>>=gn) σ H Q):sh (tM K EX .B m) σ H Q:=by
 obtain ⟨H0,G,ρ,I,o⟩:=h
 refine ⟨H0,G,ρ,I,Out.bind o fun x G1 H1 u e1 m1 o1=>?_⟩
 cases u <;> first | exact o1.elim | skip
 rename_i i
 exact ⟨i,m1.intB,o1 _ G1 H1 (Ext.refl e1.gh) rfl⟩
noncomputable def U7 (xs:List W) (lo hi:Option Int):List W:=(xs.drop (HT.sIx xs.length 0 lo)).take (HT.sIx xs.length xs.length hi-HT.sIx xs.length 0 lo)
theorem Reps.cut {F:Hp} {vs:List V} {ws:List W} (r:Reps K F vs ws) (lo hi:Option Int):Reps K F (fx vs lo hi) (U7 ws lo hi):=by
 unfold fx U7
 rw [r.length]
 exact (r.drop _).take _
noncomputable def lstOf:W→Option (List W)
 | .lst ws=>some ws
 | .scr ws=>some ws
 | _=>none
noncomputable def chks (c:Bool) (ws:List W):R W:=if c||l9 ws then .ok (.lst ws) else .stuck
noncomputable def cb (c:Bool):Mode:=if c then .C else .B
theorem Md.lstOf {c:Bool} {Ha:Hp} {x:V} {w:W} {ws:List W} (I:PIv K H0 G ρ σ H) (m:Md K H0 Ha G H x w (cb c)) (h:lstOf w=some ws):∃ a vs,x=.ref a∧SqL K H a vs∧Reps K (if c then G else join H0 G) vs ws:=by
 cases c with
 | true=>
  rw [if_pos rfl]
  cases w <;> first | cases h | skip
  ·obtain ⟨a,vs,e,hs,r⟩:=Md.lstC (H:=Ha) I m
   exact ⟨a,vs,e,SqL.of hs,r⟩
  ·obtain ⟨a,vs,e,hs,r⟩:=(Md.repC m fun _=>W.noConfusion).inv
   exact ⟨a,vs,e,Same.seq I.gh hs,r⟩
 | false=>
  rw [if_neg Bool.false_ne_true]
  cases w <;> first | cases h | skip
  ·obtain ⟨a,vs,e,hs,r⟩:=Md.lstB (H:=Ha) I m
   exact ⟨a,vs,e,SqL.of hs,r⟩
  ·exact Md.scrB (H:=Ha) I m
theorem Out.chks {c:Bool} {Hs:Hp} {vs:List V} {ws:List W} (I:PIv K H0 G ρ σ H) (s:Same Hs H) (r:Reps K (if c then G else join H0 G) vs ws) (o:Out EX G H (mdW K .F H0 Hs) (chks c ws) Q):∀ p,H p=none→Q (.ref p) (upd H p (.lst vs)):=by
 unfold TP.chks at o
 by_cases n:(c||l9 ws)=true
 ·rw [if_pos n] at o
  have r':Reps K G vs ws:=by
   cases c with
   | true=>rw [if_pos rfl] at r; exact r
   | false=>rw [if_neg Bool.false_ne_true] at r; exact Reps.clean I r (by simpa using n)
  exact fun p hp=>Out.newL I s r' hp o
 ·rw [if_neg n] at o; exact o.elim
theorem c_sl {c:Bool} {m:Rho→R W} {ml mh:Rho→R (Option Int)} (h:tM K EX .F (fun ρ=>m ρ>>=fun x=>ml ρ>>=fun l=>mh ρ>>=fun u=>toR (lstOf x)>>=fun ws=>chks c (U7 ws l u)) σ H Q) :
  tSl (ye K) (tM K EX (cb c) m) (bJ K EX ml) (bJ K EX mh) σ H Q:=by
 obtain ⟨H0,G,ρ,I,o⟩:=h
 refine ⟨H0,G,ρ,I,Out.bind o fun x G1 H1 w e1 m1 o1=>⟨H0,G1,ρ,I.ext e1,Out.bind o1 fun l' G2 H2 l e2 m2 o2=>⟨H0,G2,ρ,(I.ext e1).ext e2,Out.bind o2 fun u' G3 H3 u e3 m3 o3=>?_⟩⟩⟩
 subst m2; subst m3
 have I3:=((I.ext e1).ext e2).ext e3
 cases q:lstOf w with
 | none=>rw [q] at o3; exact o3.elim
 | some ws=>
  rw [q] at o3
  obtain ⟨a,vs,ex,hs,r⟩:=Md.lstOf I3 ((m1.move e2).move e3) q
  refine ⟨a,vs,ex,hs,Out.chks I3 ((e1.hh.trans e2.hh).trans e3.hh) (c:=c) ?_ o3⟩
  cases c with
  | true=>rw [if_pos rfl] at r ⊢; exact r.cut _ _
  | false=>rw [if_neg Bool.false_ne_true] at r ⊢; exact r.cut _ _
noncomputable def Cal (K:Frag) (b d:Mode) (r:List V→Hp→VK→Prop) (f:List W→R W):Prop:=∀ (EX:EXT) (H0 Hs G H:Hp) (ρ:Rho) (σ:St) (Ha:Hp) (vs:List V) (ws:List W) (Q:VK),PIv K H0 G ρ σ H→Same Hs H→MdA K b H0 Ha G H ws vs →
 Out EX G H (mdW K d H0 Hs) (f ws) Q→r vs H Q
theorem rQ {b:Mode} {r:List V→Hp→VK→Prop} {f:List W→R W} {ma:Rho→R (List W)} (hr:Cal K b d r f) (h:tM K EX d (fun ρ=>ma ρ>>=fun ws=>f ws) σ H Q):tCB r (tA K EX b ma) σ H Q:=by
 obtain ⟨H0,G,ρ,I,o⟩:=h
 exact ⟨H0,G,ρ,I,Out.bind o fun xs G1 H1 ws e1 m1 o1=>hr EX H0 H G1 H1 ρ σ H xs ws Q (I.ext e1) e1.hh m1 o1⟩
noncomputable def fLen:List W→R W
 | [w]=>y6 w>>=fun ws=>.ok (.int ws.length)
 | _=>.stuck
theorem t6:Cal K .B d (fun xs H Q=>∃ p ys,xs = [.ref p]∧(SqL K H p ys∨SqT K H p ys)∧Q (.int ys.length) H) fLen:=by
 intro EX H0 Hs G H ρ σ Ha vs ws Q I s m o
 cases m with
 | nil=>exact o.elim
 | cons a t=>
  cases t with
  | cons _ _=>exact o.elim
  | nil=>
   rename_i w v
   cases w <;> first | exact o.elim | skip
   ·obtain ⟨p,ys,rfl,hs,r⟩:=a.tupB I
    exact ⟨p,ys,rfl,.inr (SqT.of hs),by rw [r.length]; exact o _ G H (Ext.refl I.gh) (Md.sca rfl (fun _=>.int) d)⟩
   ·obtain ⟨p,ys,rfl,hs,r⟩:=a.lstB I
    exact ⟨p,ys,rfl,.inl (SqL.of hs),by rw [r.length]; exact o _ G H (Ext.refl I.gh) (Md.sca rfl (fun _=>.int) d)⟩
   ·obtain ⟨p,ys,rfl,hs,r⟩:=a.scrB I
    exact ⟨p,ys,rfl,.inl hs,by rw [r.length]; exact o _ G H (Ext.refl I.gh) (Md.sca rfl (fun _=>.int) d)⟩
noncomputable def bx (c:Bool):List W→R W
 | [w]=>y6 w>>=chks c
 | _=>.stuck
theorem eC {c:Bool}:Cal K (cb c) .F (fun xs H Q=>∃ p ys,xs = [.ref p]∧(SqL K H p ys∨SqT K H p ys)∧∀ l,H l=none→Q (.ref l) (upd H l (.lst ys))) (bx c):=by
 intro EX H0 Hs G H ρ σ Ha vs ws Q I s m o
 cases m with
 | nil=>exact o.elim
 | cons a t=>
  cases t with
  | cons _ _=>exact o.elim
  | nil=>
   rename_i w v
   cases w <;> first | exact o.elim | skip
   ·rename_i us
    cases c with
    | true=>
     obtain ⟨p,ys,rfl,hs,r⟩:=Md.tupC (H:=Ha) I a
     exact ⟨p,ys,rfl,.inr (SqT.of hs),Out.chks (c:=true) I s r o⟩
    | false=>
     obtain ⟨p,ys,rfl,hs,r⟩:=Md.tupB (H:=Ha) I a
     exact ⟨p,ys,rfl,.inr (SqT.of hs),Out.chks (c:=false) I s r o⟩
   ·obtain ⟨p,ys,rfl,hs,r⟩:=Md.lstOf I a rfl
    exact ⟨p,ys,rfl,.inl hs,Out.chks I s r o⟩
   ·obtain ⟨p,ys,rfl,hs,r⟩:=Md.lstOf I a rfl
    exact ⟨p,ys,rfl,.inl hs,Out.chks I s r o⟩
noncomputable def Y1 (c:Bool) (ws:List W):R W:=if c||l9 ws then .ok (.tup ws) else .stuck
noncomputable def N7 (c:Bool):List W→R W
 | [w]=>y6 w>>=Y1 c
 | _=>.stuck
theorem M9 {c:Bool}:Cal K (cb c) .F (fun xs H Q=>∃ p ys,xs = [.ref p]∧((SqL K H p ys∧∀ l,H l=none→Q (.ref l) (upd H l (.tup ys)))∨(SqT K H p ys∧Q (.ref p) H))) (N7 c):=by
 intro EX H0 Hs G H ρ σ Ha vs ws Q I s m o
 have key:∀ {vs:List V} {us:List W},Reps K (if c then G else join H0 G) vs us→Out EX G H (mdW K .F H0 Hs) (Y1 c us) Q→Reps K G vs us∧Out EX G H (mdW K .F H0 Hs) (.ok (.tup us)) Q:=fun {vs us} r o=>by
  unfold Y1 at o
  by_cases n:(c||l9 us)=true
  ·rw [if_pos n] at o
   refine ⟨?_,o⟩
   cases c with
   | true=>rw [if_pos rfl] at r; exact r
   | false=>rw [if_neg Bool.false_ne_true] at r; exact Reps.clean I r (by simpa using n)
  ·rw [if_neg n] at o; exact o.elim
 cases m with
 | nil=>exact o.elim
 | cons a t=>
  cases t with
  | cons _ _=>exact o.elim
  | nil=>
   rename_i w v
   cases w <;> first | exact o.elim | skip
   ·rename_i us
    have hx:∃ p ys,v=.ref p∧(if c then G else join H0 G) p=some (.tup ys)∧Reps K (if c then G else join H0 G) ys us:=by
     cases c with
     | true=>rw [if_pos rfl]; exact (Md.repC a fun _=>W.noConfusion).inv
     | false=>rw [if_neg Bool.false_ne_true]; exact (Md.repB a fun _=>W.noConfusion).inv
    obtain ⟨p,ys,rfl,hp,r⟩:=hx
    obtain ⟨r',o'⟩:=key r o
    have hH:H p=some (.tup ys):=by
     cases c with
     | true=>rw [if_pos rfl] at hp; exact I.gh _ _ hp
     | false=>rw [if_neg Bool.false_ne_true] at hp; exact I.join_H _ _ hp
    have hG:G p=some (.tup ys):=by
     cases c with
     | true=>rw [if_pos rfl] at hp; exact hp
     | false=>
      rw [if_neg Bool.false_ne_true] at hp
      unfold join at hp
      cases q:H0 p with
      | none=>rw [q] at hp; exact hp
      | some u=>
       rw [q] at hp
       dsimp only at hp
       by_cases hl:isL u=true
       ·rw [if_pos hl] at hp; cases hp; cases hl
       ·rw [if_neg hl] at hp; exact hp
    exact ⟨p,ys,rfl,.inr ⟨SqT.of hH,o' _ G H (Ext.refl I.gh) (.tup hG r')⟩⟩
   ·obtain ⟨p,ys,rfl,hs,r⟩:=Md.lstOf I a rfl
    obtain ⟨r',o'⟩:=key r o
    exact ⟨p,ys,rfl,.inl ⟨hs,fun l hl=>Out.newTF I r' hl o'⟩⟩
   ·obtain ⟨p,ys,rfl,hs,r⟩:=Md.lstOf I a rfl
    obtain ⟨r',o'⟩:=key r o
    exact ⟨p,ys,rfl,.inl ⟨hs,fun l hl=>Out.newTF I r' hl o'⟩⟩
noncomputable def f2 (g:Int→Int→Int):List W→R W
 | [.int i,.int j]=>.ok (.int (g i j))
 | _=>.stuck
theorem b_2 {g:Int→Int→Int}:Cal K .B d (fun xs H Q=>∃ i j,xs = [.int i,.int j]∧Q (.int (g i j)) H) (f2 g):=by
 intro EX H0 Hs G H ρ σ Ha vs ws Q I s m o
 unfold f2 at o
 split at o
 ·cases m with
  | cons a t=>
   cases t with
   | cons b t=>
    cases t
    exact ⟨_,_,by rw [a.intB,b.intB],o _ G H (Ext.refl I.gh) (Md.sca rfl (fun _=>.int) d)⟩
 ·exact o.elim
noncomputable def tyW:W→Option String
 | .non=>some "NoneType"
 | .bl _=>some "bool"
 | .int _=>some "int"
 | .str _=>some "str"
 | .tup _=>some "tuple"
 | .lst _=>some "list"
 | _=>none
noncomputable def fIsi:List W→R W
 | [x,.ty T]=>toR ((tyW x).bind fun A=>v8 A T)>>=fun b=>.ok (.bl b)
 | _=>.stuck
theorem wY {Ha:Hp} {v:V} {w:W} {A:String} (I:PIv K H0 G ρ σ H) (m:Md K H0 Ha G H v w .B) (h:tyW w=some A):L2.tyB H v=some A:=by
 cases w <;> first | cases h | skip
 ·rw [m.nonB]; rfl
 ·rw [m.blB]; rfl
 ·rw [m.intB]; rfl
 ·rw [m.strB]; rfl
 ·obtain ⟨a,vs,rfl,hs,r⟩:=m.tupB I
  show L2.tyO (H a)=_
  rw [hs]; rfl
 ·obtain ⟨a,vs,rfl,hs,r⟩:=m.lstB I
  show L2.tyO (H a)=_
  rw [hs]; rfl
theorem bC:Cal K .B d rIsi fIsi:=by
 intro EX H0 Hs G H ρ σ Ha vs ws Q I s m o
 cases m with
 | nil=>exact o.elim
 | @cons x _ _ _ a t=>
  cases t with
  | nil=>exact o.elim
  | @cons y _ _ _ b t=>
   cases t with
   | cons _ _=>first | exact o.elim | (cases y <;> exact o.elim)
   | nil=>
    cases y <;> first | exact o.elim | skip
    rename_i T
    replace o:Out EX G H (mdW K d H0 Hs) (toR ((tyW x).bind fun A=>v8 A T)>>=fun b=>.ok (.bl b)) Q:=o
    cases q:tyW x with
    | none=>rw [q] at o; exact o.elim
    | some A=>
     rw [q] at o
     replace o:Out EX G H (mdW K d H0 Hs) (toR (v8 A T)>>=fun b=>.ok (.bl b)) Q:=o
     cases q2:v8 A T with
     | none=>rw [q2] at o; exact o.elim
     | some c=>
      rw [q2] at o
      exact ⟨_,T,by rw [b.tyB],A,wY I a q,c,q2,o _ G H (Ext.refl I.gh) (Md.sca rfl (fun _=>.bl) d)⟩
noncomputable def lF (c:Bool):W→W→R W
 | .lst us,.lst vs=>if us.length+vs.length≤1000 then chks c (us++vs) else .stuck
 | _,_=>.stuck
theorem yU {c:Bool}:Op2 K (cb c) .F rCat (lF c):=by
 intro EX H0 Hs G H ρ σ Ha Hb x y u v Q I s mx my o
 cases u <;> first | exact o.elim | skip
 all_goals (cases v <;> first | exact o.elim | skip)
 rename_i us vs
 replace o:Out EX G H (mdW K .F H0 Hs) (if us.length+vs.length≤1000 then chks c (us++vs) else .stuck) Q:=o
 by_cases hn:us.length+vs.length≤1000
 ·rw [if_pos hn] at o
  have h1:∃ a ws,x=.ref a∧H a=some (.lst ws)∧Reps K (if c then G else join H0 G) ws us:=by
   cases c with
   | true=>exact Md.lstC (H:=Ha) I mx
   | false=>exact Md.lstB (H:=Ha) I mx
  have h2:∃ a ws,y=.ref a∧H a=some (.lst ws)∧Reps K (if c then G else join H0 G) ws vs:=by
   cases c with
   | true=>exact Md.lstC (H:=Hb) I my
   | false=>exact Md.lstB (H:=Hb) I my
  obtain ⟨a,xs,rfl,ha,ra⟩:=h1
  obtain ⟨b,ys,rfl,hb,rb⟩:=h2
  exact ⟨a,b,xs,ys,rfl,rfl,ha,hb,by rw [ra.length,rb.length]; exact aF hn,Out.chks I s (ra.append rb) o⟩
 ·rw [if_neg hn] at o; exact o.elim
theorem Reps.rep {F:Hp} {vs:List V} {ws:List W} (r:Reps K F vs ws):∀ k:Nat,Reps K F (List.replicate k vs).flatten (List.replicate k ws).flatten
 | 0=>.nil
 | k+1=>by rw [List.replicate_succ,List.replicate_succ,List.flatten_cons,List.flatten_cons]; exact r.append (Reps.rep r k)
noncomputable def fRep (c:Bool):W→W→R W
 | .lst us,.int k=>if us.length*k.toNat≤1000 ∧ -1000≤k∧k≤1000 then chks c (List.replicate k.toNat us).flatten else .stuck
 | _,_=>.stuck
end
end TP
namespace TP
open PySem L2
noncomputable def mC (w:W):Rho→R W:=fun _=>.ok w
noncomputable def b1 (f:W→R W) (ma:Rho→R W):Rho→R W:=fun ρ=>ma ρ>>=fun x=>f x
noncomputable def b2 (f:W→W→R W) (ma mb:Rho→R W):Rho→R W:=fun ρ=>ma ρ>>=fun x=>mb ρ>>=fun y=>f x y
noncomputable def bA (f:List W→R W) (ma:Rho→R (List W)):Rho→R W:=fun ρ=>ma ρ>>=fun ws=>f ws
noncomputable def bI (f:List W→R (List W)) (ma:Rho→R (List W)):Rho→R (List W):=fun ρ=>ma ρ>>=f
noncomputable def bS (ma:Rho→R W):Rho→R (List W):=fun ρ=>ma ρ>>=y6
noncomputable def aN:Rho→R (List W):=fun _=>.ok []
noncomputable def aC (ma:Rho→R W) (mr:Rho→R (List W)):Rho→R (List W):=fun ρ=>ma ρ>>=fun x=>mr ρ>>=fun xs=>.ok (x::xs)
noncomputable def Y5 (ma:Rho→R W):Rho→R W:=fun ρ=>ma ρ>>=chk
noncomputable def d6 (ma:Rho→R W):Rho→R Bool:=fun ρ=>ma ρ>>=toB
noncomputable def gi (a b:Rho→R Bool):Rho→R Bool:=fun ρ=>eP (a ρ) (b ρ)
noncomputable def W3 (a b:Rho→R Bool):Rho→R Bool:=fun ρ=>rOr (a ρ) (b ρ)
noncomputable def B4 (a:Rho→R Bool):Rho→R Bool:=fun ρ=>kK (a ρ)
noncomputable def kj (a b:Rho→R W):Rho→R W:=fun ρ=>cy (a ρ) (b ρ)
noncomputable def vOr (a b:Rho→R W):Rho→R W:=fun ρ=>hV (a ρ) (b ρ)
noncomputable def oS (a:Rho→R W):Rho→R W:=fun ρ=>gm (a ρ)
noncomputable def vIf (c:Rho→R Bool) (a b:Rho→R W):Rho→R W:=fun ρ=>c ρ>>=fun t=>if t then a ρ else b ρ
noncomputable def gw (f f':W→W→R W) (ma mb mc:Rho→R W):Rho→R W:=fun ρ=>ma ρ>>=fun x=>mb ρ>>=fun y=>f x y>>=fun z=>toB z>>=fun c=>if c then mc ρ>>=fun u=>f' y u else .ok (.bl false)
noncomputable def F8 (ma:Rho→R (List W)):Rho→R W:=fun ρ=>ma ρ>>=fun ws=>lim ws.length (.tup ws)
noncomputable def C5 (ma:Rho→R (List W)):Rho→R W:=fun ρ=>ma ρ>>=fun ws=>lim ws.length (.lst ws)
noncomputable def pN:Rho→R (Option Int):=fun _=>.ok none
noncomputable def pS (m:Rho→R W):Rho→R (Option Int):=fun ρ=>m ρ>>=gn
noncomputable def vSl (c:Bool) (m:Rho→R W) (ml mh:Rho→R (Option Int)):Rho→R W:=fun ρ=>m ρ>>=fun x=>ml ρ>>=fun l=>mh ρ>>=fun u=>toR (lstOf x)>>=fun ws=>chks c (U7 ws l u)
noncomputable def o0 (n:Nat) (mi:Rho→R (List W)) (mg:W→Rho→Option Rho) (mc:Rho→R Bool) (me:Rho→R W):Rho→R W:=fun ρ=>mi ρ>>=fun ws=>m5 n mg mc me ws ρ
noncomputable def yes:Rho→R Bool:=fun _=>.ok true
noncomputable def sNx:Rho→R Fl:=fun ρ=>.ok (.nx ρ)
noncomputable def BF (m:Rho→R W):Rho→R Fl:=fun ρ=>m ρ>>=fun _=>.ok (.nx ρ)
noncomputable def i9 (m:Rho→R W):Rho→R Fl:=fun ρ=>m ρ>>=fun w=>.ok (.rt w)
noncomputable def BC:Rho→R Fl:=fun _=>.ok (.rt .non)
noncomputable def sV (i:Nat) (m:Rho→R W):Rho→R Fl:=fun ρ=>m ρ>>=fun w=>.ok (.nx (ρ.set i (.val w)))
noncomputable def sU (i:Nat) (m:Rho→R W):Rho→R Fl:=fun ρ=>m ρ>>=fun w=>.ok (.nx (ρ.set i (.par w)))
noncomputable def sF (i:Nat) (m:Rho→R W):Rho→R Fl:=fun ρ=>m ρ>>=fun w=>.ok (.nx (ρ.set i (S4 w)))
noncomputable def sG (mg:W→Rho→Option Rho) (m:Rho→R W):Rho→R Fl:=fun ρ=>m ρ>>=fun w=>toR (mg w ρ)>>=fun ρ'=>.ok (.nx ρ')
noncomputable def B0 (mi:Rho→R (List W)) (mg:W→Rho→Option Rho) (mb:Rho→R Fl):Rho→R Fl:=fun ρ=>mi ρ>>=fun ws=>J9 mg mb ws ρ
noncomputable def cU (i:Nat) (m:Rho→R Fl):Rho→R Fl:=fun ρ=>m (frz i ρ)
noncomputable def mX:Rho→R Fl:=fun _=>.stuck
noncomputable def sBk:Rho→R Fl:=fun ρ=>.ok (.bk ρ)
noncomputable def sCt:Rho→R Fl:=fun ρ=>.ok (.ct ρ)
section
variable {X:Cx} {e:Expr} {es:List Expr} {st:Stmt} {sts:List Stmt}
theorem _root_.L2.PE.mono {t t':TE} (h:PE X e t) (hm:∀ σ H Q,t' σ H Q→t σ H Q):PE X e t':=fun pins s σ H Q I q=>h pins s σ H Q I (hm σ H Q q)
theorem _root_.L2.PT.mono {t t':TT} (h:PT X e t) (hm:∀ σ H Q,t' σ H Q→t σ H Q):PT X e t':=fun pins s σ H Q I q=>h pins s σ H Q I (hm σ H Q q)
theorem _root_.L2.PW.mono {t t':TT} (h:PW X e t) (hm:∀ σ H Q,t' σ H Q→t σ H Q):PW X e t':=fun wh pins s σ H Q I q=>h wh pins s σ H Q I (hm σ H Q q)
theorem _root_.L2.PA.mono {t t':TA} (h:PA X es t) (hm:∀ σ H Q,t' σ H Q→t σ H Q):PA X es t':=fun pos pins s σ H Q I q=>h pos pins s σ H Q I (hm σ H Q q)
theorem _root_.L2.PS.mono {t t':TS} (h:PS X st t) (hm:∀ D σ H,t' D σ H→t D σ H):PS X st t':=fun pins s σ H D I q=>h pins s σ H D I (hm D σ H q)
theorem _root_.L2.PSs.mono {t t':TS} (h:PSs X sts t) (hm:∀ D σ H,t' D σ H→t D σ H):PSs X sts t':=fun pins s σ H D I q=>h pins s σ H D I (hm D σ H q)
theorem _root_.L2.PI.mono {tg:Expr} {t t':TI} (h:PI X tg e t) (hm:∀ σ H Q,t' σ H Q→t σ H Q):PI X tg e t':=fun pins s σ H Q I q=>h pins s σ H Q I (hm σ H Q q)
theorem _root_.L2.PO.mono {oe:Option Expr} {t t':TO} (h:PO X oe t) (hm:∀ σ H Q,t' σ H Q→t σ H Q):PO X oe t':=by
 intro pins s σ H Q I q
 exact h pins s σ H Q I (hm σ H Q q)
end
section
variable {X:Cx} {K:Frag} {EX:EXT} {d b:Mode} {a c e:Expr} {es rest:List Expr} {pos:Pos} {ma mb mc:Rho→R W} {ta tb:Rho→R Bool} {mr:Rho→R (List W)}
theorem J7 (h:PE X e (tM K EX .F ma)):PE X e (tM K EX .V ma):=h.mono fun _ _ _ q=>va q
theorem ib (h:PE X e (tM K EX .V ma)):PE X e (tM K EX .U ma):=h.mono fun _ _ _ q=>uY q
theorem j5 (h:PE X e (tM K EX .F ma)):PE X e (tM K EX .C ma):=h.mono fun _ _ _ q=>vb q
theorem d7 (h:PE X e (tM K EX .U ma)):PE X e (tM K EX .B ma):=h.mono fun _ _ _ q=>uZ q
theorem m7 (h:PE X e (tM K EX .C ma)):PE X e (tM K EX .B ma):=h.mono fun _ _ _ q=>vc q
theorem X1 (h:PE X e (tM K EX .U ma)):PE X e (tM K EX .V (Y5 ma)):=h.mono fun _ _ _ q=>ix (.inr rfl) q
theorem yt (h:PE X e (tM K EX .U ma)):PE X e (tM K EX .F (Y5 ma)):=h.mono fun _ _ _ q=>ix (.inl rfl) q
theorem qv (d:Mode) (i:Nat) {x:Str} (hN:autoParam (X.N[i]?=some x) au0._auto_1) (hv:autoParam (Vis X.env.scope x) au5._auto_1) (hd:autoParam ((x == ("__debug__" : Str))=false) au1._auto_1)
  (hcd:autoParam ((x == ("__classdict__" : Str))=false) au1._auto_1):PE X (.Name x pos) (tM K EX d (b5 d i)):=(X3 hN hv hd hcd).mono fun _ _ _ q=>lM q
theorem b7 {i j}:PE X (.Constant (.int i) j pos) (tM K EX d (mC (.int i))):=pe_int.mono fun _ _ _ q=>aO rfl (fun _=>.int) q
theorem P3 {t j}:PE X (.Constant (.bool t) j pos) (tM K EX d (mC (.bl t))):=pe_bl.mono fun _ _ _ q=>aO rfl (fun _=>.bl) q
theorem q5 {j}:PE X (.Constant .none j pos) (tM K EX d (mC .non)):=pe_non.mono fun _ _ _ q=>aO rfl (fun _=>.non) q
theorem dH {x j}:PE X (.Constant (.str x) j pos) (tM K EX d (mC (.str x))):=pe_str.mono fun _ _ _ q=>aO rfl (fun _=>.str) q
theorem cX {x:Str} {n:String} (hg:Gl X x) (hm:X.mg x=none) (hv:bootBuiltins x=some (.type n)) (hn:autoParam (x ≠ "__name__") au1._auto_1) (hd:autoParam ((x == ("__debug__" : Str))=false) au1._auto_1):PE X (.Name x pos) (tM K EX d (mC (.ty n))):=
 (uI (v:=.ty n) hg hm hv rfl hn hd).mono fun _ _ _ q=>aO rfl (fun _=>.ty) q
theorem i7 {op:Operator} {r:R2} {f:W→W→R W} (ho:OpR X (binaryOp op) r) (hr:Op2 K b d r f) (ha:PE X a (tM K EX b ma)) (hb:PE X c (tM K EX b mb)):PE X (.BinOp a op c pos) (tM K EX d (b2 f ma mb)):=
 (BR ho ha hb).mono fun _ _ _ q=>iT hr q
theorem sI {op:CmpOp} {r:R2} {f:W→W→R W} (ho:OpR X (compareOp op) r) (hr:Op2 K b d r f) (ha:PE X a (tM K EX b ma)) (hb:PE X c (tM K EX b mb)) (hm:behindInMarks op c=false:=by first | exact h9 _ | rfl):PE X (.Compare a [op] [c] pos) (tM K EX d (b2 f ma mb)):=
 (uH ho ha hb hm).mono fun _ _ _ q=>iT hr q
theorem i3 {op:CmpOp} {r:R2} {f:W→W→R W} (ho:OpR X (compareOp op) r) (hr:Op2 K b .B r f) (ha:PE X a (tM K EX b ma)) (hb:PE X c (tM K EX b mb)) (hm:behindInMarks op c=false:=by first | exact h9 _ | rfl):PT X (.Compare a [op] [c] pos) (tT K EX (d6 (b2 f ma mb))):=
 (uw ho ha hb hm).mono fun σ H Q q=>by
  obtain ⟨H0,G,ρ,I,o⟩:=q
  have:=oA (ma:=b2 f ma mb) ⟨H0,G,ρ,I,o⟩
  exact iT hr this
theorem qd {op:UnaryOp} {r:V→Hp→VK→Prop} {f:W→R W} (ho:UnR X (unaryOp op) r) (hr:Op1 K b d r f) (ha:PE X a (tM K EX b ma)):PE X (.UnaryOp op a pos) (tM K EX d (b1 f ma)):=
 (BQ ho ha).mono fun _ _ _ q=>c_un hr q
theorem C9 (ha:PE X a (tM K EX .B ma)) (he:autoParam (∀ whole,isTrue a X.env whole=(do let v ← whole; standAt a.pos; holding [v] (truthy v))) au3._auto_1):PT X a (tT K EX (d6 ma)):=
 (yy ha he).mono fun _ _ _ q=>c_tB q
theorem jD (ha:PT X a (tT K EX ta)):PW X (.BoolOp .And [a] pos) (tT K EX ta):=uv ha
theorem aD (ha:PT X a (tT K EX ta)):PW X (.BoolOp .Or [a] pos) (tT K EX ta):=yw ha
theorem no {b:Expr} (ha:PT X a (tT K EX ta)) (hb:PW X (.BoolOp .And (b::rest) pos) (tT K EX tb)):PW X (.BoolOp .And (a::b::rest) pos) (tT K EX (gi ta tb)):=(yx ha hb).mono fun _ _ _ q=>CJ q
theorem V2 {b:Expr} (ha:PT X a (tT K EX ta)) (hb:PW X (.BoolOp .Or (b::rest) pos) (tT K EX tb)):PW X (.BoolOp .Or (a::b::rest) pos) (tT K EX (W3 ta tb)):=(BL ha hb).mono fun _ _ _ q=>c_or q
theorem A3 (ha:PT X a (tT K EX ta)):PT X (.UnaryOp .Not a pos) (tT K EX (B4 ta)):=(yz ha).mono fun _ _ _ q=>Cw q
theorem sA {op} (h:PE X a (tM K EX d ma)):PE X (.BoolOp op [a] pos) (tM K EX d ma):=yI h
theorem sJ {b:Expr} (ha:PE X a (tM K EX .B ma)) (hb:PE X (.BoolOp .And (b::rest) pos) (tM K EX d mb)):PE X (.BoolOp .And (a::b::rest) pos) (tM K EX d (kj ma mb)):=(yM ha hb).mono fun _ _ _ q=>Bf q
theorem BI (ha:PE X a (tM K EX .B ma)):PE X (.UnaryOp .Not a pos) (tM K EX d (oS ma)):=(yJ ha).mono fun _ _ _ q=>AZ q
theorem kT {t:Expr} (ht:PT X t (tT K EX ta)) (ha:PE X a (tM K EX d ma)) (hb:PE X c (tM K EX d mb)):PE X (.IfExp t a c pos) (tM K EX d (vIf ta ma mb)):=(qh ht ha hb).mono fun _ _ _ q=>c_if q
theorem ur {op op':CmpOp} {r r':R2} {f f':W→W→R W} {x y z:Expr} (ho:OpR X (compareOp op) r) (hr:Op2 K b .B r f) (ho':OpR X (compareOp op') r') (hr':Op2 K b d r' f') (ha:PE X x (tM K EX b ma)) (hb:PE X y (tM K EX b mb)) (hc:PE X z (tM K EX b mc))
  (hm:autoParam (lastMarks [op,op'] [y,z]=false) au6._auto_1):PE X (.Compare x [op,op'] [y,z] pos) (tM K EX d (gw f f' ma mb mc)):=
 (qi ho ho' ha hb hc hm).mono fun _ _ _ q=>wv hr hr' q
theorem b6:PA X [] (tA K EX d aN):=pa_nil.mono fun _ _ _ q=>Cy q
theorem b4 (ha:PE X e (tM K EX d ma)) (hr:PA X es (tA K EX d mr)) (hs:autoParam (starEach (e::es) X.env=(false,eval e X.env)::starEach es X.env) au0._auto_1):PA X (e::es) (tA K EX d (aC ma mr)):=(cD ha hr hs).mono fun _ _ _ q=>Bc q
theorem L0 {x1} (h:PA X es (tA K EX .V mr)):PE X (.Tuple es x1 pos) (tM K EX .F (F8 mr)):=(ny h).mono fun _ _ _ q=>Cr q
theorem yl {x1} (h:PA X es (tA K EX .U mr)):PE X (.Tuple es x1 pos) (tM K EX .U (F8 mr)):=(ny h).mono fun _ _ _ q=>AS q
theorem A4 (h:PA X es (tA K EX .V mr)):PE X (.List es pos) (tM K EX .F (C5 mr)):=(yK h).mono fun _ _ _ q=>Cz q
theorem c8 (ha:PE X a (tM K EX .B ma)) (hb:PE X c (tM K EX .B mb)) (hs:autoParam (fB c) au4._auto_1) (hK:autoParam (X.K=K) au0._auto_1):PE X (.Subscript a c pos) (tM K EX .U (b2 fIx ma mb)):=by
 subst hK; exact (sM nR ha hb hs).mono fun _ _ _ q=>iT yT q
theorem kR (ha:PE X a (tM K EX .C ma)) (hb:PE X c (tM K EX .C mb)) (hs:autoParam (fB c) au4._auto_1) (hK:autoParam (X.K=K) au0._auto_1):PE X (.Subscript a c pos) (tM K EX .V (b2 fIx ma mb)):=by
 subst hK; exact (sM nR ha hb hs).mono fun _ _ _ q=>iT yS q
theorem kQ:PO X none (bJ K EX pN):=po_none.mono fun _ _ _ q=>rP q
theorem kP (h:PE X e (tM K EX .B ma)):PO X (some e) (bJ K EX (pS ma)):=(uA h).mono fun _ _ _ q=>AY q
theorem kM (k:Bool) {lo hi:Option Expr} {p2:Pos} {ml mh:Rho→R (Option Int)} (he:PE X e (tM K EX (cb k) ma)) (hl:PO X lo (bJ K EX ml)) (hu:PO X hi (bJ K EX mh)) (hK:autoParam (X.K=K) au0._auto_1):PE X (.Subscript e (.Slice lo hi none p2) pos) (tM K EX .F (vSl k ma ml mh)):=by
 subst hK; exact (qg tP he hl hu).mono fun _ _ _ q=>c_sl q
theorem m8 {x:Str} {id:String} {r:List V→Hp→VK→Prop} {f:List W→R W} {p:Pos} (hc:F5 X (.builtin id) r) (hr:Cal K b d r f) (hg:Gl X x) (hm:X.mg x=none) (hv:bootBuiltins x=some (.builtin id)) (ha:PA X (e::es) (tA K EX b mr))
  (hn:autoParam (x ≠ "__name__") au1._auto_1) (hdb:autoParam ((x == ("__debug__" : Str))=false) au1._auto_1) (he:autoParam (starEach (e::es) X.env=(false,eval e X.env)::starEach es X.env) au0._auto_1) (hpl:autoParam ((backTo pos (starEach es X.env)).any (·.1)=false) au0._auto_1) :
  PE X (.Call (.Name x p) (e::es) [] pos) (tM K EX d (bA f mr)):=(qj hc hg hm hv ha hn hdb he hpl).mono fun _ _ _ q=>rQ hr q
theorem L7 {x:Str} {T:String} {r:List V→Hp→VK→Prop} {f:List W→R W} {p:Pos} (hc:F5 X (.type T) r) (hr:Cal K b d r f) (hg:Gl X x) (hm:X.mg x=none) (hv:bootBuiltins x=some (.type T)) (ha:PA X (e::es) (tA K EX b mr))
  (hn:autoParam (x ≠ "__name__") au1._auto_1) (hdb:autoParam ((x == ("__debug__" : Str))=false) au1._auto_1) (he:autoParam (starEach (e::es) X.env=(false,eval e X.env)::starEach es X.env) au0._auto_1) (hpl:autoParam ((backTo pos (starEach es X.env)).any (·.1)=false) au0._auto_1) :
  PE X (.Call (.Name x p) (e::es) [] pos) (tM K EX d (bA f mr)):=(nz hc hg hm hv ha hn hdb he hpl).mono fun _ _ _ q=>rQ hr q
theorem t7 (hK:autoParam (X.K=K) au0._auto_1):F5 X (.builtin "len") (fun xs H Q=>∃ p ys,xs = [.ref p]∧(SqL K H p ys∨SqT K H p ys)∧Q (.int ys.length) H):=by subst hK; exact iS
theorem eG (hK:autoParam (X.K=K) au0._auto_1):F5 X (.type "list") (fun xs H Q=>∃ p ys,xs = [.ref p]∧(SqL K H p ys∨SqT K H p ys)∧∀ l,H l=none→Q (.ref l) (upd H l (.lst ys))):=by subst hK; exact iR
theorem N1 (hK:autoParam (X.K=K) au0._auto_1):F5 X (.type "tuple") (fun xs H Q=>∃ p ys,xs = [.ref p]∧((SqL K H p ys∧∀ l,H l=none→Q (.ref l) (upd H l (.tup ys)))∨(SqT K H p ys∧Q (.ref p) H))):=by subst hK; exact ge
theorem c9 {k:Nat} {f:Addr} {fd:FuncData} {ps:List Str} {x:Str} {p:Pos} {n N:Nat} {m:Rho→R Fl} (F:FnOk X.prog X.w X.K X.mg X.base CX0 k f fd ps (spM K n d (i6 n N m))) (hd:d=.F∨d=.V) (hr:Room k X.A) (hg:Gl X x) (hm:X.mg x=some (.ref f)) (hk:PySem.W.keepIn X.K (.ref f)=true) (hb:Binds X.K fd ps [])
  (ha:PA X (e::es) (tA K (fun _ _=>False) .B mr)) (hdb:autoParam ((x == ("__debug__" : Str))=false) au1._auto_1) (he:autoParam (starEach (e::es) X.env=(false,eval e X.env)::starEach es X.env) au0._auto_1) (hpl:autoParam ((backTo pos (starEach es X.env)).any (·.1)=false) au0._auto_1) :
  PE X (.Call (.Name x p) (e::es) [] pos) (tM K (fun _ _=>False) d (bA (i6 n N m) mr)):=
 (jI F hr hg hm hk hb .nil kY ha hdb he hpl).mono fun _ _ _ q=>Bd hd (fun ws h=>pI ws h) (fun _ _ z=>z) q
variable {tg:Expr} {lp:Bool}
theorem sE (h:PE X e (tM K EX (bM lp .U) ma)) (hK:autoParam (X.K=K) au0._auto_1):PI X tg e (tIt K EX lp .U (bS ma)):=by subst hK; exact (sL h).mono fun _ _ _ q=>sT (.inr rfl) q
theorem yq (h:PE X e (tM K EX (bM lp .V) ma)) (hK:autoParam (X.K=K) au0._auto_1):PI X tg e (tIt K EX lp .V (bS ma)):=by subst hK; exact (sL h).mono fun _ _ _ q=>sT (.inl rfl) q
theorem J4 {p:Pos} (hg:Gl X "range") (hm:X.mg "range" = none) (ha:PA X [a] (tA K EX .B mr)) (hs:autoParam (starEach [a] X.env = [(false,eval a X.env)]) au0._auto_1):PI X tg (.Call (.Name "range" p) [a] [] pos) (tIt K EX lp .U (bI N2 mr)):=
 (nv hg hm ha hs).mono fun _ _ _ q=>AW (.inr rfl) q
theorem sw {elts:List Expr} {p tp:Pos} {k:Nat} (hg:Gl X "zip") (hm:X.mg "zip" = none) (ha:PA X (a::es) (tA K EX (bM lp .U) mr)) (hK:autoParam (X.K=K) au0._auto_1) (hs:autoParam (starEach (a::es) X.env=(false,eval a X.env)::starEach es X.env) au0._auto_1) (hpl:autoParam ((backTo pos (starEach es X.env)).any (·.1)=false) au0._auto_1) :
  PI X (.Tuple elts k tp) (.Call (.Name "zip" p) (a::es) [] pos) (tIt K EX lp .U (bI F6 mr)):=by subst hK; exact (yF hg hm ha hs hpl).mono fun _ _ _ q=>Cq (.inr rfl) q
end
section
variable {X:Cx} {K:Frag} {EX:EXT} {d b:Mode} {e:Expr} {st:Stmt} {sts:List Stmt} {pos:Pos} {ma mb:Rho→R W} {ta:Rho→R Bool} {m n:Rho→R Fl}
theorem v7 {cs:Scope} {N':List Str} {tg iter elt:Expr} {ifs:List Expr} {dd:Mode} {g:TG} {mg:W→Rho→Option Rho} {mi:Rho→R (List W)} (S:i4 X.env.scope cs X.N N') (hc:X.calm=true) (hi:PI X tg iter (tIt K EX false dd mi))
  (hg:∀ cl ex s H,PG (l5 X cs cl N' ex s H) tg g) (hgt:Gt K dd g mg) (hk:Z9 X.N.length g) (ht:∀ cl ex s H,PIf (l5 X cs cl N' ex s H) ifs (tT K EX ta)) (he:∀ cl ex s H,PE (l5 X cs cl N' ex s H) elt (tM K EX .V ma))
  (hs:autoParam (∀ x,foldedSetIterable iter X.env x=pure x) au3._auto_1):PE X (.ListComp elt [⟨tg,iter,ifs,0⟩] cs pos) (tM K EX .F (o0 N'.length mi mg ta ma)):=
 (uG S hc hi hg hk ht he hs).mono fun _ _ _ q=>oC hgt q
theorem bW {i:Nat} {y:Str} {py:Pos} {cs:Scope} {N':List Str} {tg iter elt:Expr} {ifs:List Expr} {dd:Mode} {g:TG} {mg:W→Rho→Option Rho} {mi:Rho→R (List W)} {cpos:Pos} (S:i4 X.env.scope cs X.N N') (hc:X.calm=true) (hi:PI X tg iter (tIt K EX false dd mi))
  (hg:∀ cl ex s H,PG (l5 X cs cl N' ex s H) tg g) (hgt:Gt K dd g mg) (hk:Z9 X.N.length g) (ht:∀ cl ex s H,PIf (l5 X cs cl N' ex s H) ifs (tT K EX ta)) (he:∀ cl ex s H,PE (l5 X cs cl N' ex s H) elt (tM K EX .V ma))
  (hN:X.N.Nodup) (hy:X.N[i]?=some y) (hl:Loc X.env.scope y)
  (hsw:autoParam (swapsWith (.ListComp elt [⟨tg,iter,ifs,0⟩] cs cpos) (some (.Name y py)) pos.line X.env=pure true) au0._auto_1) (hf:autoParam (X.fn y=true∨X.env.scope.names.lookup y=some .local) au2._auto_1)
  (hs:autoParam (∀ x,foldedSetIterable iter X.env x=pure x) au3._auto_1):PS X (.Assign [.Name y py] (.ListComp elt [⟨tg,iter,ifs,0⟩] cs cpos) pos) (tSt K EX d (sF i (o0 N'.length mi mg ta ma))):=
 (ux S hc hi hg hk ht he hN hy hl hsw hf hs).mono fun D σ H q=>by
  have:=oB (m:=o0 N'.length mi mg ta ma) q
  exact oC hgt this
theorem u3:PIf X [] (tT K EX yes):=fun pins s σ H Q I q=>uE pins s σ H Q I (by obtain ⟨H0,G,ρ,I0,o⟩:=q; exact o true G H (Ext.refl I0.gh) rfl)
theorem ia {c:Expr} (h:PT X c (tT K EX ta)):PIf X [c] (tT K EX ta):=uD h
theorem k7:PSs X [] (tSt K EX d sNx):=pss_nil.mono fun _ _ _ q=>Ba q
theorem b8 (h1:PS X st (tSt K EX d m)) (h2:PSs X sts (tSt K EX d n)):PSs X (st::sts) (tSt K EX d (c6 m n)):=(ic h1 h2).mono fun _ _ _ q=>Ct q
theorem b9 (h1:PS X st (tSt K EX d m)):PSs X [st] (tSt K EX d m):=jE h1
theorem dJ {i:Nat} (h:PS X st (tSt K EX d m)):PS X st (tSt K EX d (cU i m)):=h.mono fun _ _ _ q=>CD q
theorem uo:PS X st (tSt K EX d mX):=ps_never.mono fun _ _ _ q=>wq q
theorem i2 (he:PE X e (tM K EX d ma)):PS X (.Return (some e) pos) (tSt K EX d (i9 ma)):=(nq he).mono fun _ _ _ q=>sS q
theorem E6 (i:Nat) {x:Str} {p:Pos} (hd:d=.F∨d=.V) (hN:autoParam (X.N[i]?=some x) au0._auto_1) (hv:autoParam (Vis X.env.scope x) au5._auto_1) (hdd:autoParam ((x == ("__debug__" : Str))=false) au1._auto_1)
  (hcd:autoParam ((x == ("__classdict__" : Str))=false) au1._auto_1):PS X (.Return (some (.Name x p)) pos) (tSt K EX d (t0 d i)):=(nq (X3 hN hv hdd hcd)).mono fun _ _ _ q=>rN hd q
theorem J3 {i:Nat} {x:Str} {pos':Pos} (hN:X.N.Nodup) (hi:X.N[i]?=some x) (hx:Loc X.env.scope x) (he:PE X e (tM K EX .V ma)) (hs:autoParam (swapsWith e (some (.Name x pos')) pos.line X.env=pure false) au0._auto_1) (hf:autoParam (X.fn x=true∨X.env.scope.names.lookup x=some .local) au2._auto_1) :
  PS X (.Assign [.Name x pos'] e pos) (tSt K EX d (sV i ma)):=(ie hN hi hx he hs hf).mono fun _ _ _ q=>AT q
theorem dI {i:Nat} {x:Str} {pos':Pos} (hN:X.N.Nodup) (hi:X.N[i]?=some x) (hx:Loc X.env.scope x) (he:PE X e (tM K EX .U ma)) (hs:autoParam (swapsWith e (some (.Name x pos')) pos.line X.env=pure false) au0._auto_1) (hf:autoParam (X.fn x=true∨X.env.scope.names.lookup x=some .local) au2._auto_1) :
  PS X (.Assign [.Name x pos'] e pos) (tSt K EX d (sU i ma)):=(ie hN hi hx he hs hf).mono fun _ _ _ q=>AU q
theorem i0 {i:Nat} {x:Str} {pos':Pos} (hN:X.N.Nodup) (hi:X.N[i]?=some x) (hx:Loc X.env.scope x) (he:PE X e (tM K EX .F ma)) (hs:autoParam (swapsWith e (some (.Name x pos')) pos.line X.env=pure false) au0._auto_1) (hf:autoParam (X.fn x=true∨X.env.scope.names.lookup x=some .local) au2._auto_1) :
  PS X (.Assign [.Name x pos'] e pos) (tSt K EX d (sF i ma)):=(ie hN hi hx he hs hf).mono fun _ _ _ q=>oB q
theorem BK {tg:Expr} {g:TG} {mg:W→Rho→Option Rho} (he:PE X e (tM K EX b ma)) (hg:PG X tg g) (hgt:Gt K b g mg) (hs:autoParam (swapsWithSole [tg] e pos.line X.env=pure false) au0._auto_1) (hw:autoParam (swappedStores [tg] e X.env=pure none) au0._auto_1) (h1:autoParam ((assignEach [tg] X.env).map (·.2) = [assign tg X.env]) au0._auto_1):PS X (.Assign [tg] e pos) (tSt K EX d (sG mg ma)):=
 (nr he hg hs hw h1).mono fun _ _ _ q=>CH hgt q
theorem Z2 {i:Nat} {x:Str} {p apos cpos:Pos} (hN:X.N[i]?=some x) (hv:Vis X.env.scope x) (ha:PE X e (tM K EX .V ma)) (hd:autoParam ((x == ("__debug__" : Str))=false) au1._auto_1) (hcd:autoParam ((x == ("__classdict__" : Str))=false) au1._auto_1)
  (hbase:autoParam (attributeBase (.Name x p) "append" X.env (eval (.Name x p) X.env)=eval (.Name x p) X.env) au0._auto_1)
  (hfew:autoParam (((backTo cpos (starEach [e] X.env)).all (fun x=>!x.1)&&(backToKw cpos (keywordEach [] X.env)).all (fun x=>x.1.isSome)
   && decide (([e]:List Expr).length+([]:List Keyword).length+(if ([]:List Keyword).isEmpty then 0 else 1)<30))=true) au0._auto_1)
  (hline:autoParam ((apos.endLine == cpos.line)=true) au0._auto_1) (hs:autoParam (starEach [e] X.env=(false,eval e X.env)::starEach [] X.env) au0._auto_1) (hsw:autoParam (swapsWith (.Call (.Attribute (.Name x p) "append" apos) [e] [] cpos) none pos.line X.env=pure false) au0._auto_1) :
  PS X (.Expr (.Call (.Attribute (.Name x p) "append" apos) [e] [] cpos) pos) (tSt K EX d (U5 i ma)):=(cB (fK (X3 hN hv hd hcd) ha hbase hfew hline hs) hsw).mono fun _ _ _ q=>CI q
theorem k9 {c:Expr} {x y:List Stmt} (hc:PT X c (tT K EX ta)) (ha:PSs X x (tSt K EX d m)) (hb:PSs X y (tSt K EX d n)):PS X (.If c x y pos) (tSt K EX d (mIf ta m n)):=(sK hc ha hb).mono fun _ _ _ q=>CA q
theorem jC {c:Expr} {body:List Stmt} (hp:PassesOwn (model X.prog X.w) X.A X.env X.xe) (hc:PT X c (tT K EX ta)) (hb:PSs X body (tSt K EX d m)):PS X (.While c body [] pos) (tSt K EX d (T8 ta m)):=(qe hp hc hb).mono fun _ _ _ q=>wo q
theorem w8 {tg iter:Expr} {body:List Stmt} {dd:Mode} {g:TG} {mg:W→Rho→Option Rho} {mi:Rho→R (List W)} (hp:PassesOwn (model X.prog X.w) X.A X.env X.xe) (hc:X.calm=true) (hi:PI X tg iter (tIt K EX true dd mi)) (hg:PG X tg g) (hgt:Gt K dd g mg) (hb:PSs X body (tSt K EX d m))
  (hs:autoParam (∀ x,foldedSetIterable iter X.env x=pure x) au3._auto_1):PS X (.For tg iter body [] pos) (tSt K EX d (B0 mi mg m)):=(yA hp hc hi hg hb hs).mono fun _ _ _ q=>CF hgt q
theorem BJ {i:Nat} {x:Str} {op:Operator} {f:Int→Int→Int} {pos':Pos} (hN:X.N.Nodup) (hi:X.N[i]?=some x) (hx:Loc X.env.scope x) (he:PE X e (tM K EX .B ma)) (ho:PIp X op (ipI f)) (hf:autoParam (X.fn x=true∨X.env.scope.names.lookup x=some .local) au2._auto_1) :
  PS X (.AugAssign (.Name x pos') op e pos) (tSt K EX d (iB i f ma)):=(yB hN hi hx he ho hf).mono fun _ _ _ q=>CG q
theorem kN {i:Nat} {x:Str} {k:Expr} {p p2:Pos} (hN:X.N[i]?=some x) (hv:Vis X.env.scope x) (hk:PE X k (tM K EX .B mb)) (he:PE X e (tM K EX .V ma)) (hd:autoParam ((x == ("__debug__" : Str))=false) au1._auto_1) (hcd:autoParam ((x == ("__classdict__" : Str))=false) au1._auto_1)
  (hg:PG X (.Subscript (.Name x p) k p2) (gSub (ac i) (tM K EX .B mb) rSetL))
  (hs:autoParam (swapsWithSole [.Subscript (.Name x p) k p2] e pos.line X.env=pure false) au0._auto_1) (hw:autoParam (swappedStores [.Subscript (.Name x p) k p2] e X.env=pure none) au0._auto_1):PS X (.Assign [.Subscript (.Name x p) k p2] e pos) (tSt K EX d (dm i mb ma)):=
 (nr he hg hs hw).mono fun _ _ _ q=>Cs q
end
end TP
namespace TP
open PySem L2
noncomputable abbrev gLt (i j:Int):W:=.bl (decide (i<j))
noncomputable abbrev gLe (i j:Int):W:=.bl (decide (i≤j))
noncomputable abbrev gGt (i j:Int):W:=.bl (decide (j<i))
noncomputable abbrev gGe (i j:Int):W:=.bl (decide (j≤i))
noncomputable abbrev n5 (i j:Int):W:=.int (i+j)
noncomputable abbrev gSub (i j:Int):W:=.int (i-j)
noncomputable abbrev t9 (i j:Int):W:=.int (i*j)
noncomputable abbrev E2 (i j:Int):W:=.int (i%j)
noncomputable abbrev ci (i j:Int):W:=.int (i/j)
noncomputable abbrev bv (i j:Int):W:=.int (i^j.toNat)
noncomputable abbrev dw (i:Int):W:=.int (-i)
noncomputable abbrev U6 (i j:Int):Int:=if j>i then j else i
noncomputable abbrev zY (i j:Int):Int:=if j<i then j else i
noncomputable abbrev sQ (i j:Int):Int:=i+j
noncomputable abbrev Ci (i j:Int):Int:=i-j
noncomputable abbrev C1 (_ j:Int):Prop:=0<j
noncomputable instance (i j:Int):Decidable (CMul i j):=by unfold CMul; infer_instance
noncomputable instance (i j:Int):Decidable (ar i j):=by unfold ar; infer_instance
noncomputable instance (i j:Int):Decidable (S2 i j):=by unfold S2; infer_instance
noncomputable instance (i j:Int):Decidable (tq i j):=by unfold tq; infer_instance
noncomputable def vOf:W→Option V
 | .non=>some .non
 | .bl b=>some (.bl b)
 | .int i=>some (.int i)
 | .str x=>some (.str x)
 | _=>none
noncomputable def rB (u v:W):Option Bool:=match vOf u,vOf v with
 | some x,some y=>if gS x y then some (decide (x=y)) else none
 | _,_=>none
noncomputable def y8 (neg:Bool) (u v:W):R W:=match rB u v with
 | some b=>.ok (.bl (if neg then !b else b))
 | none=>.stuck
section
variable {K:Frag} {H0 G H:Hp} {ρ:Rho} {σ:St} {d:Mode}
theorem gf {Ha:Hp} {v:V} {w:W} {x:V} (h:Md K H0 Ha G H v w .B) (e:vOf w=some x):v=x:=by
 cases w <;> first | cases e | skip
 ·exact h.nonB
 ·exact h.blB
 ·exact h.intB
 ·exact h.strB
theorem T7:Op2 K .B d rEq (y8 false):=by
 intro EX H0 Hs G H ρ σ Ha Hb x y u v Q I s mx my o
 unfold y8 rB at o
 cases hu:vOf u with
 | none=>rw [hu] at o; exact o.elim
 | some p=>
  cases hv:vOf v with
  | none=>rw [hu,hv] at o; exact o.elim
  | some q=>
   rw [hu,hv] at o
   cases gf mx hu
   cases gf my hv
   dsimp only at o
   by_cases c:gS x y=true
   ·rw [if_pos c] at o
    exact ⟨c,o _ G H (Ext.refl I.gh) (Md.sca rfl (fun _=>.bl) d)⟩
   ·rw [if_neg c] at o; exact o.elim
theorem nI:Op2 K .B d rNe (y8 true):=by
 intro EX H0 Hs G H ρ σ Ha Hb x y u v Q I s mx my o
 unfold y8 rB at o
 cases hu:vOf u with
 | none=>rw [hu] at o; exact o.elim
 | some p=>
  cases hv:vOf v with
  | none=>rw [hu,hv] at o; exact o.elim
  | some q=>
   rw [hu,hv] at o
   cases gf mx hu
   cases gf my hv
   dsimp only at o
   by_cases c:gS x y=true
   ·rw [if_pos c] at o
    exact ⟨c,o _ G H (Ext.refl I.gh) (Md.sca rfl (fun _=>.bl) d)⟩
   ·rw [if_neg c] at o; exact o.elim
end
theorem zd {P:Program} {w:World} {K:Frag} {mg:Str→Option Value} {base:Heap} {k:Nat} {f:Addr} {fd:FuncData} {ps:List Str} {d:Mode} {F:List W→R W} (G:FnOk P w K mg base CX0 k f fd ps (spM K 1 d F))
  (h:∀ ns:List Int,ns.length≤63→F [.scr (ns.map W.int)]=.ok (.bl true)):FnOk P w K mg base CX0 k f fd ps (fun vs H Q _=>∃ (a:Addr) (ns:List Int),vs = [.ref a]∧SqL K H a (ns.map V.int)∧ns.length≤63∧∀ H',Q (.bl true) H'):=
 G.imp fun vs H Q E zz82=>by
  obtain ⟨a,ns,e,hs,hl,q⟩:=zz82
  subst e
  refine ⟨rfl,[.scr (ns.map W.int)],.cons (.scr hs ?_) .nil,?_⟩
  ·clear hs hl
   induction ns with
   | nil=>exact .nil
   | cons n ns ih=>exact .cons .int ih
  ·rw [h ns hl]
   intro v G' H' _ _ _ m
   have e:v=.bl true:=by
    cases d <;> first | exact Rep.inv m | (rcases m with m | ⟨_,_,_,_,z,_⟩ <;> first | exact Rep.inv m | cases z)
   subst e
   exact q H'
end TP
namespace TP
open PySem L2
mutual
noncomputable def pd:W→PyData
 | .non=>.none
 | .bl b=>.bool b
 | .int i=>.int i
 | .str x=>.str x
 | .ty _=>.none
 | .exc _ _=>.none
 | .cls _=>.none
 | .tup ws=>.tuple (pds ws)
 | .lst ws=>.list (pds ws)
 | .scr ws=>.list (pds ws)
noncomputable def pds:List W→List PyData
 | []=>[]
 | w::ws=>pd w::pds ws
end
mutual
noncomputable def shp:Nat→W→Bool
 | _,.non=>true
 | _,.bl _=>true
 | _,.int _=>true
 | _,.str x=>PyData.strOk x
 | n+1,.tup ws=>U1 n ws
 | n+1,.lst ws=>U1 n ws
 | n+1,.scr ws=>U1 n ws
 | _,_=>false
noncomputable def U1:Nat→List W→Bool
 | _,[]=>true
 | n,w::ws=>shp n w&&U1 n ws
end
theorem dD:∀ (w:W) (n:Nat),shp n w=true→(pd w).canLay0=true∧(pd w).depth≤n:=by
 intro w
 have tl:∀ (ws:List W) (c:List PyData→PyData),(∀ l,(c l).canLay0=PyData.canLayAll0 l)→(∀ l,(c l).depth=PyData.depthAll l+1)→(∀ n:Nat,U1 n ws=true→PyData.canLayAll0 (pds ws)=true∧PyData.depthAll (pds ws)≤n)→∀ n:Nat,(match n with | 0=>false | n+1=>U1 n ws)=true→(c (pds ws)).canLay0=true∧(c (pds ws)).depth≤n:=fun ws c h1 h2 ih n h=>by
  cases n with
  | zero=>cases h
  | succ n=>have:=ih n h; exact ⟨by rw [h1]; exact this.1,by rw [h2]; exact Nat.succ_le_succ this.2⟩
 have fl:∀ {n:Nat} {w:W} {P:Prop},shp n w=false→shp n w=true→P:=fun h1 h2=>by rw [h1] at h2; cases h2
 induction w using W.rec (motive_2:=fun ws=>∀ n:Nat,U1 n ws=true→PyData.canLayAll0 (pds ws)=true∧PyData.depthAll (pds ws)≤n) with
 | non=>exact fun n _=>⟨rfl,Nat.zero_le _⟩
 | bl b=>exact fun n _=>⟨rfl,Nat.zero_le _⟩
 | int i=>exact fun n _=>⟨rfl,Nat.zero_le _⟩
 | str x=>exact fun n h=>⟨by cases n <;> exact h,Nat.zero_le _⟩
 | ty a=>exact fun n h=>fl (by cases n <;> rfl) h
 | exc a b=>exact fun n h=>fl (by cases n <;> rfl) h
 | cls a=>exact fun n h=>fl (by cases n <;> rfl) h
 | tup ws ih=>exact fun n h=>tl ws .tuple (fun _=>rfl) (fun _=>rfl) ih n (by cases n <;> exact h)
 | lst ws ih=>exact fun n h=>tl ws .list (fun _=>rfl) (fun _=>rfl) ih n (by cases n <;> exact h)
 | scr ws ih=>exact fun n h=>tl ws .list (fun _=>rfl) (fun _=>rfl) ih n (by cases n <;> exact h)
 | nil=>exact ⟨rfl,Nat.zero_le _⟩
 | cons w ws h1 h2=>
  rename_i n h
  have h':shp n w=true∧U1 n ws=true:=(Bool.and_eq_true _ _).mp h
  have a:=h1 n h'.1
  have b:=h2 n h'.2
  exact ⟨by show (PyData.canLay0 _&&PyData.canLayAll0 _)=true; rw [a.1,b.1]; rfl,Nat.max_le.mpr ⟨a.2,b.2⟩⟩
theorem ju (ws:List W) (n:Nat) (h:U1 n ws=true):PyData.canLayAll0 (pds ws)=true∧PyData.depthAll (pds ws)≤n:=by
 have:=dD (.tup ws) (n+1) h
 exact ⟨this.1,Nat.le_of_succ_le_succ this.2⟩
section
variable {X:Cx} {pins:List (Addr×Obj)} {σ:St} {H:Hp} {s:Shared}
theorem Rep.reads (I:Inv X pins σ H s) {x:V} {w:W} {u:Value} (n:Nat) (r:Rep X.K H x w):shp n w=true→RelV x u→∃ as,Reads s.heap u (pd w) as:=by
 have fl:∀ {n:Nat} {w:W} {P:Prop},shp n w=false→shp n w=true→P:=fun h1 h2=>by rw [h1] at h2; cases h2
 induction r using Rep.rec (motive_2:=fun xs ws _=>∀ (us:List Value) (n:Nat),U1 n ws=true→Vals xs us→∃ as,ReadsAll s.heap us (pds ws) as) generalizing u n with
 | non=>intro _ r; cases r; exact ⟨_,.none⟩
 | bl=>intro _ r; cases r; exact ⟨_,.bool _⟩
 | int=>intro _ r; obtain ⟨t,rfl⟩:=r; exact ⟨_,.int _ _⟩
 | str=>intro _ r; obtain ⟨t,rfl⟩:=r; exact ⟨_,.str _ _⟩
 | ty=>exact fun h _=>fl (by cases n <;> rfl) h
 | exc=>exact fun h _=>fl (by cases n <;> rfl) h
 | cls=>exact fun h _=>fl (by cases n <;> rfl) h
 | tup ha _ ih=>
  intro h r
  cases r
  cases n with
  | zero=>cases h
  | succ n=>
   obtain ⟨its,rv,⟨o,e,c,k,dd⟩,_⟩:=I.tuple (SqT.of ha)
   obtain ⟨as,q⟩:=ih _ n h rv
   exact ⟨_,.tuple e c dd (by simpa using q)⟩
 | lst ha _ ih=>
  intro h r
  cases r
  cases n with
  | zero=>cases h
  | succ n=>
   obtain ⟨its,rv,pl,_⟩:=I.list (SqL.of ha)
   obtain ⟨o,e,c,k,dd⟩:=pl.isList
   obtain ⟨as,q⟩:=ih _ n h rv
   exact ⟨_,.list e c dd (by simpa using q)⟩
 | scr ha _ ih=>
  intro h r
  cases r
  cases n with
  | zero=>cases h
  | succ n=>
   obtain ⟨its,rv,pl,_⟩:=I.list ha
   obtain ⟨o,e,c,k,dd⟩:=pl.isList
   obtain ⟨as,q⟩:=ih _ n h rv
   exact ⟨_,.list e c dd (by simpa using q)⟩
 | nil=>rename_i us n _ r; cases r; exact ⟨_,.nil⟩
 | cons _ _ h1 h2=>
  rename_i us n h r
  cases r with
  | cons r1 r2=>
   have h':=(Bool.and_eq_true _ _).mp h
   obtain ⟨as,q1⟩:=h1 n h'.1 r1
   obtain ⟨bs,q2⟩:=h2 _ n h'.2 r2
   exact ⟨_,.cons q1 q2⟩
noncomputable def eqW (u v:W):Bool:=PyData.eqv (pd u) (pd v)
noncomputable def pX (K:Frag) (neg:Bool):R2:=fun x y H Q=>∃ u v,Rep K H x u∧Rep K H y v∧shp 8 u=true∧shp 8 v=true∧Q (.bl (if neg then !eqW u v else eqW u v)) H
theorem Y7 {w:W} (h:shp 8 w=true):SeqAt.shaped (pd w)=true:=by
 obtain ⟨a,b⟩:=dD w 8 h
 unfold SeqAt.shaped
 rw [a,Bool.true_and]
 exact decide_eq_true (Nat.le_trans b (by decide))
theorem il (hu:X.A.units+64<cLine):OpR X (compareOp .Eq) (pX X.K false):=by
 intro pins s σ H x y v u Q I rx ry h
 obtain ⟨a,b,ra,rb,sa,sb,q⟩:=h
 obtain ⟨as,qa⟩:=Rep.reads I 8 ra sa rx
 obtain ⟨bs,qb⟩:=Rep.reads I 8 rb sb ry
 exact PyProof.Rows.eq_dataH qa qb (Y7 sa) (Y7 sb) hu ⟨.bl (eqW a b),H,I,rfl,q⟩
theorem nC (hu:X.A.units+64<cLine):OpR X (compareOp .NotEq) (pX X.K true):=by
 intro pins s σ H x y v u Q I rx ry h
 obtain ⟨a,b,ra,rb,sa,sb,q⟩:=h
 obtain ⟨as,qa⟩:=Rep.reads I 8 ra sa rx
 obtain ⟨bs,qb⟩:=Rep.reads I 8 rb sb ry
 exact PyProof.Rows.ne_dataH qa qb (Y7 sa) (Y7 sb) hu ⟨.bl (!eqW a b),H,I,rfl,q⟩
noncomputable def fEq (neg:Bool) (u v:W):R W:=if shp 8 u&&shp 8 v then .ok (.bl (if neg then !eqW u v else eqW u v)) else .stuck
theorem bY {K:Frag} {d:Mode} {neg:Bool}:Op2 K .B d (pX K neg) (fEq neg):=by
 intro EX H0 Hs G H ρ σ Ha Hb x y u v Q I s mx my o
 unfold fEq at o
 by_cases c:(shp 8 u&&shp 8 v)=true
 ·rw [if_pos c] at o
  have c':shp 8 u=true∧shp 8 v=true:=by simpa using c
  exact ⟨u,v,mx.whole I,my.whole I,c'.1,c'.2,o _ G H (Ext.refl I.gh) (Md.sca rfl (fun _=>.bl) d)⟩
 ·rw [if_neg c] at o; exact o.elim
noncomputable def am:W→Bool→Bool
 | .bl a,b=>a == b
 | _,_=>false
noncomputable def fIsB (neg:Bool):W→W→R W
 | u,.bl b=>.ok (.bl (if neg then !am u b else am u b))
 | _,_=>.stuck
end
theorem du {A:Around} {k:Nat} (hr:Room k A):A.units+64<cLine:=hr.units
end TP
namespace TP
open PySem L2
section
variable {X:Cx} {pins:List (Addr×Obj)} {σ:St} {H:Hp} {s:Shared}
theorem Q5 {x:V} {us:List Value} (r:Vals [x] us):∃ u,us = [u]∧RelV x u:=by
 cases r with
 | cons a t=>cases t; exact ⟨_,rfl,a⟩
theorem cf {h':Heap} {o:Obj} (hk:∀ b u,b ∉ [s.heap.objs.size]→(s.heap.push o).get? b=some u→h'.get? b=some u):∀ b u,s.heap.get? b=some u→h'.get? b=some u:=fun b u e=>
 hk b u (by simp; exact Nat.ne_of_lt (Heap.lt_size e)) (Heap.get?_push_of_some _ e)
theorem mt {α:Type} {f:α→V} {g:α→Value→Prop} (hg:∀ a u,RelV (f a) u→g a u) {as:List α} {its:List Value} (r:Vals (as.map f) its) {i:Nat} {v:Value} (h:its.toArray[i]?=some v):∃ a,as[i]?=some a∧g a v:=by
 have h':its[i]?=some v:=by simpa using h
 induction as generalizing its i with
 | nil=>cases r; simp at h'
 | cons a as ih=>
  cases r with
  | cons q t=>
   cases i with
   | zero=>simp at h'; subst h'; exact ⟨a,rfl,hg _ _ q⟩
   | succ i=>simpa using ih t (i:=i) (by simpa using h') (by simpa using h')
theorem fC {p:Addr} {xs:List V} (I:Inv X pins σ H s) (hc:X.calm=true) (hp:H p=some (.lst xs)):∃ its:List Value,Vals xs its∧s.heap.IsList p its.toArray∧xs.length=its.toArray.size∧p≠s.heap.objs.size ∧
  Walks X.prog X.w X.A.in1 s.heap.objs.size [s.heap.objs.size,p] [s.heap.objs.size] its.toArray.size (fun i v=>its.toArray[i]?=some v) (fun i h=>h.IsListIter s.heap.objs.size p i∧h.IsList p its.toArray):=by
 obtain ⟨its,rv,pl,hz⟩:=I.list (SqL.of hp)
 obtain ⟨o,e,_⟩:=pl.isList
 have hne:p≠s.heap.objs.size:=Nat.ne_of_lt (Heap.lt_size e)
 exact ⟨its,rv,pl.isList,by rw [List.size_toArray]; exact rv.length,hne,Walks.list (show X.A.in1.handled=none from I.ok.hd hc) _ p hne _⟩
theorem all_range {bs:List Bool}:(List.range bs.length).all (fun i=>bs.getD i false)=bs.all id:=by
 rw [Bool.eq_iff_iff,List.all_eq_true,List.all_eq_true]
 constructor
 ·intro h x hx
  obtain ⟨i,hi,e⟩:=List.mem_iff_getElem.mp hx
  have:=h i (by simpa using hi)
  rw [List.getD_eq_getElem?_getD] at this
  simpa [hi,e] using this
 ·intro h i hi
  have hi:i<bs.length:=by simpa using hi
  rw [List.getD_eq_getElem?_getD]
  simpa [hi] using h bs[i] (List.getElem_mem hi)
theorem oZ {A:Around} {bs:List Bool} {its:List Value} (rv:Vals (bs.map V.bl) its):TruthOf X.prog X.w A (fun i v=>its.toArray[i]?=some v) (fun i=>bs.getD i false):=fun i v s' Q' E hv hq=>by
 obtain ⟨b,hb,e⟩:=mt (f:=V.bl) (g:=fun b u=>u=.bool b) (fun b u r=>r) rv hv
 subst e
 have:bs.getD i false=b:=by rw [List.getD_eq_getElem?_getD,hb]; rfl
 have hq':Q' (bs.getD i false) s':=hq
 rw [this] at hq'
 exact wpAny_truthy_bool hq'
theorem oz (hc:X.calm=true):F5 X (.builtin "all") (fun xs H Q=>∃ (p:Addr) (bs:List Bool),xs = [.ref p]∧H p=some (.lst (bs.map V.bl))∧Q (.bl (bs.all id)) H):=by
 intro pins s σ H xs us Q I r h
 obtain ⟨p,bs,rfl,hp,q⟩:=h
 obtain ⟨u,rfl,rx⟩:=Q5 r
 cases rx
 obtain ⟨its,rv,hl,hlen,hne,Wk⟩:=fC I hc hp
 rw [List.length_map] at hlen
 refine call_all_walk (wpAny_pyIter_list hl ⟨_,_,_,_,_,_,_,rfl,Wk,⟨⟨_,Heap.get?_push_size _ rfl,rfl,rfl⟩,hl.push _⟩,oZ rv,fun h' tk hk=>?_⟩)
 rw [← hlen,all_range]
 exact ⟨.bl (bs.all id),H,I.kept (t':=tk) (cf hk),rfl,q⟩
noncomputable def Y4:List W→Option (List Bool)
 | []=>some []
 | .bl b::ws=>(Y4 ws).map (b::·)
 | _=>none
theorem wB (bs:List Bool):Y4 (bs.map W.bl)=some bs:=by
 induction bs with
 | nil=>rfl
 | cons b bs ih=>rw [List.map_cons,Y4,ih]; rfl
theorem Reps.bls {K:Frag} {F:Hp} {vs:List V} {ws:List W} {bs:List Bool} (r:Reps K F vs ws):Y4 ws=some bs→vs=bs.map V.bl:=
 Reps.ind (P:=fun vs ws=>∀ bs,Y4 ws=some bs→vs=bs.map V.bl) (fun bs h=>by cases h; rfl) (fun {v w vs ws} r _ ih bs h=>by
  cases w <;> first | cases h | skip
  rename_i b
  have e:v=.bl b:=r.inv
  subst e
  have h':(Y4 ws).map (b::·)=some bs:=h
  cases q:Y4 ws with
  | none=>rw [q] at h'; cases h'
  | some cs=>rw [q] at h'; cases h'; rw [ih cs q]; rfl) r bs
noncomputable def iN (g:List Bool→Bool):List W→R W
 | [.lst ws]=>toR (Y4 ws)>>=fun bs=>.ok (.bl (g bs))
 | _=>.stuck
theorem wD {K:Frag} {d:Mode} {g:List Bool→Bool}:Cal K .B d (fun xs H Q=>∃ (p:Addr) (bs:List Bool),xs = [.ref p]∧H p=some (.lst (bs.map V.bl))∧Q (.bl (g bs)) H) (iN g):=by
 intro EX H0 Hs G H ρ σ Ha vs ws Q I s m o
 cases m with
 | nil=>exact o.elim
 | @cons w v ws2 vs2 a t=>
  cases t with
  | cons _ _=>first | exact o.elim | (cases w <;> exact o.elim)
  | nil=>
   cases w <;> first | exact o.elim | skip
   rename_i ws
   obtain ⟨p,ys,rfl,hs,r⟩:=a.lstB I
   replace o:Out EX G H (mdW K d H0 Hs) (toR (Y4 ws)>>=fun bs=>.ok (.bl (g bs))) Q:=o
   cases q:Y4 ws with
   | none=>rw [q] at o; exact o.elim
   | some bs=>
    rw [q] at o
    rw [Reps.bls r q] at hs
    exact ⟨p,bs,rfl,hs,o _ G H (Ext.refl I.gh) (Md.sca rfl (fun _=>.bl) d)⟩
noncomputable def lE (bs:List Bool):Bool:=bs.all id
end
theorem Bi:bootBuiltins "all" = some (.builtin "all"):=by decide +kernel
section
variable {X:Cx} {K:Frag} {d:Mode}
noncomputable def w6:List W→Option (List Int)
 | []=>some []
 | .int b::ws=>(w6 ws).map (b::·)
 | _=>none
theorem ints_map (bs:List Int):w6 (bs.map W.int)=some bs:=by
 induction bs with
 | nil=>rfl
 | cons b bs ih=>rw [List.map_cons,w6,ih]; rfl
theorem Reps.ints {F:Hp} {vs:List V} {ws:List W} {bs:List Int} (r:Reps K F vs ws):w6 ws=some bs→vs=bs.map V.int:=
 Reps.ind (P:=fun vs ws=>∀ bs,w6 ws=some bs→vs=bs.map V.int) (fun bs h=>by cases h; rfl) (fun {v w vs ws} r _ ih bs h=>by
  cases w <;> first | cases h | skip
  rename_i b
  have e:v=.int b:=r.inv
  subst e
  have h':(w6 ws).map (b::·)=some bs:=h
  cases q:w6 ws with
  | none=>rw [q] at h'; cases h'
  | some cs=>rw [q] at h'; cases h'; rw [ih cs q]; rfl) r bs
noncomputable def Co (g:List Int→Int):List W→R W
 | [.lst ws]=>toR (w6 ws)>>=fun bs=>.ok (.int (g bs))
 | _=>.stuck
noncomputable def fAbs:List W→R W
 | [.int i]=>.ok (.int (if i<0 then -i else i))
 | _=>.stuck
noncomputable def Ao:List W→R W
 | [.int i]=>.ok (.int i)
 | [.bl k]=>.ok (.int (if k then 1 else 0))
 | _=>.stuck
noncomputable def fStr:List W→R W
 | [.int i]=>if i.natAbs.log2<1920 then .ok (.str (toString i)) else .stuck
 | _=>.stuck
end
end TP
namespace TP
open PySem L2
noncomputable def mExt (i:Nat) (c:Bool) (m:Rho→R W):Rho→R Fl:=fun ρ=>match ρ[i]? with
 | some (.own ws)=>m ρ>>=fun w=>(match w with
  | .lst us=>if ws.length+us.length≤1000 then (if c||l9 us then .ok (.nx (ρ.set i (.own (ws++us)))) else .stuck) else .stuck
  | _=>.stuck)
 | _=>.stuck
noncomputable def fh (i:Nat):Rho→R Fl:=fun ρ=>match ρ[i]? with
 | some (.own ws)=>.ok (.nx (ρ.set i (.own ws.reverse)))
 | _=>.stuck
section
variable {K:Frag} {EX:EXT} {H0 G H:Hp} {ρ:Rho} {σ:St} {d:Mode} {D:Ends}
theorem Cv {i:Nat} (h:tSt K EX d (fh i) D σ H):dB (xn K "list" rReverse (ac i)) D σ H:=by
 obtain ⟨H0,G,ρ,I,o⟩:=h
 unfold fh at o
 split at o
 ·rename_i ws e
  obtain ⟨a,vs,es,ha,hg,h0,r⟩:=I.own_at e
  exact ⟨.ref a,es,.inl ⟨rfl,vs,SqL.of ha⟩,a,vs,rfl,rfl,ha,o G σ _ (Same.refl _) (I.own_upd e es r.reverse)⟩
 ·exact o.elim
end
section
variable {X:Cx} {K:Frag} {EX:EXT} {d:Mode} {e:Expr} {pos:Pos} {ma:Rho→R W}
theorem sy {i:Nat} {x:Str} {p apos cpos:Pos} (hN:X.N[i]?=some x) (hv:Vis X.env.scope x) (hK:autoParam (X.K=K) au0._auto_1) (hd:autoParam ((x == ("__debug__" : Str))=false) au1._auto_1) (hcd:autoParam ((x == ("__classdict__" : Str))=false) au1._auto_1)
  (hbase:autoParam (attributeBase (.Name x p) "reverse" X.env (eval (.Name x p) X.env)=eval (.Name x p) X.env) au0._auto_1) (hline:autoParam ((apos.endLine == cpos.line)=true) au0._auto_1)
  (hsw:autoParam (swapsWith (.Call (.Attribute (.Name x p) "reverse" apos) [] [] cpos) none pos.line X.env=pure false) au0._auto_1) :
  PS X (.Expr (.Call (.Attribute (.Name x p) "reverse" apos) [] [] cpos) pos) (tSt K EX d (fh i)):=by
 subst hK; exact (cB (yL PySem.F.plainAttrs_list PySem.F.slot_list_reverse PySem.F.type_list_reverse lq (X3 hN hv hd hcd) hbase hline) hsw).mono fun _ _ _ q=>Cv q
end
section
variable {X:Cx} {K:Frag} {EX:EXT} {a e tg:Expr} {es:List Expr} {pos:Pos} {ma:Rho→R W} {mr:Rho→R (List W)}
theorem J5 (h:PE X e (tM K EX .B ma)) (hK:autoParam (X.K=K) au0._auto_1):PI X tg e (tIt K EX false .U (bS ma)):=sE (lp:=false) h hK
theorem P2 (h:PE X e (tM K EX .U ma)) (hK:autoParam (X.K=K) au0._auto_1):PI X tg e (tIt K EX true .U (bS ma)):=sE (lp:=true) h hK
theorem aB {elts:List Expr} {p tp:Pos} {k:Nat} (hg:Gl X "zip") (hm:X.mg "zip" = none) (ha:PA X (a::es) (tA K EX .B mr)) (hK:autoParam (X.K=K) au0._auto_1) (hs:autoParam (starEach (a::es) X.env=(false,eval a X.env)::starEach es X.env) au0._auto_1) (hpl:autoParam ((backTo pos (starEach es X.env)).any (·.1)=false) au0._auto_1) :
  PI X (.Tuple elts k tp) (.Call (.Name "zip" p) (a::es) [] pos) (tIt K EX false .U (bI F6 mr)):=sw (lp:=false) hg hm ha hK hs hpl
theorem yk {elts:List Expr} {p tp:Pos} {k:Nat} (hg:Gl X "zip") (hm:X.mg "zip" = none) (ha:PA X (a::es) (tA K EX .U mr)) (hK:autoParam (X.K=K) au0._auto_1) (hs:autoParam (starEach (a::es) X.env=(false,eval a X.env)::starEach es X.env) au0._auto_1) (hpl:autoParam ((backTo pos (starEach es X.env)).any (·.1)=false) au0._auto_1) :
  PI X (.Tuple elts k tp) (.Call (.Name "zip" p) (a::es) [] pos) (tIt K EX true .U (bI F6 mr)):=sw (lp:=true) hg hm ha hK hs hpl
end
end TP
namespace TP
open PySem L2
section
variable {K:Frag} {EX:EXT} {H0 G H G1 H1:Hp} {ρ:Rho} {σ:St} {d:Mode} {D:Ends}
noncomputable def Ch:Sl→Bool
 | .own _=>true
 | .dic _=>true
 | .dik _=>true
 | _=>false
noncomputable def noOwn (ρ:Rho):Bool:=ρ.all fun s=>!Ch s
noncomputable def sCU (i:Nat) (f:List W→R W) (ma:Rho→R (List W)):Rho→R Fl:=fun ρ=>if noOwn ρ then (ma ρ>>=fun ws=>f ws>>=fun w=>.ok (.nx (ρ.set i (.par w)))) else .stuck
end
section
variable {X:Cx} {K:Frag} {d:Mode} {e:Expr} {es:List Expr} {pos:Pos} {mr:Rho→R (List W)}
end
end TP
namespace TP
open PySem L2
noncomputable def lX (K:Frag) (a:Addr) (n:Nat):It:=
 ⟨fun i H=>i<n∧∃ xs x,SqL K H a xs∧xs.length=n∧xs[n-1-i]?=some x,fun i H x H'=>H'=H∧∀ xs,SqL K H a xs→xs[n-1-i]?=some x,fun i H=>i=n∧∃ xs,SqL K H a xs∧xs.length=n⟩
theorem oX {P:Program} {w:World} {K:Frag} {tg:Expr} (a it:Addr) (n:Nat):Turn P w K tg (lX K a n) [it] it (fun i h=>i≤n∧h.IsRevIter it a ((n:Int)-1-(i:Int))) where
 mem:=by simp
 obj:=fun i h st b hb=>by
  have e:b=it:=by simpa using hb
  subst e
  obtain ⟨_,o,e,c,d⟩:=st
  exact ⟨o,e,fun v z=>by rw [d] at z; cases z⟩
 keep:=fun i h h' st k=>⟨st.1,st.2.at fun o e=>k it (by simp) o e⟩
 item:=by
  intro X hP hw hK hc i pins s σ H E I hf st hg
  subst hP hw hK
  obtain ⟨hi,xs,x,hq,hn,hx⟩:=hg
  obtain ⟨its,rv,p,hz⟩:=I.list hq
  obtain ⟨u,hu,ru⟩:=rv.get hx
  obtain ⟨f0,f1,f2,f3,f4,f5⟩:=hf it (by simp)
  have e1:(n:Int)-1-(i:Int)=((n-1-i:Nat):Int):=by omega
  have st2:=st.2
  rw [e1] at st2
  refine wpAny_pyNext_rev_item st2 p.isList (x:=u) (by simpa using hu) fun h' st' sb=>?_
  have I1:Inv X pins σ H { s with heap:=h' }:=I.turned (t':=s.toks) (fun b o hb e=>(sb.2 b hb).trans e) f0 f1 f3 f4 f5
  have e2:((n-1-i:Nat):Int)-1=(n:Int)-1-((i+1:Nat):Int):=by omega
  rw [e2] at st'
  obtain ⟨o,e,c,d⟩:=id st'
  exact ⟨u,rfl,gt (s:={ s with heap:=h' }) e c d (by decide) ⟨x,H,I1,ru,⟨rfl,fun ys hy=>by rw [I.list_inj hy hq]; exact hx⟩,⟨hi,st'⟩,fun b hb=>(hf b hb).1⟩⟩
 done:=by
  intro X hP hw hK hc i pins s σ H E I hf st hg
  subst hP hw hK
  obtain ⟨rfl,xs,hq,hn⟩:=hg
  obtain ⟨f0,f1,f2,f3,f4,f5⟩:=hf it (by simp)
  have e1:(i:Int)-1-(i:Int) = -1:=by omega
  have st2:=st.2
  rw [e1] at st2
  exact wpAny_pyNext_rev_end (I.ok.hd hc) st2 fun h' eb=>⟨rfl,I.turned (t':=s.toks) (fun b o hb e=>eb b o hb e) f0 f1 f3 f4 f5⟩
 self:=fun _ _ _ _ _ st h=>wpAny_pyIter_revIter st.2 h
noncomputable def zW (K:Frag) (ta:TA):TI:=fun σ H R=>ta σ H fun vs H1=>∃ a,vs = [.ref a]∧∃ xs,SqL K H1 a xs∧R (lX K a xs.length) H1
theorem cN:bootBuiltins "reversed" = some (.type "reversed"):=by decide +kernel
section
variable {X:Cx} {tg:Expr}
theorem yG {a:Expr} {ta:TA} {p pos:Pos} (hg:Gl X "reversed") (hm:X.mg "reversed" = none) (ha:PA X [a] ta) (hs:autoParam (starEach [a] X.env = [(false,eval a X.env)]) au0._auto_1):PI X tg (.Call (.Name "reversed" p) [a] [] pos) (zW X.K ta):=by
 intro pins s σ H R I h
 refine wpAny_Call_Name_kw (Q0 I hg hm cN ?_ (by decide) (by decide))
 refine PyProof.Rows.callWith_type1 (thn (ha pos pins s σ H _ I h) fun us s1 zz83=>?_) hs (by rfl)
 obtain ⟨vs,H1,I1,r1,q1⟩:=zz83
 obtain ⟨b,e,xs,hq,q⟩:=q1
 subst e
 obtain ⟨u,rfl,ru⟩:=Q5 r1
 cases ru
 obtain ⟨its,rv,pl,hz⟩:=I1.list hq
 have hl:=rv.length
 refine call_reversed_list pl.isList ?_
 have hit:(s1.heap.push (revObj b ((its.toArray.size:Int)-1))).IsRevIter s1.heap.objs.size b ((xs.length:Int)-1-((0:Nat):Int)):=by
  refine ⟨_,Heap.get?_push_size _ rfl,rfl,?_⟩
  have:((xs.length:Int)-1-((0:Nat):Int))=((its.toArray.size:Int)-1):=by simp; omega
  rw [this]; rfl
 refine wpAny_pyIter_revIter hit ?_
 refine ⟨s1.heap.objs.size,[s1.heap.objs.size],_,lX X.K b xs.length,H1,rfl,I1.kept (t':=s1.toks) fun b o e=>Heap.get?_push_of_some _ e,oX b _ _,⟨Nat.zero_le _,hit⟩,fun c hc=>?_,q⟩
 have e:c=s1.heap.objs.size:=by simpa using hc
 subst e
 exact I1.fpOk (Nat.le_refl _) (I1.hok.fresh (Nat.le_refl _))
end
noncomputable def cW:List W→R (List W)
 | [.lst ws]=>.ok ws.reverse
 | _=>.stuck
section
variable {K:Frag} {EX:EXT} {H0 G H:Hp} {ρ:Rho} {σ:St}
theorem qN {e:Mode} {Z:Hp} {a:Addr} {vs:List V} {ws:List W} (he:e=.V∨e=.U) (s:SqL K Z a vs) (r:Reps K (fz e H0 G) vs ws):cu K e H0 Z G (lX K a vs.length) ws.reverse:=by
 have hl:=r.length
 have hq:∀ H,Same Z H→SqL K H a vs:=fun H z=>Same.seq z s
 refine ⟨fun i H hi z=>?_,fun H z=>⟨by rw [List.length_reverse,hl],vs,hq H z,rfl⟩,fun i H x H' w hw z ⟨e1,y⟩ G2 ρ σ I sg=>?_⟩
 ·rw [List.length_reverse] at hi
  exact ⟨by omega,vs,vs[vs.length-1-i]'(Nat.lt_of_le_of_lt (Nat.sub_le _ _) (Nat.sub_lt (hl ▸ Nat.lt_of_le_of_lt (Nat.zero_le i) hi) (by decide))),hq H z,rfl,by simp⟩
 ·subst e1
  have hi:i<ws.length:=by have:=(List.getElem?_eq_some_iff.mp hw).1; simpa using this
  have hx:=y vs (hq _ z)
  rw [List.getElem?_reverse hi] at hw
  obtain ⟨v,hv,rv⟩:=Reps.get r hw
  rw [hl,hv] at hx
  cases hx
  exact ⟨G2,Ext.refl I.gh,Md.of_fz he (rv.same (O3 sg))⟩
theorem Md.srcL {lp:Bool} {Hs:Hp} {x:V} {ws:List W} (I:PIv K H0 G ρ σ H) (m:Md K H0 Hs G H x (.lst ws) (bM lp .U)):∃ a vs,x=.ref a∧SqL K (if lp then join H0 G else H) a vs∧Reps K (fz .U H0 G) vs ws:=by
 have ez:fz .U H0 G=join H0 G:=by unfold fz; rw [if_neg (show ¬ (Mode.U=Mode.V) by intro z; cases z)]
 rw [ez]
 cases lp with
 | true=>
  rw [if_pos rfl]
  obtain ⟨a,vs,e,s,r⟩:=Rep.inv m
  exact ⟨a,vs,e,SqL.of s,r⟩
 | false=>
  rw [if_neg Bool.false_ne_true]
  rcases m with m | ⟨a,vs,us,rfl,e2,h1,r⟩
  ·obtain ⟨a,vs,e,s,r⟩:=Rep.inv m
   exact ⟨a,vs,e,SqL.of (I.join_H _ _ s),r⟩
  ·rw [W.lst.inj e2]; exact ⟨a,vs,rfl,SqL.of h1,r.same I.G_join⟩
theorem Cu {lp:Bool} {ma:Rho→R (List W)} {Rr:It→Hp→Prop} (h:tIt K EX lp .U (fun ρ=>ma ρ>>=cW) σ H Rr):zW K (tA K EX (bM lp .U) ma) σ H Rr:=by
 refine cR h (fun H0 G ρ G1 H1 xs ws us I e1 m1 q o=>?_) (fun ws e z=>?_)
 ·have I1:=I.ext e1
  unfold cW at q
  split at q
  ·rename_i ws'
   cases q
   cases m1 with
   | cons a1 t=>
    cases t
    obtain ⟨p,vs,rfl,hL,r⟩:=Md.srcL I1 a1
    exact ⟨p,rfl,vs,Same.seq (iC I1) hL,o _ G1 H1 e1 (qN (.inr rfl) hL r)⟩
  ·cases q
 ·unfold cW at z
  split at z <;> cases z
end
section
variable {X:Cx} {K:Frag} {EX:EXT} {a tg:Expr} {pos:Pos} {mr:Rho→R (List W)}
theorem sx {p:Pos} (hg:Gl X "reversed") (hm:X.mg "reversed" = none) (ha:PA X [a] (tA K EX .U mr)) (hK:autoParam (X.K=K) au0._auto_1) (hs:autoParam (starEach [a] X.env = [(false,eval a X.env)]) au0._auto_1):PI X tg (.Call (.Name "reversed" p) [a] [] pos) (tIt K EX true .U (bI cW mr)):=by
 subst hK; exact (yG hg hm ha hs).mono fun _ _ _ q=>Cu (lp:=true) q
end
end TP
namespace TP
open PySem L2
noncomputable def F1 (ns:List Int):Int:=ns.getD (argBest (fun i j=>decide (ns.getD j 0<ns.getD i 0)) (ns.length-1)) 0
theorem eE (bt:Nat→Nat→Bool):∀ k,argBest bt k≤k
 | 0=>Nat.le_refl _
 | k+1=>by
  unfold argBest
  split
  ·exact Nat.le_refl _
  ·exact Nat.le_succ_of_le (eE bt k)
theorem fm {ns : List Int} : ∀ k, k < ns.length → ns.getD k 0 ≤ F1 ns := by
  have key : ∀ m k, k ≤ m → ns.getD k 0 ≤ ns.getD (argBest (fun i j => decide (ns.getD j 0 < ns.getD i 0)) m) 0 := by
    intro m
    induction m with
    | zero => intro k hk; have : k = 0 := by omega
              subst this; exact Int.le_refl _
    | succ m ih =>
      intro k hk
      unfold argBest
      split
      · rename_i h
        have h := of_decide_eq_true h
        by_cases e : k = m + 1
        · subst e; exact Int.le_refl _
        · have := ih k (by omega); omega
      · rename_i h
        by_cases e : k = m + 1
        · subst e; have : ¬ (ns.getD (argBest (fun i j => decide (ns.getD j 0 < ns.getD i 0)) m) 0 < ns.getD (m + 1) 0) := fun z => h (decide_eq_true z)
          omega
        · exact ih k (by omega)
  intro k hk
  exact key _ k (by omega)
theorem qF {ns:List Int} (h:0<ns.length):F1 ns∈ns:=by
 unfold F1
 have:=eE (fun i j=>decide (ns.getD j 0<ns.getD i 0)) (ns.length-1)
 have hi:argBest (fun i j=>decide (ns.getD j 0<ns.getD i 0)) (ns.length-1)<ns.length:=by omega
 generalize argBest (fun i j=>decide (ns.getD j 0<ns.getD i 0)) (ns.length-1)=k at hi
 rw [List.getD_eq_getElem?_getD]
 simp [hi]
section
variable {X:Cx} {pins:List (Addr×Obj)} {σ:St} {H:Hp} {s:Shared}
theorem int_at {ns:List Int} {its:List Value} (rv:Vals (ns.map V.int) its) {i:Nat} {v:Value} (h:its.toArray[i]?=some v):∃ t,v=.int (ns.getD i 0) t:=by
 obtain ⟨n,hn,t,e⟩:=mt (f:=V.int) (g:=fun n u=>∃ t,u=.int n t) (fun b u r=>r) rv h
 exact ⟨t,by rw [e,List.getD_eq_getElem?_getD,hn]; rfl⟩
theorem cmp_gt {A:Around} {ns:List Int} {its:List Value} (rv:Vals (ns.map V.int) its):CmpOf X.prog X.w A .Gt (fun i v=>its.toArray[i]?=some v) (fun i j=>decide (ns.getD j 0<ns.getD i 0)):=fun i j vi vj s' Q' E hi hj hq=>by
 obtain ⟨t,rfl⟩:=int_at rv hi
 obtain ⟨u,rfl⟩:=int_at rv hj
 exact PyProof.Rows.gt_int hq
theorem lt2 {p:Addr} {o:Obj} {u:Obj} (e:s.heap.get? p=some u):∀ b ∈ [s.heap.objs.size,p],b<(s.heap.push o).objs.size:=fun b hb=>by
 have hlt:=Heap.lt_size e
 simp at hb
 rcases hb with rfl | rfl
 ·simp [Heap.push]
 ·exact Nat.lt_of_lt_of_le hlt (by simp [Heap.push])
theorem fZ (hc:X.calm=true):F5 X (.builtin "max") (fun xs H Q=>∃ (p:Addr) (ns:List Int),xs = [.ref p]∧(H p=some (.lst (ns.map V.int))∨H p=some (.tup (ns.map V.int)))∧0<ns.length∧Q (.int (F1 ns)) H):=by
 intro pins s σ H xs us Q I r h
 obtain ⟨p,ns,rfl,hp,hn,q⟩:=h
 obtain ⟨u,rfl,rx⟩:=Q5 r
 cases rx
 have hd:X.A.in1.handled=none:=I.ok.hd hc
 rcases hp with hp | hp
 ·obtain ⟨its,rv,hl,hlen,hne,Wk⟩:=fC I hc hp
  rw [List.length_map] at hlen
  obtain ⟨o,e,_⟩:=id hl
  refine call_max_walk (wpAny_pyIter_list hl ⟨_,_,_,_,_,_,_,rfl,Wk,⟨⟨_,Heap.get?_push_size _ rfl,rfl,rfl⟩,hl.push _⟩,lt2 e,by omega,cmp_gt rv,fun v h' tk hv hk=>?_⟩)
  obtain ⟨t,rfl⟩:=int_at rv hv
  rw [← hlen]
  exact ⟨.int (F1 ns),H,I.kept (t':=tk) (cf hk),⟨t,rfl⟩,q⟩
 ·obtain ⟨its,rv,pl,hz⟩:=I.tuple (SqT.of hp)
  have hlen:ns.length=its.toArray.size:=by rw [List.size_toArray,← rv.length,List.length_map]
  have ht:s.heap.IsTuple p its.toArray:=pl
  obtain ⟨o,e,_⟩:=id ht
  have hne:p≠s.heap.objs.size:=Nat.ne_of_lt (Heap.lt_size e)
  refine call_max_walk (wpAny_pyIter_tuple ht ⟨_,_,_,_,_,_,_,rfl,Walks.tuple hd _ p hne its.toArray,⟨⟨_,Heap.get?_push_size _ rfl,rfl,rfl⟩,ht.push _⟩,lt2 e,by omega,cmp_gt rv,fun v h' tk hv hk=>?_⟩)
  obtain ⟨t,rfl⟩:=int_at rv hv
  rw [← hlen]
  exact ⟨.int (F1 ns),H,I.kept (t':=tk) (cf hk),⟨t,rfl⟩,q⟩
end
noncomputable def xz:W→Option (List Int)
 | .lst ws=>w6 ws
 | .tup ws=>w6 ws
 | _=>none
noncomputable def Z7 (g:List Int→Int):List W→R W
 | [w]=>toR (xz w)>>=fun ns=>if 0<ns.length then .ok (.int (g ns)) else .stuck
 | _=>.stuck
theorem oI {K:Frag} {d:Mode} {g:List Int→Int}:Cal K .B d (fun xs H Q=>∃ (p:Addr) (ns:List Int),xs = [.ref p]∧(H p=some (.lst (ns.map V.int))∨H p=some (.tup (ns.map V.int)))∧0<ns.length∧Q (.int (g ns)) H) (Z7 g):=by
 intro EX H0 Hs G H ρ σ Ha vs ws Q I s m o
 unfold Z7 at o
 split at o
 ·rename_i w
  cases m with
  | cons a t=>
   cases t
   cases q:xz w with
   | none=>rw [q] at o; exact o.elim
   | some ns=>
    rw [q] at o
    replace o:Out EX G H (mdW K d H0 Hs) (if 0<ns.length then R.ok (W.int (g ns)) else .stuck) Q:=o
    by_cases hn:0<ns.length
    ·rw [if_pos hn] at o
     cases w <;> first | cases q | skip
     ·obtain ⟨p,ys,rfl,hs,r⟩:=a.tupB I
      rw [Reps.ints r q] at hs
      exact ⟨p,ns,rfl,.inr hs,hn,o _ G H (Ext.refl I.gh) (Md.sca rfl (fun _=>.int) d)⟩
     ·obtain ⟨p,ys,rfl,hs,r⟩:=a.lstB I
      rw [Reps.ints r q] at hs
      exact ⟨p,ns,rfl,.inl hs,hn,o _ G H (Ext.refl I.gh) (Md.sca rfl (fun _=>.int) d)⟩
    ·rw [if_neg hn] at o; exact o.elim
 ·exact o.elim
end TP
namespace HT
open PySem PySem.Spec PyProof.Rows
theorem Z6:typeLookup (.type "tuple") (dunderR "mul")=pure (some (.builtin "tuple.__rmul__")):=by rw [typeLookup_type,builtinLookup_eq_fast]; kernel_rfl
theorem noFill_tuple_mul:fillsNumberSlot (.type "tuple") "mul" = pure false:=
 PySem.fillsNumberSlot_seq (id := "tuple.__mul__") (r:=some (.builtin "tuple.__rmul__")) F.slot_tuple_mul.lookup (by decide +kernel) Z6 (by decide +kernel)
theorem repeat_tuple:seqRepeat? (.type "tuple")=pure (some (.builtin "tuple.__mul__")):=by
 unfold seqRepeat?
 rw [PySem.seqSlot_of (T := "tuple") (name := "__mul__") (id := "tuple.__mul__") F.slot_tuple_mul.lookup (by decide +kernel),PySem.seqSlot_of (T := "tuple") (name := "__rmul__") (id := "tuple.__rmul__") Z6 (by decide +kernel)]
 rfl
theorem rmul_declines (a:Int) (t:Tok) (l:Addr) (items:Array Value) (n:Nat) (dd:Option Addr) (sl:Array (Option Value)) :
  Meets (Builtin.«int.__rmul__» ⟨[.int a t,.ref l],[]⟩) (fun _ R s=>s.heap.get? l=some { cls:=.type "tuple",dict:=dd,data:=.seq items n,slots:=sl }∧R (.ok (.ret Value.notImplemented)) s):=
 .of_wp fun prog w A R s h=>by obtain ⟨hp,g,d,tk,os⟩:=s; obtain ⟨hl,h⟩:=h; wp_walk; exact ⟨_,rfl,h⟩
theorem tuple_mul1 (l:Addr) (items:Array Value) (n:Nat) (dd:Option Addr) (sl:Array (Option Value)) (u:Tok) :
  Meets (Builtin.«tuple.__mul__» ⟨[.ref l,.int 1 u],[]⟩) (fun _ R s=>s.heap.get? l=some { cls:=.type "tuple",dict:=dd,data:=.seq items n,slots:=sl }∧R (.ok (.ret (.ref l))) s):=
 .of_wp fun prog w A R s h=>by
  obtain ⟨hp,g,d,tk,os⟩:=s; obtain ⟨hl,h⟩:=h
  have f1:=AutoSeq1.idx_int
  wp_walk using wpAny_loadPart' hl; exact ⟨_,rfl,h⟩
theorem tuple_mul2 (l:Addr) (items:Array Value) (n:Nat) (dd:Option Addr) (sl:Array (Option Value)) (k:Int) (u:Tok) (hc:¬ (decide (k < -(2^63))||decide (k≥2^63))=true)
  (hi:¬ (items.isEmpty||k == 1)=true) (h0:¬ (decide (k≤0)||items.isEmpty)=true) (hm:¬ (items.size*k>(2^63-1)/8)) (hz:¬ Builtin.Tuple.tupleTooMany (items.size*k)=true) (hs0:((List.replicate k.toNat items).foldl (·++·) #[]).size≤sizeLine) :
  Meets (Builtin.«tuple.__mul__» ⟨[.ref l,.int k u],[]⟩) (fun _ R s=>s.heap.get? l=some { cls:=.type "tuple",dict:=dd,data:=.seq items n,slots:=sl }∧R (.ok (.ret (.ref s.heap.objs.size))) { s with heap:=s.heap.push { cls:=.type "tuple",data:=.seq ((List.replicate k.toNat items).foldl (·++·) #[]) } }):=
 .of_wp fun prog w A R s h=>by
  obtain ⟨hp,g,d,tk,os⟩:=s; obtain ⟨hl,h⟩:=h
  have f1:=AutoSeq1.idx_int
  wp_walk using wpAny_loadPart' hl
  rw [if_neg hc]
  wp_walk using wpAny_loadPart' hl
  rw [if_neg hm]
  wp_walk using wpAny_loadPart' hl
  exact ⟨_,rfl,h⟩
end HT
namespace TP
open PySem L2 PySem.Spec PyProof.Rows
theorem len_reps {α:Type} (xs:List α):∀ k:Nat,(List.replicate k xs).flatten.length=k*xs.length
 | 0=>by simp
 | k+1=>by rw [List.replicate_succ,List.flatten_cons,List.length_append,len_reps xs k,Nat.succ_mul,Nat.add_comm]
theorem dX (its:List Value):∀ (m:Nat) (acc:List Value),List.foldl (fun x1 x2=>x1++x2) acc.toArray (List.replicate m its.toArray)=(acc++(List.replicate m its).flatten).toArray
 | 0,acc=>by simp
 | m+1,acc=>by rw [List.replicate_succ,List.foldl_cons,List.append_toArray,dX its m (acc++its),List.replicate_succ,List.flatten_cons,List.append_assoc]
noncomputable def sr (K:Frag):R2:=fun x y H Q=>∃ a k xs,x=.ref a∧y=.int k∧SqT K H a xs∧xs ≠ []∧1≤k∧k<2^63∧xs.length*k.toNat≤sizeLine ∧
 (k=1→Q (.ref a) H)∧(k≠1→∀ l,H l=none→Q (.ref l) (upd H l (.tup (List.replicate k.toNat xs).flatten)))
variable {X:Cx} {K:Frag}
theorem uL (hK:autoParam (X.K=K) au0._auto_1):OpR X (binaryOp .Mult) (sr K):=by
 subst hK
 intro pins s σ H x y v u Q I rx ry h
 obtain ⟨l,k,xs,rfl,rfl,hH,hne,h1,h2,hz,q1,q2⟩:=h
 cases rx
 obtain ⟨t,rfl⟩:=ry
 obtain ⟨its,r,p,_⟩:=I.tuple hH
 obtain ⟨⟨cls,dd,data,sl⟩,ho,hc,n,hd⟩:=id p
 simp only at hc hd
 subst hc hd
 have hin:its ≠ []:=fun z=>hne (r.nil_iff.mp z)
 refine wpAny_binaryOp_repeat_ref (T := "tuple") (U := "int") (by decide) ⟨_,ho,rfl⟩ (fun s'=>typeIs_int s' k t) HT.noFill_tuple_mul F.fills_int_mul F.slot_int_rmul HT.repeat_tuple F.slot_int_index.lookup
  (call_meets F.slot_int_rmul (typeIs_int s k t) F.entry_int_rmul (F.args_int_rmul_2 _ _) (HT.rmul_declines k t l its.toArray n dd sl)
   ⟨ho,rfl,⟨_,ho,rfl⟩,?_⟩)
 by_cases e:k=1
 ·subst e
  exact call_meets F.slot_tuple_mul ⟨_,ho,rfl⟩ F.entry_tuple_mul (F.args_tuple_mul_2 _ _) (HT.tuple_mul1 l its.toArray n dd sl t) ⟨ho,.ref l,H,I,rfl,q1 rfl⟩
 ·have hnew:List.foldl (fun x1 x2=>x1++x2) #[] (List.replicate k.toNat its.toArray)=(List.replicate k.toNat its).flatten.toArray:=by
   have:=dX its k.toNat []
   rw [List.nil_append] at this
   exact this
  have hlen:its.length*k.toNat≤sizeLine:=by rw [← r.length]; exact hz
  have hsz:(its.toArray.size:Int)*k≤(sizeLine:Nat):=by
   have e2:((its.length*k.toNat:Nat):Int)=(its.toArray.size:Int)*k:=by
    rw [Int.natCast_mul,Int.toNat_of_nonneg (by omega),List.size_toArray]
   rw [← e2]; exact_mod_cast hlen
  have hcap:((sizeLine:Nat):Int)≤(2^63-1)/8:=by decide
  refine call_meets F.slot_tuple_mul ⟨_,ho,rfl⟩ F.entry_tuple_mul (F.args_tuple_mul_2 _ _) (HT.tuple_mul2 l its.toArray n dd sl k t ?_ ?_ ?_ ?_ ?_ ?_) ⟨ho,?_⟩
  ·simp only [Bool.or_eq_true,decide_eq_true_eq]; omega
  ·simp [hin,e]
  ·simp only [Bool.or_eq_true,decide_eq_true_eq]
   rintro (z | z)
   ·omega
   ·simp [hin] at z
  ·omega
  ·simp only [Builtin.Tuple.tupleTooMany,decide_eq_true_eq]; omega
  ·rw [hnew,List.size_toArray,len_reps,Nat.mul_comm]; exact hlen
  ·rw [hnew]
   refine ⟨.ref s.heap.objs.size,_,I.laid (t':=s.toks) (o:=.tup (List.replicate k.toNat xs).flatten) (fun b ob q=>Heap.get?_push_of_some _ q) (Nat.le_refl _) ?_,rfl,q2 e _ (I.hok.fresh (Nat.le_refl _))⟩
   exact ⟨by rw [len_reps,Nat.mul_comm]; exact hz,_,r.rep k.toNat,IsTup.new _ _⟩
noncomputable def fRepT:W→W→R W
 | .tup us,.int k=>if us ≠ []∧us.length*k.toNat≤1000∧1≤k∧k≤1000 then .ok (.tup (List.replicate k.toNat us).flatten) else .stuck
 | _,_=>.stuck
theorem uQ:Op2 K .C .F (sr K) fRepT:=by
 intro EX H0 Hs G H ρ σ Ha Hb x y u v Q I s mx my o
 cases u <;> first | exact o.elim | skip
 all_goals (cases v <;> first | exact o.elim | skip)
 rename_i us k
 replace o:Out EX G H (mdW K .F H0 Hs) (if us ≠ []∧us.length*k.toNat≤1000∧1≤k∧k≤1000 then .ok (.tup (List.replicate k.toNat us).flatten) else .stuck) Q:=o
 by_cases hn:us ≠ []∧us.length*k.toNat≤1000∧1≤k∧k≤1000
 ·rw [if_pos hn] at o
  obtain ⟨hne,hz,h1,h2⟩:=hn
  have hy:y=.int k:=Md.intB (Md.CB (H:=Hb) I my)
  subst hy
  obtain ⟨a,vs,rfl,h,r⟩:=(Md.repC mx fun _=>W.noConfusion).inv
  refine ⟨_,k,_,rfl,rfl,SqT.of (I.gh _ _ h),?_,h1,by omega,by rw [r.length]; exact aF hz,?_,?_⟩
  ·intro z
   have:=r.length
   rw [z] at this
   exact hne (List.eq_nil_of_length_eq_zero this.symm)
  ·intro e
   subst e
   refine o _ G H (Ext.refl I.gh) (.tup h ?_)
   simpa using r
  ·intro _ l hl
   exact Out.newTF I (r.rep _) hl o
 ·rw [if_neg hn] at o; exact o.elim
end TP
namespace TP
open PySem PySem.W PyProof.Rows
section
variable (r:Nat→Int)
noncomputable def runK {α:Type}:KasT α→α
 | .ret a=>a
 | .ask i j k=>runK (k (decide (r i<r j)))
theorem T4 {α β:Type} (f:α→KasT β) (t:KasT α):runK r (t.bind f)=runK r (f (runK r t)):=by
 induction t with
 | ret _=>rfl
 | ask i j k ih=>exact ih _
theorem eD {α:Type} {i j:Nat} {k:Bool→KasT α} (h:r i<r j):runK r (.ask i j k)=runK r (k true):=congrArg (fun b=>runK r (k b)) (decide_eq_true h)
theorem cH {α:Type} {i j:Nat} {k:Bool→KasT α} (h:¬ r i<r j):runK r (.ask i j k)=runK r (k false):=congrArg (fun b=>runK r (k b)) (decide_eq_false h)
noncomputable def ky (p:Array Nat) (k:Nat):Int:=r (p.getD k 0)
theorem dU {p q:Array Nat} {k l:Nat} (h:p[k]?=q[l]?):ky r p k=ky r q l:=by
 unfold ky
 rw [Array.getD_eq_getD_getElem?,Array.getD_eq_getD_getElem?,h]
theorem iE {p:Array Nat} {i j:Nat} (hj:j≤p.size) (k:Nat):ky r (kas_rev p i j) k=if i≤k∧k<j then ky r p (i+j-1-k) else ky r p k:=by
 have e:=getElem?_mirror_all (i:=i) hj k
 by_cases h:i≤k∧k<j
 ·rw [if_pos h] at e ⊢; exact dU r e
 ·rw [if_neg h] at e ⊢; exact dU r e
theorem ze {p:Array Nat} {k d:Nat} (hs:k<p.size) (hd:d≤k) (i:Nat):ky r (bubble p k d) i=if i=k-d then ky r p k else if k-d<i∧i≤k then ky r p (i-1) else ky r p i:=by
 have e:=getElem?_bubble hs d hd i
 by_cases h:i=k-d
 ·rw [if_pos h] at e ⊢; exact dU r e
 ·rw [if_neg h] at e ⊢
  by_cases h2:k-d<i∧i≤k
  ·rw [if_pos h2] at e ⊢; exact dU r e
  ·rw [if_neg h2] at e ⊢; exact dU r e
theorem rev_eq {p:Array Nat} {i j:Nat} {c:Int} (hj:j≤p.size) (h:∀ k,i≤k→k<j→ky r p k=c) (k:Nat):ky r (kas_rev p i j) k=ky r p k:=by
 rw [iE r hj]
 by_cases hk:i≤k∧k<j
 ·rw [if_pos hk,h k hk.1 hk.2,h _ (by omega) (by omega)]
 ·rw [if_neg hk]
noncomputable def up (p:Array Nat) (n:Nat):Prop:=∀ k,k+1<n→ky r p k≤ky r p (k+1)
noncomputable def dn (p:Array Nat) (n:Nat):Prop:=∀ k,k+1<n→ky r p (k+1)≤ky r p k
theorem tJ {p:Array Nat} {n:Nat} (h:up r p (n+1)) (e:ky r p n≤ky r p (n+1)):up r p (n+2):=fun k hk=>by
 rcases Nat.lt_or_eq_of_le (Nat.le_of_succ_le_succ (Nat.le_of_succ_le_succ hk)) with q | rfl
 ·exact h k (Nat.succ_lt_succ q)
 ·exact e
theorem aL {p:Array Nat} {n:Nat} (h:dn r p (n+1)) (e:ky r p (n+1)≤ky r p n):dn r p (n+2):=fun k hk=>by
 rcases Nat.lt_or_eq_of_le (Nat.le_of_succ_le_succ (Nat.le_of_succ_le_succ hk)) with q | rfl
 ·exact h k (Nat.succ_lt_succ q)
 ·exact e
theorem oM (p:Array Nat):∀ (f m:Nat),up r p (m+1)→∃ R,runK r (kas_asc p f (m+1))=R+1∧m≤R∧R≤m+f∧up r p (R+1)∧(R<m+f→ky r p (R+1)<ky r p R):=by
 intro f
 induction f with
 | zero=>exact fun m hu=>⟨m,rfl,Nat.le_refl _,Nat.le_refl _,hu,fun h=>absurd h (Nat.lt_irrefl _)⟩
 | succ f ih=>
  intro m hu
  by_cases h:ky r p (m+1)<ky r p m
  ·exact ⟨m,eD r h,Nat.le_refl _,Nat.le_add_right _ _,hu,fun _=>h⟩
  ·obtain ⟨R,e,a,b,c,d⟩:=ih (m+1) (tJ r hu (Int.not_lt.mp h))
   have hf:m+1+f=m+(f+1):=Nat.succ_add_eq_add_succ m f
   rw [hf] at b d
   exact ⟨R,(cH r h).trans e,Nat.le_of_succ_le a,b,c,d⟩
theorem wg:∀ (f:Nat) (p:Array Nat) (m q:Nat),m+1+f≤p.size→q≤m→dn r p (m+1)→(∀ k,m+1-(q+1)≤k→k≤m→ky r p k=ky r p m) →
  ∃ p' m' q',runK r (kas_desc f p (m+1) q)=(p',m'+1,q')∧p'.Perm p∧m≤m'∧m'≤m+f∧dn r p' (m'+1)∧∀ k,m'+1-(q'+1)≤k→k≤m'→ky r p' k=ky r p' m':=by
 intro f
 induction f with
 | zero=>exact fun p m q _ _ hd he=>⟨p,m,q,rfl,.refl _,Nat.le_refl _,Nat.le_refl _,hd,he⟩
 | succ f ih=>
  intro p m q hz hq hd he
  have hf:m+1+f=m+(f+1):=Nat.succ_add_eq_add_succ m f
  have hz1:m+1+1+f≤p.size:=by rw [Nat.succ_add_eq_add_succ (m+1) f]; exact hz
  by_cases h:ky r p (m+1)<ky r p m
  ·have e0:runK r (kas_desc (f+1) p (m+1) q)=runK r (if q>0 then kas_desc f (kas_rev p (m+1-(q+1)) (m+1)) (m+1+1) 0 else kas_desc f p (m+1+1) 0):=eD r h
   by_cases hq0:q>0
   ·have key:=rev_eq r (p:=p) (i:=m+1-(q+1)) (j:=m+1) (c:=ky r p m) (Nat.le_trans (Nat.le_add_right _ _) hz) fun k a b=>he k a (Nat.le_of_lt_succ b)
    obtain ⟨p',m',q',e,h1,h2,h3,h5⟩:=ih (kas_rev p (m+1-(q+1)) (m+1)) (m+1) 0 (by rw [kas_rev_size]; exact hz1) (Nat.zero_le _) (aL r (fun k hk=>by rw [key,key]; exact hd k hk) (by rw [key,key]; exact Int.le_of_lt h)) fun k a b=>by rw [Nat.le_antisymm b a]
    rw [e0,if_pos hq0]
    rw [hf] at h3
    exact ⟨p',m',q',e,h1.trans (mirror_perm _ _ _ _),Nat.le_of_succ_le h2,h3,h5⟩
   ·obtain ⟨p',m',q',e,h1,h2,h3,h5⟩:=ih p (m+1) 0 hz1 (Nat.zero_le _) (aL r hd (Int.le_of_lt h)) fun k a b=>by rw [Nat.le_antisymm b a]
    rw [e0,if_neg hq0]
    rw [hf] at h3
    exact ⟨p',m',q',e,h1,Nat.le_of_succ_le h2,h3,h5⟩
  ·by_cases h2:ky r p m<ky r p (m+1)
   ·exact ⟨p,m,q,(cH r h).trans (eD r h2),.refl _,Nat.le_refl _,Nat.le_add_right _ _,hd,he⟩
   ·have ee:ky r p (m+1)=ky r p m:=Int.le_antisymm (Int.not_lt.mp h2) (Int.not_lt.mp h)
    obtain ⟨p',m',q',e,h1,h2',h3,h5⟩:=ih p (m+1) (q+1) hz1 (Nat.succ_le_succ hq) (aL r hd (Int.le_of_eq ee)) fun k a b=>by
     rcases Nat.lt_or_eq_of_le b with b | rfl
     ·rw [ee]; exact he k (by rw [Nat.add_sub_add_right] at a; exact a) (Nat.le_of_lt_succ b)
     ·rfl
    rw [hf] at h3
    exact ⟨p',m',q',(cH r h).trans ((cH r h2).trans e),h1,Nat.le_of_succ_le h2',h3,h5⟩
noncomputable def lH (nrem:Nat) (p:Array Nat) (R:Nat×Array Nat):Prop:=R.2.Perm p∧R.1≤nrem∧up r R.2 R.1
theorem gF {p:Array Nat} {m nrem:Nat} (hn:m+1≤nrem) (hz:nrem≤p.size) (hd:dn r p (m+1)):lH r nrem p (runK r (kas_tail3 (m+1) nrem p)):=by
 unfold kas_tail3
 rw [T4]
 have hm:=Nat.le_trans hn hz
 have hu:up r (kas_rev p 0 (m+1)) (m+1):=fun k hk=>by
  rw [iE r hm,iE r hm,if_pos ⟨Nat.zero_le _,Nat.lt_of_succ_lt hk⟩,if_pos ⟨Nat.zero_le _,hk⟩,Nat.zero_add,Nat.add_sub_cancel]
  have e:m-k=m-(k+1)+1:=(Nat.succ_pred_eq_of_pos (Nat.sub_pos_of_lt (Nat.lt_of_succ_lt_succ hk))).symm
  rw [e]
  exact hd _ (by rw [← e]; exact Nat.lt_succ_of_le (Nat.sub_le _ _))
 obtain ⟨R,e,a,b,c,_⟩:=oM r (kas_rev p 0 (m+1)) (nrem-(m+1)) m hu
 rw [e]
 exact ⟨mirror_perm _ _ _ _,by show R+1≤nrem; omega,c⟩
theorem cL {p:Array Nat} {m nrem:Nat} (hn:m+1≤nrem) (hz:nrem≤p.size) (hd:dn r p (m+1)):lH r nrem p (runK r (kas_descPart m nrem p)):=by
 unfold kas_descPart
 rw [T4]
 obtain ⟨p',m',q',e,h1,h2,h3,h5,h6⟩:=wg r (nrem-(m+1)) p m 0 (by rw [Nat.add_sub_cancel' hn]; exact hz) (Nat.zero_le _) hd fun k a b=>by rw [Nat.le_antisymm b a]
 rw [e]
 show lH r nrem p (runK r (if q'>0 then kas_tail3 (m'+1) nrem (kas_rev p' (m'+1-(q'+1)) (m'+1)) else kas_tail3 (m'+1) nrem p'))
 have hm:m'+1≤nrem:=by omega
 have hz':nrem≤p'.size:=by rw [h1.size_eq]; exact hz
 by_cases hq:q'>0
 ·rw [if_pos hq]
  have key:=rev_eq r (p:=p') (i:=m'+1-(q'+1)) (j:=m'+1) (c:=ky r p' m') (Nat.le_trans hm hz') fun k a b=>h6 k a (Nat.le_of_lt_succ b)
  obtain ⟨t1,t2⟩:=gF r (p:=kas_rev p' (m'+1-(q'+1)) (m'+1)) hm (by rw [kas_rev_size]; exact hz') fun k hk=>by rw [key,key]; exact h5 k hk
  exact ⟨(t1.trans (mirror_perm _ _ _ _)).trans h1,t2⟩
 ·rw [if_neg hq]
  obtain ⟨t1,t2⟩:=gF r hm hz' h5
  exact ⟨t1.trans h1,t2⟩
theorem bH {p:Array Nat} {n:Nat} (h:up r p n):∀ j i,i≤j→j<n→ky r p i≤ky r p j:=by
 intro j
 induction j with
 | zero=>intro i a _; rw [Nat.le_zero.mp a]; exact Int.le_refl _
 | succ j ih=>
  intro i a b
  rcases Nat.lt_or_eq_of_le a with q | rfl
  ·exact Int.le_trans (ih i (Nat.le_of_lt_succ q) (Nat.lt_of_succ_lt b)) (h j b)
  ·exact Int.le_refl _
theorem ou {p:Array Nat} {nrem:Nat} (h2:2≤nrem) (hz:nrem≤p.size):lH r nrem p (runK r (kas_count nrem p)):=by
 unfold kas_count
 rw [T4]
 obtain ⟨R,e,_,b,c,d⟩:=oM r p (nrem-1) 0 fun k hk=>absurd hk (Nat.not_lt_of_le (Nat.succ_le_succ (Nat.zero_le k)))
 have e:runK r (kas_asc p (nrem-1) 1)=R+1:=e
 rw [e]
 by_cases e1:R+1=nrem
 ·rw [if_pos (beq_iff_eq.mpr e1)]
  exact ⟨.refl _,Nat.le_of_eq e1,c⟩
 ·rw [if_neg fun q=>e1 (beq_iff_eq.mp q)]
  have hR:R+1+1≤nrem:=by omega
  have hlt:=d (by omega)
  by_cases h1:R+1>1
  ·rw [if_pos h1]
   by_cases h:ky r p 0<ky r p R
   ·have q:runK r (KasT.ask (p.getD 0 0) (p.getD (R+1-1) 0) fun c=>if c=true then .ret (R+1,p) else kas_descPart (R+1) nrem (kas_rev p 0 (R+1)))=(R+1,p):=eD r h
    rw [q]
    exact ⟨.refl _,Nat.le_of_succ_le hR,c⟩
   ·have q:runK r (KasT.ask (p.getD 0 0) (p.getD (R+1-1) 0) fun c=>if c=true then .ret (R+1,p) else kas_descPart (R+1) nrem (kas_rev p 0 (R+1)))=runK r (kas_descPart (R+1) nrem (kas_rev p 0 (R+1))):=cH r h
    rw [q]
    have hall:∀ k,k<R+1→ky r p k=ky r p 0:=fun k hk=>
     Int.le_antisymm (Int.le_trans (bH r c R k (Nat.le_of_lt_succ hk) (Nat.lt_succ_self _)) (Int.not_lt.mp h)) (bH r c k 0 (Nat.zero_le _) hk)
    have key:=rev_eq r (p:=p) (i:=0) (j:=R+1) (c:=ky r p 0) (Nat.le_trans (Nat.le_of_succ_le hR) hz) fun k _ hk=>hall k hk
    obtain ⟨t1,t2⟩:=cL r (p:=kas_rev p 0 (R+1)) (m:=R+1) hR (by rw [kas_rev_size]; exact hz) (aL r (fun k hk=>by rw [key,key,hall _ hk,hall k (Nat.lt_of_succ_lt hk)]; exact Int.le_refl _) (by rw [key,key]; exact Int.le_of_lt hlt))
    exact ⟨t1.trans (mirror_perm _ _ _ _),t2⟩
  ·rw [if_neg h1]
   have hn0:R=0:=by omega
   exact cL r hR hz (aL r (fun k hk=>absurd hk (by rw [hn0]; exact Nat.not_lt_of_le (Nat.succ_le_succ (Nat.zero_le k)))) (Int.le_of_lt hlt))
theorem cY {p:Array Nat} {k:Nat} (hu:up r p k):∀ (f l h:Nat),h-l≤f→l≤h→h≤k→(∀ i,i<l→ky r p i≤ky r p k)→(∀ i,h≤i→i<k→ky r p k<ky r p i) →
  ∃ R,runK r (kas_place p k f l h)=R∧R≤k∧(∀ i,i<R→ky r p i≤ky r p k)∧∀ i,R≤i→i<k→ky r p k<ky r p i:=by
 intro f
 induction f with
 | zero=>
  intro l h hf hl hk a b
  have e:h=l:=by omega
  subst e
  exact ⟨h,rfl,hk,a,b⟩
 | succ f ih=>
  intro l h hf hl hk a b
  by_cases hlh:l≥h
  ·have e:h=l:=Nat.le_antisymm hlh hl
   subst e
   exact ⟨h,by show runK r (if h≥h then .ret h else _)=h; rw [if_pos (Nat.le_refl _)]; rfl,hk,a,b⟩
  ·obtain ⟨md,hmd⟩:∃ md,md=(l+h)/2:=⟨_,rfl⟩
   have m1:l≤md:=by rw [hmd]; exact (Nat.le_div_iff_mul_le (by decide)).mpr (by rw [Nat.mul_two]; exact Nat.add_le_add_left hl _)
   have m2:md<h:=by rw [hmd]; exact (Nat.div_lt_iff_lt_mul (by decide)).mpr (by rw [Nat.mul_two]; exact Nat.add_lt_add_right (Nat.lt_of_not_le hlh) _)
   have m3:md-l≤f:=Nat.le_of_lt_succ (Nat.lt_of_lt_of_le (Nat.sub_lt_sub_right m1 m2) hf)
   have m4:h-(md+1)≤f:=Nat.le_trans (Nat.sub_le_sub_left (Nat.succ_le_succ m1) h) (Nat.pred_le_pred hf)
   have e0:runK r (kas_place p k (f+1) l h)=runK r (.ask (p.getD k 0) (p.getD md 0) fun c=>if c=true then kas_place p k f l md else kas_place p k f (md+1) h):=by
    rw [hmd]
    show runK r (if l≥h then .ret l else _)=_
    rw [if_neg hlh]
   by_cases c:ky r p k<ky r p md
   ·obtain ⟨R,e,x⟩:=ih l md m3 m1 (Nat.le_trans (Nat.le_of_lt m2) hk) a fun i x y=>Int.lt_of_lt_of_le c (bH r hu i md x y)
    exact ⟨R,e0.trans ((eD r c).trans e),x⟩
   ·obtain ⟨R,e,x⟩:=ih (md+1) h m4 m2 hk (fun i x=>Int.le_trans (bH r hu md i (Nat.le_of_lt_succ x) (Nat.lt_of_lt_of_le m2 hk)) (Int.not_lt.mp c)) b
    exact ⟨R,e0.trans ((cH r c).trans e),x⟩
theorem Bj:∀ (f:Nat) (p:Array Nat) (k:Nat),k+f≤p.size→up r p k→(runK r (kas_bin f p k)).Perm p∧up r (runK r (kas_bin f p k)) (k+f):=by
 intro f
 induction f with
 | zero=>exact fun p k _ hu=>⟨.refl _,hu⟩
 | succ f ih=>
  intro p k hz hu
  obtain ⟨l,e,p1,p2,p3⟩:=cY r hu k 0 k (Nat.le_refl _) (Nat.zero_le _) (Nat.le_refl _) (fun i x=>absurd x (Nat.not_lt_zero _)) fun i x y=>absurd y (Nat.not_lt_of_le x)
  have e0:runK r (kas_bin (f+1) p k)=runK r (kas_bin f (bubble p k (k-l)) (k+1)):=by
   show runK r ((kas_place p k k 0 k).bind _)=_
   rw [T4,e]
  have hf:k+(f+1)=k+1+f:=(Nat.succ_add_eq_add_succ k f).symm
  rw [hf] at hz
  have bub:=fun i=>ze r (p:=p) (k:=k) (d:=k-l) (Nat.lt_of_lt_of_le (Nat.lt_succ_self k) (Nat.le_trans (Nat.le_add_right _ _) hz)) (Nat.sub_le _ _) i
  rw [Nat.sub_sub_self p1] at bub
  have ih:=ih (bubble p k (k-l)) (k+1) (by rw [bubble_size]; exact hz) fun i hi=>by
   rw [bub,bub]
   have hi:=Nat.lt_of_succ_lt_succ hi
   rcases Nat.lt_trichotomy i l with c | c | c
   ·rw [if_neg (Nat.ne_of_lt c),if_neg fun z=>Nat.lt_asymm z.1 c]
    by_cases c2:i+1=l
    ·rw [if_pos c2]; exact p2 i c
    ·have c3:i+1<l:=Nat.lt_of_le_of_ne c c2
     rw [if_neg c2,if_neg fun z=>Nat.lt_asymm z.1 c3]
     exact hu i (Nat.lt_of_lt_of_le c3 p1)
   ·subst c
    rw [if_pos rfl,if_neg (Nat.succ_ne_self _),if_pos ⟨Nat.lt_succ_self _,hi⟩]
    exact Int.le_of_lt (p3 i (Nat.le_refl _) hi)
   ·have c2:=Nat.lt_succ_of_lt c
    rw [if_neg (Nat.ne_of_gt c),if_pos ⟨c,Nat.le_of_lt hi⟩,if_neg (Nat.ne_of_gt c2),if_pos ⟨c2,hi⟩]
    cases i with
    | zero=>exact absurd c (Nat.not_lt_zero _)
    | succ j=>exact hu j hi
  rw [e0,hf]
  exact ⟨ih.1.trans (bubble_perm _ _ _),ih.2⟩
theorem jt {n:Nat} (h2:2≤n):(runK r (kas_sort n)).Perm (List.toArray (List.range n))∧up r (runK r (kas_sort n)) n:=by
 unfold kas_sort
 rw [T4]
 have c:=ou r (p:=List.toArray (List.range n)) (nrem:=n) h2 (by simp)
 generalize runK r (kas_count n (List.toArray (List.range n)))=R at c
 obtain ⟨c1,c2,c3⟩:=c
 by_cases h:R.1<n
 ·rw [if_pos h]
  have hm:max R.1 1≤n:=Nat.max_le.mpr ⟨c2,Nat.le_of_succ_le h2⟩
  have b:=Bj r (n-max R.1 1) R.2 (max R.1 1) (by rw [Nat.add_sub_cancel' hm,c1.size_eq]; simp) fun k hk=>c3 k (by omega)
  rw [Nat.add_sub_cancel' hm] at b
  exact ⟨b.1.trans c1,b.2⟩
 ·rw [if_neg h]
  rw [Nat.le_antisymm c2 (Nat.not_lt.mp h)] at c3
  exact ⟨c1,c3⟩
end
end TP
namespace TP
open PySem L2
section
variable {prog:Program} {w:World} {A:Around} {E:Value→Shared→Prop} {s:Shared}
end
section
variable {X:Cx}
end
section
variable {K:Frag} {EX:EXT} {H0 G H:Hp} {ρ:Rho} {σ:St}
end
section
variable {X:Cx} {K:Frag} {EX:EXT} {a:Expr} {pos:Pos} {mr:Rho→R (List W)}
end
noncomputable def inW (u:W):W→Option Bool
 | .tup ws=>some ((pds ws).any fun y=>PyData.eqv y (pd u))
 | .lst ws=>some ((pds ws).any fun y=>PyData.eqv y (pd u))
 | .scr ws=>some ((pds ws).any fun y=>PyData.eqv y (pd u))
 | _=>none
noncomputable def rIn (K:Frag) (neg:Bool):R2:=fun x y H Q=>∃ u v b,Rep K H x u∧Rep K H y v∧shp 8 u=true∧shp 8 v=true∧inW u v=some b∧Q (.bl (if neg then !b else b)) H
section
variable {X:Cx}
theorem BW (hu:X.A.units+64<cLine):OpR X (compareOp .In) (rIn X.K false):=by
 intro pins s σ H x y v u Q I rx ry h
 obtain ⟨a,c,b,ra,rc,sa,sc,e,q⟩:=h
 obtain ⟨as,qa⟩:=Rep.reads I 8 ra sa rx
 obtain ⟨bs,qb⟩:=Rep.reads I 8 rc sc ry
 have la:=dD a 8 sa
 cases c <;> first | (cases e; done) | skip
 all_goals
  rename_i ws
  have lc:=ju ws 7 sc
  have hm:X.A.units+1+min (PyData.depthAll (pds ws)) (pd a).depth<cLine:=by have:=Nat.min_le_left (PyData.depthAll (pds ws)) (pd a).depth; omega
  cases e
 ·exact SeqAt.in_tuple_reads qb qa lc.1 la.1 hm ⟨.bl _,H,I,rfl,q⟩
 ·exact SeqAt.in_list_reads qb qa lc.1 la.1 hm ⟨.bl _,H,I,rfl,q⟩
 ·exact SeqAt.in_list_reads qb qa lc.1 la.1 hm ⟨.bl _,H,I,rfl,q⟩
end
noncomputable def fIn (neg:Bool) (u v:W):R W:=if shp 8 u&&shp 8 v then (match inW u v with
 | some b=>.ok (.bl (if neg then !b else b))
 | none=>.stuck) else .stuck
theorem Cb {K:Frag} {d:Mode} {neg:Bool}:Op2 K .B d (rIn K neg) (fIn neg):=by
 intro EX H0 Hs G H ρ σ Ha Hb x y u v Q I s mx my o
 unfold fIn at o
 by_cases c:(shp 8 u&&shp 8 v)=true
 ·rw [if_pos c] at o
  have c':shp 8 u=true∧shp 8 v=true:=by simpa using c
  cases hb:inW u v with
  | none=>rw [hb] at o; exact o.elim
  | some b=>
   rw [hb] at o
   exact ⟨u,v,b,mx.whole I,my.whole I,c'.1,c'.2,hb,o _ G H (Ext.refl I.gh) (Md.sca rfl (fun _=>.bl) d)⟩
 ·rw [if_neg c] at o; exact o.elim
end TP
namespace TP
open PySem L2
noncomputable def lexLt:List Int→List Int→Bool
 | [],[]=>false
 | [],_::_=>true
 | _::_,[]=>false
 | a::as,b::bs=>if a=b then lexLt as bs else decide (a<b)
theorem jQ:∀ a,lexLt a a=false
 | []=>rfl
 | x::a=>by unfold lexLt; rw [if_pos rfl]; exact jQ a
theorem nP:∀ a b c,lexLt a b=true→lexLt b c=true→lexLt a c=true
 | [],[],_,h,_=>by cases h
 | [],_::_,[],_,h=>by cases h
 | [],_::_,_::_,_,_=>rfl
 | _::_,[],_,h,_=>by cases h
 | _::_,_::_,[],_,h=>by cases h
 | x::a,y::b,z::c,h1,h2=>by
  unfold lexLt at h1 h2 ⊢
  by_cases e1:x=y
  ·subst e1
   rw [if_pos rfl] at h1
   by_cases e2:x=z
   ·subst e2; rw [if_pos rfl] at h2 ⊢; exact nP a b c h1 h2
   ·rw [if_neg e2] at h2 ⊢; exact h2
  ·rw [if_neg e1] at h1
   have h1:=of_decide_eq_true h1
   by_cases e2:y=z
   ·subst e2; rw [if_neg e1]; exact decide_eq_true h1
   ·rw [if_neg e2] at h2
    have h2:=of_decide_eq_true h2
    rw [if_neg (by omega)]; exact decide_eq_true (by omega)
theorem jP:∀ a b,lexLt a b=false→lexLt b a=false→a=b
 | [],[],_,_=>rfl
 | [],_::_,h,_=>by cases h
 | _::_,[],_,h=>by cases h
 | x::a,y::b,h1,h2=>by
  unfold lexLt at h1 h2
  by_cases e:x=y
  ·subst e
   rw [if_pos rfl] at h1 h2
   rw [jP a b h1 h2]
  ·rw [if_neg e] at h1
   rw [if_neg (fun z=>e z.symm)] at h2
   have h1:=of_decide_eq_false h1
   have h2:=of_decide_eq_false h2
   omega
noncomputable def BH (ss:List (List Int)) (i:Nat):Int:=((ss.countP fun x=>lexLt x (ss.getD i [])):Nat)
theorem AE {α:Type} {p q:α→Bool}:∀ {l:List α},(∀ x∈l,p x=true→q x=true)→(∃ x∈l,q x=true∧p x=false)→l.countP p<l.countP q:=by
 intro l
 induction l with
 | nil=>intro _ h; obtain ⟨_,h,_⟩:=h; exact absurd h List.not_mem_nil
 | cons x l ih=>
  intro h h0
  obtain ⟨y,hy,hq,hp⟩:=h0
  have h':∀ z∈l,p z=true→q z=true:=fun z hz=>h z (List.mem_cons_of_mem _ hz)
  have le:l.countP p≤l.countP q:=List.countP_mono_left h'
  rw [List.countP_cons,List.countP_cons]
  rcases List.mem_cons.mp hy with e | hy
  ·subst e
   rw [if_pos hq,hp,if_neg Bool.false_ne_true]; omega
  ·have:=ih h' ⟨y,hy,hq,hp⟩
   by_cases c:p x=true
   ·rw [if_pos c,if_pos (h x List.mem_cons_self c)]; omega
   ·rw [if_neg c]; split <;> omega
noncomputable def R9 {α:Type} (n:Nat) (P:α→Prop):PySem.W.KasT α→Prop
 | .ret a=>P a
 | .ask i j k=>i<n∧j<n∧∀ b,R9 n P (k b)
theorem R8 {α β:Type} {n:Nat} {P:α→Prop} {P':β→Prop} {f:α→PySem.W.KasT β}:∀ {t:PySem.W.KasT α},R9 n P t→(∀ a,P a→R9 n P' (f a))→R9 n P' (t.bind f)
 | .ret a,h,hf=>hf a h
 | .ask i j k,h,hf=>⟨h.1,h.2.1,fun b=>R8 (h.2.2 b) hf⟩
noncomputable def allLt (n:Nat) (p:Array Nat):Prop:=∀ x∈p,x<n
theorem allLt.perm {n:Nat} {p q:Array Nat} (h:allLt n p) (hp:q.Perm p):allLt n q:=fun x hx=>h x (hp.mem_iff.mp hx)
theorem allLt.at {n:Nat} {p:Array Nat} (h:allLt n p) (h0:0<n) (k:Nat):p.getD k 0<n:=by
 rw [Array.getD_eq_getD_getElem?]
 cases e:p[k]? with
 | none=>exact h0
 | some x=>exact h x (Array.mem_of_getElem? e)
section
open PySem.W PyProof.Rows
variable {n:Nat} (h0:0<n)
include h0
theorem fA {p:Array Nat} (h:allLt n p):∀ f k,R9 n (fun _=>True) (kas_asc p f k)
 | 0,_=>trivial
 | f+1,k=>⟨h.at h0 _,h.at h0 _,fun b=>by cases b <;> first | exact fA h f (k+1) | trivial⟩
theorem bD:∀ (f:Nat) (p:Array Nat) (k q:Nat),allLt n p→R9 n (fun r:Array Nat×Nat×Nat=>allLt n r.1) (kas_desc f p k q)
 | 0,p,k,q,h=>h
 | f+1,p,k,q,h=>by
  refine ⟨h.at h0 _,h.at h0 _,fun b=>?_⟩
  cases b with
  | true=>
   dsimp only; rw [if_pos rfl]
   split
   ·exact bD f _ _ _ (h.perm (mirror_perm _ _ _ _))
   ·exact bD f _ _ _ h
  | false=>
   dsimp only; rw [if_neg Bool.false_ne_true]
   refine ⟨h.at h0 _,h.at h0 _,fun b=>?_⟩
   cases b with
   | true=>dsimp only; rw [if_pos rfl]; exact h
   | false=>dsimp only; rw [if_neg Bool.false_ne_true]; exact bD f _ _ _ h
theorem ga {p:Array Nat} {k m:Nat} (h:allLt n p):R9 n (fun r:Nat×Array Nat=>allLt n r.2) (kas_tail3 k m p):=
 R8 (fA h0 (h.perm (mirror_perm _ _ _ _)) _ _) fun _ _=>h.perm (mirror_perm _ _ _ _)
theorem cr {p:Array Nat} {k m:Nat} (h:allLt n p):R9 n (fun r:Nat×Array Nat=>allLt n r.2) (kas_descPart k m p):=by
 refine R8 (bD h0 _ _ _ _ h) fun r hr=>?_
 split
 ·exact ga h0 (hr.perm (mirror_perm _ _ _ _))
 ·exact ga h0 hr
theorem oK {p:Array Nat} {m:Nat} (h:allLt n p):R9 n (fun r:Nat×Array Nat=>allLt n r.2) (kas_count m p):=by
 refine R8 (fA h0 h _ _) fun r hr=>?_
 split
 ·exact h
 ·split
  ·refine ⟨h.at h0 _,h.at h0 _,fun b=>?_⟩
   cases b with
   | true=>dsimp only; rw [if_pos rfl]; exact h
   | false=>dsimp only; rw [if_neg Bool.false_ne_true]; exact cr h0 (h.perm (mirror_perm _ _ _ _))
  ·exact cr h0 h
theorem cq {p:Array Nat} {k:Nat} (h:allLt n p):∀ f l m,R9 n (fun _=>True) (kas_place p k f l m)
 | 0,_,_=>trivial
 | f+1,l,m=>by
  unfold kas_place
  split
  ·trivial
  ·refine ⟨h.at h0 _,h.at h0 _,fun b=>?_⟩
   cases b with
   | true=>dsimp only; rw [if_pos rfl]; exact cq h f _ _
   | false=>dsimp only; rw [if_neg Bool.false_ne_true]; exact cq h f _ _
theorem ki:∀ (f:Nat) (p:Array Nat) (k:Nat),allLt n p→R9 n (fun _=>True) (kas_bin f p k)
 | 0,_,_,_=>trivial
 | f+1,p,k,h=>R8 (cq h0 h _ _ _) fun l _=>ki f _ _ (h.perm (bubble_perm _ _ _))
theorem rV:R9 n (fun _=>True) (kas_sort n):=by
 refine R8 (oK h0 fun x hx=>by simpa using hx) fun r hr=>?_
 split
 ·exact ki h0 _ _ _ hr
 ·trivial
end
theorem wp_run {n:Nat} {r:Nat→Int} {cmp:Nat→Nat→(Bool→Shared→Prop)→Shared→Prop} {s:Shared} (hc:∀ i j C,i<n→j<n→C (decide (r i<r j)) s→cmp i j C s) {α:Type} {P:α→Prop} {Q:α→Shared→Prop} :
  ∀ {t:PySem.W.KasT α},R9 n P t→Q (runK r t) s→t.kasWp cmp Q s
 | .ret _,_,h=>h
 | .ask i j k,a,h=>hc i j _ a.1 a.2.1 (wp_run hc (a.2.2 _) h)
noncomputable def cg (fin:Bool):List (Int×Int)→Bool
 | []=>fin
 | (a,b)::r=>if a=b then cg fin r else decide (a<b)
theorem jS:∀ xs ys:List Int,cg (decide (xs.length<ys.length)) (xs.zip ys)=lexLt xs ys
 | [],[]=>rfl
 | [],_::_=>by simp [cg,lexLt]
 | _::_,[]=>by simp [cg,lexLt]
 | x::xs,y::ys=>by
  have:=jS xs ys
  simp only [List.zip_cons_cons,cg,lexLt,List.length_cons,Nat.add_lt_add_iff_right]
  rw [this]
section
open PySem.W PyProof.Rows
variable {prog:Program} {w:World} {A:Around} {E:Value→Shared→Prop} {s:Shared}
noncomputable def bE (h:Heap) (v:Value) (xs:List Int):Prop:=∃ (a:Addr) (o:Obj) (its:List Value) (m:Nat),v=.ref a∧h.get? a=some o∧o.cls=.type "tuple" ∧ o.data=.seq its.toArray m∧Vals (xs.map V.int) its
end
theorem V4 {α β:Type} {F:α→β→Prop} {d:α}:∀ {as:List α} {bs:List β} {i:Nat},Paired F as bs→i<as.length→∃ b,bs[i]?=some b∧F (as.getD i d) b
 | _,_,_,.nil,h=>absurd h (Nat.not_lt_zero _)
 | _,_,0,.cons r _,_=>⟨_,rfl,r⟩
 | _,_,i+1,.cons _ t,h=>by
  obtain ⟨b,e,q⟩:=V4 (d:=d) (i:=i) t (by simpa using h)
  exact ⟨b,by simpa using e,by simpa using q⟩
section
open PySem.W PyProof.Rows
variable {prog:Program} {w:World} {A:Around} {E:Value→Shared→Prop} {s:Shared}
end
theorem oD:bootBuiltins "sorted" = some (.builtin "sorted"):=by decide +kernel
section
variable {X:Cx} {K:Frag}
end
noncomputable def Y6:List W→Option (List (List Int))
 | []=>some []
 | .tup ws::r=>match w6 ws,Y6 r with
  | some x,some xs=>some (x::xs)
  | _,_=>none
 | _=>none
theorem gD:∀ ss:List (List Int),Y6 (ss.map fun x=>W.tup (x.map W.int))=some ss
 | []=>rfl
 | x::ss=>by
  show (match w6 (x.map W.int),Y6 (ss.map fun x=>W.tup (x.map W.int)) with | some x,some xs=>_ | _,_=>_)=_
  rw [ints_map,gD ss]
theorem qR:∀ {ws:List W} {x:List Int},w6 ws=some x→ws=x.map W.int:=by
 intro ws
 induction ws with
 | nil=>intro x h; cases h; rfl
 | cons w ws ih=>
  intro x h
  cases w <;> first | (cases h; done) | skip
  rename_i i
  have h':(w6 ws).map (i::·)=some x:=h
  cases hw:w6 ws with
  | none=>rw [hw] at h'; cases h'
  | some bs=>rw [hw] at h'; rw [ih hw,← Option.some.inj h']; rfl
theorem oY:∀ {ws:List W} {ss:List (List Int)},Y6 ws=some ss→ws=ss.map fun x=>W.tup (x.map W.int):=by
 intro ws
 induction ws with
 | nil=>intro ss h; cases h; rfl
 | cons w r ih=>
  intro ss h
  cases w <;> first | (cases h; done) | skip
  rename_i ws
  have h':(match w6 ws,Y6 r with | some x,some xs=>some (x::xs) | _,_=>none)=some ss:=h
  cases h1:w6 ws with
  | none=>rw [h1] at h'; cases h'
  | some x=>
   cases h2:Y6 r with
   | none=>rw [h1,h2] at h'; cases h'
   | some xs=>rw [h1,h2] at h'; rw [qR h1,ih h2,← Option.some.inj h']; rfl
theorem fM:∀ ns:List Int,l9 (ns.map W.int)=true
 | []=>rfl
 | n::ns=>by rw [List.map_cons]; simp only [l9,noL,fM ns,Bool.and_self]
theorem iu:∀ ss:List (List Int),l9 (ss.map fun x=>W.tup (x.map W.int))=true
 | []=>rfl
 | x::ss=>by rw [List.map_cons]; simp only [l9,noL,fM x,iu ss,Bool.and_self]
section
variable {K:Frag}
theorem jA {F:Hp}:∀ {ys:List V} {ws:List W} {i:Nat},Reps K F ys ws→i<ys.length→∃ w,ws[i]?=some w∧Rep K F (ys.getD i .non) w
 | _,_,_,.nil,h=>absurd h (Nat.not_lt_zero _)
 | _,_,0,.cons r _,_=>⟨_,rfl,r⟩
 | _,_,i+1,.cons _ t,h=>by
  obtain ⟨b,e,q⟩:=jA (i:=i) t (by simpa using h)
  exact ⟨b,by simpa using e,by simpa using q⟩
theorem gY {F:Hp} {f:Nat→V} {g:Nat→W}:∀ {l:List Nat},(∀ i∈l,Rep K F (f i) (g i))→Reps K F (l.map f) (l.map g)
 | [],_=>.nil
 | _::_,h=>.cons (h _ List.mem_cons_self) (gY fun b hb=>h b (List.mem_cons_of_mem _ hb))
end
end TP
namespace TP
open PySem L2
set_option maxHeartbeats 2000000
theorem xa (l b:Addr) (us vs:List Value) (m m2:Nat) (dd dd2:Option Addr) (sl sl2:Array (Option Value)) (xs ys:List Int) (rx:Vals (xs.map V.int) us) (ry:Vals (ys.map V.int) vs) :
  Meets (Builtin.«tuple.__lt__» ⟨[.ref l,.ref b],[]⟩) (fun _ R s=>s.heap.get? l=some { cls:=.type "tuple",dict:=dd,data:=.seq us.toArray m,slots:=sl }∧s.heap.get? b=some { cls:=.type "tuple",dict:=dd2,data:=.seq vs.toArray m2,slots:=sl2 }∧R (.ok (.ret (.bool (lexLt xs ys)))) s):=
 .of_wp fun prog w A R s hyp=>by
  obtain ⟨hp,g,d,tk,os⟩:=s; obtain ⟨hl,hb,hyp⟩:=hyp; have g1:=AutoSeq1.sub_tuple_tuple
  have l1:=rx.length
  have l2:=ry.length
  rw [List.length_map] at l1 l2
  wp_walk using AutoSeq1.wpAny_loadPart' hl,AutoSeq1.wpAny_loadPart' hb,wpAny_forIn_list _ (fun rest b s'=>b.1=none∧s'=⟨hp,g,d,tk,os⟩∧∃ (zs ts:List Int) (us vs:List Value),rest=us.zip vs∧Vals (zs.map V.int) us∧Vals (ts.map V.int) vs∧R (.ok (.ret (.bool (cg (decide (xs.length<ys.length)) (zs.zip ts))))) ⟨hp,g,d,tk,os⟩) _
  case turn=>
   rintro ⟨y,x⟩ rest b s' ⟨hb',rfl,zs,ts,us',vs',hz,r1,r2,hR⟩
   cases zs with
   | nil=>cases r1; cases hz
   | cons z zs=>
    cases ts with
    | nil=>cases r2; cases us' <;> cases hz
    | cons t ts=>
     cases r1 with
     | cons a1 r1=>
      cases r2 with
      | cons a2 r2=>
       obtain ⟨k1,rfl⟩:=a1
       obtain ⟨k2,rfl⟩:=a2
       rw [List.zip_cons_cons] at hz
       injection hz with h1 h2
       injection h1 with h3 h4
       subst h3 h4 h2
       simp only [List.zip_cons_cons,cg] at hR
       refine wpAny_bind (wpAny_eqBool_int ?_)
       by_cases e:z=t
       ·rw [if_pos e] at hR
        rw [show (z == t)=true by simpa using e]
        wp_walk
        exact ⟨rfl,rfl,zs,ts,_,_,rfl,r1,r2,hR⟩
       ·rw [if_neg e] at hR
        rw [show (z == t)=false by simpa using e]
        rw [if_pos (show (!false)=true from rfl)]
        refine wpAny_bind (wpAny_rule (wpAny_bind (PyProof.Rows.lt_int ?_)))
        wp_walk
        exact ⟨_,rfl,hR⟩
  case fin=>
   rintro ⟨b1,b2⟩ s' ⟨hb',rfl,zs,ts,us',vs',hz,r1,r2,hR⟩
   simp only at hb'
   subst hb'
   have hk:cg (decide (xs.length<ys.length)) (zs.zip ts)=decide (xs.length<ys.length):=by
    cases zs with
    | nil=>rfl
    | cons z zs=>
     cases ts with
     | nil=>rfl
     | cons t ts=>cases r1; cases r2; cases hz
   rw [hk] at hR
   wp_walk
   refine ⟨_,rfl,?_⟩
   simpa [Builtin.Tuple.tupleCompareSizes,← l1,← l2] using hR
  case h=>
   exact ⟨rfl,rfl,xs,ys,us,vs,rfl,rx,ry,by rw [jS]; exact hyp⟩
section
variable {X:Cx} {K:Frag}
end
section
variable {K:Frag}
end
end TP
namespace L2
open PySem PySem.Spec PyProof.Rows
section
variable {X:Cx} {pins:List (Addr×Obj)} {σ:St} {H:Hp} {s:Shared} {A:Around} {E:Value→Shared→Prop} {Q:Value→Shared→Prop} {b:Bool}
end
end L2
namespace TP
open PySem L2
section
variable {K:Frag} {d:Mode}
end
end TP
namespace HT
open PySem PyProof.Rows
section
variable {prog:Program} {w:World} {A:Around} {E:Value→Shared→Prop} {s:Shared}
end
end HT
namespace TP
open PySem L2
section
variable {X:Cx}
end
section
variable {K:Frag} {EX:EXT} {H0 G H:Hp} {ρ:Rho} {σ:St} {Q:VK}
end
section
variable {X:Cx} {K:Frag} {EX:EXT} {e:Expr} {pos:Pos} {ma:Rho→R W}
end
end TP
namespace TP
open PySem L2
section
variable {K:Frag} {EX:EXT} {H0 G H G1 H1 F:Hp} {ρ:Rho} {σ:St} {d:Mode} {D:Ends}
end
section
variable {X:Cx} {K:Frag} {EX:EXT} {d:Mode} {e k v:Expr} {pos:Pos} {mk me:Rho→R W}
end
end TP
namespace TP
open PySem L2
set_option maxHeartbeats 2000000
section
variable {X:Cx} {K:Frag}
end
section
variable {K:Frag}
end
end TP
namespace TP
open PySem L2
section
variable {X:Cx} {K:Frag} {EX:EXT} {d:Mode} {p:Pos} {es:List Expr} {mr:Rho→R (List W)}
end
end TP
namespace TB
open PySem PySem.W
end TB
namespace Att
open PySem PySem.W PySem.Calls PyProof.Rows
end Att
namespace L2
open PySem PySem.Spec PyProof.Rows
end L2
namespace TP
open PySem L2
noncomputable def tu (i j:Int):Prop:=CMul i j∨Builtin.Int.intBits i+Builtin.Int.intBits j≤134217728
noncomputable instance (i j:Int):Decidable (tu i j):=by unfold tu; infer_instance
section
variable {X:Cx}
end
end TP
namespace TL
open PySem
theorem yV:typeLookup (.type "list_reverseiterator") "__len__" = pure none:=by rw [typeLookup_type,builtinLookup_eq_fast]; kernel_rfl
theorem qV:typeLookup (.type "list_reverseiterator") "__length_hint__" = pure (some (.builtin "list_reverseiterator.__length_hint__")):=by rw [typeLookup_type,builtinLookup_eq_fast]; kernel_rfl
theorem sub_self:isSubtype (.type "list_reverseiterator") (.type "list_reverseiterator")=pure true:=by rw [isSubtype_type]; kernel_rfl
section
variable {prog:Program} {w:World} {A:Around} {E:Value→Shared→Prop} {s:Shared}
theorem qT {I l:Addr} {i:Int} {Q:Bool→Shared→Prop} (hit:s.heap.IsRevIter I l i) (h:Q false s):wpAny (model prog w) A (Builtin.List.listLengthHint (.ref I)) Q E s:=by
 have hT:=hit.typeIs
 unfold Builtin.List.listLengthHint
 refine wpAny_bind (wpAny_specialOf hT yV ?_)
 show wpAny _ _ (specialOf (Value.ref I) (Str.ofString "__length_hint__")>>=_) _ _ _; refine wpAny_bind (wpAny_specialOf hT qV ?_)
 have hsp:splitId "list_reverseiterator.__length_hint__" = some ("list_reverseiterator", "__length_hint__"):=by decide +kernel
 dsimp only
 rw [hsp]
 dsimp only
 refine wpAny_bind (wpAny_isInstance (T := "list_reverseiterator") (b:=true) hT sub_self ?_)
 rw [if_neg (show ¬ ((!true)=true) by decide)]
 refine wpAny_ite_split (fun _=>?_) (fun hab=>absurd (by decide +kernel) hab)
 rw [if_neg (show ¬ ((Value.builtin "list_reverseiterator.__length_hint__" == Value.builtin "range_iterator.__length_hint__")=true) by decide)]
 exact wpAny_pure h
theorem wb {R:Result→Shared→Prop} {I l S:Addr} {items:Array Value} {c₀:Nat} (res:Value) (hh:A.handled=none) (hne:l≠I) (hit:s.heap.IsRevIter I l ((items.size:Int)-1)) (hl:s.heap.IsList l items) (hSI:S≠I) (hSl:S≠l) (hn:items.size≤sizeLine)
  (hS:s.heap.get? S=some { cls:=.type "list",data:=.seq #[] c₀ })
  (hR:∀ h' tk acc' c',(∀ b o,b≠S→b≠I→s.heap.get? b=some o→h'.get? b=some o)→h'.get? S=some { cls:=.type "list",dict:=none,data:=.seq acc' c',slots:=#[] }→ItemsOf (fun i v=>items[items.size-1-i]?=some v) acc' items.size→R (.ok (.ret res)) { s with heap:=h',toks:=tk }) :
  wpAny (model prog w) A.in1 (Builtin.List.listExtendWith (.ref S) (.ref I) res)
   (fun fin s'=>match fin with | .done f=>R (.ok f) s' | .again c'=>c'.quiet=true∧codeAny (model prog w) A c' R s') (fun e s'=>R (.error e) s') s:=by
 have W:=(Walks.listRev (prog:=prog) (w:=w) (A:=A.in1) hh I l hne items).toS
 have hSf:S ∉ [I,l]:=by simp [hSI,hSl]
 unfold Builtin.List.listExtendWith; refine wpAny_bind (wpAny_typeOf hit.typeIs ?_)
 have h1:Builtin.List.listSameRef (.ref S) (.ref I)=false:=by simp [Builtin.List.listSameRef,hSI]
 have h2:(Value.type "list_reverseiterator" == Value.type "list")=false∧(Value.type "list_reverseiterator" == Value.type "tuple")=false:=by decide
 rw [h1,h2.1,h2.2]; simp only [Bool.or_false,Bool.false_eq_true,if_false]
 refine wpAny_bind (wpAny_pyIter_revIter hit ?_)
 refine wpAny_bind (wpAny_holding (qT hit ?_))
 refine wpAny_ite_split (fun hab=>absurd hab (by decide +kernel)) (fun _=>?_)
 refine wpAny_pure ⟨plainId_quiet F.plain_extend_loop _,?_⟩
 refine codeAny_extend_loopS W hn S hSf res items.size 0 s #[] c₀ rfl (Nat.zero_le _) ⟨Nat.zero_le _,by simpa using hit,hl⟩ hS (ItemsOf.nil _) fun s' acc' c' hm hS' hacc=>?_
 rw [Moved.eq_with hm]; exact hR s'.heap s'.toks acc' c' (fun b o hb hbI e=>hm.heap b o (by simp [hb,hbI]) e) hS' hacc
theorem call_list_rev {I l:Addr} {items:Array Value} {Q:Value→Shared→Prop} (hh:A.handled=none) (hne:l≠I) (hit:s.heap.IsRevIter I l ((items.size:Int)-1)) (hl:s.heap.IsList l items) (hn:items.size≤sizeLine)
  (hQ:∀ h' tk acc' c',(∀ b o,b≠I→s.heap.get? b=some o→h'.get? b=some o)→h'.get? s.heap.objs.size=some { cls:=.type "list",dict:=none,data:=.seq acc' c',slots:=#[] }→ItemsOf (fun i v=>items[items.size-1-i]?=some v) acc' items.size→Q (.ref s.heap.objs.size) { s with heap:=h',toks:=tk }) :
  wpAny (model prog w) A (call (.type "list") [.ref I]) Q E s:=by
 obtain ⟨oi,hi,hi2⟩:=id hit
 obtain ⟨ol,hol,hol2⟩:=id hl
 have hSI:s.heap.objs.size≠I:=fun e=>absurd (Heap.lt_size hi) (by rw [← e]; exact Nat.lt_irrefl _)
 have hSl:s.heap.objs.size≠l:=fun e=>absurd (Heap.lt_size hol) (by rw [← e]; exact Nat.lt_irrefl _)
 refine callType_codes (Q₁:=fun obj s₁=>obj=.ref s.heap.objs.size∧s₁={ s with heap:=s.heap.push { cls:=.type "list",data:=.seq #[] } }) F.called_list (F.typeCall_list_1 _) F.entry_list_init (code_list_new _ ⟨rfl,rfl⟩) fun obj s₁ h₁=>?_
 obtain ⟨rfl,rfl⟩:=h₁
 have hS:(s.heap.push { cls:=.type "list",data:=.seq #[] }).get? s.heap.objs.size=some { cls:=.type "list",data:=.seq #[] }:=Heap.get?_push_size _ rfl
 refine ⟨⟨_,hS,rfl⟩,F.args_list_init_2 _ _,?_⟩
 show wpAny _ _ (do let old ← Builtin.List.listItems (.ref s.heap.objs.size); Builtin.List.listUpdate (.ref s.heap.objs.size) (fun _=>#[]); letGo old.toList.reverse; Builtin.List.listExtendWith (.ref s.heap.objs.size) (.ref I) .none) _ _ _
 refine wpAny_bind ?_; unfold Builtin.List.listItems; refine wpAny_bind (wpAny_seqItems hS rfl (wpAny_pure ?_))
 show wpAny _ _ (updateSeq s.heap.objs.size (fun _=>#[])>>=fun _=>letGo (#[]:Array Value).toList.reverse>>=fun _=>Builtin.List.listExtendWith (.ref s.heap.objs.size) (.ref I) .none) _ _ _
 refine wpAny_bind (wpAny_updateSeq hS rfl ?_)
 have hS₂:=Heap.get?_update_self (Obj.mapSeq (fun _=>(#[]:Array Value))) hS rfl
 have oth:∀ b o,s.heap.get? b=some o→((s.heap.push { cls:=.type "list",data:=.seq #[] }).update s.heap.objs.size (Obj.mapSeq (fun _=>(#[]:Array Value)))).get? b=some o:=fun b o e=>by
  have hb:b≠s.heap.objs.size:=fun z=>absurd (Heap.lt_size e) (by rw [z]; exact Nat.lt_irrefl _)
  exact (Heap.get?_update_other _ _ (Ne.symm hb)).trans (Heap.get?_push_of_some _ e)
 refine wpAny_bind (wpAny_letGo ?_)
 refine wb (s:={ s with heap:=(s.heap.push { cls:=.type "list",data:=.seq #[] }).update s.heap.objs.size (Obj.mapSeq (fun _=>(#[]:Array Value))) }) .none hh hne ⟨oi,oth _ _ hi,hi2⟩ ⟨ol,oth _ _ hol,hol2⟩ hSI hSl hn hS₂ fun h' tk acc' c' hk hS' hacc=>?_
 refine ⟨rfl,hQ h' tk acc' c' (fun b o hb e=>hk b o (fun z=>absurd (Heap.lt_size e) (by rw [z]; exact Nat.lt_irrefl _)) hb (oth b o e)) hS' hacc⟩
end
end TL
namespace TP
open PySem L2
theorem ni {its:List Value} {acc:Array Value} (h:ItemsOf (fun i v=>its.toArray[its.toArray.size-1-i]?=some v) acc its.toArray.size):acc.toList=its.reverse:=by
 obtain ⟨h1,h2⟩:=h
 have hl:its.toArray.size=its.length:=List.size_toArray
 rw [hl] at h1
 apply List.ext_getElem
 ·rw [Array.length_toList,List.length_reverse,h1]
 ·intro i q1 q2
  have hi:i<acc.size:=by simpa using q1
  have:=h2 i acc[i] (Array.getElem?_eq_getElem hi)
  rw [hl] at this
  rw [List.getElem_reverse,Array.getElem_toList]
  have e:its.toArray[its.length-1-i]?=some (its[its.length-1-i]'(by omega)):=by simp
  rw [e] at this
  exact (Option.some.inj this).symm
section
variable {X:Cx}
noncomputable def tRv (K:Frag) (f:List V→HO) (ta:TA):TE:=fun σ H Q=>ta σ H fun vs H1=>∃ a xs,vs = [.ref a]∧SqL K H1 a xs∧∀ p,H1 p=none→Q (.ref p) (upd H1 p (f xs.reverse))
theorem uF {a:Expr} {ta:TA} {p pos p2 pos2:Pos} (hc:X.calm=true) (hgl:Gl X "list") (hml:X.mg "list" = none) (hg:Gl X "reversed") (hm:X.mg "reversed" = none) (ha:PA X [a] ta) (hs:autoParam (starEach [a] X.env = [(false,eval a X.env)]) au0._auto_1)
  (hs2:autoParam (starEach [.Call (.Name "reversed" p2) [a] [] pos2] X.env = [(false,eval (.Call (.Name "reversed" p2) [a] [] pos2) X.env)]) au0._auto_1):PE X (.Call (.Name "list" p) [.Call (.Name "reversed" p2) [a] [] pos2] [] pos) (tRv X.K .lst ta):=by
 intro pins s σ H Q I h
 refine wpAny_Call_Name_kw (Q0 I hgl hml R6 ?_ (by decide) (by decide))
 refine PyProof.Rows.callWith_type1 ?_ hs2 (by rfl)
 rw [hs2]
 show wpAny _ _ (spliced [(false,eval (.Call (.Name "reversed" p2) [a] [] pos2) X.env)]) _ _ s
 refine Calls.spliced_cons ?_
 refine wpAny_Call_Name_kw (Q0 I hg hm cN ?_ (by decide) (by decide))
 refine PyProof.Rows.callWith_type1 (thn (ha pos2 pins s σ H _ I h) fun us s1 zz85=>?_) hs (by rfl)
 obtain ⟨vs,H1,I1,r1,q1⟩:=zz85
 obtain ⟨b,xs,e,hq,q⟩:=q1
 subst e
 obtain ⟨u,rfl,ru⟩:=Q5 r1
 cases ru
 obtain ⟨its,rv,pl,hz⟩:=I1.list hq
 have hl:=rv.length
 have hsz:its.toArray.size≤sizeLine:=by rw [List.size_toArray,← hl]; exact hz
 obtain ⟨ol,hol,hol2⟩:=id pl.isList
 have hbI:b≠s1.heap.objs.size:=fun z=>absurd (Heap.lt_size hol) (by rw [z]; exact Nat.lt_irrefl _)
 refine call_reversed_list pl.isList (Calls.spliced_nil ?_)
 refine TL.call_list_rev (s:={ s1 with heap:=s1.heap.push (revObj b ((its.toArray.size:Int)-1)) }) (I1.ok.hd hc) hbI ⟨_,Heap.get?_push_size _ rfl,rfl,rfl⟩ ⟨ol,Heap.get?_push_of_some _ hol,hol2⟩ hsz fun h' tk acc' c' hk hS hacc=>?_
 have e1:=ni hacc
 have hkeep:∀ b o,s1.heap.get? b=some o→h'.get? b=some o:=fun b o e=>hk b o (fun z=>absurd (Heap.lt_size e) (by rw [z]; exact Nat.lt_irrefl _)) (Heap.get?_push_of_some _ e)
 have hge:s1.heap.objs.size≤(s1.heap.push (revObj b ((its.toArray.size:Int)-1))).objs.size:=by rw [show (s1.heap.push (revObj b ((its.toArray.size:Int)-1))).objs.size=s1.heap.objs.size+1 from by simp [Heap.push]]; omega
 refine ⟨.ref (s1.heap.push (revObj b ((its.toArray.size:Int)-1))).objs.size,_,I1.laid (t':=tk) hkeep hge (show ObjOk X.prog X.w _ h' _ (.lst xs.reverse) from ⟨by rw [List.length_reverse]; exact hz,its.reverse,c',Vals.reverse rv,?_⟩),rfl,q _ (I1.hok.fresh hge)⟩
 rw [← e1]; simpa using hS
end
noncomputable def en:List W→R W
 | [w]=>match w with
  | .lst ws=>chks false ws.reverse
  | _=>.stuck
 | _=>.stuck
section
variable {K:Frag} {EX:EXT} {σ:St} {H:Hp} {Q:VK}
theorem Bb {ma:Rho→R (List W)} (h:tM K EX .F (bA en ma) σ H Q):tRv K .lst (tA K EX .B ma) σ H Q:=by
 obtain ⟨H0,G,ρ,I,o⟩:=h
 replace o:Out EX G H (mdW K .F H0 H) (ma ρ>>=en) Q:=o
 refine ⟨H0,G,ρ,I,Out.bind o fun xs G1 H1 ws e1 m1 o1=>?_⟩
 have I1:=I.ext e1
 cases m1 with
 | nil=>exact o1.elim
 | cons a t=>
  cases t with
  | cons _ _=>exact o1.elim
  | nil=>
   rename_i w v
   cases w <;> first | exact o1.elim | skip
   rename_i us
   obtain ⟨p,vs,rfl,hs,r⟩:=a.lstB I1
   exact ⟨p,vs,rfl,SqL.of hs,Out.chks I1 e1.hh (c:=false) (by rw [if_neg Bool.false_ne_true]; exact r.reverse) o1⟩
end
section
variable {X:Cx} {K:Frag} {EX:EXT} {a:Expr} {pos:Pos} {mr:Rho→R (List W)}
theorem yn {p p2 pos2:Pos} (hc:X.calm=true) (hgl:Gl X "list") (hml:X.mg "list" = none) (hg:Gl X "reversed") (hm:X.mg "reversed" = none) (ha:PA X [a] (tA K EX .B mr)) (hK:autoParam (X.K=K) au0._auto_1) (hs:autoParam (starEach [a] X.env = [(false,eval a X.env)]) au0._auto_1)
  (hs2:autoParam (starEach [.Call (.Name "reversed" p2) [a] [] pos2] X.env = [(false,eval (.Call (.Name "reversed" p2) [a] [] pos2) X.env)]) au0._auto_1):PE X (.Call (.Name "list" p) [.Call (.Name "reversed" p2) [a] [] pos2] [] pos) (tM K EX .F (bA en mr)):=by
 subst hK; exact (uF hc hgl hml hg hm ha hs hs2).mono fun _ _ _ q=>Bb q
end
theorem jZ (ns:List Int):en [.lst (ns.map W.int)]=.ok (.lst (ns.reverse.map W.int)):=by
 have hn:∀ l:List Int,l9 (l.map W.int)=true:=fun l=>by induction l with | nil=>rfl | cons a l ih=>simpa [l9,noL] using ih
 show TP.chks false (ns.map W.int).reverse=_
 rw [← List.map_reverse]
 unfold TP.chks
 rw [hn,Bool.or_true,if_pos rfl]
end TP
namespace TP
open PySem L2
noncomputable def fo (u:W) (ws:List W):Option Nat:=(pds ws).findIdx? fun y=>PyData.eqv y (pd u)
noncomputable def hZ (K:Frag):V→List V→Hp→VK→Prop:=fun x vs H Q=>∃ u ws y j,vs = [y]∧Rep K H y u∧Rep K H x (.lst ws)∧shp 8 u=true∧shp 8 (.lst ws)=true∧fo u ws=some j∧j<1000∧Q (.int (j:Int)) H
section
variable {X:Cx}
theorem qC (hu:X.A.units+64<cLine):MtR X "list.index" (hZ X.K):=by
 intro pins s σ H x vs v us Q I rx rv h
 obtain ⟨u,ws,y,j,rfl,ry,rc,su,sc,hj,hj1,q⟩:=h
 obtain ⟨uy,rfl,rr⟩:=rv.one
 obtain ⟨as,qa⟩:=Rep.reads I 8 ry su rr
 obtain ⟨bs,qb⟩:=Rep.reads I 8 rc sc rx
 have la:=dD u 8 su
 have lc:=ju ws 7 sc
 have hm:X.A.units+1+min (PyData.depthAll (pds ws)) (pd u).depth<cLine:=by have:=Nat.min_le_left (PyData.depthAll (pds ws)) (pd u).depth; omega
 have qb:Reads s.heap v (.list (pds ws)) bs:=qb
 cases qb with
 | list h1 h2 h3 h4=>
  rename_i a o items n as'
  obtain ⟨oc,od,odt,osl⟩:=o
  have h2:oc=.type "list" := h2
  have h3:odt=.seq items n:=h3
  subst h2 h3
  have hmap:=SeqAt.readsAll_map (pds ws) _ _ lc.1 h4
  have heq:=SeqAt.items_eqAt (A:=X.A) h4 qa lc.1 la.1 hm
  unfold fo at hj
  rw [← hmap,List.findIdx?_map,List.findIdx?_eq_some_iff_getElem] at hj
  obtain ⟨hlt,ht,hno⟩:=hj
  have hlt':j<items.size:=by simpa using hlt
  refine call_meets PySem.F.slot_list_index ⟨_,h1,rfl⟩ PySem.F.entry_list_index (PySem.F.args_list_index_2 _ _) (SeqAt.list_indexAt a items n od osl uy (fun z=>PyData.eqv (SeqAt.readOf s.heap z) (pd u)) j hlt' (by omega) (by simpa using ht) (fun m hm1 hm2=>by simpa using hno m hm2)) ⟨h1,heq,?_⟩
  exact ⟨.int (j:Int),H,I.tok _,⟨_,rfl⟩,q⟩
end
noncomputable def iH (ws:List W) (u:W):R W:=if (shp 8 u&&shp 8 (.lst ws))=true then (match fo u ws with
 | some j=>if j<1000 then .ok (.int (j:Int)) else .stuck
 | none=>.stuck) else .stuck
noncomputable def Rix (x:R W) (y:R W):R W:=x>>=fun x=>(match x with
 | .lst ws=>y>>=fun y=>iH ws y
 | _=>.stuck)
noncomputable def iA (mo me:Rho→R W):Rho→R W:=fun ρ=>Rix (mo ρ) (me ρ)
theorem jN (mo me:Rho→R W) (ρ:Rho):iA mo me ρ=Rix (mo ρ) (me ρ):=rfl
theorem oN (ws:List W) (u:W):Rix (.ok (.lst ws)) (.ok u)=iH ws u:=rfl
section
variable {K:Frag} {EX:EXT} {d:Mode} {σ:St} {H:Hp} {Q:VK}
theorem wu {mo me:Rho→R W} (h:tM K EX d (iA mo me) σ H Q):tBM K "list" (hZ K) (tM K EX .B mo) (tA K EX .B (aC me aN)) σ H Q:=by
 obtain ⟨H0,G,ρ,I,o⟩:=h
 unfold iA Rix at o
 refine ⟨H0,G,ρ,I,Out.bind o fun x G1 H1 w e1 m1 o1=>?_⟩
 have I1:=I.ext e1
 cases w <;> first | exact o1.elim | skip
 rename_i ws
 obtain ⟨p,vs,rfl,hs,_⟩:=m1.lstB I1
 refine ⟨.inl ⟨rfl,vs,SqL.of hs⟩,H0,G1,ρ,I1,?_⟩
 have key:Out EX G1 H1 (mdW K .B H0 H1) (me ρ) fun y H2=>hZ K (.ref p) [y] H2 Q:=Out.bind (md:=mdW K .B H0 H1) o1 fun y G2 H2 u e2 m2 o2=>by
  have I2:=I1.ext e2
  unfold iH at o2
  by_cases c:(shp 8 u&&shp 8 (.lst ws))=true
  ·rw [if_pos c] at o2
   have c':shp 8 u=true∧shp 8 (.lst ws)=true:=by simpa using c
   cases hj:fo u ws with
   | none=>rw [hj] at o2; exact o2.elim
   | some j=>
    rw [hj] at o2
    by_cases hl:j<1000
    ·dsimp only at o2
     rw [if_pos hl] at o2
     exact ⟨u,ws,y,j,rfl,m2.whole I2,(m1.move e2).whole I2,c'.1,c'.2,hj,hl,o2 _ G2 H2 (Ext.refl I2.gh) (Md.sca rfl (fun _=>.int) d)⟩
    ·dsimp only at o2
     rw [if_neg hl] at o2; exact o2.elim
  ·rw [if_neg c] at o2; exact o2.elim
 show Out EX G1 H1 (mdA K .B H0 H1) (me ρ>>=fun w=>aN ρ>>=fun ws=>.ok (w::ws)) _
 revert key
 cases me ρ with
 | stuck=>exact id
 | ex e=>exact id
 | ok u=>
  intro key v G2 H2 e2 m2
  cases m2 with
  | cons a t=>cases t; exact key _ G2 H2 e2 a
end
section
variable {X:Cx} {K:Frag} {EX:EXT} {d:Mode} {o e:Expr} {apos cpos:Pos} {mo me:Rho→R W}
theorem uq (hu:X.A.units+64<cLine) (ho:PE X o (tM K EX .B mo)) (he:PE X e (tM K EX .B me)) (hK:autoParam (X.K=K) au0._auto_1)
  (hbase:autoParam (attributeBase o "index" X.env (eval o X.env)=eval o X.env) au0._auto_1)
  (hfew:autoParam (((backTo cpos (starEach [e] X.env)).all (fun x=>!x.1)&&(backToKw cpos (keywordEach [] X.env)).all (fun x=>x.1.isSome)
   && decide (([e]:List Expr).length+([]:List Keyword).length+(if ([]:List Keyword).isEmpty then 0 else 1)<30))=true) au0._auto_1)
  (hline:autoParam ((apos.endLine == cpos.line)=true) au0._auto_1) (hs:autoParam (starEach [e] X.env=(false,eval e X.env)::starEach [] X.env) au0._auto_1) (hplain:autoParam ((backTo cpos (starEach [] X.env)).any (·.1)=false) au0._auto_1) :
  PE X (.Call (.Attribute o "index" apos) [e] [] cpos) (tM K EX d (iA mo me)):=by
 subst hK; exact (BS PySem.F.plainAttrs_list PySem.F.slot_list_index PySem.F.type_list_index (qC hu) ho (b4 he b6 hs) hbase hfew hline hs hplain).mono fun _ _ _ q=>wu q
end
end TP
namespace TP
open PySem L2
noncomputable def OutW (K:Frag) (EX:EXT) (d:Mode) (H0:Hp) (r:R Fl) (D:Ends):Prop:=match r with
 | .ok (.nx ρ)=>∀ G' σ' H',PIv K H0 G' ρ σ' H'→D.nx σ' H'
 | .ok (.bk ρ)=>∀ G' σ' H',PIv K H0 G' ρ σ' H'→D.bk σ' H'
 | .ok (.ct ρ)=>∀ G' σ' H',PIv K H0 G' ρ σ' H'→D.ct σ' H'
 | .ok (.rt w)=>∀ v G' H',Same G' H'→Same H0 H'→(∀ a o,H0 a=some o→isL o=true→G' a=none)→Md K H0 H0 G' H' v w d→D.rt v H'
 | .ex e=>∀ H',Same H0 H'→EX e H'
 | .stuck=>False
noncomputable def tStW (K:Frag) (EX:EXT) (d:Mode) (m:Rho→R Fl):TS:=fun D σ H=>∃ H0 G ρ,PIv K H0 G ρ σ H∧OutW K EX d H0 (m ρ) D
section
variable {K:Frag} {EX:EXT} {H0 G H G1 H1 G2 H2:Hp} {ρ:Rho} {σ:St} {d:Mode} {D:Ends}
theorem S6 {H:Hp} {a:Addr} {o:HO}:upd H a o a=some o:=by unfold upd; rw [if_pos rfl]
noncomputable def clS:Sl→Sl
 | .un=>.un
 | .val w=>if noL w=true then .val w else .un
 | .par w=>if noL w=true then .val w else .un
 | .own ws=>if l9 ws=true then .own ws else .un
 | .dic ks=>.dic ks
 | .dik ks=>.dik ks
 | .iop p ws=>if l9 ws=true then .iop p ws else .un
 | .hz _=>.un
noncomputable def subS (i j:Nat) (us ws':List W) (ρ:Rho):Rho:=(ρ.map clS).set i (.val (.tup (us.set j (.lst ws'))))
end
section
variable {X:Cx} {K:Frag} {EX:EXT} {d:Mode} {e:Expr} {pos:Pos} {ma:Rho→R W} {m n:Rho→R Fl} {ta:Rho→R Bool} {st:Stmt} {sts:List Stmt}
end
end TP
namespace TP
open PySem L2
set_option maxHeartbeats 2000000
section
variable {X:Cx} {K:Frag}
end
section
variable {K:Frag}
end
end TP
namespace TP
open PySem L2
noncomputable def Hx (p:Addr) (H0 H1:Hp):Prop:=(∀ a,a≠p→H1 a=H0 a)∧∃ vs,H1 p=some (.lst vs)
noncomputable def OutIo (K:Frag) (EX:EXT) (p:Addr) (H0:Hp) (r:R Fl) (D:Ends):Prop:=match r with
 | .ok (.nx ρ)=>∀ H0' G' σ' H',Hx p H0 H0'→PIv K H0' G' ρ σ' H'→D.nx σ' H'
 | .ok (.bk ρ)=>∀ H0' G' σ' H',Hx p H0 H0'→PIv K H0' G' ρ σ' H'→D.rt .non H'
 | .ex e=>∀ H',EX e H'
 | _=>False
noncomputable def tStI (K:Frag) (EX:EXT) (p:Addr) (m:Rho→R Fl):TS:=fun D σ H=>∃ H0 G ρ,PIv K H0 G ρ σ H∧(∃ vs,H0 p=some (.lst vs))∧OutIo K EX p H0 (m ρ) D
noncomputable def nbR:R Fl→R Fl
 | .ok (.nx ρ)=>.ok (.nx ρ)
 | .ex e=>.ex e
 | _=>.stuck
noncomputable def nb (m:Rho→R Fl):Rho→R Fl:=fun ρ=>nbR (m ρ)
section
variable {K:Frag} {EX:EXT} {H0 H0' G H G1 H1 G2 H2:Hp} {ρ:Rho} {σ:St} {d:Mode} {D:Ends} {p:Addr}
theorem Hx.refl (h:∃ vs,H0 p=some (.lst vs)):Hx p H0 H0:=⟨fun _ _=>rfl,h⟩
theorem Hx.trans {A B C:Hp} (h:Hx p A B) (g:Hx p B C):Hx p A C:=⟨fun a q=>(g.1 a q).trans (h.1 a q),g.2⟩
theorem OutIo.move {r:R Fl} (s:Hx p H0 H0') (o:OutIo K EX p H0 r D):OutIo K EX p H0' r D:=by
 cases r with
 | stuck=>exact o
 | ex e=>exact o
 | ok f=>
  cases f with
  | nx ρ'=>exact fun A G' σ' H' h I'=>o A G' σ' H' (s.trans h) I'
  | bk ρ'=>exact fun A G' σ' H' h I'=>o A G' σ' H' (s.trans h) I'
  | ct ρ'=>exact o
  | rt w=>exact o
theorem OutIo.bind {α β:Type} {md:α→β→Hp→Hp→Prop} {m:R α} {k:α→R Fl} {Q1:β→Hp→Prop} (o:OutIo K EX p H0 (m>>=k) D)
  (h:∀ x G1 H1 w,Ext G H G1 H1→md w x G1 H1→OutIo K EX p H0 (k w) D→Q1 x H1):Out EX G H md m Q1:=by
 cases m with
 | ok w=>exact fun v G' H' e q=>h v G' H' w e q o
 | ex e=>exact fun H' _=>o H'
 | stuck=>exact o
theorem tStI.toS {m:Rho→R Fl} (h:tStI K EX p (nb m) D σ H):tSt K EX d m D σ H:=by
 obtain ⟨H0,G,ρ,I,hp,o⟩:=h
 refine ⟨H0,G,ρ,I,?_⟩
 unfold nb at o
 revert o
 cases m ρ with
 | stuck=>exact id
 | ex e=>exact fun o H' _=>o H'
 | ok f=>
  cases f with
  | nx ρ'=>exact fun o G' σ' H' _ I'=>o H0 G' σ' H' (Hx.refl hp) I'
  | bk ρ'=>exact fun o=>o.elim
  | ct ρ'=>exact fun o=>o.elim
  | rt w=>exact fun o=>o.elim
theorem AV {m n:Rho→R Fl} (h:tStI K EX p (c6 m n) D σ H):ph (tStI K EX p m) (tStI K EX p n) D σ H:=by
 obtain ⟨H0,G,ρ,I,hp,o⟩:=h
 refine ⟨H0,G,ρ,I,hp,?_⟩
 unfold c6 at o
 revert o
 cases m ρ with
 | stuck=>exact id
 | ex e=>exact id
 | ok f=>
  cases f with
  | nx ρ'=>exact fun o A G' σ' H' s I'=>⟨A,G',ρ',I',s.2,OutIo.move s o⟩
  | _=>exact id
theorem CC {c:Rho→R Bool} {m n:Rho→R Fl} (h:tStI K EX p (mIf c m n) D σ H):pi (tT K EX c) (tStI K EX p m) (tStI K EX p n) D σ H:=by
 obtain ⟨H0,G,ρ,I,hp,o⟩:=h
 refine ⟨H0,G,ρ,I,OutIo.bind o fun x G1 H1 w e1 m1 o1=>?_⟩
 cases m1
 cases x with
 | true=>exact ⟨H0,G1,ρ,I.ext e1,hp,o1⟩
 | false=>exact ⟨H0,G1,ρ,I.ext e1,hp,o1⟩
noncomputable def kJ:Rho→R Fl:=fun ρ=>.ok (.bk ρ)
theorem AX (h:tStI K EX p kJ D σ H):tRetN D σ H:=by
 obtain ⟨H0,G,ρ,I,hp,o⟩:=h
 exact o H0 G σ H (Hx.refl hp) I
noncomputable def clI:Sl→Sl
 | .un=>.un
 | .val w=>.val w
 | .par w=>if noL w=true then .val w else .un
 | .own ws=>.own ws
 | .dic ks=>.dic ks
 | .dik ks=>.dik ks
 | .iop _ _=>.un
 | .hz _=>.un
theorem wj {s:Sl} {ws:List W} (h:clI s=.own ws):s=.own ws:=by
 cases s with
 | un=>cases h
 | val w=>cases h
 | par w=>
  by_cases c:noL w=true
  ·rw [clI,if_pos c] at h; cases h
  ·rw [clI,if_neg c] at h; cases h
 | own us=>exact h
 | dic ks=>cases h
 | dik ks=>cases h
 | iop q us=>cases h
 | hz _=>cases h
noncomputable def appI (i:Nat) (p:Addr) (ws:List W) (ρ:Rho):Rho:=(ρ.map clI).set i (.iop p ws)
theorem PIv.appI {i:Nat} {ws:List W} {vs vs':List V} (I:PIv K H0 G ρ σ H) (hi:i<ρ.length) (es:σ[i]?=some (some (.ref p))) (hp:H0 p=some (.lst vs)) (rv:Reps K G vs' ws):PIv K (upd H0 p (.lst vs')) G (appI i p ws ρ) σ (upd H p (.lst vs')):=by
 have gp:G p=none:=I.gl p _ hp rfl
 refine ⟨fun b o hb hl=>?_,fun b o hb hl=>?_,fun b o hb=>?_,fun b o hb=>?_,?_,fun k x o h1 h2=>?_,fun x y u1 u2 c hab h1 h2 h3 h4=>?_⟩
 ·by_cases q:b=p
  ·subst q; rw [S6] at hb; cases hb; cases hl
  ·rw [c7 q] at hb; exact I.g0 b o hb hl
 ·by_cases q:b=p
  ·subst q; exact gp
  ·rw [c7 q] at hb; exact I.gl b o hb hl
 ·have q:b≠p:=by rintro rfl; rw [gp] at hb; cases hb
  rw [c7 q]; exact I.gh b o hb
 ·by_cases q:b=p
  ·subst q; rw [S6] at hb ⊢; exact hb
  ·rw [c7 q] at hb ⊢; exact I.hh b o hb
 ·unfold TP.appI; rw [List.length_set,List.length_map]; exact I.len
 ·unfold TP.appI at h1
  by_cases q:i=k
  ·subst q
   rw [List.getElem?_set_self (by rw [List.length_map]; exact hi)] at h1
   cases h1
   rw [es] at h2; cases h2
   exact ⟨rfl,vs',S6,rv⟩
  ·rw [List.getElem?_set_ne q,List.getElem?_map] at h1
   obtain ⟨s,hs,rfl⟩:=Option.map_eq_some_iff.mp h1
   have old:=I.sl k s o hs h2
   cases s with
   | un=>trivial
   | val w=>exact old
   | par w=>
    rw [clI]
    by_cases c:noL w=true
    ·rw [if_pos c]
     obtain ⟨v,ev,r⟩:=old
     exact ⟨v,ev,Rep.clean I r c⟩
    ·rw [if_neg c]; trivial
   | own ws=>
    obtain ⟨b,us',eb,hb,hgb,h0b,rb⟩:=old
    have hbl:b≠p:=by rintro rfl; rw [hp] at h0b; cases h0b
    exact ⟨b,us',eb,by rw [c7 hbl]; exact hb,hgb,by rw [c7 hbl]; exact h0b,rb⟩
   | dic ks=>
    obtain ⟨b,us',eb,hb,hgb,h0b,rb⟩:=old
    have hbl:b≠p:=by rintro rfl; rw [hp] at h0b; cases h0b
    exact ⟨b,us',eb,by rw [c7 hbl]; exact hb,hgb,by rw [c7 hbl]; exact h0b,rb⟩
   | dik ks=>
    obtain ⟨b,us',eb,hb,hgb,h0b,rb⟩:=old
    have hbl:b≠p:=by rintro rfl; rw [hp] at h0b; cases h0b
    exact ⟨b,us',eb,by rw [c7 hbl]; exact hb,hgb,by rw [c7 hbl]; exact h0b,rb⟩
   | iop q us=>trivial
   | hz _=>trivial
 ·have key:∀ {k:Nat} {u:List W},(TP.appI i p ws ρ)[k]?=some (.own u)→ρ[k]?=some (.own u):=fun {k u} hk=>by
   unfold TP.appI at hk
   by_cases q:i=k
   ·subst q
    rw [List.getElem?_set_self (by rw [List.length_map]; exact hi)] at hk
    cases hk
   ·rw [List.getElem?_set_ne q,List.getElem?_map] at hk
    obtain ⟨s,hs,h⟩:=Option.map_eq_some_iff.mp hk
    rw [hs,wj h]
  exact I.ne x y u1 u2 c hab (key h1) (key h2) h3 h4
noncomputable def cF (p:Addr) (i:Nat) (m:Rho→R W):Rho→R Fl:=fun ρ=>match ρ[i]? with
 | some (.iop q ws)=>m ρ>>=fun w=>if q=p∧ws.length<1000 then .ok (.nx (appI i p (ws ++ [w]) ρ)) else .stuck
 | _=>.stuck
theorem Be {i:Nat} {m:Rho→R W} (h:tStI K EX p (cF p i m) D σ H):dB (pj (ac i) (tM K EX .V m)) D σ H:=by
 obtain ⟨H0,G,ρ,I,hp,o⟩:=h
 unfold cF at o
 split at o
 ·rename_i q ws e
  have hi:=(List.getElem?_eq_some_iff.mp e).1
  have hs:i<σ.length:=by rw [← I.len]; exact hi
  have es:σ[i]?=some σ[i]:=by simp
  obtain ⟨ev,vs,h0,r⟩:=I.sl i _ _ e es
  have hq:=I.hh q _ h0
  refine ⟨.ref q,by rw [es,ev],q,rfl,⟨vs,hq⟩,H0,G,ρ,I,OutIo.bind o fun x G1 H1 w e1 m1 o1=>?_⟩
  by_cases hl:q=p∧ws.length<1000
  ·rw [if_pos hl] at o1
   obtain ⟨rfl,hl⟩:=hl
   have h1:=e1.hh q _ hq
   dsimp only
   rw [h1]
   dsimp only
   have hlen:vs.length=ws.length:=r.length
   exact ⟨Nat.lt_of_lt_of_le (by omega:vs.length<1000) (by decide),o1 _ G1 σ _ ⟨fun a ha=>c7 ha,_,S6⟩ ((I.ext e1).appI hi (by rw [es,ev]) h0 ((r.same e1.gg).snoc m1))⟩
  ·rw [if_neg hl] at o1; exact o1.elim
 ·exact o.elim
noncomputable def ioR (p:Addr) (ρ:Rho):R (List W):=match (ρ[1]?:Option Sl) with
 | some (.iop q cs)=>if q=p then .ok cs else .stuck
 | _=>.stuck
noncomputable def Y8 (n N:Nat) (m:Addr→Rho→R Fl) (p:Addr) (w1:W) (cs wr:List W):R (List W):=if wr.length+2=n∧l9 cs=true then (match m p (.par w1::.iop p cs::(wr.map Sl.par++List.replicate (N-n) Sl.un)) with
 | .ok (.nx ρ)=>ioR p ρ
 | .ok (.bk ρ)=>ioR p ρ
 | _=>.stuck) else .stuck
open Classical in
noncomputable def J1 (n N:Nat) (m:Addr→Rho→R Fl) (w1:W) (cs wr:List W):R (List W):=if h:∃ cs',∀ p,Y8 n N m p w1 cs wr=.ok cs' then .ok (Classical.choose h) else .stuck
theorem cK {n N:Nat} {m:Addr→Rho→R Fl} {w1:W} {cs wr cs':List W} (h:J1 n N m w1 cs wr=.ok cs') (p:Addr):Y8 n N m p w1 cs wr=.ok cs':=by
 unfold J1 at h
 split at h
 ·rename_i q
  cases h
  exact Classical.choose_spec q p
 ·cases h
theorem ng {n N:Nat} {m:Addr→Rho→R Fl} {w1:W} {cs wr cs':List W} (h:∀ p,Y8 n N m p w1 cs wr=.ok cs'):J1 n N m w1 cs wr=.ok cs':=by
 have hx:∃ cs',∀ p,Y8 n N m p w1 cs wr=.ok cs':=⟨cs',h⟩
 unfold J1
 rw [dif_pos hx]
 have:=Classical.choose_spec hx (0:Nat)
 rw [h] at this
 cases this
 rfl
theorem nh {n N:Nat} {m:Addr→Rho→R Fl} {w1:W} {cs wr:List W}:J1 n N m w1 cs wr=.stuck∨∃ cs',J1 n N m w1 cs wr=.ok cs':=by
 unfold J1
 split
 ·exact .inr ⟨_,rfl⟩
 ·exact .inl rfl
theorem fG {n N:Nat} {m:Addr→Rho→R Fl} {p:Addr} {w1:W} {cs wr cs':List W} (h:Y8 n N m p w1 cs wr=.ok cs'):wr.length+2=n∧l9 cs=true:=by
 unfold Y8 at h
 by_cases e:wr.length+2=n∧l9 cs=true
 ·exact e
 ·rw [if_neg e] at h; cases h
noncomputable def cT (K:Frag) (n:Nat) (f:W→List W→List W→R (List W)):Sp:=fun vs H Q _=>vs.length=n∧∃ v1 p vr w1 cs wr us cs',vs=v1::.ref p::vr∧H p=some (.lst us)∧Rep K H v1 w1∧Reps K H vr wr∧Reps K H us cs∧f w1 cs wr=.ok cs' ∧
 ∀ H' us' G',(∀ a o,a≠p→H a=some o→H' a=some o)→H' p=some (.lst us')→Same G' H'→(∀ a o,H a=some o→isL o=true→G' a=none)→Reps K G' us' cs'→Q .non H'
theorem PIv.toIop {i:Nat} {cs:List W} {us:List V} (I:PIv K H0 G ρ σ H) (hi:i<ρ.length) (es:σ[i]?=some (some (.ref p))) (hp:H0 p=some (.lst us)) (r:Reps K G us cs):PIv K H0 G (ρ.set i (.iop p cs)) σ H:=by
 refine ⟨I.g0,I.gl,I.gh,I.hh,by rw [List.length_set]; exact I.len,fun k x o h1 h2=>?_,fun x y u1 u2 c hab h1 h2 h3 h4=>?_⟩
 ·by_cases q:i=k
  ·subst q
   rw [List.getElem?_set_self hi] at h1
   cases h1
   rw [es] at h2; cases h2
   exact ⟨rfl,us,hp,r⟩
  ·rw [List.getElem?_set_ne q] at h1
   exact I.sl k x o h1 h2
 ·have key:∀ {k:Nat} {u:List W},(ρ.set i (.iop p cs))[k]?=some (.own u)→ρ[k]?=some (.own u):=fun {k u} hk=>by
   by_cases q:i=k
   ·subst q
    rw [List.getElem?_set_self hi] at hk
    cases hk
   ·rw [List.getElem?_set_ne q] at hk; exact hk
  exact I.ne x y u1 u2 c hab (key h1) (key h2) h3 h4
theorem wx {n:Nat} {Nl:List Str} {m:Addr→Rho→R Fl} {vs:List V} {Q:VK} {E:XK} (h:cT K n (J1 n Nl.length m) vs H Q E):∃ p,tStI K (fun _ _=>False) p (m p) { nx:=fun _ H'=>Q .non H',rt:=Q } (L2.start Nl vs) H:=by
 obtain ⟨hl,v1,p,vr,w1,cs,wr,us,cs',rfl,hp,r1,rr,ru,hf,hq⟩:=h
 have hrun:=cK hf p
 obtain ⟨hn,hnl⟩:=fG hrun
 have ra:Reps K H (v1::.ref p::vr) (w1::.lst cs::wr):=.cons r1 (.cons (.lst hp ru) rr)
 have I0:=PIv.begin (k:=Nl.length-n) (k':=Nl.length-n) ra rfl
 have ru':Reps K (bc H) us cs:=Reps.clean I0 (by rw [fS]; exact ru) hnl
 have I1:=I0.toIop (i:=1) (p:=p) (cs:=cs) (us:=us) (by simp) rfl hp ru'
 refine ⟨p,H,bc H,Sl.par w1::.iop p cs::(wr.map Sl.par++List.replicate (Nl.length-n) Sl.un),?_,⟨us,hp⟩,?_⟩
 ·have e:L2.start Nl (v1::.ref p::vr)=((v1::.ref p::vr).map some++List.replicate (Nl.length-n) none):=by unfold L2.start; rw [hl]
  rw [e]
  exact I1
 ·unfold Y8 at hrun
  rw [if_pos ⟨hn,hnl⟩] at hrun
  have fin:∀ ρ,ioR p ρ=.ok cs'→∀ H0' G' σ' H',Hx p H H0'→PIv K H0' G' ρ σ' H'→Q .non H':=fun ρ hr H0' G' σ' H' hx I'=>by
   unfold ioR at hr
   split at hr
   ·rename_i q cs2 e2
    by_cases e3:q=p
    ·rw [if_pos e3] at hr
     cases hr
     subst e3
     have hi:1<σ'.length:=by rw [← I'.len]; exact (List.getElem?_eq_some_iff.mp e2).1
     obtain ⟨_,us',h0',r'⟩:=I'.sl 1 _ _ e2 (show σ'[1]?=some σ'[1] by simp)
     refine hq H' us' G' (fun a o ha hb=>I'.hh a o (by rw [hx.1 a ha]; exact hb)) (I'.hh _ _ h0') I'.gh (fun a o hb hl=>?_) r'
     by_cases e4:a=q
     ·subst e4; exact I'.gl a _ h0' rfl
     ·exact I'.gl a o (by rw [hx.1 a e4]; exact hb) hl
    ·rw [if_neg e3] at hr; cases hr
   ·cases hr
  revert hrun
  cases m p (.par w1::.iop p cs::(wr.map Sl.par++List.replicate (Nl.length-n) Sl.un)) with
  | stuck=>exact fun h=>nomatch h
  | ex e=>exact fun h=>nomatch h
  | ok f=>
   cases f with
   | nx ρ'=>exact fun h H0' G' σ' H' hx I'=>fin ρ' h H0' G' σ' H' hx I'
   | bk ρ'=>exact fun h H0' G' σ' H' hx I'=>fin ρ' h H0' G' σ' H' hx I'
   | ct ρ'=>exact fun h=>nomatch h
   | rt w=>exact fun h=>nomatch h
noncomputable def mIO (i:Nat) (f:W→List W→List W→R (List W)) (m1:Rho→R W) (mr:Rho→R (List W)):Rho→R Fl:=fun ρ=>match ρ[i]? with
 | some (.own cs)=>m1 ρ>>=fun w1=>mr ρ>>=fun wr=>f w1 cs wr>>=fun cs'=>.ok (.nx (ρ.set i (.own cs')))
 | _=>.stuck
theorem ww {i n:Nat} {f:W→List W→List W→R (List W)} {E:XK} {m1:Rho→R W} {mr:Rho→R (List W)} (hf:∀ w1 cs wr,f w1 cs wr=.stuck∨∃ cs',f w1 cs wr=.ok cs'∧wr.length+2=n) (h:tSt K EX d (mIO i f m1 mr) D σ H) :
  dB (kB (cT K n f) [] E (aS (tM K EX .B m1) (aS (ac i) (tA K EX .B mr)))) D σ H:=by
 obtain ⟨H0,G,ρ,I,o⟩:=h
 unfold mIO at o
 split at o
 ·rename_i cs e
  obtain ⟨a,vs,es,ha,hg,h0,r⟩:=I.own_at e
  refine ⟨H0,G,ρ,I,OutS.bind I o fun x G1 H1 w1 e1 m1 o1=>⟨.ref a,es,H0,G1,ρ,I.ext e1,OutS.bind (I.ext e1) o1 fun xs G2 H2 wr e2 m2 o2=>?_⟩⟩
  have I2:=(I.ext e1).ext e2
  rcases hf w1 cs wr with hs | ⟨cs',hs,hn⟩
  ·rw [hs] at o2; exact o2.elim
  rw [hs,R.ok_bind] at o2
  have rx:=MdA.whole I2 m2
  have ha2:H2 a=some (.lst vs):=e2.hh _ _ (e1.hh _ _ ha)
  have g2a:G2 a=none:=e2.keep _ _ (e1.hh _ _ ha) rfl (e1.keep _ _ ha rfl hg)
  have r2:Reps K G2 vs cs:=(r.same e1.gg).same e2.gg
  show cT K n f ((x::.ref a::xs) ++ []) H2 (fun _ H1=>D.nx σ H1) E
  rw [List.append_nil]
  refine ⟨?_,x,a,xs,w1,cs,wr,vs,cs',rfl,ha2,(m1.move e2).whole I2,rx,r2.same I2.gh,hs,fun H' us' G' k1 k2 gH cl rr=>?_⟩
  ·rw [List.length_cons,List.length_cons,rx.length]; exact hn
  have ga':G' a=none:=cl a _ ha2 rfl
  have hk:∀ b o,G2 b=some o→H' b=some o:=fun b o q=>k1 b o (by rintro rfl; rw [g2a] at q; cases q) (I2.gh b o q)
  have sB:Same G2 (both G2 G'):=fun b o q=>by unfold both; rw [q]
  have sB':Same G' (both G2 G'):=fun b o q=>by
   unfold both
   cases q1:G2 b with
   | none=>exact q
   | some u=>
    have a1:=hk b u q1
    rw [gH b o q] at a1
    exact a1.symm
  have sHB:Same (both G2 G') H':=fun b o q=>by
   unfold both at q
   cases q1:G2 b with
   | none=>rw [q1] at q; exact gH b o q
   | some u=>rw [q1] at q; cases q; exact hk b _ q1
  have bn:∀ b o,H2 b=some o→isL o=true→G2 b=none→both G2 G' b=none:=fun b o q l g=>by unfold both; rw [g]; exact cl b o q l
  have hi:=(List.getElem?_eq_some_iff.mp e).1
  refine o2 (both G2 G') σ H' sB ⟨fun b o q l=>sB b o (I2.g0 b o q l),fun b o q l=>bn b o (I2.hh b o q) l (I2.gl b o q l),sHB,fun b o q=>k1 b o (by rintro rfl; rw [h0] at q; cases q) (I2.hh b o q),by rw [List.length_set]; exact I2.len,fun k y o h1 h2=>?_,fun x1 y1 u1 u2 c hab h1 h2 h3 h4=>?_⟩
  ·by_cases q:i=k
   ·subst q
    rw [List.getElem?_set_self hi] at h1
    cases h1
    rw [es] at h2; cases h2
    exact ⟨a,us',rfl,k2,bn a _ ha2 rfl g2a,h0,rr.same sB'⟩
   ·rw [List.getElem?_set_ne q] at h1
    have old:=I2.sl k y o h1 h2
    cases y with
    | un=>trivial
    | val w=>obtain ⟨v,ev,r⟩:=old; exact ⟨v,ev,r.same sB⟩
    | par w=>obtain ⟨v,ev,r⟩:=old; exact ⟨v,ev,r.same (t4 sB)⟩
    | own ws=>
     obtain ⟨b,us2,eb,hb,hgb,h0b,rb⟩:=old
     subst eb
     have hba:b≠a:=by
      rintro rfl
      exact I.ne i k cs ws b q e h1 es h2
     exact ⟨b,us2,rfl,k1 b _ hba hb,bn b _ hb rfl hgb,h0b,rb.same sB⟩
    | dic ks=>
     obtain ⟨b,us2,eb,hb,hgb,h0b,rb⟩:=old
     have hba:b≠a:=by
      rintro rfl
      rw [ha2] at hb; cases hb
     exact ⟨b,us2,eb,k1 b _ hba hb,bn b _ hb rfl hgb,h0b,rb⟩
    | dik ks=>
     obtain ⟨b,us2,eb,hb,hgb,h0b,rb⟩:=old
     have hba:b≠a:=by
      rintro rfl
      rw [ha2] at hb; cases hb
     exact ⟨b,us2,eb,k1 b _ hba hb,bn b _ hb rfl hgb,h0b,rb⟩
    | iop q us=>obtain ⟨ev,vs1,h1',r1⟩:=old; exact ⟨ev,vs1,h1',r1.same sB⟩
    | hz w=>obtain ⟨v,ev,r⟩:=old; exact ⟨v,ev,r.same (t4 (Z4 sB))⟩
  ·have key:∀ {k:Nat} {u:List W},(ρ.set i (.own cs'))[k]?=some (.own u)→∃ u',ρ[k]?=some (.own u'):=fun {k u} hk=>by
    by_cases q:i=k
    ·subst q; exact ⟨cs,e⟩
    ·rw [List.getElem?_set_ne q] at hk; exact ⟨u,hk⟩
   obtain ⟨v1,k1'⟩:=key h1
   obtain ⟨v2,k2'⟩:=key h2
   exact I.ne x1 y1 v1 v2 c hab k1' k2' h3 h4
 ·exact o.elim
end
section
variable {X:Cx} {K:Frag} {EX:EXT} {d:Mode} {e:Expr} {es:List Expr} {pos:Pos} {ma:Rho→R W} {m n:Rho→R Fl} {ta:Rho→R Bool} {st:Stmt} {sts:List Stmt} {p:Addr} {mr:Rho→R (List W)}
theorem q_i (h:PS X st (tSt K EX d m)):PS X st (tStI K EX p (nb m)):=h.mono fun _ _ _ q=>q.toS
theorem yo (h:PSs X sts (tSt K EX d m)):PSs X sts (tStI K EX p (nb m)):=h.mono fun _ _ _ q=>q.toS
theorem cA (h1:PS X st (tStI K EX p m)) (h2:PSs X sts (tStI K EX p n)):PSs X (st::sts) (tStI K EX p (c6 m n)):=(ic h1 h2).mono fun _ _ _ q=>AV q
theorem eQ (h1:PS X st (tStI K EX p m)):PSs X [st] (tStI K EX p m):=jE h1
theorem sD {c:Expr} {x y:List Stmt} (hc:PT X c (tT K EX ta)) (ha:PSs X x (tStI K EX p m)) (hb:PSs X y (tStI K EX p n)):PS X (.If c x y pos) (tStI K EX p (mIf ta m n)):=(sK hc ha hb).mono fun _ _ _ q=>CC q
theorem ym:PS X (.Return none pos) (tStI K EX p kJ):=ps_retN.mono fun _ _ _ q=>AX q
theorem yu {i:Nat} {x:Str} {p1 apos cpos:Pos} (hN:X.N[i]?=some x) (hv:Vis X.env.scope x) (ha:PE X e (tM K EX .V ma)) (hd:autoParam ((x == ("__debug__" : Str))=false) au1._auto_1) (hcd:autoParam ((x == ("__classdict__" : Str))=false) au1._auto_1)
  (hbase:autoParam (attributeBase (.Name x p1) "append" X.env (eval (.Name x p1) X.env)=eval (.Name x p1) X.env) au0._auto_1)
  (hfew:autoParam (((backTo cpos (starEach [e] X.env)).all (fun x=>!x.1)&&(backToKw cpos (keywordEach [] X.env)).all (fun x=>x.1.isSome)
   && decide (([e]:List Expr).length+([]:List Keyword).length+(if ([]:List Keyword).isEmpty then 0 else 1)<30))=true) au0._auto_1)
  (hline:autoParam ((apos.endLine == cpos.line)=true) au0._auto_1) (hs:autoParam (starEach [e] X.env=(false,eval e X.env)::starEach [] X.env) au0._auto_1) (hsw:autoParam (swapsWith (.Call (.Attribute (.Name x p1) "append" apos) [e] [] cpos) none pos.line X.env=pure false) au0._auto_1) :
  PS X (.Expr (.Call (.Attribute (.Name x p1) "append" apos) [e] [] cpos) pos) (tStI K EX p (cF p i ma)):=(cB (fK (X3 hN hv hd hcd) ha hbase hfew hline hs) hsw).mono fun _ _ _ q=>Be q
theorem uu {i k:Nat} {y:Str} {p1 p2 cpos:Pos} {f:Addr} {fd:FuncData} {ps:List Str} {x:Str} {n N:Nat} {m:Addr→Rho→R Fl} (hN:X.N[i]?=some y) (hv:Vis X.env.scope y)
  (F:FnOk X.prog X.w X.K X.mg X.base CX0 k f fd ps (cT K n (J1 n N m))) (hr:Room k X.A) (hg:Gl X x) (hm:X.mg x=some (.ref f)) (hk:PySem.W.keepIn X.K (.ref f)=true) (hb:Binds X.K fd ps [])
  (h1:PE X e (tM K (fun _ _=>False) .B ma)) (h2:PA X es (tA K (fun _ _=>False) .B mr)) (hd:autoParam ((y == ("__debug__" : Str))=false) au1._auto_1) (hcd:autoParam ((y == ("__classdict__" : Str))=false) au1._auto_1)
  (hdb:autoParam ((x == ("__debug__" : Str))=false) au1._auto_1) (he:autoParam (starEach (e::.Name y p2::es) X.env=(false,eval e X.env)::starEach (.Name y p2::es) X.env) au0._auto_1) (he2:autoParam (starEach (.Name y p2::es) X.env=(false,eval (.Name y p2) X.env)::starEach es X.env) au0._auto_1) (hpl:autoParam ((backTo cpos (starEach (.Name y p2::es) X.env)).any (·.1)=false) au0._auto_1)
  (hsw:autoParam (swapsWith (.Call (.Name x p1) (e::.Name y p2::es) [] cpos) none pos.line X.env=pure false) au0._auto_1) :
  PS X (.Expr (.Call (.Name x p1) (e::.Name y p2::es) [] cpos) pos) (tSt K (fun _ _=>False) d (mIO i (J1 n N m) ma mr)):=
 (cB (jI F hr hg hm hk hb .nil kY (cD h1 (cD (X3 hN hv hd hcd) h2 he2) he) hdb he hpl) hsw).mono fun _ _ _ q=>ww (fun w1 cs wr=>by
  rcases nh (n:=n) (N:=N) (m:=m) (w1:=w1) (cs:=cs) (wr:=wr) with h | ⟨cs',h⟩
  ·exact .inl h
  ·exact .inr ⟨cs',h,(fG (cK h (0:Nat))).1⟩) q
end
end TP
namespace TP
open PySem L2
section
variable {K:Frag} {EX:EXT} {H0 G H:Hp} {ρ:Rho} {σ:St}
end
section
variable {X:Cx} {K:Frag} {e:Expr} {es:List Expr} {pos:Pos} {mr:Rho→R (List W)}
end
end TP
namespace TP
open PySem L2
section
variable {X:Cx}
end
section
variable {K:Frag} {EX:EXT} {H0 G H:Hp} {ρ:Rho} {σ:St} {d:Mode} {D:Ends}
end
section
variable {X:Cx} {K:Frag} {EX:EXT} {d:Mode} {e:Expr} {pos:Pos} {ma:Rho→R W}
end
end TP
namespace TP
open PySem L2
noncomputable def r8:List (List Int)→List (List Int)→Bool
 | [],[]=>false
 | [],_::_=>true
 | _::_,[]=>false
 | a::as,b::bs=>if a=b then r8 as bs else lexLt a b
theorem iD:∀ a,r8 a a=false
 | []=>rfl
 | x::a=>by unfold r8; rw [if_pos rfl]; exact iD a
theorem fk:∀ a b c,r8 a b=true→r8 b c=true→r8 a c=true
 | [],[],_,h,_=>by cases h
 | [],_::_,[],_,h=>by cases h
 | [],_::_,_::_,_,_=>rfl
 | _::_,[],_,h,_=>by cases h
 | _::_,_::_,[],_,h=>by cases h
 | x::a,y::b,z::c,h1,h2=>by
  unfold r8 at h1 h2 ⊢
  by_cases e1:x=y
  ·subst e1
   rw [if_pos rfl] at h1
   by_cases e2:x=z
   ·subst e2; rw [if_pos rfl] at h2 ⊢; exact fk a b c h1 h2
   ·rw [if_neg e2] at h2 ⊢; exact h2
  ·rw [if_neg e1] at h1
   by_cases e2:y=z
   ·subst e2; rw [if_neg e1]; exact h1
   ·rw [if_neg e2] at h2
    have h3:=nP _ _ _ h1 h2
    by_cases e3:x=z
    ·subst e3; rw [jQ] at h3; cases h3
    ·rw [if_neg e3]; exact h3
theorem bo:∀ a b,r8 a b=false→r8 b a=false→a=b
 | [],[],_,_=>rfl
 | [],_::_,h,_=>by cases h
 | _::_,[],_,h=>by cases h
 | x::a,y::b,h1,h2=>by
  unfold r8 at h1 h2
  by_cases e:x=y
  ·subst e
   rw [if_pos rfl] at h1 h2
   rw [bo a b h1 h2]
  ·rw [if_neg e] at h1
   rw [if_neg (fun z=>e z.symm)] at h2
   exact absurd (jP _ _ h1 h2) e
noncomputable def M8 (ss:List (List (List Int))) (i:Nat):Int:=((ss.countP fun x=>r8 x (ss.getD i [])):Nat)
theorem og {ss:List (List (List Int))} {i:Nat} (h:i<ss.length):ss.getD i []∈ss:=by
 rw [List.getD_eq_getElem?_getD]; simp [h]
theorem gZ {ss:List (List (List Int))} {i j:Nat} (hi:i<ss.length) (hj:j<ss.length):decide (M8 ss i<M8 ss j)=r8 (ss.getD i []) (ss.getD j []):=by
 cases h:r8 (ss.getD i []) (ss.getD j []) with
 | true=>
  apply decide_eq_true
  unfold M8
  have:=AE (l:=ss) (p:=fun x=>r8 x (ss.getD i [])) (q:=fun x=>r8 x (ss.getD j [])) (fun x _ hx=>fk _ _ _ hx h) ⟨_,og hi,h,iD _⟩
  omega
 | false=>
  apply decide_eq_false
  unfold M8
  have:ss.countP (fun x=>r8 x (ss.getD j []))≤ss.countP fun x=>r8 x (ss.getD i []):=by
   apply List.countP_mono_left
   intro x _ hx
   cases h2:r8 (ss.getD j []) (ss.getD i []) with
   | true=>exact fk _ _ _ hx h2
   | false=>rw [bo _ _ h h2]; exact hx
  omega
noncomputable def R0 (ss:List (List (List Int))):List Nat:=if ss.length<2 then List.range ss.length else (runK (M8 ss) (PySem.W.kas_sort ss.length)).toList
theorem O2 (ss:List (List (List Int))):(R0 ss).Perm (List.range ss.length):=by
 unfold R0
 split
 ·exact .refl _
 ·rename_i h
  have:=(jt (M8 ss) (n:=ss.length) (by omega)).1
  exact (Array.perm_iff_toList_perm.mp this).trans (by simp)
theorem uK (ss:List (List (List Int))):(R0 ss).Pairwise fun i j=>r8 (ss.getD j []) (ss.getD i [])=false:=by
 unfold R0
 split
 ·rename_i h
  have:ss.length=0∨ss.length=1:=by omega
  rcases this with e | e <;> rw [e] <;> simp
 ·rename_i h
  have k:=jt (M8 ss) (n:=ss.length) (by omega)
  have hp:=Array.perm_iff_toList_perm.mp k.1
  have hl:(runK (M8 ss) (PySem.W.kas_sort ss.length)).toList.length=ss.length:=by have:=hp.length_eq; simpa using this
  have hm:∀ x∈(runK (M8 ss) (PySem.W.kas_sort ss.length)).toList,x<ss.length:=fun x hx=>by have:=hp.mem_iff.mp hx; simpa using this
  have hu:=bH (M8 ss) k.2
  generalize runK (M8 ss) (PySem.W.kas_sort ss.length)=p at hl hm hu
  rw [List.pairwise_iff_getElem]
  intro i j hi hj hij
  have:=hu j i (by omega) (by omega)
  unfold ky at this
  have ei:p.getD i 0=p.toList[i]:=by rw [Array.getD_eq_getD_getElem?]; simp at hi ⊢; simp [hi]
  have ej:p.getD j 0=p.toList[j]:=by rw [Array.getD_eq_getD_getElem?]; simp at hj ⊢; simp [hj]
  rw [ei,ej] at this
  rw [← gZ (hm _ (List.getElem_mem hj)) (hm _ (List.getElem_mem hi))]
  exact decide_eq_false (by omega)
noncomputable def u9 {α:Type} (ks:List (List (List Int))) (d:α) (vs:List α):List α:=((R0 ks.reverse).map fun i=>vs.reverse.getD i d).reverse
theorem ik {α:Type} (ks:List (List (List Int))) (d:α) (vs:List α):(u9 ks d vs).length=ks.length:=by
 unfold u9
 rw [List.length_reverse,List.length_map,(O2 ks.reverse).length_eq,List.length_range,List.length_reverse]
theorem fH {α:Type} (d:α) (vs:List α):(List.range vs.length).map (fun i=>vs.getD i d)=vs:=by
 apply List.ext_getElem
 ·simp
 ·intro i h1 h2; simp [h2]
theorem nB {α:Type} {ks:List (List (List Int))} {d:α} {vs:List α} (hl:vs.length=ks.length):(u9 ks d vs).Perm vs:=by
 unfold u9
 refine (List.reverse_perm _).trans ?_
 have:=(O2 ks.reverse).map fun i=>vs.reverse.getD i d
 rw [show ks.reverse.length=vs.reverse.length by rw [List.length_reverse,List.length_reverse,hl],fH] at this
 exact this.trans (List.reverse_perm _)
noncomputable def dr (fin:Bool):List (List Int×List Int)→Bool
 | []=>fin
 | (a,b)::r=>if a=b then dr fin r else lexLt a b
theorem jT:∀ xs ys:List (List Int),dr (decide (xs.length<ys.length)) (xs.zip ys)=r8 xs ys
 | [],[]=>rfl
 | [],_::_=>by simp [dr,r8]
 | _::_,[]=>by simp [dr,r8]
 | x::xs,y::ys=>by
  have:=jT xs ys
  simp only [List.zip_cons_cons,dr,r8,List.length_cons,Nat.add_lt_add_iff_right]
  rw [this]
section
open PySem.W PyProof.Rows
variable {prog:Program} {w:World} {A:Around} {E:Value→Shared→Prop} {s:Shared}
theorem items_int:∀ {xs:List Int} {its:List Value},Vals (xs.map V.int) its→ItemsAre (intKind prog w) xs its:=by
 intro xs
 induction xs with
 | nil=>intro its h; cases h; exact .nil
 | cons x xs ih=>
  intro its h
  cases h with
  | cons r t=>
   obtain ⟨tk,rfl⟩:=r
   exact .cons (by simp [intKind,Value.isInt]) (ih t)
theorem wc {v u:Value} {xs ys:List Int} {Q:Bool→Shared→Prop} (hu:A.units<cLine) (hv:bE s.heap v xs) (hw:bE s.heap u ys) (h:Q (decide (xs=ys)) s):wpAny (model prog w) A (eqBool v u) Q E s:=by
 obtain ⟨a,o,its,m,rfl,ho,hc,hd,rv⟩:=hv
 obtain ⟨b,o2,its2,m2,rfl,ho2,hc2,hd2,rv2⟩:=hw
 exact wpAny_eqBool_tuple (knd:=intKind prog w) hu ⟨o,_,m,ho,hc,hd,by simpa using items_int rv⟩ ⟨o2,_,m2,ho2,hc2,hd2,by simpa using items_int rv2⟩ h
theorem vq {v u:Value} {xs ys:List Int} {Q:Bool→Shared→Prop} (hu:A.units+64<cLine) (hv:bE s.heap v xs) (hw:bE s.heap u ys) (h:Q (lexLt xs ys) s):wpAny (model prog w) A (compareOp .Lt v u) (PySem.W.BoolBack Q) E s:=by
 obtain ⟨a,⟨c1,d1,t1,sl1⟩,its,m,rfl,ho,hc,hd,rv⟩:=hv
 obtain ⟨b,⟨c2,d2,t2,sl2⟩,its2,m2,rfl,ho2,hc2,hd2,rv2⟩:=hw
 simp only at hc hd hc2 hd2
 subst hc hd hc2 hd2
 exact richCompare_meets_room (op:=.Lt) ⟨_,ho,rfl⟩ ⟨_,ho2,rfl⟩ PySem.F.slot_tuple_lt PySem.F.entry_tuple_lt (PySem.F.args_tuple_lt_2 _ _) (xa a b its its2 m m2 d1 d2 sl1 sl2 xs ys rv rv2) ⟨ho,ho2,(fun x=>nomatch x),h⟩ (by omega)
theorem vx {fin:Bool} {Q:Bool→Shared→Prop} (hu:A.units+64<cLine):∀ (xs ys:List (List Int)) (us vs:List Value) (i:Nat),Paired (bE s.heap) us xs→Paired (bE s.heap) vs ys→Q (dr fin (xs.zip ys)) s→KatLex prog w A false fin Q (us.zip vs) i s:=by
 intro xs
 induction xs with
 | nil=>intro ys us vs i a b h; cases a; exact h
 | cons x xs ih=>
  intro ys us vs i a b h
  cases a with
  | cons r1 t1=>
   cases ys with
   | nil=>cases b; exact h
   | cons y ys=>
    cases b with
    | cons r2 t2=>
     simp only [List.zip_cons_cons,dr] at h
     refine kat_cons (wc (by omega) r1 r2 ?_)
     by_cases e:x=y
     ·rw [if_pos e] at h
      rw [decide_eq_true e]
      exact kat_yes (ih ys _ _ (i+1) t1 t2 h)
     ·rw [if_neg e] at h
      rw [decide_eq_false e]
      exact kat_no (kat_one _ _ (vq hu r1 r2 h))
noncomputable def iV (h:Heap) (v:Value) (xs:List (List Int)):Prop:=∃ (a:Addr) (o:Obj) (its:List Value) (m:Nat),v=.ref a∧h.get? a=some o∧o.cls=.type "tuple" ∧ o.data=.seq its.toArray m∧Paired (bE h) its xs
theorem vt {v u:Value} {xs ys:List (List Int)} {Q:Bool→Shared→Prop} (hu:A.units+64<cLine) (hv:iV s.heap v xs) (hw:iV s.heap u ys) (h:Q (r8 xs ys) s):wpAny (model prog w) A (keyLt' (tuples' false) v u) Q E s:=by
 obtain ⟨a,o,its,m,rfl,ho,_,hd,rv⟩:=hv
 obtain ⟨b,o2,its2,m2,rfl,ho2,_,hd2,rv2⟩:=hw
 refine kat_lt ho hd ho2 hd2 ?_
 have l1:=Paired.length rv
 have l2:=Paired.length rv2
 refine vx hu xs ys _ _ 0 rv rv2 ?_
 simp only [List.size_toArray,l1,l2]
 rw [jT]; exact h
theorem gE {h:Heap}:∀ {vs:List Value} {ss:List (List (List Int))},Paired (fun v xs=>iV h v xs∧xs ≠ []) vs ss→∃ fs:List Value,KatTups h vs fs∧fs.length=ss.length∧∀ f∈fs,∃ x,bE h f x
 | _,_,.nil=>⟨[],trivial,rfl,fun _ h=>nomatch h⟩
 | _,_,.cons hv t=>by
  obtain ⟨fs,k,hl,hi⟩:=gE t
  obtain ⟨⟨a,o,its,m,rfl,ho,hc,hd,rv⟩,hne⟩:=hv
  cases rv with
  | nil=>exact absurd rfl hne
  | cons r1 r2=>
   rename_i v0 x0 l1 l2
   refine ⟨v0::fs,KatTups.cons ho hc hd (by simp) k,by rw [List.length_cons,List.length_cons,hl],fun f hf=>?_⟩
   rcases List.mem_cons.mp hf with q | hf
   ·subst q; exact ⟨_,r1⟩
   ·exact hi f hf
end
end TP
namespace TP
open PySem L2
noncomputable def dA (k:List (List Int)):List W:=k.map fun x=>W.tup (x.map W.int)
noncomputable def kW (k:List (List Int)):W:=.tup (dA k)
noncomputable def keyOf:R W→Option (List (List Int))
 | .ok (.tup us)=>(match Y6 us with
  | some (a::k)=>some (a::k)
  | _=>none)
 | _=>none
noncomputable def E1 (f:List W→R W):List W→Option (List (List (List Int)))
 | []=>some []
 | w::r=>match keyOf (f [w]),E1 f r with
  | some k,some ks=>some (k::ks)
  | _,_=>none
theorem fR {r:R W} {k:List (List Int)} (h:keyOf r=some k):r=.ok (kW k)∧k ≠ []:=by
 unfold keyOf at h
 split at h
 ·rename_i us
  split at h
  ·rename_i a k' e
   cases h
   rw [oY e]
   exact ⟨rfl,by simp⟩
  ·cases h
 ·cases h
theorem bp {f:List W→R W} {w:W} {r:List W} {ks:List (List (List Int))} (h:E1 f (w::r)=some ks):∃ k ks',ks=k::ks'∧f [w]=.ok (kW k)∧k ≠ []∧E1 f r=some ks':=by
 unfold E1 at h
 split at h
 ·rename_i k ks' e1 e2
  cases h
  exact ⟨k,ks',rfl,(fR e1).1,(fR e1).2,e2⟩
 ·cases h
theorem ce {f:List W→R W}:∀ {ws:List W} {ks:List (List (List Int))},E1 f ws=some ks→ks.length=ws.length
 | [],_,h=>by cases h; rfl
 | w::r,_,h=>by
  obtain ⟨k,ks',rfl,_,_,e⟩:=bp h
  rw [List.length_cons,List.length_cons,ce e]
theorem iF {f:List W→R W}:∀ {ws:List W} {ks:List (List (List Int))},E1 f ws=some ks→∀ k∈ks,k ≠ []
 | [],_,h=>by cases h; simp
 | w::r,_,h=>by
  obtain ⟨k,ks',rfl,_,hn,e⟩:=bp h
  intro x hx
  rcases List.mem_cons.mp hx with rfl | hx
  ·exact hn
  ·exact iF e x hx
noncomputable def inK (X:Cx):Cx:={ X with A:=X.A.in1.in1,xe:=fun _ _=>False }
section
variable {X:Cx} {pins:List (Addr×Obj)} {σ:L2.St} {H:Hp} {s:Shared}
theorem zR (I:Inv X pins σ H s):Inv (inK X) pins σ H s:=
 ⟨⟨I.ok.mod,I.ok.kind,I.ok.glob,I.ok.blt,I.ok.above,I.ok.inj,I.ok.has,I.ok.cab,I.ok.hd,I.ok.frames,I.ok.stk,I.ok.exf,I.ok.bs,I.ok.bsz,I.ok.noex,I.ok.exfs,I.ok.funs,I.ok.frf⟩,I.os,I.bare,I.base,I.loc,I.cell,I.free,I.freeC,I.pin,I.hok,I.len⟩
theorem vB (I:Inv (inK X) pins σ H s):Inv X pins σ H s:=
 ⟨⟨I.ok.mod,I.ok.kind,I.ok.glob,I.ok.blt,I.ok.above,I.ok.inj,I.ok.has,I.ok.cab,I.ok.hd,I.ok.frames,I.ok.stk,I.ok.exf,I.ok.bs,I.ok.bsz,I.ok.noex,I.ok.exfs,I.ok.funs,I.ok.frf⟩,I.os,I.bare,I.base,I.loc,I.cell,I.free,I.freeC,I.pin,I.hok,I.len⟩
theorem nX {D:Addr} {ys:List V} {its:List Value} {n:Nat} {h':Heap} {t':Nat} (I:Inv X pins σ H s) (k:∀ b o,b≠D→s.heap.get? b=some o→h'.get? b=some o) (hn:H D=none) (hL:D≠X.env.locals)
  (h1:X.s₀.heap.objs.size≤D) (h2:∀ x c,X.env.cells.lookup x=some c→c≠D) (h3:∀ p∈X.pn++pins,p.1≠D) (hz:ys.length≤sizeLine) (hv:Vals ys its) (e:h'.get? D=some { cls:=.type "list",data:=.seq its.toArray n }) :
  Inv X pins σ (upd H D (.lst ys)) { s with heap:=h',toks:=t' }:=by
 have nit:∀ b u,H b=some u→b≠D:=fun b u e z=>by rw [z,hn] at e; cases e
 refine I.step (g':=s.gens) (d':=s.drawn) (ch:=[D]) (fun b hb=>?_) (fun b o _ _ hc e _=>k b o (fun z=>hc (by simp [z])) e) (fun b o _ _ hc e _=>⟨o.slots,k b o (fun z=>hc (by simp [z])) e⟩) (fun b _ hc _ n=>by rw [c7 (fun z=>hc (by simp [z]))]; exact n)
  (fun b o hc e=>⟨o,k b o (fun z=>hc (by simp [z])) e⟩) (fun b _ e=>by rw [c7 (nit b _ e)]; exact e) (fun b _ _ e=>by rw [c7 (nit b _ e)]; exact e) (fun b ps e=>⟨#[],by rw [c7 (nit b _ e),e]; simp⟩) (fun m hm=>?_) (fun b u e1=>?_) I.bare
 ·have e:b=D:=by simpa using hb
  subst e
  exact ⟨.inr h1,hL,h2,h3⟩
 ·obtain ⟨o,es,ep,ho,r⟩:=hm
  exact ⟨o,es,ep,k _ o (Ne.symm hL) ho,r⟩
 ·by_cases q:b=D
  ·subst q
   rw [S6] at e1
   cases e1
   exact ⟨hz,its,n,hv,e⟩
  ·rw [c7 q] at e1
   refine (I.hok b u e1).stay (fun c v hc q'=>k c v ?_ q') (fun c q'=>by rw [c7 (nit c _ q')]; exact q') fun c _ q'=>by rw [c7 (nit c _ q')]; exact q'
   rcases hc with z | z
   ·rw [z]; exact q
   ·exact nit c _ z
end
section
open PySem.W PyProof.Rows
variable {Y:Cx} {K:Frag} {pn:List (Addr×Obj)} {σ:L2.St}
theorem qL {k:Nat} {f kS:Addr} {fd:FuncData} {ps:List Str} {N:Nat} {m:Rho→R Fl} {E:Value→Shared→Prop} {body:Value→PUnit→Sem (ForInStep PUnit)} (hxe:Y.xe=fun _ _=>False)
  (F:FnOk Y.prog Y.w Y.K Y.mg Y.base CX0 k f fd ps (spM K 1 .F (i6 1 N m))) (hr:Room k Y.A) (hb:Binds Y.K fd ps [])
  (hbody:∀ (x:Value) (s:Shared) (P:Value→Shared→Prop) (C:Shared→Prop),wpAny (model Y.prog Y.w) Y.A (call (.ref f) [x]) P (fun _ _=>False) s →
   (∀ u s',P u s'→∃ its n,s'.heap.get? kS=some (seqObj "list" its n)∧its.size<64∧C { s' with heap:=s'.heap.update kS (Obj.mapSeq (·.push u)) })→wpAny (model Y.prog Y.w) Y.A (body x ⟨⟩) (fun r s'=>r=.yield ⟨⟩∧C s') E s) :
  ∀ (r:List Value) (yr:List V) (wr:List W) (kr:List (List (List Int))) (kvs:List V) (kd:List (List (List Int))) (s:Shared) (H G:Hp),Inv Y pn σ H s→Vals yr r→Reps K G yr wr→E1 (i6 1 N m) wr=some kr →
   H kS=some (.lst kvs)→Same G H→G kS=none→Reps K G kvs (kd.map kW)→kvs.length+r.length<64 →
   wpAny (model Y.prog Y.w) Y.A (forIn r PUnit.unit body) (fun _ s'=>∃ H' G' kvs',Inv Y pn σ H' s'∧H' kS=some (.lst kvs')∧Same G G'∧Same G' H'∧G' kS=none∧Reps K G' kvs' ((kd++kr).map kW)) E s
 := by
 intro r
 induction r with
 | nil=>
  intro yr wr kr kvs kd s H G I rv rw_ hk hS sG gk rk hl
  cases rv
  cases rw_
  rw [List.forIn_nil]
  cases hk
  rw [List.append_nil]
  exact wpAny_pure ⟨H,G,kvs,I,hS,Same.refl G,sG,gk,rk⟩
 | cons x r ih=>
  intro yr wr kr kvs kd s H G I rv rw_ hk hS sG gk rk hl
  obtain ⟨y,yr,rfl,rx,rr⟩:∃ y yr',yr=y::yr'∧RelV y x∧Vals yr' r:=by
   cases rv with
   | cons a b=>exact ⟨_,_,rfl,a,b⟩
  obtain ⟨w,wr,rfl,ry,rws⟩:∃ w wr',wr=w::wr'∧Rep K G y w∧Reps K G yr wr':=by
   cases rw_ with
   | cons a b=>exact ⟨_,_,rfl,a,b⟩
  obtain ⟨key,ks',rfl,hf,hne,hk'⟩:=bp hk
  rw [List.length_cons] at hl
  rw [List.forIn_cons]
  have call:=nc (X:=Y) (us:=[x]) (vs:=[y]) (E:=fun _ _ _=>False) (Q:=fun v H2=>∃ G2,Same H H2∧Same G2 H2∧G2 kS=none∧Rep K G2 v (kW key)) F hr hb .nil kY I (.cons rx .nil) ⟨rfl,[w],.cons (ry.same sG) .nil,by
   rw [hf]
   exact fun v G2 H2 s1 s2 cl md=>⟨G2,s1,s2,cl kS _ hS rfl,md⟩⟩
  rw [hxe] at call
  refine wpAny_bind (wpAny_mono (hbody x s _ (fun s''=>∃ H3 G3 kvs3,Inv Y pn σ H3 s''∧H3 kS=some (.lst kvs3)∧kvs3.length=kvs.length+1∧Same G G3∧Same G3 H3∧G3 kS=none∧Reps K G3 kvs3 ((kd ++ [key]).map kW)) call fun u s' hp=>?_) (fun q s' hq=>?_) fun _ _ x=>x)
  ·obtain ⟨v,H2,I2,rv,G2,sH,s2,g2,r2⟩:=hp
   have hS2:=sH _ _ hS
   obtain ⟨z,its,n,rI,hlen,e⟩:=I2.lstM hS2
   refine ⟨its.toArray,n,e,by rw [List.size_toArray]; omega,?_⟩
   have sB:Same G (both G G2):=fun b o q=>by unfold both; rw [q]
   have sB':Same G2 (both G G2):=fun b o q=>by
    unfold both
    cases q1:G b with
    | none=>exact q
    | some u=>
     have a1:=sH b u (sG b u q1)
     rw [s2 b o q] at a1
     exact a1.symm
   have sBH:Same (both G G2) H2:=fun b o q=>by
    unfold both at q
    cases q1:G b with
    | none=>rw [q1] at q; exact s2 b o q
    | some u=>rw [q1] at q; cases q; exact sH b _ (sG b _ q1)
   have bk:both G G2 kS=none:=by unfold both; rw [gk]; exact g2
   refine ⟨upd H2 kS (.lst (kvs ++ [v])),both G G2,kvs ++ [v],I2.lset (t':=s'.toks) (its':=its ++ [u]) hS2 e (by simp) (rI.append (.cons rv .nil)) (by rw [List.length_append,List.length_singleton,sizeLine_eq]; omega),S6,by rw [List.length_append,List.length_singleton],sB,fun b o q=>?_,bk,?_⟩
   ·rw [c7 (g8 q bk)]; exact sBH b o q
   ·rw [List.map_append]
    exact (rk.same sB).append (.cons (r2.same sB') .nil)
  ·obtain ⟨rfl,H3,G3,kvs3,I3,hS3,hl3,s3,sH3,g3,r3⟩:=hq
   show wpAny (model Y.prog Y.w) Y.A (forIn r PUnit.unit body) _ E s'
   refine wpAny_mono (ih yr wr ks' kvs3 (kd ++ [key]) s' H3 G3 I3 rr (rws.same s3) hk' hS3 sH3 g3 r3 (by omega)) (fun _ s'' hq=>?_) fun _ _ x=>x
   obtain ⟨H4,G4,kvs4,I4,hS4,s4,sH4,g4,r4⟩:=hq
   exact ⟨H4,G4,kvs4,I4,hS4,s3.trans s4,sH4,g4,by rw [List.append_assoc] at r4; exact r4⟩
theorem zk {H G:Hp} {s:Shared} {v:V} {u:Value} {k:List (List Int)} (hK:Y.K=K) (I:Inv Y pn σ H s) (sG:Same G H) (r:Rep K G v (kW k)) (ru:RelV v u):iV s.heap u k:=by
 subst hK
 obtain ⟨a0,vs0,rfl,h0,r0⟩:=r.inv
 ·cases ru
  obtain ⟨its,rv,⟨o,e,c,n,dd⟩,_⟩:=I.tuple (SqT.of (sG _ _ h0))
  refine ⟨_,o,its,n,rfl,e,c,dd,?_⟩
  have go:∀ {vs:List V} {its:List Value} {k:List (List Int)},Vals vs its→Reps Y.K G vs (k.map fun x=>W.tup (x.map W.int))→Paired (bE s.heap) its k:=by
   intro vs its k
   induction k generalizing vs its with
   | nil=>intro a b; have b:vs = []:=b.inv; subst b; cases a; exact .nil
   | cons x k ih=>
    intro a b
    obtain ⟨v1,vs1,rfl,b1,b2⟩:=b.inv
    ·cases a with
     | cons a1 a2=>
      refine .cons ?_ (ih a2 b2)
      obtain ⟨a3,vs3,rfl,h1,r1⟩:=b1.inv
      ·cases a1
       have e1:=Reps.ints r1 (ints_map x)
       subst e1
       obtain ⟨its2,rv2,⟨o2,e2,c2,n2,dd2⟩,_⟩:=I.tuple (SqT.of (sG _ _ h1))
       exact ⟨_,o2,its2,n2,rfl,e2,c2,dd2,rv2⟩
  exact go rv r0
theorem vy {H G:Hp} {s:Shared} (hK:Y.K=K) (I:Inv Y pn σ H s) (sG:Same G H):∀ {vs:List V} {its:List Value} {ks:List (List (List Int))},Vals vs its→Reps K G vs (ks.map kW)→(∀ k∈ks,k ≠ [])→Paired (fun v xs=>iV s.heap v xs∧xs ≠ []) its ks:=by
 intro vs its ks
 induction ks generalizing vs its with
 | nil=>intro a b _; cases b; cases a; exact .nil
 | cons x k ih=>
  intro a b hn
  cases b with
  | cons b1 b2=>
   cases a with
   | cons a1 a2=>exact .cons ⟨zk hK I sG b1 a1,hn x List.mem_cons_self⟩ (ih a2 b2 fun k hk=>hn k (List.mem_cons_of_mem _ hk))
end
end TP
namespace TP
open PySem L2
section
open PySem.W PyProof.Rows
variable {Y:Cx} {K:Frag} {pins:List (Addr×Obj)} {σ:L2.St}
theorem dM {α:Type} {F:Value→α→Prop}:∀ {as as':List Value} {bs bs':List α},Paired F as bs→Paired F as' bs'→Paired F (as++as') (bs++bs')
 | _,_,_,_,.nil,h=>h
 | _,_,_,_,.cons a t,h=>.cons a (dM t h)
theorem pM {α:Type} {as:List Value} {bs:List α} {F:Value→α→Prop} (h:Paired F as bs):Paired F as.reverse bs.reverse:=by
 induction h with
 | nil=>exact .nil
 | cons a _ ih=>
  rw [List.reverse_cons,List.reverse_cons]
  exact dM ih (.cons a .nil)
theorem mK {D kS:Addr} {e1:Nat} {H G:Hp} {s:Shared} {vs:List Value} {ys:List V} {kvs:List V} {ks:List (List (List Int))} {P:PySem.Fin→Shared→Prop} {E:Value→Shared→Prop} (hK:Y.K=K) (hu:Y.A.units+64<cLine)
  (I:Inv Y ((D,seqObj "list" #[] e1)::pins) σ H s) (hD0:Y.s₀.heap.objs.size≤D) (hDp:∀ p∈Y.pn++pins,p.1≠D) (hDk:D≠kS) (hS:H kS=some (.lst kvs)) (sG:Same G H) (gk:G kS=none) (rk:Reps K G kvs (ks.map kW)) (hne:∀ k∈ks,k ≠ [])
  (rv:Vals ys vs) (hl:ks.length=vs.length) (h64:vs.length<64)
  (h:∀ s' H',Inv Y pins σ H' s'→Same G H'→H' D=some (.lst (u9 ks V.non ys))→P (.done (.ret .none)) s'):∀ its n,s.heap.get? kS=some (seqObj "list" its n)→wpAny (model Y.prog Y.w) Y.A (ksk_end D true vs.toArray e1 (.ref kS) its) P E s:=by
 intro its n hits
 obtain ⟨z,kl,n',rI,hlen,e⟩:=I.lstM hS
 rw [e] at hits
 cases hits
 have hlk:kl.length=vs.length:=by rw [← hlen,rk.length,List.length_map,hl]
 have hly:ys.length=vs.length:=rv.length
 obtain ⟨pD,nD,neL,nfs,_⟩:=I.pin (D,seqObj "list" #[] e1) (List.mem_append_right _ List.mem_cons_self)
 have pD:s.heap.get? D=some (seqObj "list" #[] e1):=pD
 have nD:H D=none:=nD
 -- the tail
 have tail:∀ st:SortSt,failedOf st=none→(arrOf st).map (·.2)=(((R0 ks.reverse).map fun i=>vs.reverse.getD i Value.none)).toArray→wpAny (model Y.prog Y.w) Y.A (ksk_tail D true e1 (.ref kS) st) P E s:=fun st hf hst=>by
  have hrev:((R0 ks.reverse).map fun i=>vs.reverse.getD i Value.none).toArray.reverse=(u9 ks Value.none vs).toArray:=by unfold u9; simp
  have I1:=I.lset (t':=s.toks) (f:=fun _=>#[]) (its':=[]) (ys:=[]) hS e rfl .nil (Nat.zero_le _)
  obtain ⟨p1,n1,_⟩:=I1.pin (D,seqObj "list" #[] e1) (List.mem_append_right _ List.mem_cons_self)
  have I2:=I1.pins_of (pins':=pins) fun p hp=>I1.pin p (List.mem_append_right _ (List.mem_cons_of_mem _ hp))
  have hsz:(u9 ks Value.none vs).toArray.size≤sizeLine:=by rw [List.size_toArray,ik,sizeLine_eq]; omega
  unfold ksk_tail
  dsimp only
  rw [hst,if_pos rfl,hrev]
  refine wpAny_bind (listUpdate_at e rfl ?_ (by rw [List.size_toArray,sizeLine_eq]; omega) (Nat.zero_le _))
  refine wpAny_bind (wpAny_letGo ?_)
  refine wpAny_bind (seqEpoch_at p1 rfl ?_)
  refine wpAny_bind (listUpdate_at p1 rfl ?_ (Nat.zero_le _) (Nat.le_succ_of_le hsz))
  rw [hf]
  simp only [bne_self_eq_false,Bool.false_eq_true,if_false]
  refine wpAny_pure (h _ (upd (upd H kS (.lst [])) D (.lst (u9 ks V.non ys))) (nX (s:={ s with heap:=s.heap.update kS (Obj.mapSeq fun _=>(#[]:Array Value)) }) (t':=s.toks) (its:=u9 ks Value.none vs) (n:=_) I2 (fun b o hb q=>(Heap.get?_update_other _ _ (Ne.symm hb)).trans q) n1 neL hD0 (fun x c hc=>?_) hDp (by rw [ik,sizeLine_eq]; omega) ?_ (get?_update_seq p1 fun _=>(u9 ks Value.none vs).toArray)) (fun b o q=>?_) S6)
  ·rintro rfl
   obtain ⟨v,o,ho,hd⟩:=I1.cell x _ hc
   have p1':_=some (seqObj "list" #[] e1):=p1
   rw [p1'] at ho
   cases ho
   cases hd
  ·unfold u9
   have hrr:Vals ys.reverse vs.reverse:=rv.reverse
   refine Vals.reverse (V3 fun i hi=>?_)
   have hi':i<ys.reverse.length:=by
    have:=(O2 ks.reverse).mem_iff.mp hi
    rw [List.mem_range,List.length_reverse] at this
    rw [List.length_reverse]; omega
   obtain ⟨u,eu,q⟩:=V4 (d:=V.non) hrr hi'
   rw [show vs.reverse.getD i Value.none=u by rw [List.getD_eq_getElem?_getD,eu]; rfl]
   exact q
  ·have hbD:b≠D:=by rintro rfl; rw [sG b o q] at nD; cases nD
   have hbk:b≠kS:=by rintro rfl; rw [gk] at q; cases q
   rw [c7 hbD,c7 hbk]; exact sG b o q
 have hpairs:((List.toArray kl).zip vs.toArray).reverse=(List.toArray kl.reverse).zip (List.toArray vs.reverse):=kat_pairs true hlk
 unfold ksk_end
 dsimp only
 rw [if_pos rfl,if_pos rfl,hpairs]
 refine wpAny_bind (wpAny_rule ?_)
 by_cases c2:vs.toArray.size<2
 ·rw [if_pos c2,if_pos c2]
  refine wpAny_bind (wpAny_pure ?_)
  rw [StateT.run_pure]
  refine wpAny_bind (wpAny_pure ?_)
  dsimp only
  refine tail _ rfl ?_
  have hv2:vs.length<2:=by simpa using c2
  have e3:(R0 ks.reverse).map (fun i=>vs.reverse.getD i Value.none)=vs.reverse:=by
   unfold R0
   rw [if_pos (by rw [List.length_reverse]; omega),show ks.reverse.length=vs.reverse.length by rw [List.length_reverse,List.length_reverse,hl],fH]
  rw [e3]
  show Array.map (fun x=>x.snd) ((List.toArray kl.reverse).zip (List.toArray vs.reverse))=vs.reverse.toArray
  apply Array.toList_inj.mp
  rw [Array.toList_map,Array.toList_zip]
  apply List.ext_getElem
  ·simp [hlk]
  ·intro i h1 h2; simp
 ·rw [if_neg c2,if_neg c2]
  have h2:2≤vs.length:=by simpa using c2
  have tt:=vy hK I sG rI rk hne
  obtain ⟨fs,kt,fl,fi⟩:=gE tt
  have ttr:=pM tt
  refine wpAny_bind (kat_kind (T:=.type "tuple") kt (by omega) (fun v hv=>?_) (by decide) ?_)
  ·obtain ⟨x,a,o,its,m,rfl,ho,hc,_⟩:=fi v hv
   rw [← hc]
   exact (Looks.ld ho).andThen .now
  have hlr:kl.reverse.length=vs.reverse.length:=by rw [List.length_reverse,List.length_reverse,hlk]
  have hw:(kas_sort vs.reverse.length).kasWp (kas_ask Y.prog Y.w Y.A (tuples' (Value.type "tuple" != Value.type "tuple")) kl.reverse) (fun p s'=>s'=s∧p.toList=R0 ks.reverse) s:=by
   refine wp_run (n:=vs.reverse.length) (r:=M8 ks.reverse) (fun i j C hi hj hC=>?_) (rV (by rw [List.length_reverse]; omega)) ⟨rfl,?_⟩
   ·rw [← hlr] at hi hj
    obtain ⟨x,hx,tx⟩:=V4 (d:=Value.none) ttr hi
    obtain ⟨y,hy,ty⟩:=V4 (d:=Value.none) ttr hj
    have hkl:ks.reverse.length=kl.reverse.length:=by rw [List.length_reverse,List.length_reverse]; omega
    rw [gZ (by omega) (by omega)] at hC
    have ex:ks.reverse.getD i []=x:=by rw [List.getD_eq_getElem?_getD,hx]; rfl
    have ey:ks.reverse.getD j []=y:=by rw [List.getD_eq_getElem?_getD,hy]; rfl
    rw [ex,ey] at hC
    exact vt hu tx.1 ty.1 hC
   ·unfold R0
    rw [if_neg (by rw [List.length_reverse]; omega),show ks.reverse.length=vs.reverse.length by rw [List.length_reverse,List.length_reverse,hl]]
  refine wpAny_bind (wpAny_mono (kat_run (Q:=fun st' s'=>s'=s∧(arrOf st').map (·.2)=((R0 ks.reverse).map fun i=>vs.reverse.getD i Value.none).toArray∧failedOf st'=none) hlr (by rw [List.length_reverse]; exact h2) (by rw [List.length_reverse]; exact h64) (fun p st' s' a1 a2 a3 a4=>⟨a4.1,by rw [kat_snds hlr a2,a4.2],a3⟩) hw) ?_ fun _ _ e=>e)
  rintro ⟨⟨⟩,st'⟩ s' ⟨rfl,ho',hf'⟩
  exact tail st' hf' ho'
theorem kE {k:Nat} {f D kS:Addr} {fd:FuncData} {ps:List Str} {N:Nat} {m:Rho→R Fl} {e1:Nat} {H G:Hp} {s:Shared} {vs:List Value} {ys:List V} {ws:List W} {ks:List (List (List Int))} {P:PySem.Fin→Shared→Prop} {E:Value→Shared→Prop} (hxe:Y.xe=fun _ _=>False) (hK:Y.K=K)
  (F:FnOk Y.prog Y.w Y.K Y.mg Y.base CX0 k f fd ps (spM K 1 .F (i6 1 N m))) (hr:Room k Y.A) (hb:Binds Y.K fd ps [])
  (I:Inv Y ((D,seqObj "list" #[] e1)::pins) σ H s) (hD0:Y.s₀.heap.objs.size≤D) (hDp:∀ p∈Y.pn++pins,p.1≠D) (hDk:D≠kS) (hS:H kS=some (.lst [])) (sG:Same G H) (gk:G kS=none)
  (rv:Vals ys vs) (rw_:Reps K G ys ws) (hks:E1 (i6 1 N m) ws=some ks) (h64:vs.length<64)
  (h:∀ s' H',Inv Y pins σ H' s'→Same G H'→H' D=some (.lst (u9 ks V.non ys))→P (.done (.ret .none)) s'):wpAny (model Y.prog Y.w) Y.A (ksk_rest D (.ref f) true vs.toArray e1 (.ref kS)) P E s:=by
 have hl:ks.length=vs.length:=by rw [ce hks,← rw_.length,rv.length]
 unfold ksk_rest
 refine wpAny_bind (wpAny_rule ?_)
 first
  | rw [List.forIn_toArray]
  | (rw [← Array.forIn_toList]; simp only [List.toList_toArray])
  | rw [← Array.forIn_toList]
 refine wpAny_bind (wpAny_mono (qL (kS:=kS) (E:=E) hxe F hr hb (fun x s' Pc C hc hP=>?_) vs ys ws ks [] [] s H G I rv rw_ hks hS sG gk .nil (by simpa using h64)) (fun _ s' hd=>?_) fun _ _ x=>x)
 ·refine wpAny_bind (wpAny_attempt (wpAny_mono hc (fun u s'' hk=>?_) fun _ _ hF=>hF.elim))
  obtain ⟨its,n,hk1,hz,hC⟩:=hP u s'' hk
  dsimp only
  refine wpAny_bind (listUpdate_at hk1 rfl ?_ (by rw [sizeLine_eq]; omega) (Nat.le_trans (Nat.le_of_eq (Array.size_push ..)) (by rw [sizeLine_eq]; omega)))
  exact wpAny_pure ⟨rfl,hC⟩
 ·obtain ⟨H',G',kvs',I',hS',s1,s2,g',r'⟩:=hd
  obtain ⟨z,kl,n',rI,hlen,e⟩:=I'.lstM hS'
  refine wpAny_bind (listItems_at e rfl ?_)
  exact mK hK (by have:=hr.units; omega) I' hD0 hDp hDk hS' s2 g' (by simpa using r') (iF hks) rv hl h64 (fun s'' H'' I'' q1 q2=>h s'' H'' I'' (s1.trans q1) q2) _ _ e
end
section
open PySem.W PyProof.Rows
variable {X:Cx} {K:Frag}
theorem lL {k:Nat} {f:Addr} {fd:FuncData} {ps:List Str} {N:Nat} {m:Rho→R Fl} (F:FnOk X.prog X.w X.K X.mg X.base CX0 k f fd ps (spM K 1 .F (i6 1 N m))) (hr:Room (k+2) X.A) (hb:Binds X.K fd ps []) (hK:X.K=K) {pins:List (Addr×Obj)} {s:Shared} {σ:L2.St} {H:Hp} {p:Addr} {ys:List V} {ws:List W} {ks:List (List (List Int))} {Q:VK}
  (I:Inv X pins σ H s) (hq:SqL K H p ys) (rw_:Reps K H ys ws) (hks:E1 (i6 1 N m) ws=some ks) (h64:ws.length<64)
  (h:∀ l H',H l=none→Same H H'→H' l=some (.lst (u9 ks V.non ys))→Q (.ref l) H') :
  wpAny (model X.prog X.w) X.A (call (.builtin "sorted") [.ref p] [(Str.ofString "key",.ref f),(Str.ofString "reverse",.bool true)]) (EP X pins σ Q) X.xe s:=by
 subst hK
 obtain ⟨vs,rv,pl,hz⟩:=I.list hq
 have hlen:ys.length=vs.length:=rv.length
 have hlw:ys.length=ws.length:=rw_.length
 refine call_function_entry_kw kind_sorted plain_sorted entry_sorted (ksk_s2 _ _ _) ?_
 unfold Builtin.«sorted»
 refine wpAny_bind (m:=checkCount "sorted" 1 1 _) (wpAny_pure ?_)
 refine wpAny_bind (collect_list pl.isList ?_ (by rw [sizeLine_eq]; omega))
 refine wpAny_bind (wpAny_newList ?_ (by rw [sizeLine_eq]; omega))
 generalize hg:(s.heap.push (seqObj "list" #[] 0)).update s.heap.objs.size (Obj.mapSeq (·++vs.toArray))=g
 have gz:g.objs.size=s.heap.objs.size+1:=by rw [← hg,Heap.size_update,size_push']
 have gk:∀ b o,s.heap.get? b=some o→g.get? b=some o:=fun b o e=>by
  have hlt:=Heap.lt_size e
  rw [← hg,Heap.get?_update_ne _ _ _ _ (Nat.ne_of_lt hlt)]; exact Heap.get?_push_of_some _ e
 have go:(g.push (seqObj "list" vs.toArray 0)).get? (s.heap.objs.size+1)=some (seqObj "list" vs.toArray 0):=by rw [← gz]; exact Heap.get?_push_size _ rfl
 show wpAny _ _ _ _ _ { s with heap:=g.push (seqObj "list" vs.toArray 0) }
 rw [gz]
 refine wpAny_bind (wpAny_holding (wpAny_call_entry_kw slot_list_sort ⟨_,go,rfl⟩ entry_list_sort ?body (ksk_l2 _ _ _)))
 case body=>
  generalize hDe:s.heap.objs.size+1=D at *
  show wpAny (model X.prog X.w) X.A.in1.in1 (Builtin.«list.sort» ⟨[.ref D],[(Str.ofString "key",.ref f),(Str.ofString "reverse",.bool true)]⟩) _ _ _
  rw [ksk_t2]
  generalize hg2:g.push (seqObj "list" vs.toArray 0)=g2 at *
  have g2z:g2.objs.size=D+1:=by rw [← hg2,size_push',gz]
  have g2k:∀ b o,s.heap.get? b=some o→g2.get? b=some o:=fun b o e=>by rw [← hg2]; exact Heap.get?_push_of_some _ (gk b o e)
  obtain ⟨e1,ho1⟩:∃ e1,(g2.update D (Obj.mapSeq fun _=>(#[]:Array Value))).get? D=some (seqObj "list" #[] e1):=⟨_,get?_update_seq go fun _=>#[]⟩
  unfold ksk_tree
  refine wpAny_bind (listItems_at go rfl ?_)
  refine wpAny_bind (listUpdate_at go rfl ?_ (by rw [List.size_toArray,sizeLine_eq]; omega) (Nat.zero_le _))
  refine wpAny_bind (seqEpoch_at ho1 rfl ?_)
  refine wpAny_bind (wpAny_newTuple ?_ (by show vs.length≤_; rw [sizeLine_eq]; omega))
  refine wpAny_bind (wpAny_newList ?_ (Nat.zero_le _))
  refine wpAny_holding ?_
  have hDs:s.heap.objs.size≤D:=by omega
  have hHD:H D=none:=I.hok.fresh hDs
  generalize hg3:(g2.update D (Obj.mapSeq fun _=>(#[]:Array Value))).push (seqObj "tuple" vs.toArray 0)=g3
  have g3z:g3.objs.size=D+2:=by rw [← hg3,size_push',Heap.size_update,g2z]
  have g3k:∀ b o,s.heap.get? b=some o→g3.get? b=some o:=fun b o e=>by
   rw [← hg3]
   exact Heap.get?_push_of_some _ (by rw [Heap.get?_update_ne _ _ _ _ (Nat.ne_of_lt (Nat.lt_of_lt_of_le (Heap.lt_size e) hDs))]; exact g2k b o e)
  have g3D:g3.get? D=some (seqObj "list" #[] e1):=by rw [← hg3]; exact Heap.get?_push_of_some _ ho1
  have I3:=I.kept (t':=s.toks) g3k
  have hDL:D≠X.env.locals:=Nat.ne_of_gt (Nat.lt_of_lt_of_le I.lt hDs)
  have I4:=I3.pins_of (pins':=(D,seqObj "list" #[] e1)::pins) fun q hq=>by
   rcases List.mem_cons.mp hq with rfl | hq
   ·exact ⟨g3D,hHD,hDL,I.nofs hDs,fun v z=>by cases z⟩
   ·exact I3.pin q (List.mem_append_right _ hq)
  have hkS:H g3.objs.size=none:=I.hok.fresh (by omega)
  have I5:=I4.lnew (t':=s.toks) (its:=[]) (ys:=[]) .nil (Nat.zero_le _)
  refine kE (Y:=inK X) (K:=X.K) (G:=H) (ys:=ys) (ws:=ws) (ks:=ks) (kS:=g3.objs.size) rfl rfl F (hr.in1.in1) hb (zR I5) ?_ ?_ ?_ S6 (fun b o q=>?_) hkS rv rw_ hks (by omega) fun s' H' I' sH hD'=>?_
  ·exact Nat.le_trans I.sz hDs
  ·intro q hq
   exact Nat.ne_of_lt (Nat.lt_of_lt_of_le (Heap.lt_size (I.pin q hq).1) hDs)
  ·rw [g3z]; exact Nat.ne_of_lt (Nat.lt_add_of_pos_right (by decide))
  ·rw [c7 (g8 q hkS)]; exact q
  ·exact ⟨_,rfl,wpAny_pure ⟨_,rfl,.ref D,H',vB I',rfl,h D H' hHD sH hD'⟩⟩
end
noncomputable def ck (c:Bool) (f:List W→R W):List W→R W
 | [w]=>(match lstOf w with
  | some ws=>(match E1 f ws with
   | some ks=>if ws.length<64 then chks c (u9 ks W.non ws) else .stuck
   | none=>.stuck)
  | none=>.stuck)
 | _=>.stuck
section
variable {K:Frag}
theorem nj {F:Hp} {ys:List V} {ws:List W} {ks:List (List (List Int))} (r:Reps K F ys ws) (hl:ks.length=ws.length):Reps K F (u9 ks V.non ys) (u9 ks W.non ws):=by
 unfold u9
 refine Reps.reverse (gY fun i hi=>?_)
 have hi':i<ys.reverse.length:=by
  have:=(O2 ks.reverse).mem_iff.mp hi
  have:=r.length
  rw [List.mem_range,List.length_reverse] at *
  omega
 obtain ⟨w,e,q⟩:=jA (i:=i) r.reverse hi'
 rw [show ws.reverse.getD i W.non=w by rw [List.getD_eq_getElem?_getD,e]; rfl]
 exact q
noncomputable def nk (K:Frag) (f:List W→R W):List V→Hp→VK→Prop:=fun xs H Q=>∃ p ys ws ks,xs = [.ref p]∧SqL K H p ys∧Reps K H ys ws∧E1 f ws=some ks∧ws.length<64∧∀ l H',H l=none→Same H H'→H' l=some (.lst (u9 ks V.non ys))→Q (.ref l) H'
theorem wC {c:Bool} {f:List W→R W}:Cal K (cb c) .F (nk K f) (ck c f):=by
 intro EX H0 Hs G H ρ σ Ha vs ws Q I s m o
 cases m with
 | nil=>exact o.elim
 | cons a t=>
  cases t with
  | cons _ _=>exact o.elim
  | nil=>
   rename_i w v
   unfold ck at o
   cases hl:lstOf w with
   | none=>simp only [hl] at o; exact o.elim
   | some us=>
    simp only [hl] at o
    cases ht:E1 f us with
    | none=>simp only [ht] at o; exact o.elim
    | some ks=>
     simp only [ht] at o
     by_cases hc:us.length<64
     ·rw [if_pos hc] at o
      obtain ⟨p,ys,rfl,hs,r⟩:=Md.lstOf I a hl
      have sm:Same (if c then G else join H0 G) H:=by
       cases c with
       | true=>rw [if_pos rfl]; exact I.gh
       | false=>rw [if_neg Bool.false_ne_true]; exact I.join_H
      refine ⟨p,ys,us,ks,rfl,hs,r.same sm,ht,hc,fun l H' hn sH hl'=>?_⟩
      unfold TP.chks at o
      by_cases n:(c||l9 (u9 ks W.non us))=true
      ·rw [if_pos n] at o
       have ro:=nj r (ce ht)
       have r':Reps K G (u9 ks V.non ys) (u9 ks W.non us):=by
        cases c with
        | true=>rw [if_pos rfl] at ro; exact ro
        | false=>rw [if_neg Bool.false_ne_true] at ro; exact Reps.clean I ro (by simpa using n)
       exact o _ G H' ⟨Same.refl G,sH,I.gh.trans sH,fun _ _ _ _ e=>e⟩ ⟨l,_,rfl,hl',I.gh.free hn,s.free hn,r'⟩
      ·rw [if_neg n] at o; exact o.elim
     ·rw [if_neg hc] at o; exact o.elim
end
section
variable {X:Cx} {K:Frag} {EX:EXT} {e:Expr} {pos:Pos} {mr:Rho→R (List W)}
theorem BP {f:Addr} {x:Str} {p kp1 kp2 p2:Pos} {n1 n2:Option Str} {kt:Nat} (hg:Gl X x) (hm:X.mg x=some (.ref f)) (hdb:autoParam ((x == ("__debug__" : Str))=false) au1._auto_1):PK X [⟨n1,.Name x p,kp1⟩,⟨n2,.Constant (.bool true) kt p2,kp2⟩] (aS (tC (.ref f)) (aS (tC (.bl true)) tNil)):=
 jH (fun pins s σ H Q I h=>jR I hg hm ⟨.ref f,H,I,rfl,h⟩ hdb) (jH pe_bl yE)
theorem um {k:Nat} {f:Addr} {fd:FuncData} {ps:List Str} {x y:Str} {p p1 p2 kp1 kp2:Pos} {kt:Nat} {N:Nat} {m:Rho→R Fl} {c:Bool} (F:FnOk X.prog X.w X.K X.mg X.base CX0 k f fd ps (spM K 1 .F (i6 1 N m))) (hr:Room (k+2) X.A) (hg:Gl X x) (hm:X.mg x=some (.ref f)) (hb:Binds X.K fd ps [])
  (hgs:Gl X y) (hms:X.mg y=none) (hvs:bootBuiltins y=some (.builtin "sorted")) (ha:PA X [e] (tA K EX (cb c) mr)) (hK:autoParam (X.K=K) au0._auto_1) (hdb:autoParam ((x == ("__debug__" : Str))=false) au1._auto_1) (hn:autoParam (y ≠ "__name__") au1._auto_1) (hdb2:autoParam ((y == ("__debug__" : Str))=false) au1._auto_1)
  (he:autoParam (backTo pos (starEach [e] X.env)=(false,eval e X.env)::backTo pos (starEach [] X.env)) au0._auto_1) (hplain:autoParam ((backTo pos (starEach [e] X.env)).any (·.1)=false) au0._auto_1)
  (hall:autoParam ((backToKw pos (keywordEach [⟨some "key",.Name x p1,kp1⟩,⟨some "reverse",.Constant (.bool true) kt p2,kp2⟩] X.env)).all (·.1.isSome)=true) au0._auto_1)
  (hkw:autoParam ((backToKw pos (keywordEach [⟨some "key",.Name x p1,kp1⟩,⟨some "reverse",.Constant (.bool true) kt p2,kp2⟩] X.env)).any (·.1.isNone)=false) au0._auto_1)
  (hks:autoParam ((backToKw pos (keywordEach [⟨some "key",.Name x p1,kp1⟩,⟨some "reverse",.Constant (.bool true) kt p2,kp2⟩] X.env)).filterMap (·.1) = [Str.ofString "key",Str.ofString "reverse"]) au0._auto_1) :
  PE X (.Call (.Name y p) [e] [⟨some "key",.Name x p1,kp1⟩,⟨some "reverse",.Constant (.bool true) kt p2,kp2⟩] pos) (tM K EX .F (bA (ck c (i6 1 N m)) mr)):=by
 intro pins s σ H Q I h
 have h:=rQ (wC (c:=c) (f:=i6 1 N m)) h
 refine wpAny_Call_Name_kw (Q0 I hgs hms hvs ?_ hn hdb2)
 refine PyProof.Rows.callWith_kw (thn (ha pos pins s σ H _ I h) fun us s1 zz86=>?_) he hplain hall hkw
 obtain ⟨vs,H1,I1,r1,q1⟩:=zz86
 refine thn (BP hg hm hdb pos pins s1 σ H1 (fun zs H2=>zs = [.ref f,.bl true]∧nk K (i6 1 N m) vs H2 Q) I1 ⟨rfl,q1⟩) fun us2 s2 zz87=>?_
 obtain ⟨zs,H2,I2,rz,hz,q2⟩:=zz87
 subst hz
 obtain ⟨p0,ys,ws,ks,rfl,hq,rw_,hks',h64,hQ⟩:=q2
 obtain ⟨u,rfl,ru⟩:=Q5 r1
 cases ru
 rw [hks]
 cases rz with
 | cons r2 rz=>
  cases r2
  obtain ⟨u2,rfl,ru2⟩:=Q5 rz
  cases ru2
  exact lL F hr hb hK I2 hq rw_ hks' h64 hQ
end
end TP
namespace TP
open PySem L2
section
open PySem.W PyProof.Rows
variable {X:Cx} {e:Expr} {te:TE} {st:Expr} {tk:TO} {pos p2:Pos}
end
section
variable {K:Frag} {EX:EXT} {σ:St} {H:Hp} {Q:VK}
end
section
variable {X:Cx} {K:Frag} {EX:EXT} {e:Expr} {pos:Pos} {ma:Rho→R W}
end
end TP
namespace TP
open PySem L2
section
variable {K:Frag} {EX:EXT} {H0 G H:Hp} {ρ:Rho} {σ:St} {d:Mode} {D:Ends}
end
section
variable {X:Cx} {K:Frag} {EX:EXT} {d:Mode} {e:Expr} {pos:Pos} {ma:Rho→R W}
end
end TP
namespace TP
open PySem L2
section
variable {K:Frag} {EX:EXT} {H0 G H G1 H1 F:Hp} {ρ:Rho} {σ:St} {d:Mode} {D:Ends}
end
section
variable {X:Cx} {K:Frag} {EX:EXT} {d:Mode} {e k v:Expr} {pos:Pos} {mk me:Rho→R W}
end
end TP
namespace TP
open PySem PyProof.Rows
noncomputable def kk (rk:Keyed→Int) (xs:Array Keyed) (i:Nat):Int:=match xs[i]? with
 | some p=>rk p
 | none=>0
section
variable {prog:Program} {w:World} {A:Around} {E:Value→Shared→Prop} {s:Shared} {a₀:Array Keyed} {κ:SortKind} {rk:Keyed→Int}
end
noncomputable def upL (rk:Keyed→Int) (l:List Keyed):Prop:=l.Pairwise fun x y=>rk x≤rk y
structure Mg (rk:Keyed→Int) (t:List Keyed) (out ra rb:List Keyed):Prop where
 perm:(out++(ra++rb)).Perm t
 up:upL rk out
 le:∀ x∈out,∀ y∈ra++rb,rk x≤rk y
noncomputable def Gd (rk:Keyed→Int) (t res:List Keyed):Prop:=res.Perm t∧upL rk res
section
variable {rk:Keyed→Int} {t out p ra rb:List Keyed}
end
section
variable {prog:Program} {w:World} {A:Around} {E:Value→Shared→Prop} {s:Shared} {a₀:Array Keyed} {κ:SortKind} {rk:Keyed→Int}
end
section
variable {prog:Program} {w:World} {A:Around} {E:Value→Shared→Prop} {s:Shared} {a₀:Array Keyed} {κ:SortKind} {rk:Keyed→Int}
noncomputable abbrev rn (rk:Keyed→Int) (x:Keyed):Int:=-rk x
noncomputable abbrev rv (a:Array Keyed):List Keyed:=a.toList.reverse
theorem jx {a:Array Keyed} {k:Nat}:(rv a).drop (a.size-k)=(a.toList.take k).reverse:=by
 rw [List.reverse_take]; simp
theorem Gd.rv {a b:Array Keyed} {res:List Keyed} (h:Gd (rn rk) (rv a++rv b) res.reverse):Gd rk (a.toList++b.toList) res:=by
 refine ⟨?_,?_⟩
 ·refine (List.reverse_perm res).symm.trans (h.1.trans ?_)
  exact List.Perm.append (List.reverse_perm _) (List.reverse_perm _)
 ·have:=h.2
  unfold upL at this ⊢
  rw [List.pairwise_reverse] at this
  exact this.imp fun q=>by
   have q:-_ ≤ -_:=q
   omega
theorem dv {a b out:Array Keyed} {na nb:Nat} (h:Gd (rn rk) (rv a++rv b) (out.toList++(rv b).drop (b.size-nb)++(rv a).drop (a.size-na))):Gd rk (a.toList++b.toList) (a.extract 0 na++b.extract 0 nb++out.reverse).toList:=by
 refine Gd.rv ?_
 rw [jx,jx] at h
 have e:(a.extract 0 na++b.extract 0 nb++out.reverse).toList.reverse=out.toList++(b.toList.take nb).reverse++(a.toList.take na).reverse:=by
  simp [List.extract_eq_take_drop]
 rw [e]; exact h
end
section
variable {prog:Program} {w:World} {A:Around} {E:Value→Shared→Prop} {s:Shared} {a₀:Array Keyed} {κ:SortKind} {rk:Keyed→Int}
end
section
variable {prog:Program} {w:World} {A:Around} {E:Value→Shared→Prop} {s:Shared} {a₀:Array Keyed} {κ:SortKind} {rk:Keyed→Int} {arr:Array Keyed} {pd:Array (Nat×Nat×Nat)} {g lo:Nat}
structure Rl (lo:Nat) (arr arr':Array Keyed):Prop where
 perm:arr'.toList.Perm arr.toList
 same:∀ k,k<lo→arr'[k]?=arr[k]?
end
section
variable {prog:Program} {w:World} {A:Around} {E:Value→Shared→Prop} {s:Shared} {a₀:Array Keyed} {κ:SortKind} {rk:Keyed→Int} {arr:Array Keyed} {pd:Array (Nat×Nat×Nat)} {g lo:Nat}
end
end TP
namespace TP
open PySem L2
section
open PySem.W PyProof.Rows
variable {prog:Program} {w:World} {A:Around} {E:Value→Shared→Prop} {s:Shared}
open Classical in
noncomputable def rkV (vs:List Value) (ss:List (List Int)) (p:Keyed):Int:=if h:∃ i,i<vs.length∧vs.getD i Value.none=p.1 then BH ss h.choose else 0
end
section
variable {X:Cx} {K:Frag}
end
section
variable {K:Frag}
end
end TP
namespace TP
open PySem L2
section
variable {K:Frag} {EX:EXT} {H0 G H G1 H1 F:Hp} {ρ:Rho} {σ:St} {d:Mode} {D:Ends}
end
section
variable {X:Cx} {K:Frag} {d:Mode} {e:Expr} {es:List Expr} {pos:Pos} {mr:Rho→R (List W)}
end
end TP
namespace TP
open PySem L2
section
variable {K:Frag} {EX:EXT} {X:Cx} {tg e:Expr} {ma:Rho→R W}
end
end TP
namespace TP
open PySem L2
noncomputable def CW (H:Hp):Prop:=∀ a vs,H a≠some (.lst vs)
noncomputable def OutN (K:Frag) (d:Mode) (Hb:Hp) (r:R Fl) (D:Ends):Prop:=match r with
 | .ok (.nx ρ)=>∀ H0 G' σ' H',Same Hb H0→PIv K H0 G' ρ σ' H'→D.nx σ' H'
 | .ok (.rt w)=>∀ v G' H',Same G' H'→Same Hb H'→(∀ a o,Hb a=some o→isL o=true→G' a=none)→Md K Hb Hb G' H' v w d→D.rt v H'
 | _=>False
noncomputable def tStN (K:Frag) (EX:EXT) (d:Mode) (m:Rho→R Fl):TS:=fun D σ H=>∃ Hb H0 G ρ,CW Hb∧Same Hb H0∧PIv K H0 G ρ σ H∧OutN K d Hb (m ρ) D
section
variable {K:Frag} {EX:EXT} {Hb H0 G H G1 H1 G2 H2:Hp} {ρ:Rho} {σ:St} {d:Mode} {D:Ends}
end
section
variable {X:Cx} {K:Frag} {EX:EXT} {d:Mode} {e:Expr} {es:List Expr} {pos:Pos} {ma:Rho→R W} {mr:Rho→R (List W)} {m n:Rho→R Fl} {ta:Rho→R Bool} {st:Stmt} {sts:List Stmt}
end
end TP
namespace TP
open PySem L2
open PyProof.Rows (envOfC)
noncomputable def XE1 (K:Frag) (E:XK):EXT:=fun e H=>∀ (C:Addr) (od:Option Addr),PySem.W.nsIn K mainGlobals e.cls=some (some (.ref C))→XD H od e.at_→E (.ref C) od H
noncomputable def spR (K:Frag) (n:Nat) (d:Mode) (f:List W→R W):Sp:=fun vs H Q E=>vs.length=n∧∃ ws,Reps K H vs ws∧match f ws with
 | .ok w=>∀ v G' H',Same H H'→Same G' H'→(∀ a o,H a=some o→isL o=true→G' a=none)→Md K H H G' H' v w d→Q v H'
 | .ex e=>∀ H',Same H H'→XE1 K E e H'
 | .stuck=>False
noncomputable def calm (f:List W→R W):List W→R W:=fun ws=>match f ws with
 | .ok w=>.ok w
 | _=>.stuck
section
variable {K:Frag} {EX:EXT} {H0 G H G1 H1 G2 H2:Hp} {ρ:Rho} {σ:St} {d:Mode} {D:Ends}
noncomputable def flUn (j:Nat):Fl→R Fl
 | .nx ρ=>.ok (.nx (ρ.set j .un))
 | .bk ρ=>.ok (.bk (ρ.set j .un))
 | .ct ρ=>.ok (.ct (ρ.set j .un))
 | .rt w=>.ok (.rt w)
noncomputable def mExc (c:Str) (j:Nat) (mb:Rho→R Fl) (e:XW) (ρ:Rho):R Fl:=if e.cls=c then mb (ρ.set j (.val (.exc e.cls e.at_)))>>=flUn j else .stuck
end
section
variable {X:Cx} {K:Frag} {EX:EXT} {d:Mode} {e:Expr} {es:List Expr} {pos:Pos} {ma:Rho→R W} {mr:Rho→R (List W)} {mb:Rho→R Fl}
end
section
variable {P:Program} {w:World} {K:Frag} {mg:Str→Option Value} {base:Heap} {N:List Str} {qual:Str} {scope:Scope} {f0:Addr} {cd:Value} {A:Around} {outer:List Env} {s0:Shared} {H0:Hp} {E:XK} {d:Mode} {e:Expr} {es:List Expr} {pos:Pos} {mr:Rho→R (List W)}
end
end TP
namespace TP
open PySem L2
noncomputable def big8:Int:=2^200
noncomputable def bF (_ j:Int):Prop:=0<j∧j<big8
noncomputable instance (i j:Int):Decidable (bF i j):=by unfold bF; infer_instance
theorem ql {X:Cx}:OpR X (binaryOp .FloorDiv) (rI bF fun i j=>.int (i/j)):=opI fun i j _ _ _ _ _ hc q=>by
 have h1:(0:Int)<j:=hc.1
 have h2:j<big8:=hc.2
 refine PyProof.Rows.floordiv_int (by omega) (by rw [Int.fdiv_eq_ediv_of_nonneg i (by omega)]; exact q) (.inl (PyProof.noPylong_of_log2 ?_))
 have h3:j.natAbs<2^9000:=by
  have:j.natAbs<2^200:=by
   have h4:(j.natAbs:Int)<2^200:=by
    rw [Int.natAbs_of_nonneg (by omega)]; exact h2
   exact_mod_cast h4
  exact Nat.lt_of_lt_of_le this (Nat.pow_le_pow_right (by decide) (by decide))
 by_cases h0:j.natAbs=0
 ·omega
 ·exact (Nat.log2_lt h0).mpr h3
theorem wf {i j:Int} (h0:0<j) (h:j≤1000000000000000000000):fI bF ci (.int i) (.int j)=.ok (.int (i/j)):=by
 show (if bF i j then _ else _)=_
 rw [if_pos ⟨h0,Int.lt_of_le_of_lt h (by unfold big8; decide)⟩]
end TP
namespace TP
open PySem L2
noncomputable abbrev tI (ns:List Int):W:=.tup (ns.map W.int)
noncomputable abbrev lI (ns:List Int):W:=.lst (ns.map W.int)
theorem C4 (ns:List Int):l9 (ns.map W.int)=true:=by
 induction ns with
 | nil=>rfl
 | cons n ns ih=>rw [List.map_cons]; simp only [l9,noL,ih,Bool.and_self]
theorem vY (n:Bool) (i j:Int):y8 n (.int i) (.int j)=.ok (.bl (if n then !decide (i=j) else decide (i=j))):=by
 show R.ok (W.bl (if n then !decide (V.int i=V.int j) else decide (V.int i=V.int j)))=_
 rw [show decide (V.int i=V.int j)=decide (i=j) from decide_eq_decide.mpr ⟨V.int.inj,congrArg _⟩]
theorem vZ (n:Bool) (i j:Bool):y8 n (.bl i) (.bl j)=.ok (.bl (if n then !decide (i=j) else decide (i=j))):=by
 show R.ok (W.bl (if n then !decide (V.bl i=V.bl j) else decide (V.bl i=V.bl j)))=_
 rw [show decide (V.bl i=V.bl j)=decide (i=j) from decide_eq_decide.mpr ⟨V.bl.inj,congrArg _⟩]
theorem vU (n:Bool) (i j:Str):y8 n (.str i) (.str j)=.ok (.bl (if n then !decide (i=j) else decide (i=j))):=by
 show R.ok (W.bl (if n then !decide (V.str i=V.str j) else decide (V.str i=V.str j)))=_
 rw [show decide (V.str i=V.str j)=decide (i=j) from decide_eq_decide.mpr ⟨V.str.inj,congrArg _⟩]
theorem vV (n:Bool):y8 n .non .non=.ok (.bl (!n)):=by cases n <;> rfl
theorem vW (n:Bool) (i:Int):y8 n .non (.int i)=.ok (.bl n):=by cases n <;> rfl
theorem vX (n:Bool) (i:Int):y8 n (.int i) .non=.ok (.bl n):=by cases n <;> rfl
theorem atW {ns:List Int} {i:Int} (h0:0≤i) (h1:i<ns.length):L2.atI (ns.map W.int) i=some (.int (ns.getD i.toNat 0)):=by
 unfold L2.atI
 rw [List.length_map,aG h0 h1]
 show (ns.map W.int)[i.toNat]?=_
 rw [List.getElem?_map,O1 (by omega)]; rfl
theorem O7 {ns:List Int} {k:Nat} (h1:k<ns.length):L2.atI (ns.map W.int) (k:Int)=some (.int (ns.getD k 0)):=by
 have:=atW (ns:=ns) (i:=(k:Int)) (by omega) (by omega)
 rw [Int.toNat_natCast] at this; exact this
theorem Q4 {ws:List W} {k:Nat} {w:W} (h:ws[k]?=some w):L2.atI ws (k:Int)=some w:=by
 have hk:=(List.getElem?_eq_some_iff.mp h).1
 unfold L2.atI
 rw [aG (by omega) (by omega),Int.toNat_natCast]
 exact h
noncomputable def andThen (r:R Fl) (n:Rho→R Fl):R Fl:=r>>=fun f=>match f with
 | .nx ρ'=>n ρ'
 | .rt w=>.ok (.rt w)
 | .bk ρ'=>.ok (.bk ρ')
 | .ct ρ'=>.ok (.ct ρ')
theorem vh (m n:Rho→R Fl) (ρ:Rho):c6 m n ρ=andThen (m ρ) n:=rfl
theorem lR (ρ:Rho) (n:Rho→R Fl):andThen (.ok (.nx ρ)) n=n ρ:=rfl
theorem lQ (w:W) (n:Rho→R Fl):andThen (.ok (.rt w)) n=.ok (.rt w):=rfl
theorem lT (ρ:Rho) (n:Rho→R Fl):andThen (.ok (.bk ρ)) n=.ok (.bk ρ):=rfl
theorem lS (ρ:Rho) (n:Rho→R Fl):andThen (.ok (.ct ρ)) n=.ok (.ct ρ):=rfl
theorem Cf (w:W) (ρ:Rho):mC w ρ=.ok w:=rfl
theorem CO (f:W→R W) (ma:Rho→R W) (ρ:Rho):b1 f ma ρ=(ma ρ>>=f):=rfl
noncomputable def R2b (a b:R W) (f:W→W→R W):R W:=a>>=fun x=>b>>=fun y=>f x y
theorem CN (f:W→W→R W) (ma mb:Rho→R W) (ρ:Rho):b2 f ma mb ρ=R2b (ma ρ) (mb ρ) f:=rfl
theorem Bu (x y:W) (f:W→W→R W):R2b (.ok x) (.ok y) f=f x y:=rfl
theorem CM (f:List W→R W) (ma:Rho→R (List W)) (ρ:Rho):bA f ma ρ=(ma ρ>>=f):=rfl
theorem CL (f:List W→R (List W)) (ma:Rho→R (List W)) (ρ:Rho):bI f ma ρ=(ma ρ>>=f):=rfl
theorem CK (ma:Rho→R W) (ρ:Rho):bS ma ρ=(ma ρ>>=y6):=rfl
theorem CT (ρ:Rho):aN ρ=.ok []:=rfl
noncomputable def lV (a:R W) (b:R (List W)):R (List W):=a>>=fun x=>b>>=fun xs=>.ok (x::xs)
theorem CU (ma:Rho→R W) (mr:Rho→R (List W)) (ρ:Rho):aC ma mr ρ=lV (ma ρ) (mr ρ):=rfl
theorem rZ (x:W) (xs:List W):lV (.ok x) (.ok xs)=.ok (x::xs):=rfl
theorem wE (ma:Rho→R W) (ρ:Rho):Y5 ma ρ=(ma ρ>>=chk):=rfl
theorem rT (ma:Rho→R W) (ρ:Rho):d6 ma ρ=(ma ρ>>=toB):=rfl
theorem tO (a b:Rho→R Bool) (ρ:Rho):gi a b ρ=eP (a ρ) (b ρ):=rfl
theorem xi (a b:Rho→R Bool) (ρ:Rho):W3 a b ρ=rOr (a ρ) (b ρ):=rfl
theorem tN (a:Rho→R Bool) (ρ:Rho):B4 a ρ=kK (a ρ):=rfl
theorem uk (x y:Bool):eP (.ok x) (.ok y)=.ok (x&&y):=by cases x <;> rfl
theorem ul (r:R Bool):eP (.ok false) r=.ok false:=rfl
theorem uj (r:R Bool):eP (.ok true) r=r:=rfl
theorem yg (x y:Bool):rOr (.ok x) (.ok y)=.ok (x||y):=by cases x <;> rfl
theorem yf (r:R Bool):rOr (.ok true) r=.ok true:=rfl
theorem yh (r:R Bool):rOr (.ok false) r=r:=rfl
theorem uf (x:Bool):kK (.ok x)=.ok (!x):=rfl
theorem tH (a b:Rho→R W) (ρ:Rho):kj a b ρ=cy (a ρ) (b ρ):=rfl
theorem wV (a b:Rho→R W) (ρ:Rho):vOr a b ρ=hV (a ρ) (b ρ):=rfl
theorem tF (a:Rho→R W) (ρ:Rho):oS a ρ=gm (a ρ):=rfl
theorem pZ (x y:Bool):cy (.ok (.bl x)) (.ok (.bl y))=.ok (.bl (x&&y)):=by cases x <;> rfl
theorem qc (r:R W):cy (.ok (.bl false)) r=.ok (.bl false):=rfl
theorem pY (r:R W):cy (.ok (.bl true)) r=r:=rfl
theorem ud (x y:Bool):hV (.ok (.bl x)) (.ok (.bl y))=.ok (.bl (x||y)):=by cases x <;> rfl
theorem uc (r:R W):hV (.ok (.bl true)) r=.ok (.bl true):=rfl
theorem ue (r:R W):hV (.ok (.bl false)) r=r:=rfl
theorem pW (x:Bool):gm (.ok (.bl x))=.ok (.bl (!x)):=rfl
noncomputable def kL (c:R Bool) (a b:R W):R W:=c>>=fun t=>if t then a else b
theorem wW (c:Rho→R Bool) (a b:Rho→R W) (ρ:Rho):vIf c a b ρ=kL (c ρ) (a ρ) (b ρ):=rfl
theorem ug (a b:R W):kL (.ok true) a b=a:=rfl
theorem ui (a b:R W):kL (.ok false) a b=b:=rfl
theorem uh (t:Bool) (x y:W):kL (.ok t) (.ok x) (.ok y)=.ok (if t then x else y):=by cases t <;> rfl
noncomputable def iW (f f':W→W→R W) (a b c:R W):R W:=a>>=fun x=>b>>=fun y=>f x y>>=fun z=>toB z>>=fun t=>if t then c>>=fun u=>f' y u else .ok (.bl false)
theorem mz (f f':W→W→R W) (ma mb mc:Rho→R W) (ρ:Rho):gw f f' ma mb mc ρ=iW f f' (ma ρ) (mb ρ) (mc ρ):=rfl
theorem oO (g g':Int→Int→Bool) (i j k:Int):iW (fI0 fun i j=>.bl (g i j)) (fI0 fun i j=>.bl (g' i j)) (.ok (.int i)) (.ok (.int j)) (.ok (.int k))=.ok (.bl (g i j&&g' j k)):=by
 unfold iW
 show (if g i j=true then _ else _)=_
 cases h:g i j <;> simp [fI0]
noncomputable def lr (ws:List W):R W:=lim ws.length (.tup ws)
noncomputable def lu (ws:List W):R W:=lim ws.length (.lst ws)
theorem tE (ma:Rho→R (List W)) (ρ:Rho):F8 ma ρ=(ma ρ>>=lr):=rfl
theorem tG (ma:Rho→R (List W)) (ρ:Rho):C5 ma ρ=(ma ρ>>=lu):=rfl
theorem BU (ρ:Rho):pN ρ=.ok none:=rfl
theorem BT (m:Rho→R W) (ρ:Rho):pS m ρ=(m ρ>>=gn):=rfl
theorem nA (i:Int):gn (.int i)=.ok (some i):=rfl
noncomputable def Rsl (c:Bool) (x:R W) (l u:R (Option Int)):R W:=x>>=fun x=>l>>=fun l=>u>>=fun u=>toR (lstOf x)>>=fun ws=>chks c (U7 ws l u)
theorem wU (c:Bool) (m:Rho→R W) (ml mh:Rho→R (Option Int)) (ρ:Rho):vSl c m ml mh ρ=Rsl c (m ρ) (ml ρ) (mh ρ):=rfl
theorem wL (c:Bool) (ws:List W) (l u:Option Int):Rsl c (.ok (.lst ws)) (.ok l) (.ok u)=chks c (U7 ws l u):=rfl
theorem wK (c:Bool) (ws:List W) (l u:Option Int):Rsl c (.ok (.scr ws)) (.ok l) (.ok u)=chks c (U7 ws l u):=rfl
noncomputable def sY (r:R (List W)) (n:Nat) (mg:W→Rho→Option Rho) (mc:Rho→R Bool) (me:Rho→R W) (ρ:Rho):R W:=r>>=fun ws=>m5 n mg mc me ws ρ
theorem oT (n:Nat) (mi:Rho→R (List W)) (mg:W→Rho→Option Rho) (mc:Rho→R Bool) (me:Rho→R W) (ρ:Rho):o0 n mi mg mc me ρ=sY (mi ρ) n mg mc me ρ:=rfl
theorem sd (ws:List W) (n:Nat) (mg:W→Rho→Option Rho) (mc:Rho→R Bool) (me:Rho→R W) (ρ:Rho):sY (.ok ws) n mg mc me ρ=m5 n mg mc me ws ρ:=rfl
theorem xA (ρ:Rho):sNx ρ=.ok (.nx ρ):=rfl
theorem xD (ρ:Rho):sBk ρ=.ok (.bk ρ):=rfl
theorem xB (ρ:Rho):sCt ρ=.ok (.ct ρ):=rfl
noncomputable def sX (r:R W) (ρ:Rho):R Fl:=r>>=fun _=>.ok (.nx ρ)
theorem pH (m:Rho→R W) (ρ:Rho):BF m ρ=sX (m ρ) ρ:=rfl
theorem rY (w:W) (ρ:Rho):sX (.ok w) ρ=.ok (.nx ρ):=rfl
noncomputable def eO (w:W):R Fl:=.ok (.rt w)
theorem tR (m:Rho→R W) (ρ:Rho):i9 m ρ=(m ρ>>=eO):=rfl
theorem ua (w:W):eO w=.ok (.rt w):=rfl
theorem pG (ρ:Rho):BC ρ=.ok (.rt .non):=rfl
noncomputable def lU (r:R W) (f:W→Sl) (i:Nat) (ρ:Rho):R Fl:=r>>=fun w=>.ok (.nx (ρ.set i (f w)))
theorem BA (i:Nat) (m:Rho→R W) (ρ:Rho):sV i m ρ=lU (m ρ) Sl.val i ρ:=rfl
theorem BB (i:Nat) (m:Rho→R W) (ρ:Rho):sU i m ρ=lU (m ρ) Sl.par i ρ:=rfl
theorem BE (i:Nat) (m:Rho→R W) (ρ:Rho):sF i m ρ=lU (m ρ) S4 i ρ:=rfl
theorem wM (w:W) (f:W→Sl) (i:Nat) (ρ:Rho):lU (.ok w) f i ρ=.ok (.nx (ρ.set i (f w))):=rfl
theorem mO (ws:List W):S4 (.lst ws)=.own ws:=rfl
theorem mL (ws:List W):S4 (.tup ws)=.val (.tup ws):=rfl
theorem mP (i:Int):S4 (.int i)=.val (.int i):=rfl
theorem pA (i:Bool):S4 (.bl i)=.val (.bl i):=rfl
theorem mN:S4 .non=.val .non:=rfl
theorem mM (i:Str):S4 (.str i)=.val (.str i):=rfl
noncomputable def xc:Option Rho→R Fl
 | some ρ=>.ok (.nx ρ)
 | none=>.stuck
noncomputable def Bt (r:R W) (mg:W→Rho→Option Rho) (ρ:Rho):R Fl:=r>>=fun w=>toR (mg w ρ)>>=fun ρ'=>.ok (.nx ρ')
theorem BD (mg:W→Rho→Option Rho) (m:Rho→R W) (ρ:Rho):sG mg m ρ=Bt (m ρ) mg ρ:=rfl
theorem wP (w:W) (mg:W→Rho→Option Rho) (ρ:Rho):Bt (.ok w) mg ρ=xc (mg w ρ):=by
 show (toR (mg w ρ)>>=_)=_
 cases mg w ρ <;> rfl
theorem mG (ρ:Rho):xc (some ρ)=.ok (.nx ρ):=rfl
noncomputable def Bq (r:R (List W)) (mg:W→Rho→Option Rho) (mb:Rho→R Fl) (ρ:Rho):R Fl:=r>>=fun ws=>J9 mg mb ws ρ
theorem tU (mi:Rho→R (List W)) (mg:W→Rho→Option Rho) (mb:Rho→R Fl) (ρ:Rho):B0 mi mg mb ρ=Bq (mi ρ) mg mb ρ:=rfl
theorem wN (ws:List W) (mg:W→Rho→Option Rho) (mb:Rho→R Fl) (ρ:Rho):Bq (.ok ws) mg mb ρ=J9 mg mb ws ρ:=rfl
theorem tS (i:Nat) (m:Rho→R Fl) (ρ:Rho):cU i m ρ=m (frz i ρ):=rfl
noncomputable def fq:Option Sl→Nat→Rho→Rho
 | some (.own ws),i,ρ=>ρ.set i (.val (.lst ws))
 | _,_,ρ=>ρ
theorem Ad (i:Nat) (ρ:Rho):frz i ρ=fq (ρ[i]?) i ρ:=by
 unfold frz fq
 rcases h:ρ[i]? with _ | s
 ·rfl
 ·cases s <;> rfl
theorem rh (ws:List W) (i:Nat) (ρ:Rho):fq (some (.own ws)) i ρ=ρ.set i (.val (.lst ws)):=rfl
theorem rf (w:W) (i:Nat) (ρ:Rho):fq (some (.val w)) i ρ=ρ:=rfl
theorem rg (w:W) (i:Nat) (ρ:Rho):fq (some (.par w)) i ρ=ρ:=rfl
theorem vM (i:Nat) (ρ:Rho):fq (some .un) i ρ=ρ:=rfl
noncomputable def rdS (d:Mode):Option Sl→R W
 | some (.val w)=>(match d with | .F=>chk w | _=>.ok w)
 | some (.par w)=>(match d with | .F=>chk w | .V=>chk w | .C=>chk w | _=>.ok w)
 | some (.own ws)=>(match d with | .C=>.ok (.lst ws) | .B=>.ok (.lst ws) | _=>.stuck)
 | some (.iop _ ws)=>(match d with | .B=>.ok (.lst ws) | .U=>.ok (.lst ws) | _=>.stuck)
 | some (.hz w)=>(match d with | .B=>.ok w | .U=>.ok w | _=>.stuck)
 | _=>.stuck
theorem fg (d:Mode) (i:Nat) (ρ:Rho):b5 d i ρ=rdS d (ρ[i]?):=by
 unfold b5 rdS
 rfl
theorem xS (w:W):rdS .F (some (.val w))=chk w:=rfl
theorem xQ (w:W):rdS .V (some (.val w))=.ok w:=rfl
theorem xR (w:W):rdS .U (some (.val w))=.ok w:=rfl
theorem xT (w:W):rdS .C (some (.val w))=.ok w:=rfl
theorem xU (w:W):rdS .B (some (.val w))=.ok w:=rfl
theorem xX (w:W):rdS .F (some (.par w))=chk w:=rfl
theorem xV (w:W):rdS .V (some (.par w))=chk w:=rfl
theorem xW (w:W):rdS .U (some (.par w))=.ok w:=rfl
theorem xY (w:W):rdS .C (some (.par w))=chk w:=rfl
theorem xZ (w:W):rdS .B (some (.par w))=.ok w:=rfl
theorem ya (ws:List W):rdS .C (some (.own ws))=.ok (.lst ws):=rfl
theorem yb (ws:List W):rdS .B (some (.own ws))=.ok (.lst ws):=rfl
noncomputable def retS (d:Mode):Option Sl→R Fl
 | some (.own ws)=>.ok (.rt (.lst ws))
 | o=>rdS d o>>=eO
theorem lx (d:Mode) (i:Nat) (ρ:Rho):t0 d i ρ=retS d (ρ[i]?):=by
 unfold t0 retS
 rw [fg]
 rcases h:ρ[i]? with _ | s
 ·rfl
 ·cases s <;> rfl
theorem pQ (d:Mode) (ws:List W):retS d (some (.own ws))=.ok (.rt (.lst ws)):=rfl
theorem pO (d:Mode) (w:W):retS d (some (.val w))=(rdS d (some (.val w))>>=eO):=rfl
theorem pP (d:Mode) (w:W):retS d (some (.par w))=(rdS d (some (.par w))>>=eO):=rfl
noncomputable def rW (o:Option Sl) (r:R W) (i:Nat) (ρ:Rho):R Fl:=match o with
 | some (.own ws)=>r>>=fun w=>if ws.length<1000 then .ok (.nx (ρ.set i (.own (ws ++ [w])))) else .stuck
 | _=>.stuck
theorem vp (i:Nat) (m:Rho→R W) (ρ:Rho):U5 i m ρ=rW (ρ[i]?) (m ρ) i ρ:=rfl
theorem wG (ws:List W) (w:W) (i:Nat) (ρ:Rho):rW (some (.own ws)) (.ok w) i ρ=if ws.length<1000 then .ok (.nx (ρ.set i (.own (ws ++ [w])))) else .stuck:=rfl
noncomputable def xu (o:Option Sl) (a b:R W) (i:Nat) (ρ:Rho):R Fl:=match o with
 | some (.own ws)=>b>>=fun w=>a>>=fun k=>(match k with
  | .int k=>(match ixN ws.length k with
   | some j=>.ok (.nx (ρ.set i (.own (ws.set j w))))
   | none=>.stuck)
  | _=>.stuck)
 | _=>.stuck
theorem vg (i:Nat) (mk me:Rho→R W) (ρ:Rho):dm i mk me ρ=xu (ρ[i]?) (mk ρ) (me ρ) i ρ:=rfl
noncomputable def xv (o:Option Nat) (ws:List W) (w:W) (i:Nat) (ρ:Rho):R Fl:=match o with
 | some j=>.ok (.nx (ρ.set i (.own (ws.set j w))))
 | none=>.stuck
theorem tQ (ws:List W) (w:W) (k:Int) (i:Nat) (ρ:Rho):xu (some (.own ws)) (.ok (.int k)) (.ok w) i ρ=xv (ixN ws.length k) ws w i ρ:=rfl
theorem mS (j:Nat) (ws:List W) (w:W) (i:Nat) (ρ:Rho):xv (some j) ws w i ρ=.ok (.nx (ρ.set i (.own (ws.set j w)))):=rfl
noncomputable def Bl (f:Int→Int→Int) (a b:R W) (i:Nat) (ρ:Rho):R Fl:=a>>=fun x=>b>>=fun y=>match x,y with
 | .int a,.int b=>.ok (.nx (ρ.set i (.val (.int (f a b)))))
 | _,_=>.stuck
theorem vo (i:Nat) (f:Int→Int→Int) (m:Rho→R W) (ρ:Rho):iB i f m ρ=Bl f (rdS .B (ρ[i]?)) (m ρ) i ρ:=by
 rw [← fg]; rfl
theorem wF (f:Int→Int→Int) (a b:Int) (i:Nat) (ρ:Rho):Bl f (.ok (.int a)) (.ok (.int b)) i ρ=.ok (.nx (ρ.set i (.val (.int (f a b))))):=rfl
noncomputable def ifS (c:R Bool) (m n:Rho→R Fl) (ρ:Rho):R Fl:=c>>=fun b=>if b then m ρ else n ρ
theorem zb (c:Rho→R Bool) (m n:Rho→R Fl) (ρ:Rho):mIf c m n ρ=ifS (c ρ) m n ρ:=rfl
theorem zS (m n:Rho→R Fl) (ρ:Rho):ifS (.ok true) m n ρ=m ρ:=rfl
theorem zT (m n:Rho→R Fl) (ρ:Rho):ifS (.ok false) m n ρ=n ρ:=rfl
noncomputable def w4 (r:R Fl):R W:=r>>=fun f=>match f with
 | .rt w=>.ok w
 | .nx _=>.ok .non
 | _=>.stuck
theorem aA {n N:Nat} {m:Rho→R Fl} {ws:List W} (h:ws.length=n):i6 n N m ws=w4 (m (ws.map Sl.par++List.replicate (N-n) Sl.un)):=by unfold i6; rw [if_pos h]; rfl
theorem xI {N:Nat} {m:Rho→R Fl} (a:W):i6 1 N m [a]=w4 (m (Sl.par a::List.replicate (N-1) Sl.un)):=aA rfl
theorem xH {N:Nat} {m:Rho→R Fl} (a b:W):i6 2 N m [a,b]=w4 (m (Sl.par a::Sl.par b::List.replicate (N-2) Sl.un)):=aA rfl
theorem xG {N:Nat} {m:Rho→R Fl} (a b c:W):i6 3 N m [a,b,c]=w4 (m (Sl.par a::Sl.par b::Sl.par c::List.replicate (N-3) Sl.un)):=aA rfl
theorem xF {N:Nat} {m:Rho→R Fl} (a b c d:W):i6 4 N m [a,b,c,d]=w4 (m (Sl.par a::Sl.par b::Sl.par c::Sl.par d::List.replicate (N-4) Sl.un)):=aA rfl
theorem xE {N:Nat} {m:Rho→R Fl} (a b c d e:W):i6 5 N m [a,b,c,d,e]=w4 (m (Sl.par a::Sl.par b::Sl.par c::Sl.par d::Sl.par e::List.replicate (N-5) Sl.un)):=aA rfl
theorem wd (w:W):w4 (.ok (.rt w))=.ok w:=rfl
theorem we (ρ:Rho):w4 (.ok (.nx ρ))=.ok .non:=rfl
theorem Ap (g:Int→Int→W) (i j:Int):fI0 g (.int i) (.int j)=.ok (g i j):=rfl
theorem fU_i (g:Int→W) (i:Int):fU g (.int i)=.ok (g i):=rfl
theorem Cn (ws:List W) (i:Int):fIx (.lst ws) (.int i)=toR (L2.atI ws i):=rfl
theorem Cl (ws:List W) (i:Int):fIx (.tup ws) (.int i)=toR (L2.atI ws i):=rfl
theorem Cm (ws:List W) (i:Int):fIx (.scr ws) (.int i)=toR (L2.atI ws i):=rfl
theorem pc {α:Type} (a:α):toR (some a)=.ok a:=rfl
theorem xf (b:Bool):toB (.bl b)=.ok b:=rfl
theorem Aj (ws:List W):fLen [.lst ws]=.ok (.int ws.length):=rfl
theorem Ah (ws:List W):fLen [.tup ws]=.ok (.int ws.length):=rfl
theorem Ai (ws:List W):fLen [.scr ws]=.ok (.int ws.length):=rfl
theorem vQ (c:Bool) (ws:List W):bx c [.lst ws]=chks c ws:=rfl
theorem vP (c:Bool) (ws:List W):bx c [.tup ws]=chks c ws:=rfl
theorem oj (c:Bool) (ws:List W):N7 c [.lst ws]=Y1 c ws:=rfl
theorem Ae (c:Bool) (ws:List W):N7 c [.tup ws]=Y1 c ws:=rfl
theorem AF (ws:List W):chks true ws=.ok (.lst ws):=rfl
theorem AM (ws:List W):Y1 true ws=.ok (.tup ws):=rfl
theorem W0 {c:Bool} {ws:List W} (h:l9 ws=true):chks c ws=.ok (.lst ws):=by unfold chks; rw [h,Bool.or_true,if_pos rfl]
theorem aM {c:Bool} {ws:List W} (h:l9 ws=true):Y1 c ws=.ok (.tup ws):=by unfold Y1; rw [h,Bool.or_true,if_pos rfl]
theorem AI (c:Bool) (ns:List Int):chks c (ns.map W.int)=.ok (.lst (ns.map W.int)):=W0 (C4 ns)
theorem AO (c:Bool) (ns:List Int):Y1 c (ns.map W.int)=.ok (.tup (ns.map W.int)):=aM (C4 ns)
theorem M4 {w:W} (h:noL w=true):chk w=.ok w:=by unfold chk; rw [if_pos h]
theorem wn (i:Int):chk (.int i)=.ok (.int i):=rfl
theorem AL (i:Bool):chk (.bl i)=.ok (.bl i):=rfl
theorem wk (i:Str):chk (.str i)=.ok (.str i):=rfl
theorem wm:chk .non=.ok .non:=rfl
theorem AJ (ns:List Int):chk (.tup (ns.map W.int))=.ok (.tup (ns.map W.int)):=M4 (C4 ns)
theorem Cp (g:Int→Int→Int) (i j:Int):f2 g [.int i,.int j]=.ok (.int (g i j)):=rfl
theorem xy (ws:List W):y6 (.lst ws)=.ok ws:=rfl
theorem xw (ws:List W):y6 (.tup ws)=.ok ws:=rfl
theorem xx (ws:List W):y6 (.scr ws)=.ok ws:=rfl
theorem xM (j:Int):N2 [.int j]=P1 0 j:=rfl
theorem xL (i j:Int):rng2 [.int i,.int j]=P1 i j:=rfl
theorem gN_U (i:Nat) (w:W) (ρ:Rho):gN .U i w ρ=some (ρ.set i (.par w)):=rfl
theorem gN_V (i:Nat) (w:W) (ρ:Rho):gN .V i w ρ=some (ρ.set i (.val w)):=rfl
theorem gT_t (n:Nat) (g:List W→Rho→Option Rho) (ws:List W) (ρ:Rho):gT n g (.tup ws) ρ=if ws.length=n then g ws ρ else none:=rfl
theorem qW (f:W→Rho→Option Rho) (g:List W→Rho→Option Rho) (w:W) (ws:List W) (ρ:Rho):o8 f g (w::ws) ρ=(f w ρ).bind (g ws):=rfl
theorem vG (ρ:Rho):gsNil [] ρ=some ρ:=rfl
theorem qD (ws:List W):lr ws=if ws.length≤1000 then .ok (.tup ws) else .stuck:=rfl
theorem qE (ws:List W):lu ws=if ws.length≤1000 then .ok (.lst ws) else .stuck:=rfl
theorem vR (x:W) (T:String):fIsi [x,.ty T]=(toR ((tyW x).bind fun A=>v8 A T)>>=fun b=>.ok (.bl b)):=rfl
theorem zw:v8 "NoneType" "tuple" = some false:=by decide
theorem zx:v8 "NoneType" "list" = some false:=by decide
theorem zA:v8 "list" "tuple" = some false:=by decide
theorem zp:v8 "tuple" "list" = some false:=by decide
theorem Ak (n:Bool) (u:W):F2 n u .non=.ok (.bl (if n then !isN u else isN u)):=rfl
theorem qG {f:W→R (Option W)} {α:Type} (g:α→W) (s:α→W):∀ (as:List α),(∀ a∈as,f (s a)=.ok (some (g a)))→mapR f (as.map s)=.ok (as.map g):=by
 intro as
 induction as with
 | nil=>exact fun _=>rfl
 | cons a as ih=>
  intro h
  rw [List.map_cons,mapR,h a List.mem_cons_self,ih fun b hb=>h b (List.mem_cons_of_mem _ hb)]
  rfl
theorem ji {f:W→R (Option W)} {α:Type} (g:α→W) (s:α→W) (c:α→Bool):∀ (as:List α),(∀ a∈as,f (s a)=.ok (if c a then some (g a) else none))→mapR f (as.map s)=.ok ((as.filter c).map g):=by
 intro as
 induction as with
 | nil=>exact fun _=>rfl
 | cons a as ih=>
  intro h
  rw [List.map_cons,mapR,h a List.mem_cons_self,ih fun b hb=>h b (List.mem_cons_of_mem _ hb),List.filter_cons]
  cases c a <;> rfl
theorem l4 {N':Nat} {mg:W→Rho→Option Rho} {me:Rho→R W} {α:Type} (g:α→W) (s:α→W) (as:List α) (ρ:Rho) (hl:as.length≤1000)
  (h:∀ a∈as,∃ ρ1,mg (s a) (ρ++List.replicate (N'-ρ.length) Sl.un)=some ρ1∧me ρ1=.ok (g a)):m5 N' mg yes me (as.map s) ρ=.ok (.lst (as.map g)):=by
 unfold m5
 rw [List.length_map,if_pos hl,qG g s as]
 intro a ha
 obtain ⟨ρ1,e1,e2⟩:=h a ha
 unfold elR
 rw [e1]
 have hy:yes ρ1=.ok true:=rfl
 dsimp only
 rw [hy]
 dsimp only
 rw [e2]
theorem X9 {N':Nat} {mg:W→Rho→Option Rho} {mc:Rho→R Bool} {me:Rho→R W} {α:Type} (g:α→W) (s:α→W) (c:α→Bool) (as:List α) (ρ:Rho) (hl:as.length≤1000)
  (h:∀ a∈as,∃ ρ1,mg (s a) (ρ++List.replicate (N'-ρ.length) Sl.un)=some ρ1∧mc ρ1=.ok (c a)∧(c a=true→me ρ1=.ok (g a))):m5 N' mg mc me (as.map s) ρ=.ok (.lst ((as.filter c).map g)):=by
 unfold m5
 rw [List.length_map,if_pos hl,ji g s c as]
 intro a ha
 obtain ⟨ρ1,e1,e2,e3⟩:=h a ha
 unfold elR
 rw [e1]
 dsimp only
 rw [e2]
 cases hc:c a with
 | false=>rfl
 | true=>dsimp only; rw [e3 hc]; rfl
theorem pL {z:Int} (h0:-1000000≤z) (h:z≤1000000):P1 0 z=.ok ((List.range z.toNat).map fun k=>W.int (k:Nat)):=by
 unfold P1
 rw [if_pos (by omega)]
 simp
theorem W9 {n i:Nat} {w:W} (h:((List.range n).map fun k=>W.int (k:Nat))[i]?=some w):i<n∧w=.int (i:Nat):=by
 rw [List.getElem?_map] at h
 cases q:(List.range n)[i]? with
 | none=>rw [q] at h; cases h
 | some k=>
  rw [q] at h
  obtain ⟨h1,h2⟩:=List.getElem?_eq_some_iff.mp q
  simp at h1 h2
  subst h2
  cases h
  exact ⟨h1,rfl⟩
theorem nN {ns:List Int} {i:Nat} {w:W} (h:(ns.map W.int)[i]?=some w):i<ns.length∧w=.int (ns.getD i 0):=by
 rw [List.getElem?_map] at h
 cases q:ns[i]? with
 | none=>rw [q] at h; cases h
 | some k=>
  rw [q] at h
  cases h
  exact ⟨(List.getElem?_eq_some_iff.mp q).1,by rw [vI q]⟩
noncomputable def bz (xs:List Int) (lo hi:Option Int):List Int:=(xs.drop (HT.sIx xs.length 0 lo)).take (HT.sIx xs.length xs.length hi-HT.sIx xs.length 0 lo)
theorem AC (ns:List Int) (lo hi:Option Int):U7 (ns.map W.int) lo hi=(bz ns lo hi).map W.int:=by
 unfold U7 bz
 rw [List.length_map,← List.map_drop,← List.map_take]
theorem xt (ns:List Int) (j:Nat) (z:Int):(ns.map W.int).set j (.int z)=(ns.set j z).map W.int:=by rw [List.map_set]
theorem Bo (ns:List Int) (z:Int):ns.map W.int ++ [.int z]=(ns ++ [z]).map W.int:=by rw [List.map_append]; rfl
theorem xP (k:Nat) (z:Int):(List.replicate k [W.int z]).flatten=(List.replicate k z).map W.int:=by
 induction k with
 | zero=>rfl
 | succ k ih=>rw [List.replicate_succ,List.flatten_cons,ih,List.replicate_succ,List.map_cons]; rfl
theorem db {α:Type} (as:List α) (f:α→Int):(as.map fun a=>W.int (f a))=(as.map f).map W.int:=by rw [List.map_map]; rfl
theorem F7 {n k:Nat} {f:Nat→Int} (h:k<n):((List.range n).map f).getD k 0=f k:=by
 rw [List.getD_eq_getElem?_getD,List.getElem?_map]
 simp [h]
theorem cv {a b:List Int} (h:b.length=a.length):(aP [a.map W.int,b.map W.int]).map W.tup=(List.range a.length).map fun k=>W.tup [.int (a.getD k 0),.int (b.getD k 0)]:=by
 apply List.ext_getElem?
 intro i
 simp only [aP,List.getElem?_map,List.getElem?_zipWith]
 by_cases hi:i<a.length
 ·rw [O1 hi,O1 (ns:=b) (by omega)]; simp [hi]
 ·simp [hi]
theorem tz {a b c:List Int} (h:b.length=a.length) (h':c.length=a.length):(aP [a.map W.int,b.map W.int,c.map W.int]).map W.tup=(List.range a.length).map fun k=>W.tup [.int (a.getD k 0),.int (b.getD k 0),.int (c.getD k 0)]:=by
 apply List.ext_getElem?
 intro i
 simp only [aP,List.getElem?_map,List.getElem?_zipWith,List.zip]
 by_cases hi:i<a.length
 ·rw [O1 hi,O1 (ns:=b) (by omega),O1 (ns:=c) (by omega)]; simp [hi]
 ·simp [hi]
theorem W1 (x y:W) (xs ys:List W) (hx:y6 x=.ok xs) (hy:y6 y=.ok ys):F6 [x,y]=.ok ((aP [xs,ys]).map W.tup):=by
 unfold F6
 simp only [List.length_cons,List.length_nil,U9,hx,hy,Nat.reduceAdd,true_or,if_true]
theorem wQ (x y z:W) (xs ys zs:List W) (hx:y6 x=.ok xs) (hy:y6 y=.ok ys) (hz:y6 z=.ok zs):F6 [x,y,z]=.ok ((aP [xs,ys,zs]).map W.tup):=by
 unfold F6
 simp only [List.length_cons,List.length_nil,U9,hx,hy,hz,Nat.reduceAdd,or_true,if_true]
theorem Ce {i j:Int} (h:-18446744073709551616<i∧i<18446744073709551616):fI CMul t9 (.int i) (.int j)=.ok (.int (i*j)):=by
 show (if CMul i j then _ else _)=_
 rw [if_pos (.inl (by simpa using h))]
theorem gq {i j:Int} (h:-18446744073709551616<j∧j<18446744073709551616):fI CMul t9 (.int i) (.int j)=.ok (.int (i*j)):=by
 show (if CMul i j then _ else _)=_
 rw [if_pos (.inr (by simpa using h))]
theorem za {i j:Int} (h:0<j):fI C1 E2 (.int i) (.int j)=.ok (.int (i%j)):=by
 show (if C1 i j then _ else _)=_
 rw [if_pos h]
theorem div_ii {i j:Int} (h:0<j∧j<1073741824):fI ar ci (.int i) (.int j)=.ok (.int (i/j)):=by
 show (if ar i j then _ else _)=_
 rw [if_pos (show ar i j from h)]
theorem yC {i j:Int} (h:0≤j∧j≤1000000 ∧ -18446744073709551616<i∧i<18446744073709551616):fI S2 bv (.int i) (.int j)=.ok (.int (i^j.toNat)):=by
 show (if S2 i j then _ else _)=_
 rw [if_pos ⟨h.1,h.2.1,by omega⟩]
theorem Bp {ws:List W} {w:W} {i:Nat} {ρ:Rho} (h:ws.length<1000):rW (some (.own ws)) (.ok w) i ρ=.ok (.nx (ρ.set i (.own (ws ++ [w])))):=by rw [wG,if_pos h]
theorem vd {ws:List W} (h:ws.length≤1000):lr ws=.ok (.tup ws):=by rw [qD,if_pos h]
theorem ve {ws:List W} (h:ws.length≤1000):lu ws=.ok (.lst ws):=by rw [qE,if_pos h]
theorem om {c:Bool} {us vs:List W} (h:us.length+vs.length≤1000):lF c (.lst us) (.lst vs)=chks c (us++vs):=by
 show (if us.length+vs.length≤1000 then _ else _)=_
 rw [if_pos h]
theorem Ag {c:Bool} {z:W} {k:Int} (h:0≤k∧k≤1000):fRep c (.lst [z]) (.int k)=chks c (List.replicate k.toNat [z]).flatten:=by
 show (if [z].length*k.toNat≤1000 ∧ -1000≤k∧k≤1000 then _ else _)=_
 rw [if_pos ⟨by simp only [List.length_cons,List.length_nil]; omega,by omega,h.2⟩]
theorem CP {ns:List Int} {i:Int} (h:0≤i∧i<ns.length):L2.atI (ns.map W.int) i=some (.int (ns.getD i.toNat 0)):=atW h.1 h.2
theorem Cg {n:Nat} {i:Int} (h:0≤i∧i<n):ixN n i=some i.toNat:=aG h.1 h.2
theorem xJ {z:Int} (h:-1000000≤z∧z≤1000000):P1 0 z=.ok ((List.range z.toNat).map fun k=>W.int (k:Nat)):=pL h.1 h.2
noncomputable def Ok (r:R W) (P:W→Prop):Prop:=∃ w,r=.ok w∧P w
noncomputable def Po (r:R Fl) (Jn:Rho→Prop) (Jr:W→Prop):Prop:=match r with
 | .ok (.nx ρ)=>Jn ρ
 | .ok (.rt w)=>Jr w
 | _=>False
theorem u5 {r:R Fl} {P:W→Prop} (h:Po r (fun _=>P .non) P):Ok (w4 r) P:=by
 cases r with
 | ex _=>exact h.elim
 | stuck=>exact h.elim
 | ok f=>cases f with
  | nx ρ=>exact ⟨_,rfl,h⟩
  | rt w=>exact ⟨_,rfl,h⟩
  | bk _=>exact h.elim
  | ct _=>exact h.elim
theorem dL {r:R Fl} {n:Rho→R Fl} {Jn:Rho→Prop} {Jr:W→Prop} (h:Po r (fun ρ=>Po (n ρ) Jn Jr) Jr):Po (andThen r n) Jn Jr:=by
 cases r with
 | ex _=>exact h.elim
 | stuck=>exact h.elim
 | ok f=>cases f with
  | nx ρ=>exact h
  | rt w=>exact h
  | bk _=>exact h.elim
  | ct _=>exact h.elim
theorem BN {ρ:Rho} {Jn:Rho→Prop} {Jr:W→Prop}:Po (.ok (.nx ρ)) Jn Jr=Jn ρ:=rfl
theorem BM {w:W} {Jn:Rho→Prop} {Jr:W→Prop}:Po (.ok (.rt w)) Jn Jr=Jr w:=rfl
theorem cC {b:Bool} {m n:Rho→R Fl} {ρ:Rho} {Jn:Rho→Prop} {Jr:W→Prop} (h1:b=true→Po (m ρ) Jn Jr) (h2:b=false→Po (n ρ) Jn Jr):Po (ifS (.ok b) m n ρ) Jn Jr:=by
 cases b with
 | true=>exact h1 rfl
 | false=>exact h2 rfl
theorem aE {b:Bool} {m n:Rho→R Fl} {ρ:Rho} {k:Rho→R Fl} {Jn:Rho→Prop} {Jr:W→Prop} (h1:b=true→Po (andThen (m ρ) k) Jn Jr) (h2:b=false→Po (andThen (n ρ) k) Jn Jr):Po (andThen (ifS (.ok b) m n ρ) k) Jn Jr:=by
 cases b with
 | true=>exact h1 rfl
 | false=>exact h2 rfl
theorem Po.mono {r:R Fl} {Jn Jn':Rho→Prop} {Jr Jr':W→Prop} (h:Po r Jn Jr) (h1:∀ ρ,Jn ρ→Jn' ρ) (h2:∀ w,Jr w→Jr' w):Po r Jn' Jr':=by
 cases r with
 | ex _=>exact h
 | stuck=>exact h
 | ok f=>cases f with
  | nx ρ=>exact h1 ρ h
  | rt w=>exact h2 w h
  | bk _=>exact h
  | ct _=>exact h
theorem nu {mg:W→Rho→Option Rho} {mb:Rho→R Fl} {Jr:W→Prop} (I:Nat→Rho→Prop):∀ (ws:List W) (k:Nat) (ρ:Rho),I k ρ →
  (∀ (i:Nat) (w:W) (ρ:Rho),ws[i]?=some w→I (k+i) ρ→∃ ρ1,mg w ρ=some ρ1∧Po (mb ρ1) (I (k+i+1)) Jr)→Po (J9 mg mb ws ρ) (I (k+ws.length)) Jr:=by
 intro ws
 induction ws with
 | nil=>exact fun k ρ h _=>h
 | cons w ws ih=>
  intro k ρ h st
  obtain ⟨ρ1,e1,p⟩:=st 0 w ρ rfl h
  unfold J9
  rw [e1]
  show Po (mb ρ1>>=_) _ _
  revert p
  cases mb ρ1 with
  | ex _=>exact fun p=>p.elim
  | stuck=>exact fun p=>p.elim
  | ok f=>cases f with
   | bk _=>exact fun p=>p.elim
   | ct _=>exact fun p=>p.elim
   | rt w=>exact fun p=>p
   | nx ρ2=>
    intro p
    have:=ih (k+1) ρ2 p fun i w ρ hw hp=>by
     have:=st (i+1) w ρ hw (by rw [← Nat.succ_add_eq_add_succ k i]; exact hp)
     rw [← Nat.succ_add_eq_add_succ k i] at this
     exact this
    rw [List.length_cons,← Nat.succ_add_eq_add_succ k ws.length]
    exact this
theorem X2 {mg:W→Rho→Option Rho} {mb:Rho→R Fl} {ws:List W} {ρ:Rho} {Jn:Rho→Prop} {Jr:W→Prop} (I:Nat→Rho→Prop) (h0:I 0 ρ)
  (st:∀ (i:Nat) (w:W) (ρ:Rho),ws[i]?=some w→I i ρ→∃ ρ1,mg w ρ=some ρ1∧Po (mb ρ1) (I (i+1)) Jr) (hn:∀ ρ,I ws.length ρ→Jn ρ):Po (J9 mg mb ws ρ) Jn Jr:=by
 have:=nu (mg:=mg) (mb:=mb) (Jr:=Jr) I ws 0 ρ h0 fun i w ρ hw hp=>by rw [Nat.zero_add] at hp ⊢; exact st i w ρ hw hp
 rw [Nat.zero_add] at this
 exact this.mono hn fun _ h=>h
theorem x6 {mg:W→Rho→Option Rho} {mb n:Rho→R Fl} {ws:List W} {ρ:Rho} {Jn:Rho→Prop} {Jr:W→Prop} (I:Nat→Rho→Prop) (h0:I 0 ρ)
  (st:∀ (i:Nat) (w:W) (ρ:Rho),ws[i]?=some w→I i ρ→∃ ρ1,mg w ρ=some ρ1∧Po (mb ρ1) (I (i+1)) Jr) (hn:∀ ρ,I ws.length ρ→Po (n ρ) Jn Jr):Po (andThen (J9 mg mb ws ρ) n) Jn Jr:=dL (X2 I h0 st hn)
theorem ig {c:Rho→R Bool} {b:Rho→R Fl} {Jn:Rho→Prop} {Jr:W→Prop} (I:Nat→Rho→Prop)
  (st:∀ m ρ,I m ρ→∃ t,c ρ=.ok t∧if t=true then Po (b ρ) (fun ρ'=>∃ m',m'<m∧I m' ρ') Jr else Jn ρ):∀ (m:Nat) (ρ:Rho),I m ρ→Po (T8 c b ρ) Jn Jr:=by
 have key:∀ (m:Nat) (ρ:Rho),I m ρ→∃ r,F4 c b (m+1) ρ=some r∧Po r Jn Jr:=by
  intro m
  induction m using Nat.strongRecOn with
  | ind m ih=>
   intro ρ h
   obtain ⟨t,e,q⟩:=st m ρ h
   unfold F4
   rw [e]
   cases t with
   | false=>rw [if_neg Bool.false_ne_true] at q; exact ⟨_,rfl,q⟩
   | true=>
    rw [if_pos rfl] at q
    dsimp only
    revert q
    cases b ρ with
    | ex _=>exact fun q=>q.elim
    | stuck=>exact fun q=>q.elim
    | ok f=>cases f with
     | bk _=>exact fun q=>q.elim
     | ct _=>exact fun q=>q.elim
     | rt w=>exact fun q=>⟨_,rfl,q⟩
     | nx ρ'=>
      intro ⟨m',hm,h'⟩
      obtain ⟨r,e',q'⟩:=ih m' hm ρ' h'
      exact ⟨r,bq (m'+1) ρ' r e' m (by omega),q'⟩
 intro m ρ h
 obtain ⟨r,e,q⟩:=key m ρ h
 rw [fP e]
 exact q
noncomputable def OkL (r:R (List W)) (P:List W→Prop):Prop:=∃ w,r=.ok w∧P w
theorem yD {r:R W} {Jn:Rho→Prop} {Jr:W→Prop} (h:Ok r Jr):Po (r>>=eO) Jn Jr:=by
 obtain ⟨w,rfl,q⟩:=h; exact q
theorem qw {r:R (List W)} {f:List W→R W} {P:W→Prop} (h:OkL r fun w=>Ok (f w) P):Ok (r>>=f) P:=by
 obtain ⟨w,rfl,q⟩:=h; exact q
theorem Ca {a:R W} {xs:List W} {P:List W→Prop} (h:Ok a fun x=>P (x::xs)):OkL (lV a (.ok xs)) P:=by
 obtain ⟨w,rfl,q⟩:=h; exact ⟨_,rfl,q⟩
theorem rd (i j:Int):U6 i j=max i j:=by unfold U6; omega
theorem qZ (i j:Int):zY i j=min i j:=by unfold zY; omega
noncomputable def oW:Option Int→W
 | none=>.non
 | some i=>.int i
theorem oW_n:oW none=.non:=rfl
theorem oW_s (i:Int):oW (some i)=.int i:=rfl
theorem nL (o:Option Int):noL (oW o)=true:=by cases o <;> rfl
theorem AK (o:Option Int):chk (oW o)=.ok (oW o):=M4 (nL o)
theorem X4 {α:Type} (f:α→W) (h:∀ a,noL (f a)=true) (as:List α):l9 (as.map f)=true:=by
 induction as with
 | nil=>rfl
 | cons a as ih=>rw [List.map_cons]; simp only [l9,h,ih,Bool.and_self]
theorem y9 (cs:List (Option Int)):l9 (cs.map oW)=true:=X4 oW nL cs
theorem AH (c:Bool) (cs:List (Option Int)):chks c (cs.map oW)=.ok (.lst (cs.map oW)):=W0 (y9 cs)
theorem oy (c:Bool) (cs:List (Option Int)):Y1 c (cs.map oW)=.ok (.tup (cs.map oW)):=aM (y9 cs)
theorem zI (o:Option Int):isN (oW o)=o.isNone:=by cases o <;> rfl
theorem px (o:Option Int):S4 (oW o)=.val (oW o):=by cases o <;> rfl
theorem oJ {α:Type} (f:α→W) {as:List α} {d:α} {i:Int} (h:0≤i∧i<as.length):L2.atI (as.map f) i=some (f (as.getD i.toNat d)):=by
 unfold L2.atI
 rw [List.length_map,aG h.1 h.2]
 show (as.map f)[i.toNat]?=_
 have hi:i.toNat<as.length:=by omega
 rw [List.getElem?_map,List.getD_eq_getElem?_getD]
 simp [hi]
theorem CS {cs:List (Option Int)} {i:Int} (h:0≤i∧i<cs.length):L2.atI (cs.map oW) i=some (oW (cs.getD i.toNat none)):=oJ oW h
theorem appO (cs:List (Option Int)) (o:Option Int):cs.map oW ++ [oW o]=(cs ++ [o]).map oW:=by rw [List.map_append]; rfl
theorem eJ {α β:Type} (f:α→W) (g:β→W) {a:List α} {b:List β} (h:b.length=a.length) (x:α) (y:β):(aP [a.map f,b.map g]).map W.tup=(List.range a.length).map fun k=>W.tup [f (a.getD k x),g (b.getD k y)]:=by
 apply List.ext_getElem?
 intro i
 simp only [aP,List.getElem?_map,List.getElem?_zipWith]
 by_cases hi:i<a.length
 ·have hb:i<b.length:=by omega
  simp [hi,hb]
 ·simp [hi]
theorem pU {n i:Nat} {f:Nat→W} {w:W} (h:((List.range n).map f)[i]?=some w):i<n∧w=f i:=by
 rw [List.getElem?_map] at h
 cases q:(List.range n)[i]? with
 | none=>rw [q] at h; cases h
 | some k=>
  rw [q] at h
  obtain ⟨h1,h2⟩:=List.getElem?_eq_some_iff.mp q
  simp at h1 h2
  subst h2
  cases h
  exact ⟨h1,rfl⟩
theorem iw (ns:List Int):noL (tI ns)=true:=C4 ns
theorem ir (ss:List (List Int)):l9 (ss.map tI)=true:=X4 tI iw ss
theorem AG (c:Bool) (ss:List (List Int)):chks c (ss.map tI)=.ok (.lst (ss.map tI)):=W0 (ir ss)
theorem AN (c:Bool) (ss:List (List Int)):Y1 c (ss.map tI)=.ok (.tup (ss.map tI)):=aM (ir ss)
theorem CQ {ss:List (List Int)} {i:Int} (h:0≤i∧i<ss.length):L2.atI (ss.map tI) i=some (tI (ss.getD i.toNat [])):=oJ tI h
theorem Bm (ss:List (List Int)) (s:List Int):ss.map tI ++ [tI s]=(ss ++ [s]).map tI:=by rw [List.map_append]; rfl
noncomputable def rG {α:Type} (xs:List α) (lo hi:Option Int):List α:=(xs.drop (HT.sIx xs.length 0 lo)).take (HT.sIx xs.length xs.length hi-HT.sIx xs.length 0 lo)
theorem rF {α:Type} (f:α→W) (as:List α) (lo hi:Option Int):U7 (as.map f) lo hi=(rG as lo hi).map f:=by
 unfold U7 rG
 rw [List.length_map,← List.map_drop,← List.map_take]
theorem AB (ss:List (List Int)) (lo hi:Option Int):U7 (ss.map tI) lo hi=(rG ss lo hi).map tI:=rF tI ss lo hi
theorem AQ (ss ts:List (List Int)):ss.map tI++ts.map tI=(ss++ts).map tI:=by rw [List.map_append]
theorem AR (ss ts:List Int):ss.map W.int++ts.map W.int=(ss++ts).map W.int:=by rw [List.map_append]
theorem xK {lo hi:Int} (h:-1000000≤lo∧lo≤1000000 ∧ -1000000≤hi∧hi≤1000000):P1 lo hi=.ok ((List.range (hi-lo).toNat).map fun k=>W.int (lo+(k:Nat))):=by
 unfold P1
 rw [if_pos h]
theorem eqv_refl:∀ w:W,PyData.eqv (pd w) (pd w)=true:=by
 intro w
 refine W.rec (motive_1:=fun w=>PyData.eqv (pd w) (pd w)=true) (motive_2:=fun ws=>PyData.eqvAll (pds ws) (pds ws)=true) ?_ ?_ ?_ ?_ ?_ ?_ ?_ ?_ ?_ ?_ ?_ ?_ w
 ·rfl
 ·intro b; cases b <;> rfl
 ·intro b; exact beq_self_eq_true b
 ·intro b; exact beq_self_eq_true b
 ·intro b; rfl
 ·exact fun ws h=>h
 ·exact fun ws h=>h
 ·exact fun ws h=>h
 ·intro b c; rfl
 ·intro b; rfl
 ·rfl
 ·intro w ws h1 h2; exact (Bool.and_eq_true _ _).mpr ⟨h1,h2⟩
theorem rA (w:W):eqW w w=true:=eqv_refl w
theorem aU {α:Type} (f:α→W) (n:Nat) (h:∀ a,shp n (f a)=true) (as:List α):U1 n (as.map f)=true:=by
 induction as with
 | nil=>rfl
 | cons a as ih=>rw [List.map_cons]; simp only [U1,h,ih,Bool.and_self]
theorem Q8 (n:Nat) (i:Int):shp n (.int i)=true:=by cases n <;> rfl
theorem jv (n:Nat):shp n .non=true:=by cases n <;> rfl
theorem mR (n:Nat) (b:Bool):shp n (.bl b)=true:=by cases n <;> rfl
theorem gM (n:Nat) (ns:List Int):shp (n+1) (tI ns)=true:=aU W.int n (Q8 n) ns
theorem gO (n:Nat) (ns:List Int):shp (n+1) (lI ns)=true:=aU W.int n (Q8 n) ns
theorem mQ (n:Nat) (ss:List (List Int)):shp (n+2) (.lst (ss.map tI))=true:=aU tI (n+1) (gM n) ss
theorem iJ {neg:Bool} {w:W} (h:shp 8 w=true):fEq neg w w=.ok (.bl (!neg)):=by
 unfold fEq
 rw [h,rA]
 cases neg <;> rfl
theorem eqI:∀ (a b:List Int),PyData.eqvAll (pds (a.map W.int)) (pds (b.map W.int))=decide (a=b)
 | [],[]=>by simp [pds,PyData.eqvAll]
 | [],_::_=>by simp [pds,PyData.eqvAll]
 | _::_,[]=>by simp [pds,PyData.eqvAll]
 | x::a,y::b=>by
  simp only [List.map_cons,pds,pd,PyData.eqvAll,PyData.eqv,eqI a b]
  by_cases h:x=y <;> by_cases h':a=b <;> simp [h,h']
theorem Aq (neg:Bool) (a b:List Int):fEq neg (tI a) (tI b)=.ok (.bl (if neg then !decide (a=b) else decide (a=b))):=by
 unfold fEq
 rw [gM,gM]
 have:eqW (tI a) (tI b)=decide (a=b):=eqI a b
 rw [this]; rfl
theorem Av (neg:Bool) (a b:List Int):fEq neg (lI a) (lI b)=.ok (.bl (if neg then !decide (a=b) else decide (a=b))):=by
 unfold fEq
 rw [gO,gO]
 have:eqW (lI a) (lI b)=decide (a=b):=eqI a b
 rw [this]; rfl
theorem AA:∀ (a b:List (List Int)),PyData.eqvAll (pds (a.map tI)) (pds (b.map tI))=decide (a=b)
 | [],[]=>by simp [pds,PyData.eqvAll]
 | [],_::_=>by simp [pds,PyData.eqvAll]
 | _::_,[]=>by simp [pds,PyData.eqvAll]
 | x::a,y::b=>by
  simp only [List.map_cons,pds,pd,PyData.eqvAll,PyData.eqv,AA a b,eqI]
  by_cases h:x=y <;> by_cases h':a=b <;> simp [h,h']
theorem Au (neg:Bool) (a b:List (List Int)):fEq neg (.lst (a.map tI)) (.lst (b.map tI))=.ok (.bl (if neg then !decide (a=b) else decide (a=b))):=by
 unfold fEq
 rw [mQ,mQ]
 have:eqW (.lst (a.map tI)) (.lst (b.map tI))=decide (a=b):=AA a b
 rw [this]; rfl
theorem iM (neg:Bool) (i j:Int):fEq neg (.int i) (.int j)=.ok (.bl (if neg then !decide (i=j) else decide (i=j))):=by
 unfold fEq
 rw [Q8,Q8]
 have:eqW (.int i) (.int j)=decide (i=j):=by
  by_cases h:i=j <;> simp [eqW,pd,PyData.eqv,h]
 rw [this]; rfl
theorem Aw (neg:Bool) (i j:Bool):fEq neg (.bl i) (.bl j)=.ok (.bl (if neg then !decide (i=j) else decide (i=j))):=by
 unfold fEq
 rw [mR,mR]
 have:eqW (.bl i) (.bl j)=decide (i=j):=by cases i <;> cases j <;> rfl
 rw [this]; rfl
theorem iK (neg:Bool) (j:Int):fEq neg .non (.int j)=.ok (.bl neg):=by cases neg <;> rfl
theorem iL (neg:Bool) (j:Int):fEq neg (.int j) .non=.ok (.bl neg):=by cases neg <;> rfl
theorem As (neg:Bool):fEq neg .non .non=.ok (.bl (!neg)):=by cases neg <;> rfl
theorem rq (g:List Bool→Bool) (bs:List Bool):iN g [.lst (bs.map W.bl)]=.ok (.bl (g bs)):=by
 show (toR (Y4 (bs.map W.bl))>>=_)=_
 rw [wB]; rfl
theorem vS (g:List Int→Int) (ns:List Int):Co g [.lst (ns.map W.int)]=.ok (.int (g ns)):=by
 show (toR (w6 (ns.map W.int))>>=_)=_
 rw [ints_map]; rfl
theorem Am (i:Int):Ao [.int i]=.ok (.int i):=rfl
theorem An (b:Bool):Ao [.bl b]=.ok (.int (if b then 1 else 0)):=rfl
theorem Ax (i:Int):fAbs [.int i]=.ok (.int (if i<0 then -i else i)):=rfl
noncomputable def Az (o:Option Sl) (r:R W) (c:Bool) (i:Nat) (ρ:Rho):R Fl:=match o with
 | some (.own ws)=>r>>=fun w=>(match w with
  | .lst us=>if ws.length+us.length≤1000 then (if c||l9 us then .ok (.nx (ρ.set i (.own (ws++us)))) else .stuck) else .stuck
  | _=>.stuck)
 | _=>.stuck
theorem vn (i:Nat) (c:Bool) (m:Rho→R W) (ρ:Rho):mExt i c m ρ=Az (ρ[i]?) (m ρ) c i ρ:=rfl
theorem Ay {ws us:List W} {c:Bool} {i:Nat} {ρ:Rho} (h:ws.length+us.length≤1000):Az (some (.own ws)) (.ok (.lst us)) c i ρ=if c||l9 us then .ok (.nx (ρ.set i (.own (ws++us)))) else .stuck:=by
 show (if ws.length+us.length≤1000 then _ else _)=_
 rw [if_pos h]
noncomputable def xO (o:Option Sl) (i:Nat) (ρ:Rho):R Fl:=match o with
 | some (.own ws)=>.ok (.nx (ρ.set i (.own ws.reverse)))
 | _=>.stuck
theorem vk (i:Nat) (ρ:Rho):fh i ρ=xO (ρ[i]?) i ρ:=rfl
theorem tZ (ws:List W) (i:Nat) (ρ:Rho):xO (some (.own ws)) i ρ=.ok (.nx (ρ.set i (.own ws.reverse))):=rfl
theorem T6 {r:R Fl} {n:Rho→R Fl} {Jn:Rho→Prop} {Jr:W→Prop} (J:Rho→Prop) (h1:Po r J Jr) (h2:∀ ρ,J ρ→Po (n ρ) Jn Jr):Po (andThen r n) Jn Jr:=dL (h1.mono h2 fun _ h=>h)
theorem vL (i j:Int):n5 i j=.int (i+j):=rfl
theorem vJ (i j:Int):TP.gSub i j=.int (i-j):=rfl
theorem zZ (i j:Int):gLt i j=.bl (decide (i<j)):=rfl
theorem Aa (i j:Int):gLe i j=.bl (decide (i≤j)):=rfl
theorem Ab (i j:Int):gGt i j=.bl (decide (j<i)):=rfl
theorem Ac (i j:Int):gGe i j=.bl (decide (j≤i)):=rfl
theorem vK (i:Int):dw i=.int (-i):=rfl
theorem re (i j:Int):sQ i j=i+j:=rfl
theorem qY (i j:Int):Ci i j=i-j:=rfl
theorem Af {i:Int} (h:0≤i∧i<1000):fStr [.int i]=.ok (.str (toString i)):=by
 show (if i.natAbs.log2<1920 then _ else _)=_
 rw [if_pos]
 refine Nat.lt_of_le_of_lt (Nat.log2_le_self _) ?_
 omega
theorem Al (neg:Bool) (u:W) (b:Bool):fIsB neg u (.bl b)=.ok (.bl (if neg then !am u b else am u b)):=rfl
theorem zN (i:Int) (b:Bool):am (.int i) b=false:=rfl
theorem zL (b:Bool):am .non b=false:=rfl
theorem zK (x:Str) (b:Bool):am (.str x) b=false:=rfl
theorem zJ (x:List W) (b:Bool):am (.tup x) b=false:=rfl
theorem zM (x:List W) (b:Bool):am (.lst x) b=false:=rfl
theorem zO (a b:Bool):am (.bl a) b=(a == b):=rfl
noncomputable def Rcu (c:Bool) (r:R (List W)) (f:List W→R W) (i:Nat) (ρ:Rho):R Fl:=if c then (r>>=fun ws=>f ws>>=fun w=>.ok (.nx (ρ.set i (.par w)))) else .stuck
theorem xC (i:Nat) (f:List W→R W) (ma:Rho→R (List W)) (ρ:Rho):sCU i f ma ρ=Rcu (noOwn ρ) (ma ρ) f i ρ:=rfl
noncomputable def Bs (r:R W) (i:Nat) (ρ:Rho):R Fl:=r>>=fun w=>.ok (.nx (ρ.set i (.par w)))
theorem CV (ws:List W) (f:List W→R W) (i:Nat) (ρ:Rho):Rcu true (.ok ws) f i ρ=Bs (f ws) i ρ:=rfl
theorem wO (w:W) (i:Nat) (ρ:Rho):Bs (.ok w) i ρ=.ok (.nx (ρ.set i (.par w))):=rfl
theorem nJ:noOwn []=true:=rfl
theorem uR (w:W) (ρ:Rho):noOwn (.val w::ρ)=noOwn ρ:=rfl
theorem uT (w:W) (ρ:Rho):noOwn (.par w::ρ)=noOwn ρ:=rfl
theorem uS (ρ:Rho):noOwn (.un::ρ)=noOwn ρ:=rfl
theorem wa {g:List Int→Int} {ns:List Int} (h:0<ns.length):Z7 g [tI ns]=.ok (.int (g ns)):=by
 show (toR (w6 (ns.map W.int))>>=_)=_
 rw [ints_map]
 show (if 0<ns.length then _ else _)=_
 rw [if_pos h]
theorem fu {g:List Int→Int} {ns:List Int} (h:0<ns.length):Z7 g [lI ns]=.ok (.int (g ns)):=by
 show (toR (w6 (ns.map W.int))>>=_)=_
 rw [ints_map]
 show (if 0<ns.length then _ else _)=_
 rw [if_pos h]
theorem xN (ws:List W):cW [.lst ws]=.ok ws.reverse:=rfl
noncomputable def rp0:=Z1 (@rd) (Z1 (@qZ) (Z1 (@BN) (Z1 (@BM) (Z1 (@Ce) (Z1 (@gq) (Z1 (@za) (Z1 (@div_ii) (Z1 (@yC) (Z1 (@Bp) (Z1 (@vd) (Z1 (@ve) (Z1 (@om) (Z1 (@Ag) (Z1 (@CP) (Z1 (@Cg) (Z1 (@xJ) (Z1 (@AC) (Z1 (@xt) (Z1 (@Bo) (Z1 (@xP) (Z1 (@vh) (Z1 (@lR) (Z1 (@lQ) (@lT))))))))))))))))))))))))
noncomputable def rp1:=Z1 (@lS) (Z1 (@Cf) (Z1 (@CO) (Z1 (@CN) (Z1 (@Bu) (Z1 (@CM) (Z1 (@CL) (Z1 (@CK) (Z1 (@CT) (Z1 (@CU) (Z1 (@rZ) (Z1 (@wE) (Z1 (@rT) (Z1 (@tO) (Z1 (@xi) (Z1 (@tN) (Z1 (@uk) (Z1 (@ul) (Z1 (@uj) (Z1 (@yg) (Z1 (@yf) (Z1 (@yh) (Z1 (@uf) (Z1 (@tH) (@wV))))))))))))))))))))))))
noncomputable def rp2:=Z1 (@tF) (Z1 (@pZ) (Z1 (@qc) (Z1 (@pY) (Z1 (@ud) (Z1 (@uc) (Z1 (@ue) (Z1 (@pW) (Z1 (@wW) (Z1 (@ug) (Z1 (@ui) (Z1 (@uh) (Z1 (@mz) (Z1 (@oO) (Z1 (@tE) (Z1 (@tG) (Z1 (@BU) (Z1 (@BT) (Z1 (@nA) (Z1 (@wU) (Z1 (@wL) (Z1 (@wK) (Z1 (@oT) (Z1 (@sd) (@xA))))))))))))))))))))))))
noncomputable def rp3:=Z1 (@xD) (Z1 (@xB) (Z1 (@pH) (Z1 (@rY) (Z1 (@tR) (Z1 (@ua) (Z1 (@pG) (Z1 (@BA) (Z1 (@BB) (Z1 (@BE) (Z1 (@wM) (Z1 (@mO) (Z1 (@mL) (Z1 (@mP) (Z1 (@pA) (Z1 (@mN) (Z1 (@mM) (Z1 (@BD) (Z1 (@wP) (Z1 (@mG) (Z1 (@tU) (Z1 (@wN) (Z1 (@tS) (Z1 (@Ad) (@rh))))))))))))))))))))))))
noncomputable def rp4:=Z1 (@rf) (Z1 (@rg) (Z1 (@vM) (Z1 (@fg) (Z1 (@xS) (Z1 (@xQ) (Z1 (@xR) (Z1 (@xT) (Z1 (@xU) (Z1 (@xX) (Z1 (@xV) (Z1 (@xW) (Z1 (@xY) (Z1 (@xZ) (Z1 (@ya) (Z1 (@yb) (Z1 (@lx) (Z1 (@pQ) (Z1 (@pO) (Z1 (@pP) (Z1 (@vp) (Z1 (@vg) (Z1 (@tQ) (Z1 (@mS) (@vo))))))))))))))))))))))))
noncomputable def rp5:=Z1 (@wF) (Z1 (@zb) (Z1 (@zS) (Z1 (@zT) ((((((Z1 (@wd) (Z1 (@we) (Z1 (@Ap) (Z1 (@fU_i) (Z1 (@Cn) (Z1 (@Cl) (Z1 (@Cm) (Z1 (@pc) (Z1 (@xf) (Z1 (@Aj) (Z1 (@Ah) (Z1 (@Ai) (Z1 (@vQ) (Z1 (@vP) (Z1 (@oj) (@Ae))))))))))))))))))))))))
noncomputable def rp6:=Z1 (@AF) (Z1 (@AM) (Z1 (@AI) (Z1 (@AO) (Z1 (@wn) (Z1 (@AL) (Z1 (@wk) (Z1 (@wm) (Z1 (@AJ) (Z1 (@Cp) (Z1 (@xy) (Z1 (@xw) (Z1 (@xx) (Z1 (@xM) (Z1 (@xL) (Z1 (@gN_U) (Z1 (@gN_V) (Z1 (@gT_t) (Z1 (@qW) (Z1 (@vG) (Z1 (@vR) (Z1 (@zw) (Z1 (@zx) (Z1 (@zA) (@zp))))))))))))))))))))))))
noncomputable def rp7:=Z1 (@Ak) (Z1 (@C4) (Z1 (@vY) (Z1 (@vZ) (Z1 (@vU) (Z1 (@vV) (Z1 (@vW) (@vX)))))))
noncomputable def rp8:=Z1 (@oW_n) (Z1 (@oW_s) (Z1 (@AK) (Z1 (@y9) (Z1 (@AH) (Z1 (@oy) (Z1 (@zI) (Z1 (@px) (Z1 (@CS) (@appO)))))))))
noncomputable def rp9:=Z1 (@ir) (Z1 (@AG) (Z1 (@AN) (Z1 (@CQ) (Z1 (@Bm) (Z1 (@AB) (Z1 (@AQ) (Z1 (@AR) (Z1 (@xK) (Z1 (@Aq) (Z1 (@Av) (Z1 (@Au) (Z1 (@iM) (Z1 (@Aw) (Z1 (@iK) (Z1 (@iL) (Z1 (@As) ((Z1 (@rq) (Z1 (@vS) (Z1 (@Am) (Z1 (@An) (Z1 (@Ax) (Z1 (@vn) (Z1 (@Ay) (Z1 (@vk) (@tZ))))))))))))))))))))))))))
noncomputable def rp10:=Z1 (@vL) (Z1 (@vJ) (Z1 (@zZ) (Z1 (@Aa) (Z1 (@Ab) (Z1 (@Ac) (Z1 (@vK) (Z1 (@re) (@qY))))))))
noncomputable def rp11:=Z1 (@Af) (Z1 (@Al) (Z1 (@zN) (Z1 (@zL) (Z1 (@zK) (Z1 (@zJ) (Z1 (@zM) (@zO)))))))
noncomputable def rp12:=Z1 (@xC) (Z1 (@CV) (Z1 (@wO) (Z1 (@nJ) (Z1 (@uR) (Z1 (@uT) (@uS))))))
noncomputable def rp13:=Z1 (@wa) (Z1 (@fu) (@xN))
end TP
set_option maxHeartbeats 4000000
open PySem L2 TP
namespace K46
noncomputable def dk:Rho→R Fl:=
 (i9 (bA (N7 true) (aC (o0 3 (bI F6 (aC (b2 fIx (b5 .B 0) (mC (.int 0))) (aC (b2 fIx (b5 .B 0) (mC (.int 1))) aN))) (gT 2 (o8 (gN .U 1) (o8 (gN .U 2) gsNil))) yes (b2 (fI0 gSub) (b5 .B 2) (b5 .B 1))) aN)))
noncomputable abbrev N6:List W→R W:=i6 1 1 dk
noncomputable def df:Rho→R Fl:=
 (i9 (bA (N7 true) (aC (o0 5 (bI F6 (aC (b5 .B 0) (aC (b2 fIx (b5 .B 1) (mC (.int 0))) (aC (b2 fIx (b5 .B 1) (mC (.int 1))) aN)))) (gT 3 (o8 (gN .U 2) (o8 (gN .U 3) (o8 (gN .U 4) gsNil)))) yes (bA (f2 U6) (aC (b5 .B 3) (aC (b2 (fI0 n5) (b2 (fI0 gSub) (b5 .B 2) (b5 .B 4)) (b5 .B 3)) aN)))) aN)))
noncomputable abbrev Y0:List W→R W:=i6 2 2 df
noncomputable def X5:Rho→R Fl:=
 (i9 (bA (N7 true) (aC (o0 4 (bI F6 (aC (b5 .B 0) (aC (b5 .B 1) aN))) (gT 2 (o8 (gN .U 2) (o8 (gN .U 3) gsNil))) yes (bA (f2 U6) (aC (b5 .B 2) (aC (b5 .B 3) aN)))) aN)))
noncomputable abbrev C0:List W→R W:=i6 2 2 X5
noncomputable def fe:Rho→R Fl:=
 (c6 (B0 (bI F6 (aC (b5 .U 0) (aC (b5 .U 1) aN))) (gT 2 (o8 (gN .U 2) (o8 (gN .U 3) gsNil)))
   (mIf (gi (d6 (b2 (F2 true) (b5 .B 3) (mC .non))) (W3 (d6 (b2 (F2 false) (b5 .B 2) (mC .non))) (d6 (b2 (fI0 gGt) (b5 .B 2) (b5 .B 3))))) (i9 (mC (.bl false))) sNx))
  (i9 (mC (.bl true))))
noncomputable abbrev E8:List W→R W:=i6 2 4 fe
noncomputable def af:Rho→R Fl:=
 (c6 (B0 (bS (b5 .U 1)) (gN .U 2)
   (mIf (d6 (bA E8 (aC (b5 .B 0) (aC (b5 .B 2) aN)))) (i9 (mC (.bl true))) sNx))
  (i9 (mC (.bl false))))
noncomputable abbrev x3:List W→R W:=i6 2 3 af
noncomputable def bj:Rho→R Fl:=
 (i9 (bA E8 (aC (b2 fIx (b5 .B 1) (mC (.int 0))) (aC (b5 .B 0) aN))))
noncomputable abbrev E4:List W→R W:=i6 2 2 bj
noncomputable def ah:Rho→R Fl:=
 (c6 (mIf (B4 (d6 (bA E4 (aC (b5 .B 0) (aC (b5 .B 1) aN))))) mX sNx)
  (i9 (bA (N7 true) (aC (o0 4 (bI F6 (aC (b5 .B 0) (aC (bA N6 (aC (b5 .B 1) aN)) aN))) (gT 2 (o8 (gN .U 2) (o8 (gN .U 3) gsNil))) yes (vIf (d6 (b2 (F2 false) (b5 .B 2) (mC .non))) (mC .non) (b2 (fI0 n5) (b5 .B 2) (b5 .B 3)))) aN))))
noncomputable abbrev B3:List W→R W:=i6 2 2 ah
noncomputable def dh:Rho→R Fl:=
 (c6 (mIf (B4 (d6 (bA E8 (aC (b5 .B 1) (aC (b5 .B 0) aN))))) (t0 .F 0) sNx)
  (i9 (bA (N7 true) (aC (o0 4 (bI F6 (aC (b5 .B 0) (aC (b5 .B 1) aN))) (gT 2 (o8 (gN .U 2) (o8 (gN .U 3) gsNil))) yes (vIf (d6 (b2 (fEq false) (b5 .B 2) (b5 .B 3))) (b5 .V 2) (mC .non))) aN))))
noncomputable abbrev K0:List W→R W:=i6 2 2 dh
noncomputable def bh:Rho→R Fl:=
 (i9 (bA (N7 true) (aC (o0 2 (bS (b5 .B 0)) (gN .U 1) yes (vIf (d6 (b2 (F2 false) (b5 .B 1) (mC .non))) (F8 (aC (mC (.int 1)) (aC (mC (.int 0)) aN))) (F8 (aC (mC (.int 0)) (aC (b5 .V 1) aN))))) aN)))
noncomputable abbrev A7:List W→R W:=i6 1 1 bh
noncomputable def iy:Rho→R Fl:=
 (c6 (sF 1 (C5 aN))
  (c6 (B0 (bS (bA (ck false A7) (aC (b5 .B 0) aN))) (gN .U 2)
   (mIf (B4 (d6 (bA x3 (aC (b5 .B 2) (aC (b5 .B 1) aN))))) (U5 1 (b5 .V 2)) sNx))
  (c6 (fh 1)
  (t0 .F 1))))
noncomputable abbrev cj:List W→R W:=i6 1 3 iy
noncomputable def bf:Rho→R Fl:=
 (c6 (sF 2 (C5 aN))
  (c6 (sV 3 (b5 .V 1))
  (c6 (T8 (d6 (b2 (F2 true) (b5 .B 3) (mC .non))) (c6 (U5 2 (b5 .V 3))
   (sU 3 (b2 fIx (b2 fIx (b5 .B 0) (b5 .B 3)) (mC (.int 1))))))
  (t0 .F 2))))
noncomputable abbrev n9:List W→R W:=i6 2 4 bf
noncomputable def P7 (p:Addr):Rho→R Fl:=
 (c6 (nb (sU 4 (b2 fIx (b2 fIx (b5 .B 0) (mC (.int 1))) (b5 .B 3))))
  (c6 (mIf (B4 (d6 (bA E4 (aC (b2 fIx (b2 fIx (b5 .B 1) (b5 .B 2)) (mC (.int 0))) (aC (b5 .B 4) aN))))) kJ (nb sNx))
  (c6 (nb (sF 5 (bA B3 (aC (b2 fIx (b2 fIx (b5 .B 1) (b5 .B 2)) (mC (.int 0))) (aC (b5 .B 4) aN)))))
  (c6 (nb (B0 (bS (bA n9 (aC (b5 .B 1) (aC (b5 .B 2) aN)))) (gN .U 6)
   (sF 5 (bA K0 (aC (b5 .B 5) (aC (b2 fIx (b2 fIx (b5 .B 1) (b5 .B 6)) (mC (.int 0))) aN))))))
  (mIf (B4 (d6 (bA x3 (aC (b5 .B 5) (aC (o0 8 (bS (b5 .B 1)) (gN .U 7) yes (Y5 (b2 fIx (b5 .B 7) (mC (.int 0))))) aN))))) (cF p 1 (F8 (aC (b5 .V 5) (aC (b5 .V 2) (aC (b5 .V 3) aN))))) (nb sNx))))))
noncomputable abbrev aK:W→List W→List W→R (List W):=J1 4 7 P7
noncomputable def dj:Rho→R Fl:=
 (c6 (sF 2 (C5 (aC (F8 (aC (Y5 (b2 fIx (b5 .B 0) (mC (.int 0)))) (aC (mC .non) (aC (mC .non) aN)))) aN)))
  (c6 (sV 3 (mC (.int 0)))
  (c6 (T8 (d6 (b2 (fI0 gLt) (b5 .B 3) (bA fLen (aC (b5 .B 2) aN)))) (c6 (B0 (bI N2 (aC (bA fLen (aC (b2 fIx (b5 .B 0) (mC (.int 1))) aN)) aN)) (gN .U 4)
    (mIO 2 aK (b5 .B 0) (aC (b5 .B 3) (aC (b5 .B 4) aN))))
   (c6 (mIf (d6 (b2 (fI0 gGt) (bA fLen (aC (b5 .B 2) aN)) (b5 .B 1))) (i9 (mC .non)) sNx)
   (iB 3 sQ (mC (.int 1))))))
  (t0 .F 2))))
noncomputable abbrev B2:List W→R W:=i6 2 5 dj
noncomputable def cE:Rho→R Fl:=
 (c6 (sF 2 (bA B2 (aC (b5 .B 0) (aC (b5 .B 1) aN))))
  (c6 (mIf (d6 (b2 (F2 false) (b5 .B 2) (mC .non))) (i9 (mC .non)) sNx)
  (i9 (bA cj (aC (o0 4 (bS (b5 .B 2)) (gN .U 3) yes (Y5 (b2 fIx (b5 .B 3) (mC (.int 0))))) aN)))))
noncomputable abbrev O4:List W→R W:=i6 2 3 cE
noncomputable def ca:Rho→R Fl:=
 (i9 (b2 fRepT (F8 (aC (mC (.int 0)) aN)) (bA fLen (aC (b2 fIx (b5 .B 0) (mC (.int 0))) aN))))
noncomputable abbrev K1:List W→R W:=i6 1 1 ca
noncomputable def di:Rho→R Fl:=
 (c6 (sF 2 (bA K1 (aC (b5 .B 0) aN)))
  (c6 (B0 (bI cW (aC (b5 .U 1) aN)) (gN .U 3)
   (sF 2 (bA Y0 (aC (b5 .B 2) (aC (b2 fIx (b2 fIx (b5 .B 0) (mC (.int 1))) (b5 .B 3)) aN)))))
  (t0 .F 2)))
noncomputable abbrev N5:List W→R W:=i6 2 4 di
noncomputable def Z5:Rho→R Fl:=
 (i9 (bA (N7 true) (aC (o0 5 (bI F6 (aC (b5 .B 0) (aC (b5 .B 1) aN))) (gT 2 (o8 (gN .U 3) (o8 (gN .U 4) gsNil))) yes (b2 (fI0 n5) (b5 .B 3) (b2 (fI CMul t9) (b5 .B 2) (b5 .B 4)))) aN)))
noncomputable abbrev A8:List W→R W:=i6 3 3 Z5
noncomputable def de:Rho→R Fl:=
 (c6 (sF 2 (bA K1 (aC (b5 .B 0) aN)))
  (c6 (B0 (bS (b5 .U 1)) (gN .U 3)
   (sF 2 (bA A8 (aC (b5 .B 2) (aC (bA N6 (aC (b2 fIx (b2 fIx (b5 .B 0) (mC (.int 1))) (b5 .B 3)) aN)) (aC (mC (.int 1)) aN))))))
  (t0 .F 2)))
noncomputable abbrev B1:List W→R W:=i6 2 4 de
noncomputable def lw:Rho→R Fl:=
 (i9 (bA en (aC (bA n9 (aC (b5 .B 0) (aC (b5 .B 1) aN))) aN)))
noncomputable abbrev dY:List W→R W:=i6 2 2 lw
noncomputable def U3:Rho→R Fl:=
 (c6 (sF 3 (bA dY (aC (b5 .B 0) (aC (b5 .B 2) aN))))
  (i9 (o0 5 (bS (vSl true (b5 .C 3) (pS (b2 (fI0 n5) (iA (b5 .B 3) (b5 .B 1)) (mC (.int 1)))) pN)) (gN .U 4) yes (Y5 (b2 fIx (b2 fIx (b5 .B 0) (b5 .B 4)) (mC (.int 2)))))))
noncomputable abbrev A0:List W→R W:=i6 3 4 U3
noncomputable def bg:Rho→R Fl:=
 (c6 (sU 3 (b2 fIx (b5 .B 1) (b5 .B 2)))
  (i9 (bA B3 (aC (b2 fIx (b2 fIx (b5 .B 1) (b2 fIx (b5 .B 3) (mC (.int 1)))) (mC (.int 0))) (aC (b2 fIx (b2 fIx (b5 .B 0) (mC (.int 1))) (b2 fIx (b5 .B 3) (mC (.int 2)))) aN)))))
noncomputable abbrev A6:List W→R W:=i6 3 4 bg
noncomputable def bi:Rho→R Fl:=
 (c6 (mIf (d6 (b2 (y8 false) (b5 .B 2) (mC (.int 0)))) (i9 (C5 aN)) sNx)
  (c6 (sF 3 (C5 aN))
  (c6 (sF 4 (bA A6 (aC (b5 .B 0) (aC (b5 .B 1) (aC (b5 .B 2) aN)))))
  (c6 (B0 (bS (vSl true (bA n9 (aC (b5 .B 1) (aC (b5 .B 2) aN))) (pS (mC (.int 1))) pN)) (gN .U 5)
   (c6 (sF 6 (bA K0 (aC (b5 .B 4) (aC (b2 fIx (b2 fIx (b5 .B 1) (b5 .B 5)) (mC (.int 0))) aN))))
   (c6 (sF 7 (bA (N7 true) (aC (o0 9 (bI N2 (aC (bA fLen (aC (b5 .B 4) aN)) aN)) (gN .U 8) (d6 (b2 (fEq true) (b2 fIx (b5 .B 6) (b5 .B 8)) (b2 fIx (b5 .B 4) (b5 .B 8)))) (b5 .V 8)) aN)))
   (c6 (mIf (d6 (b2 (fI0 gGt) (bA fLen (aC (b5 .B 7) aN)) (mC (.int 0)))) (U5 3 (F8 (aC (b5 .V 5) (aC (b5 .V 7) aN)))) sNx)
   (cU 6 (sV 4 (b5 .V 6)))))))
  (t0 .F 3)))))
noncomputable abbrev E3:List W→R W:=i6 3 8 bi
noncomputable def R1:Rho→R Fl:=
 (c6 (sF 4 (bA N5 (aC (b5 .B 0) (aC (b5 .B 1) aN))))
  (c6 (sF 5 (bA B1 (aC (b5 .B 0) (aC (b5 .B 1) aN))))
  (c6 (sF 6 (bA C0 (aC (b5 .B 4) (aC (bA A8 (aC (b5 .B 4) (aC (b5 .B 5) (aC (b2 (fI0 gSub) (mC (.int 1)) (b5 .B 2)) aN)))) aN))))
  (i9 (bA C0 (aC (b5 .B 6) (aC (bA A8 (aC (b5 .B 3) (aC (b5 .B 5) (aC (b1 (fU dw) (b5 .B 2)) aN)))) aN)))))))
noncomputable abbrev t5:List W→R W:=i6 4 7 R1
noncomputable def ag:Rho→R Fl:=
 (i9 (bA (Z7 F1) (aC (b2 (lF true) (C5 (aC (mC (.int 0)) aN)) (o0 5 (bS (b5 .B 2)) (gN .U 4) yes (b1 (fU dw) (b2 (fI bF ci) (b2 (fI0 gSub) (b2 fIx (b5 .B 0) (b5 .B 4)) (b2 fIx (b5 .B 3) (b5 .B 4))) (b2 fIx (b5 .B 1) (b5 .B 4)))))) aN)))
noncomputable abbrev E9:List W→R W:=i6 4 4 ag
noncomputable def ff:Rho→R Fl:=
 (c6 (sF 4 (bA (N7 true) (aC (o0 13 (bS (b2 fIx (b2 fIx (b5 .B 1) (b5 .B 2)) (mC (.int 0)))) (gN .U 12) yes (vIf (d6 (b2 (F2 false) (b5 .B 12) (mC .non))) (b5 .V 3) (b5 .V 12))) aN)))
  (c6 (sF 5 (C5 aN))
  (c6 (B0 (bS (vSl true (bA n9 (aC (b5 .B 1) (aC (b5 .B 2) aN))) pN (pS (b1 (fU dw) (mC (.int 1)))))) (gN .U 6)
   (c6 (sF 7 (bA A6 (aC (b5 .B 0) (aC (b5 .B 1) (aC (b5 .B 6) aN)))))
   (c6 (B0 (bI cW (aC (bA E3 (aC (b5 .B 0) (aC (b5 .B 1) (aC (b5 .B 6) aN)))) aN)) (gT 2 (o8 (gN .U 8) (o8 (gN .U 9) gsNil)))
    (c6 (sF 10 (bA A0 (aC (b5 .B 1) (aC (b5 .B 8) (aC (b5 .B 6) aN)))))
    (c6 (sF 11 (bA E9 (aC (b5 .B 7) (aC (bA B1 (aC (b5 .B 0) (aC (b5 .B 10) aN))) (aC (b5 .B 9) (aC (b5 .B 4) aN))))))
    (mIf (d6 (b2 (fI0 gGt) (b5 .B 11) (mC (.int 0)))) (c6 (cU 11 (cU 10 (U5 5 (F8 (aC (b5 .V 10) (aC (b5 .V 11) aN))))))
     (sF 4 (bA t5 (aC (b5 .B 0) (aC (b5 .B 10) (aC (b5 .B 11) (aC (b5 .B 4) aN))))))) sNx))))
   (c6 (U5 5 (F8 (aC (C5 (aC (Y5 (b2 fIx (b2 fIx (b5 .B 1) (b5 .B 6)) (mC (.int 2)))) aN)) (aC (mC (.int 1)) aN))))
   (sF 4 (bA t5 (aC (b5 .B 0) (aC (C5 (aC (Y5 (b2 fIx (b2 fIx (b5 .B 1) (b5 .B 6)) (mC (.int 2)))) aN)) (aC (mC (.int 1)) (aC (b5 .B 4) aN))))))))))
  (c6 (fh 5)
  (t0 .F 5)))))
noncomputable abbrev R5:List W→R W:=i6 4 12 ff
noncomputable def iz:Rho→R Fl:=
 (c6 (sF 3 (bA O4 (aC (b5 .B 0) (aC (b5 .B 2) aN))))
  (c6 (mIf (d6 (b2 (F2 false) (b5 .B 3) (mC .non))) (i9 (F8 (aC (mC (.str "open")) aN))) sNx)
  (c6 (sF 4 (o0 6 (bS (b5 .B 3)) (gN .U 5) yes (Y5 (b2 fIx (b5 .B 5) (b5 .B 1)))))
  (c6 (mIf (d6 (b2 (fIn false) (mC .non) (b5 .B 4))) (i9 (F8 (aC (mC (.str "grows")) aN))) sNx)
  (i9 (F8 (aC (mC (.str "at most")) (aC (bA (Z7 F1) (aC (b5 .B 4) aN)) aN))))))))
noncomputable abbrev aJ:List W→R W:=i6 3 5 iz
noncomputable def L4:Rho→R Fl:=
 (c6 (mIf (d6 (b2 (fI0 gGt) (bA fLen (aC (b5 .B 0) aN)) (mC (.int 0)))) (i9 (Y5 (b2 fIx (b5 .B 0) (b2 (fI C1 E2) (b5 .B 1) (bA fLen (aC (b5 .B 0) aN)))))) sNx)
  (i9 (mC (.int 0))))
noncomputable abbrev j8:List W→R W:=i6 2 2 L4
noncomputable def al:Rho→R Fl:=
 (i9 (b2 (fI C1 E2) (b2 (fI ar ci) (b2 (fI C1 E2) (b2 (fI CMul t9) (b2 (fI0 n5) (bA j8 (aC (b5 .B 0) (aC (b5 .B 1) aN))) (mC (.int 1))) (b2 (fI0 n5) (b2 (fI0 n5) (b2 (fI CMul t9) (b5 .B 1) (b5 .B 1)) (b2 (fI CMul t9) (mC (.int 7)) (b5 .B 1))) (mC (.int 48271)))) (mC (.int 99991))) (mC (.int 3))) (b5 .B 2)))
noncomputable abbrev l6:List W→R W:=i6 3 3 al
noncomputable def R3:Rho→R Fl:=
 (c6 (sF 5 (C5 aN))
  (c6 (B0 (bI N2 (aC (b5 .B 2) aN)) (gN .U 6)
   (c6 (sU 7 (b2 fIx (b5 .B 3) (bA l6 (aC (b5 .B 0) (aC (b2 (fI0 n5) (b5 .B 1) (b5 .B 6)) (aC (bA fLen (aC (b5 .B 3) aN)) aN))))))
   (c6 (mIf (gi (d6 (b2 (y8 false) (b5 .B 4) (mC (.int 0)))) (d6 (b2 (fI0 gGt) (b5 .B 7) (mC (.int 0))))) (sV 7 (b2 (fI C1 E2) (b2 (fI CMul t9) (b2 (fI0 n5) (bA j8 (aC (b5 .B 0) (aC (b2 (fI0 n5) (b5 .B 1) (b5 .B 6)) aN))) (b5 .B 6)) (mC (.int 48271))) (b2 (fI0 n5) (b2 (fI S2 bv) (mC (.int 10)) (mC (.int 9))) (mC (.int 1))))) (sV 7 (b2 (fI CMul t9) (b5 .B 7) (b5 .B 4))))
   (U5 5 (b5 .V 7)))))
  (i9 (bA (N7 true) (aC (b5 .C 5) aN)))))
noncomputable abbrev n8:List W→R W:=i6 5 8 R3
noncomputable def X7:Rho→R Fl:=
 (c6 (sF 1 (bA l6 (aC (b5 .B 0) (aC (mC (.int 2)) (aC (mC (.int 8)) aN)))))
  (c6 (mIf (d6 (b2 (y8 false) (b5 .B 1) (mC (.int 7)))) (i9 (mC (.int 0))) sNx)
  (c6 (mIf (d6 (b2 (fI0 gGt) (b5 .B 1) (mC (.int 4)))) (i9 (b2 (fI0 n5) (mC (.int 1)) (b2 (fI C1 E2) (b2 (fI CMul t9) (bA j8 (aC (b5 .B 0) (aC (mC (.int 2)) aN))) (mC (.int 48271))) (b2 (fI S2 bv) (mC (.int 10)) (mC (.int 8)))))) sNx)
  (i9 (mC (.int 1))))))
noncomputable abbrev K2:List W→R W:=i6 1 2 X7
noncomputable def ai:Rho→R Fl:=
 (c6 (sV 1 (b2 fIx (C5 (aC (mC (.int 2)) (aC (mC (.int 3)) (aC (mC (.int 1)) (aC (mC (.int 5)) (aC (mC (.int 3)) (aC (mC (.int 4)) (aC (mC (.int 2)) (aC (mC (.int 6)) aN))))))))) (bA l6 (aC (b5 .B 0) (aC (mC (.int 0)) (aC (mC (.int 8)) aN))))))
  (c6 (sF 2 (bA K2 (aC (b5 .B 0) aN)))
  (c6 (sF 3 (C5 aN))
  (c6 (B0 (bI N2 (aC (b2 fIx (C5 (aC (mC (.int 3)) (aC (mC (.int 2)) (aC (mC (.int 4)) (aC (mC (.int 1)) (aC (mC (.int 3)) (aC (mC (.int 5)) (aC (mC (.int 2)) (aC (mC (.int 8)) (aC (mC (.int 0)) (aC (mC (.int 6)) (aC (mC (.int 7)) aN)))))))))))) (bA l6 (aC (b5 .B 0) (aC (mC (.int 1)) (aC (mC (.int 11)) aN))))) aN)) (gN .U 4)
   (c6 (sV 5 (b2 (fI0 n5) (mC (.int 5)) (b2 (fI CMul t9) (b5 .B 1) (b2 (fI0 n5) (b2 (fI CMul t9) (mC (.int 2)) (b5 .B 4)) (mC (.int 1))))))
   (c6 (sF 6 (bA n8 (aC (b5 .B 0) (aC (b5 .B 5) (aC (b5 .B 1) (aC (C5 (aC (mC (.int 0)) (aC (mC (.int 1)) (aC (mC (.int 0)) (aC (mC (.int 2)) (aC (mC (.int 1)) (aC (mC (.int 0)) aN))))))) (aC (b5 .B 2) aN)))))))
   (c6 (sF 7 (bA n8 (aC (b5 .B 0) (aC (b2 (fI0 n5) (b5 .B 5) (b5 .B 1)) (aC (b5 .B 1) (aC (C5 (aC (mC (.int 1)) (aC (mC (.int 0)) (aC (mC (.int 0)) (aC (mC (.int 1)) (aC (mC (.int 2)) (aC (mC (.int 0)) aN))))))) (aC (b5 .B 2) aN)))))))
   (cU 7 (cU 6 (U5 3 (F8 (aC (b5 .V 6) (aC (b5 .V 7) aN))))))))))
  (c6 (sF 8 (bA (bx true) (aC (bA n8 (aC (b5 .B 0) (aC (mC (.int 5)) (aC (b5 .B 1) (aC (C5 (aC (mC (.int 1)) (aC (mC (.int 0)) (aC (mC (.int 2)) (aC (mC (.int 1)) (aC (mC (.int 3)) (aC (mC (.int 0)) aN))))))) (aC (b5 .B 2) aN)))))) aN)))
  (c6 (mIf (d6 (b2 (y8 false) (bA l6 (aC (b5 .B 0) (aC (mC (.int 49)) (aC (mC (.int 8)) aN)))) (mC (.int 0)))) (dm 8 (bA l6 (aC (b5 .B 0) (aC (mC (.int 48)) (aC (b5 .B 1) aN)))) (b2 (fI C1 E2) (b2 (fI CMul t9) (bA j8 (aC (b5 .B 0) (aC (mC (.int 48)) aN))) (mC (.int 982451653))) (b2 (fI S2 bv) (mC (.int 10)) (mC (.int 60))))) sNx)
  (i9 (F8 (aC (bA (N7 true) (aC (b5 .C 8) aN)) (aC (bA (N7 true) (aC (b5 .C 3) aN)) aN))))))))))
noncomputable abbrev M3:List W→R W:=i6 1 9 ai
noncomputable def X6:Rho→R Fl:=
 (i9 (kj (bA fIsi (aC (b5 .B 0) (aC (mC (.ty "int")) aN))) (oS (bA fIsi (aC (b5 .B 0) (aC (mC (.ty "bool")) aN))))))
noncomputable abbrev v9:List W→R W:=i6 1 1 X6
noncomputable def P8:Rho→R Fl:=
 (c6 (mIf (W3 (B4 (d6 (bA fIsi (aC (b5 .B 0) (aC (mC (.ty "tuple")) aN))))) (W3 (d6 (b2 (y8 true) (bA fLen (aC (b5 .B 0) aN)) (mC (.int 2)))) (W3 (B4 (d6 (bA v9 (aC (b2 fIx (b5 .B 0) (mC (.int 1))) aN)))) (d6 (b2 (fI0 gLt) (b2 fIx (b5 .B 0) (mC (.int 1))) (mC (.int 0))))))) (i9 (mC (.bl false))) sNx)
  (c6 (mIf (W3 (B4 (d6 (bA fIsi (aC (b2 fIx (b5 .B 0) (mC (.int 0))) (aC (mC (.ty "list")) aN))))) (d6 (b2 (fI0 gGt) (bA fLen (aC (b2 fIx (b5 .B 0) (mC (.int 0))) aN)) (mC (.int 30))))) (i9 (mC (.bl false))) sNx)
  (i9 (bA (iN lE) (aC (o0 3 (bS (b2 fIx (b5 .B 0) (mC (.int 0)))) (gN .U 2) yes (kj (bA v9 (aC (b5 .B 2) aN)) (gw (fI0 gLe) (fI0 gLt) (mC (.int 0)) (b5 .B 2) (b5 .B 1)))) aN)))))
noncomputable abbrev r6:List W→R W:=i6 2 2 P8
noncomputable def ak:Rho→R Fl:=
 (c6 (mIf (d6 (b2 (y8 false) (b5 .B 3) (mC (.int 0)))) (t0 .F 0) sNx)
  (c6 (sF 4 (o0 11 (bS (b5 .B 0)) (gN .U 10) yes (mC (.int 0))))
  (c6 (sF 5 (o0 11 (bS (b5 .B 0)) (gN .U 10) yes (mC (.int 0))))
  (c6 (B0 (bS (b5 .U 2)) (gN .U 6)
   (c6 (sG (gT 2 (o8 (gN .U 7) (o8 (gN .U 8) gsNil))) (b2 fIx (b5 .B 1) (b5 .B 6)))
   (B0 (bI N2 (aC (bA fLen (aC (b5 .B 0) aN)) aN)) (gN .U 9)
    (c6 (dm 4 (b5 .B 9) (bA (f2 U6) (aC (b2 fIx (b5 .B 4) (b5 .B 9)) (aC (b2 (fI0 gSub) (b2 fIx (b5 .B 7) (b5 .B 9)) (b2 fIx (b5 .B 5) (b5 .B 9))) aN))))
    (dm 5 (b5 .B 9) (b2 (fI0 gSub) (b2 (fI0 n5) (b2 fIx (b5 .B 5) (b5 .B 9)) (b2 fIx (b5 .B 8) (b5 .B 9))) (b2 fIx (b5 .B 7) (b5 .B 9))))))))
  (c6 (B0 (bI N2 (aC (bA fLen (aC (b5 .B 0) aN)) aN)) (gN .U 9)
   (mIf (d6 (b2 (fI0 gLt) (b2 fIx (b5 .B 0) (b5 .B 9)) (b2 (fI0 n5) (b2 fIx (b5 .B 4) (b5 .B 9)) (b2 (fI CMul t9) (b2 (fI0 gSub) (b5 .B 3) (mC (.int 1))) (bA (f2 U6) (aC (b2 (fI0 gSub) (mC (.int 0)) (b2 fIx (b5 .B 5) (b5 .B 9))) (aC (mC (.int 0)) aN))))))) (i9 (mC .non)) sNx))
  (i9 (o0 11 (bI N2 (aC (bA fLen (aC (b5 .B 0) aN)) aN)) (gN .U 10) yes (b2 (fI0 n5) (b2 fIx (b5 .B 0) (b5 .B 10)) (b2 (fI CMul t9) (b5 .B 3) (b2 fIx (b5 .B 5) (b5 .B 10)))))))))))
noncomputable abbrev x4:List W→R W:=i6 4 10 ak
noncomputable def R4:Rho→R Fl:=
 (c6 (mIf (W3 (B4 (d6 (bA fIsi (aC (b5 .B 2) (aC (mC (.ty "list")) aN))))) (d6 (b2 (fI0 gGt) (bA fLen (aC (b5 .B 2) aN)) (mC (.int 100))))) (i9 (mC .non)) sNx)
  (c6 (sF 3 (bA (bx false) (aC (b5 .B 0) aN)))
  (c6 (B0 (bS (b5 .U 2)) (gN .U 4)
   (c6 (mIf (B4 (d6 (bA r6 (aC (b5 .B 4) (aC (bA fLen (aC (b5 .B 1) aN)) aN))))) (i9 (mC .non)) sNx)
   (c6 (sF 3 (bA x4 (aC (b5 .B 3) (aC (b5 .B 1) (aC (b2 fIx (b5 .B 4) (mC (.int 0))) (aC (b2 fIx (b5 .B 4) (mC (.int 1))) aN))))))
   (mIf (d6 (b2 (F2 false) (b5 .B 3) (mC .non))) (i9 (mC .non)) sNx))))
  (t0 .F 3))))
noncomputable abbrev o5:List W→R W:=i6 3 5 R4
noncomputable def U4:Rho→R Fl:=
 (c6 (sF 2 (C5 aN))
  (c6 (B0 (bI N2 (aC (bA fLen (aC (b5 .B 0) aN)) aN)) (gN .U 3)
   (c6 (mIf (d6 (b2 (fI0 gLt) (b2 fIx (b5 .B 0) (b5 .B 3)) (b2 fIx (b2 fIx (b5 .B 1) (mC (.int 0))) (b5 .B 3)))) (i9 (mC .non)) sNx)
   (U5 2 (b2 (fI0 n5) (b2 (fI0 gSub) (b2 fIx (b5 .B 0) (b5 .B 3)) (b2 fIx (b2 fIx (b5 .B 1) (mC (.int 0))) (b5 .B 3))) (b2 fIx (b2 fIx (b5 .B 1) (mC (.int 1))) (b5 .B 3))))))
  (t0 .F 2)))
noncomputable abbrev A1:List W→R W:=i6 2 4 U4
noncomputable def P9:Rho→R Fl:=
 (c6 (sF 3 (bA (bx false) (aC (b5 .B 0) aN)))
  (c6 (sF 4 (bA (bx false) (aC (b5 .B 0) aN)))
  (c6 (B0 (bS (b5 .U 2)) (gN .U 5)
   (c6 (sF 6 (o0 8 (bS (b5 .B 1)) (gN .U 7) yes (bA A1 (aC (b5 .B 3) (aC (b5 .B 7) aN)))))
   (c6 (sF 6 (o0 8 (bS (b5 .C 6)) (gN .V 7) (d6 (b2 (F2 true) (b5 .B 7) (mC .non))) (b5 .V 7)))
   (mIf (d6 (b2 (fI0 gGt) (bA fLen (aC (b5 .B 6) aN)) (mC (.int 0)))) (c6 (sV 3 (b2 fIx (b5 .C 6) (b2 (fI C1 E2) (b2 (fI ar ci) (b2 (fI C1 E2) (b2 (fI CMul t9) (b5 .B 5) (mC (.int 48271))) (mC (.int 1000003))) (mC (.int 7))) (bA fLen (aC (b5 .B 6) aN)))))
    (sF 4 (o0 8 (bI N2 (aC (bA fLen (aC (b5 .B 3) aN)) aN)) (gN .U 7) yes (bA (f2 U6) (aC (b2 fIx (b5 .B 4) (b5 .B 7)) (aC (b2 fIx (b5 .B 3) (b5 .B 7)) aN)))))) sNx))))
  (t0 .F 4))))
noncomputable abbrev A9:List W→R W:=i6 3 7 P9
noncomputable def X8:Rho→R Fl:=
 (c6 (sF 5 (bA aJ (aC (b5 .B 0) (aC (b5 .B 2) (aC (mC (.int 30)) aN)))))
  (c6 (mIf (W3 (B4 (d6 (bA fIsi (aC (b5 .B 5) (aC (mC (.ty "tuple")) aN))))) (B4 (d6 (bA fIsi (aC (b2 fIx (b5 .B 5) (mC (.int 0))) (aC (mC (.ty "str")) aN)))))) (i9 (mC (.bl false))) sNx)
  (c6 (sV 6 (mC .non))
  (c6 (mIf (d6 (b2 (y8 false) (b2 fIx (b5 .B 5) (mC (.int 0))) (mC (.str "at most")))) (c6 (sV 6 (b2 fIx (b5 .C 5) (mC (.int 1))))
   (mIf (W3 (d6 (b2 (y8 true) (bA fLen (aC (b5 .B 5) aN)) (mC (.int 2)))) (W3 (B4 (d6 (bA v9 (aC (b5 .B 6) aN)))) (d6 (b2 (fI0 gGt) (b5 .B 4) (b5 .B 6))))) (i9 (mC (.bl false))) sNx)) (mIf (d6 (b2 (fEq true) (b5 .B 5) (F8 (aC (mC (.str "grows")) aN)))) (i9 (mC (.bl false))) sNx))
  (c6 (sF 7 (o0 10 (bI N2 (aC (bA fLen (aC (b5 .B 1) aN)) aN)) (gN .U 9) (d6 (b2 (fEq false) (b2 fIx (b2 fIx (b2 fIx (b5 .B 1) (b5 .B 9)) (mC (.int 0))) (b5 .B 2)) (b5 .B 6))) (b5 .V 9)))
  (c6 (mIf (d6 (b2 (y8 false) (bA fLen (aC (b5 .B 7) aN)) (mC (.int 0)))) (i9 (mC (.bl false))) sNx)
  (c6 (sF 8 (bA o5 (aC (b2 fIx (b5 .B 0) (mC (.int 0))) (aC (b2 fIx (b5 .B 0) (mC (.int 1))) (aC (bA R5 (aC (b5 .B 0) (aC (b5 .B 1) (aC (b2 fIx (b5 .B 7) (mC (.int 0))) (aC (b5 .B 3) aN))))) aN)))))
  (c6 (mIf (d6 (b2 (F2 false) (b5 .B 8) (mC .non))) (i9 (mC (.bl false))) sNx)
  (c6 (mIf (d6 (b2 (F2 false) (b5 .B 6) (mC .non))) (i9 (b2 (fI0 gGe) (b2 fIx (b5 .B 8) (b5 .B 2)) (b5 .B 3))) sNx)
  (i9 (b2 (fEq false) (b2 fIx (b5 .B 8) (b5 .B 2)) (b5 .B 6))))))))))))
noncomputable abbrev x9:List W→R W:=i6 5 9 X8
noncomputable def gs:Rho→R Fl:=
 (c6 (sF 1 (bA M3 (aC (b5 .B 0) aN)))
  (c6 (sF 2 (bA B2 (aC (b5 .B 1) (aC (mC (.int 30)) aN))))
  (c6 (mIf (d6 (b2 (F2 false) (b5 .B 2) (mC .non))) (i9 (mC (.bl true))) sNx)
  (c6 (sF 3 (bA l6 (aC (b5 .B 0) (aC (mC (.int 4)) (aC (mC (.int 10)) aN)))))
  (c6 (mIf (d6 (b2 (y8 false) (bA l6 (aC (b5 .B 0) (aC (mC (.int 3)) (aC (mC (.int 2)) aN)))) (mC (.int 0)))) (sV 3 (b2 (fI C1 E2) (b2 (fI CMul t9) (bA j8 (aC (b5 .B 0) (aC (mC (.int 4)) aN))) (mC (.int 982451653))) (b2 (fI S2 bv) (mC (.int 10)) (mC (.int 60))))) sNx)
  (c6 (sF 4 (bA A9 (aC (b2 fIx (b5 .B 1) (mC (.int 0))) (aC (b2 fIx (b5 .B 1) (mC (.int 1))) (aC (vSl false (b5 .B 0) pN (pS (mC (.int 200)))) aN)))))
  (c6 (B0 (bI N2 (aC (bA fLen (aC (b2 fIx (b5 .B 1) (mC (.int 0))) aN)) aN)) (gN .U 5)
   (mIf (B4 (d6 (bA x9 (aC (b5 .B 1) (aC (b5 .B 2) (aC (b5 .B 5) (aC (b5 .B 3) (aC (b2 fIx (b5 .B 4) (b5 .B 5)) aN)))))))) (i9 (mC (.bl false))) sNx))
  (i9 (mC (.bl true))))))))))
noncomputable abbrev dZ:List W→R W:=i6 1 6 gs
end K46
set_option maxHeartbeats 4000000
open PySem L2 TP
namespace K46
--RPX: jZ, jN, oN, rpio
noncomputable def rp14:=Z1 (@zH) (Z1 (@zG) (Z1 (@zF) (Z1 (@zE) (Z1 (@zo) (Z1 (@zB) (Z1 (@zy) (Z1 (@zz) (Z1 (@zt) (Z1 (@zu) (Z1 (@zC) (Z1 (@zD) (Z1 (@zq) (@zr)))))))))))))
noncomputable def rp15:=Z1 (@Bool.not_true) (Z1 (@Bool.not_false) (Z1 (@Bool.true_or) (Z1 (@Bool.or_true) (Z1 (@Bool.false_or) (Z1 (@Bool.or_false) (Z1 (@Bool.true_and) (Z1 (@Bool.and_true) (Z1 (@Bool.false_and) (Z1 (@Bool.and_false) (Z1 (@Int.sub_zero) (Z1 (@Int.zero_add) (Z1 (@Int.toNat_natCast) (Z1 (@Bool.false_eq_true) (Z1 (@Bool.true_eq_false) (Z1 (@and_true) (Z1 (@true_and) (Z1 (@or_true) (Z1 (@true_or) (@and_self)))))))))))))))))))
noncomputable def rp18:=Z1 (@List.length_cons.{0}) (Z1 (@List.length_nil.{0}) (Z1 (@List.length_map.{0,0}) (Z1 (@List.length_append.{0}) (Z1 (@List.length_set.{0}) (@List.length_range)))))
noncomputable def rp16:=Z1 rp14 (Z1 rp15 (Z1 rp13 (Z1 rp12 (Z1 rp11 (Z1 rp10 (Z1 rp9 (Z1 rp8 (Z1 rp0 (Z1 rp1 (Z1 rp2 (Z1 rp3 (Z1 rp4 (Z1 rp5 (Z1 rp6 rp7))))))))))))))
noncomputable def rp17:=Z1 (@List.map_cons.{0,0}) (Z1 (@List.map_nil.{0,0}) (Z1 (@List.replicate_succ.{0}) (Z1 (@List.replicate_zero.{0}) (Z1 (@List.cons_append.{0}) (Z1 (@List.nil_append.{0}) (Z1 (@List.append_nil.{0}) (Z1 (@R.ok_bind) (Z1 (@R.stuck_bind) (@R.ex_bind)))))))))
noncomputable def rp19:=Z1 (@beq_self_eq_true.{0}) (Z1 (@Option.isNone_none.{0}) (Z1 (@Option.isNone_some.{0}) (Z1 (@Option.bind_some.{0,0}) (Z1 (@if_true.{1}) (Z1 (@if_false.{1}) (Z1 (@decide_true) (@decide_false)))))))
theorem Cc (m:Rho→R Fl) (ρ:Rho):nb m ρ=nbR (m ρ):=rfl
theorem yZ (ρ:Rho):nbR (.ok (.nx ρ))=.ok (.nx ρ):=rfl
theorem tV (ρ:Rho):kJ ρ=.ok (.bk ρ):=rfl
theorem yd (q:Addr) (ws:List W):rdS .B (some (.iop q ws))=.ok (.lst ws):=rfl
theorem yc (q:Addr) (ws:List W):rdS .U (some (.iop q ws))=.ok (.lst ws):=rfl
noncomputable def ioS (o:Option Sl) (f:W→List W→List W→R (List W)) (r1:R W) (rr:R (List W)) (i:Nat) (ρ:Rho):R Fl:=match o with
 | some (.own cs)=>r1>>=fun w1=>rr>>=fun wr=>f w1 cs wr>>=fun cs'=>.ok (.nx (ρ.set i (.own cs')))
 | _=>.stuck
theorem zc (i:Nat) (f:W→List W→List W→R (List W)) (m1:Rho→R W) (mr:Rho→R (List W)) (ρ:Rho):mIO i f m1 mr ρ=ioS (ρ[i]?) f (m1 ρ) (mr ρ) i ρ:=rfl
theorem zQ (cs:List W) (f:W→List W→List W→R (List W)) (w1:W) (wr:List W) (i:Nat) (ρ:Rho):ioS (some (.own cs)) f (.ok w1) (.ok wr) i ρ=(f w1 cs wr>>=fun cs'=>.ok (.nx (ρ.set i (.own cs')))):=rfl
theorem BO {r:R Fl} {P:Rho→Prop} {Q:W→Prop} (h:Po r P fun _=>False):Po (nbR r) P Q:=by
 cases r with
 | ok f=>
  cases f with
  | nx ρ=>exact h
  | rt w=>exact h.elim
  | bk ρ=>exact h
  | ct ρ=>exact h
 | ex e=>exact h
 | stuck=>exact h
theorem qH {p:Addr} {i:Nat} {m:Rho→R W} {ws:List W} {w:W} {ρ:Rho} (h1:ρ[i]?=some (.iop p ws)) (hm:m ρ=.ok w) (hl:ws.length<1000):cF p i m ρ=.ok (.nx (appI i p (ws ++ [w]) ρ)):=by
 unfold cF
 rw [h1]
 dsimp only
 rw [hm,R.ok_bind,if_pos ⟨rfl,hl⟩]
noncomputable def rpio:=Z1 (@Cc) (Z1 (@yZ) (Z1 (@tV) (Z1 (@yd) (Z1 (@yc) (Z1 (@zc) (@zQ))))))
noncomputable def rpZ:=Z1 rp19 (Z1 rp16 (Z1 rp17 (Z1 rp18 (Z1 @jZ (Z1 @jN (Z1 @oN (Z1 rpio (@decide_eq_true_eq))))))))
noncomputable def rpB:=Z1 (@xI) (Z1 (@xH) (Z1 (@xG) (Z1 (@xF) (@xE))))
local macro_rules | `(tactic| exists $[$es],*)=>`(tactic| simp (disch:=first | with_reducible assumption | omega | (simp only [rp18]; omega)) only [List.getElem?_cons_zero,List.getElem?_cons_succ,List.set_cons_succ,List.set_cons_zero,tyW,isN,simprocAttr,rpZ,$[$es:term],*])
noncomputable abbrev Mv:=List Int×List Int
noncomputable abbrev mW (m:Mv):W:=.tup [tI m.1,tI m.2]
noncomputable abbrev tM_ (ms:List Mv):W:=.tup (ms.map mW)
theorem yX (m:Mv):noL (mW m)=true:=by simp [noL,l9,C4]
theorem yW (ms:List Mv):l9 (ms.map mW)=true:=X4 mW yX ms
theorem memD {ns:List Int} {P:Int→Prop} (h:∀ x∈ns,P x) {i:Nat} (hi:i<ns.length):P (ns.getD i 0):=mem_getD h hi
noncomputable def nn (xs:List Int):Prop:=∀ x∈xs,0≤x
noncomputable def okN (n:Nat) (m:Mv):Prop:=m.1.length=n∧m.2.length=n∧nn m.1∧nn m.2
theorem bd {xs:List Int} (h:nn xs) (k:Nat):0≤xs.getD k 0:=by
 by_cases hk:k<xs.length
 ·exact memD h hk
 ·rw [List.getD_eq_getElem?_getD]; simp [hk]
theorem atM {ms:List Mv} {r:Int} (h0:0≤r) (h1:r<ms.length):L2.atI (ms.map mW) r=some (mW (ms.getD r.toNat ([],[]))):=by
 unfold L2.atI
 rw [aG h0 (by rw [List.length_map]; exact h1)]
 show (ms.map mW)[r.toNat]?=_
 have hi:r.toNat<ms.length:=by omega
 rw [List.getElem?_map,List.getD_eq_getElem?_getD]
 simp [hi]
theorem getM {n:Nat} {ms:List Mv} {i:Nat} (hm:∀ m∈ms,okN n m) (h1:i<ms.length):okN n (ms.getD i ([],[])):=by
 refine hm _ ?_
 rw [List.getD_eq_getElem?_getD]; simp [h1]
noncomputable def B6 (a b:Option Int):Bool:=match b with
 | none=>true
 | some y=>match a with
  | none=>false
  | some x=>decide (x≤y)
noncomputable def i8 (cs ds:List (Option Int)):Bool:=(List.range cs.length).all fun k=>B6 (cs.getD k none) (ds.getD k none)
noncomputable abbrev tC (cs:List (Option Int)):W:=.tup (cs.map oW)
noncomputable abbrev lC (cs:List (Option Int)):W:=.lst (cs.map oW)
theorem Bx {cs ds:List (Option Int)} {i:Nat} (hi:i<cs.length) (h:B6 (cs.getD i none) (ds.getD i none)=false):i8 cs ds=false:=by
 unfold i8
 rw [List.all_eq_false]
 exact ⟨i,by simpa using hi,by rw [h]; exact Bool.false_ne_true⟩
theorem dy {cs ds:List (Option Int)} (h:∀ k,k<cs.length→B6 (cs.getD k none) (ds.getD k none)=true):i8 cs ds=true:=by
 unfold i8
 rw [List.all_eq_true]
 exact fun k hk=>h k (by simpa using hk)
theorem cQ {cs ds:List (Option Int)} (hl:ds.length=cs.length):E8 [tC cs,tC ds]=.ok (.bl (i8 cs ds)):=by
 have fin:Ok (E8 [tC cs,tC ds]) fun v=>v=.bl (i8 cs ds):=by
  have hz:=W1 (tC cs) (tC ds) _ _ rfl rfl
  rw [eJ oW oW hl none none] at hz
  exists rpB,fe,hz
  refine u5 (x6 (fun i ρ=>∃ a b,ρ = [.par (tC cs),.par (tC ds),a,b]∧∀ k,k<i→B6 (cs.getD k none) (ds.getD k none)=true) ⟨_,_,rfl,fun k hk=>absurd hk (Nat.not_lt_zero _)⟩ ?_ ?_)
  ·rintro i u ρ hu ⟨a,b,rfl,hall⟩
   obtain ⟨hi,rfl⟩:=pU hu
   refine ⟨_,rfl,?_⟩
   have key:B6 (cs.getD i none) (ds.getD i none)=true→∀ k,k<i+1→B6 (cs.getD k none) (ds.getD k none)=true:=fun h k hk=>by
    by_cases e:k=i
    ·subst e; exact h
    ·exact hall k (by omega)
   have bad:=Bx (ds:=ds) hi
   revert key bad
   cases hd:ds.getD i none with
   | none=>
    intro key bad
    exists rp18
    exact ⟨_,_,rfl,key rfl⟩
   | some y=>
    cases hc:cs.getD i none with
    | none=>
     intro key bad
     exists rp18
     rw [bad rfl]
    | some x=>
     intro key bad
     exists rp18
     refine cC (fun h=>?_) (fun h=>?_)
     ·exists rp18
      rw [bad (by show decide (x≤y)=false; simp only [decide_eq_true_eq] at h; exact decide_eq_false (by omega))]
     ·exists rp18
      exact ⟨_,_,rfl,key (by show decide (x≤y)=true; simp only [decide_eq_false_iff_not] at h; exact decide_eq_true (by omega))⟩
  ·rintro ρ ⟨a,b,rfl,hall⟩
   rw [List.length_map,List.length_range] at hall
   exists rp18
   rw [dy hall]
 obtain ⟨v,e,rfl⟩:=fin
 exact e
noncomputable def ad (c e:Option Int):Option Int:=if c=e then c else none
noncomputable def j0 (cs es:List (Option Int)):List (Option Int):=if i8 es cs=true then (List.range cs.length).map fun k=>ad (cs.getD k none) (es.getD k none) else cs
theorem N3 (cs es:List (Option Int)):(j0 cs es).length=cs.length:=by unfold j0; split <;> simp
theorem fJ {cs es:List (Option Int)} (hl:es.length=cs.length) (h6:cs.length≤6):K0 [tC cs,tC es]=.ok (tC (j0 cs es)):=by
 have hu:=cQ (cs:=es) (ds:=cs) hl.symm
 have fin:Ok (K0 [tC cs,tC es]) fun v=>v=tC (j0 cs es):=by
  have hz:=W1 (tC cs) (tC es) _ _ rfl rfl
  rw [eJ oW oW hl none none] at hz
  exists rpB,dh,hu
  refine u5 (aE (fun h=>?_) (fun h=>?_))
  ·exists M4 (show noL (tC cs)=true from y9 cs)
   unfold j0
   rw [if_neg (by simpa using h)]
  ·exists hz
   refine yD (qw (Ca ?_))
   refine ⟨lC (j0 cs es),?_,?_⟩
   ·rw [l4 (fun k=>oW (ad (cs.getD k none) (es.getD k none))) _ _ _ (by simpa using (by omega:cs.length≤1000))]
    ·unfold j0
     rw [if_pos (by simpa using h)]
     exact congrArg (fun l=>R.ok (W.lst l)) (by rw [List.map_map]; rfl)
    ·intro k hk
     refine ⟨_,rfl,?_⟩
     have hk:k<cs.length:=by simpa using hk
     cases hc:cs.getD k none with
     | none=>
      cases he:es.getD k none with
      | none=>
       exists rp18
       rfl
      | some y=>
       exists rp18
       rfl
     | some x=>
      cases he:es.getD k none with
      | none=>
       exists rp18
       rfl
      | some y=>
       exists rp18
       unfold ad
       by_cases e:x=y
       ·subst e; simp; rfl
       ·simp [e]; rfl
   ·exact ⟨_,by rw [oj,oy],rfl⟩
 obtain ⟨v,e,rfl⟩:=fin
 exact e
theorem fY {n:Nat} {m:Mv} (h6:n≤6) (h:okN n m):N6 [mW m]=.ok (tI ((List.range n).map fun k=>m.2.getD k 0-m.1.getD k 0)):=by
 have a0:L2.atI [tI m.1,tI m.2] 0=some (tI m.1):=rfl
 have a1:L2.atI [tI m.1,tI m.2] 1=some (tI m.2):=rfl
 have hz:=W1 (tI m.1) (tI m.2) _ _ rfl rfl
 rw [cv (by rw [h.1,h.2.1]),h.1] at hz
 exists rpB,dk,a0,a1,hz
 have e:∀ N mg me ρ (h:∀ k,k<n→∃ ρ1,mg (.tup [.int (m.1.getD k 0),.int (m.2.getD k 0)]) (ρ++List.replicate (N-ρ.length) Sl.un)=some ρ1∧me ρ1=.ok (.int (m.2.getD k 0-m.1.getD k 0))),m5 N mg yes me ((List.range n).map fun k=>W.tup [.int (m.1.getD k 0),.int (m.2.getD k 0)]) ρ=.ok (lI ((List.range n).map fun k=>m.2.getD k 0-m.1.getD k 0)):=fun N mg me ρ h=>by
  rw [l4 (fun k=>.int (m.2.getD k 0-m.1.getD k 0)) _ _ ρ (by simpa using (by omega:n≤1000)) (fun k hk=>h k (by simpa using hk)),db]
 rw [e]
 ·exists rp18
 ·intro k hk
  refine ⟨_,rfl,?_⟩
  exists rp18
noncomputable abbrev Cap:=List (Option Int)
noncomputable abbrev GEnt:=Cap×Nat×Nat
noncomputable abbrev gW (e:GEnt):W:=.tup [tC e.1,.int (e.2.1:Int),.int (e.2.2:Int)]
noncomputable abbrev g0 (c:Cap):W:=.tup [tC c,.non,.non]
noncomputable abbrev h7 (c:Cap) (es:List GEnt):List W:=g0 c::es.map gW
noncomputable def stC (c:Cap) (es:List GEnt):List Cap:=c::es.map (·.1)
noncomputable def sC (c:Cap) (es:List GEnt) (a:Nat):Cap:=(stC c es).getD a []
noncomputable def mvN (ms:List Mv) (k:Nat):Mv:=ms.getD k ([],[])
noncomputable def cdG (e:GEnt):Nat:=e.2.1*8+e.2.2
theorem V7 (c:Cap) (es:List GEnt):(stC c es).length=es.length+1:=by simp [stC]
theorem eM {c:Cap} {es:List GEnt} {e:GEnt} {a:Nat} (h:a≤es.length):sC c (es ++ [e]) a=sC c es a:=by
 unfold sC stC
 rw [List.map_append,← List.cons_append,List.getD_eq_getElem?_getD,List.getD_eq_getElem?_getD,List.getElem?_append_left (by simp; omega)]
theorem gX {c:Cap} {es:List GEnt} {i:Nat} {e:GEnt} (h:es[i]?=some e):sC c es (i+1)=e.1:=by
 unfold sC stC
 rw [List.getD_eq_getElem?_getD,List.getElem?_cons_succ,List.getElem?_map,h]; rfl
theorem bT {c:Cap} {es:List GEnt} {a:Nat} (h:a≤es.length):sC c es a∈stC c es:=by
 unfold sC
 rw [List.getD_eq_getElem?_getD,List.getElem?_eq_getElem (by rw [V7]; omega)]
 exact List.getElem_mem _
theorem sj (b:List Int):tI b=tC (b.map some):=congrArg W.tup (by rw [List.map_map]; rfl)
noncomputable def cP (es:List GEnt):Nat→Nat→List Nat
 | _,0=>[0]
 | 0,n+1=>[n+1]
 | f+1,i+1=>(i+1)::cP es f (es.getD i ([],0,0)).2.1
noncomputable def i5 (es:List GEnt) (n:Nat):List Nat:=cP es n n
noncomputable def C3 (es:List GEnt):Prop:=∀ (i:Nat) (e:GEnt),es[i]?=some e→e.2.1≤i
theorem B5 (es:List GEnt):i5 es 0 = [0]:=rfl
theorem getD_at {es:List GEnt} {i:Nat} {e:GEnt} (h:es[i]?=some e):es.getD i ([],0,0)=e:=by rw [List.getD_eq_getElem?_getD,h]; rfl
theorem mf {es:List GEnt} (hp:C3 es):∀ n f,n≤f→n≤es.length→cP es f n=cP es n n:=by
 intro n
 induction n using Nat.strongRecOn with
 | _ n ih=>
  intro f hf hn
  cases n with
  | zero=>cases f <;> rfl
  | succ i=>
   obtain ⟨f,rfl⟩:∃ g,f=g+1:=⟨f-1,by omega⟩
   have he:es[i]?=some es[i]:=List.getElem?_eq_getElem (by omega)
   have hq:=hp i _ he
   show (i+1)::cP es f (es.getD i ([],0,0)).2.1=(i+1)::cP es i (es.getD i ([],0,0)).2.1
   rw [getD_at he,ih es[i].2.1 (by omega) f (by omega) (by omega),ih es[i].2.1 (by omega) i (by omega) (by omega)]
theorem j9 {es:List GEnt} (hp:C3 es) {i:Nat} {e:GEnt} (h:es[i]?=some e):i5 es (i+1)=(i+1)::i5 es e.2.1:=by
 have hi:=(List.getElem?_eq_some_iff.mp h).1
 have hq:=hp i e h
 show (i+1)::cP es i (es.getD i ([],0,0)).2.1=_
 rw [getD_at h,mf hp e.2.1 i hq (by omega)]; rfl
theorem E7 {es:List GEnt} (hp:C3 es):∀ n,n≤es.length→(∀ q∈i5 es n,q≤n)∧(i5 es n).length≤n+1:=by
 intro n
 induction n using Nat.strongRecOn with
 | _ n ih=>
  intro hn
  cases n with
  | zero=>rw [B5]; exact ⟨by simp,by simp⟩
  | succ i=>
   have he:es[i]?=some es[i]:=List.getElem?_eq_getElem (by omega)
   have hq:=hp i _ he
   obtain ⟨h1,h2⟩:=ih es[i].2.1 (by omega) (by omega)
   rw [j9 hp he]
   refine ⟨fun q hq'=>?_,by rw [List.length_cons]; omega⟩
   rcases List.mem_cons.mp hq' with rfl | h
   ·exact Nat.le_refl _
   ·have:=h1 q h; omega
theorem mj {es:List GEnt} {x:GEnt} (hp:C3 es) (hx:x.2.1≤es.length):∀ n,n≤es.length→i5 (es ++ [x]) n=i5 es n:=by
 have hp':C3 (es ++ [x]):=fun i e he=>by
  by_cases hi:i<es.length
  ·rw [List.getElem?_append_left hi] at he; exact hp i e he
  ·have hi':=(List.getElem?_eq_some_iff.mp he).1
   rw [List.length_append,List.length_singleton] at hi'
   have:i=es.length:=by omega
   subst this
   rw [List.getElem?_append_right (Nat.le_refl _),Nat.sub_self] at he
   cases he; exact hx
 intro n
 induction n using Nat.strongRecOn with
 | _ n ih=>
  intro hn
  cases n with
  | zero=>rfl
  | succ i=>
   have he:es[i]?=some es[i]:=List.getElem?_eq_getElem (by omega)
   have he':(es ++ [x])[i]?=some es[i]:=by rw [List.getElem?_append_left (by omega)]; exact he
   have hq:=hp i _ he
   rw [j9 hp he,j9 hp' he',ih es[i].2.1 (by omega) (by omega)]
noncomputable def N9 (c:Cap) (m:Mv):Bool:=i8 (m.1.map some) c
noncomputable def o7 (c:Cap) (m:Mv):Cap:=(List.range c.length).map fun k=>(c.getD k none).map fun x=>x+(m.2.getD k 0-m.1.getD k 0)
theorem K3 (c:Cap) (m:Mv):(o7 c m).length=c.length:=by simp [o7]
theorem eB {c:Cap} {m:Mv} (hm:okN c.length m):E4 [tC c,mW m]=.ok (.bl (N9 c m)):=by
 have a0:L2.atI [tI m.1,tI m.2] 0=some (tI m.1):=rfl
 have k:=cQ (cs:=m.1.map some) (ds:=c) (by rw [List.length_map,hm.1])
 rw [← sj] at k
 exists rpB,bj,a0,k
 rfl
theorem cM {c:Cap} {m:Mv} (h6:c.length≤6) (hm:okN c.length m) (ha:N9 c m=true):B3 [tC c,mW m]=.ok (tC (o7 c m)):=by
 have k1:=eB hm
 rw [ha] at k1
 have k2:=fY h6 hm
 have hz:=W1 (tC c) (tI ((List.range c.length).map fun k=>m.2.getD k 0-m.1.getD k 0)) _ _ rfl rfl
 rw [eJ oW W.int (by simp) none 0] at hz
 exists rpB,ah,k1,k2,hz
 have e:∀ N mg me ρ (h:∀ k,k<c.length→∃ ρ1,mg (.tup [oW (c.getD k none),.int (((List.range c.length).map fun k=>m.2.getD k 0-m.1.getD k 0).getD k 0)]) (ρ++List.replicate (N-ρ.length) Sl.un)=some ρ1∧me ρ1=.ok (oW ((c.getD k none).map fun x=>x+(m.2.getD k 0-m.1.getD k 0)))),m5 N mg yes me ((List.range c.length).map fun k=>W.tup [oW (c.getD k none),.int (((List.range c.length).map fun k=>m.2.getD k 0-m.1.getD k 0).getD k 0)]) ρ=.ok (lC (o7 c m)):=fun N mg me ρ h=>by
  rw [l4 (fun k=>oW ((c.getD k none).map fun x=>x+(m.2.getD k 0-m.1.getD k 0))) _ _ ρ (by simp; omega) (fun k hk=>h k (by simpa using hk))]
  unfold o7
  exact congrArg (fun l=>R.ok (W.lst l)) (by rw [List.map_map]; rfl)
 rw [e]
 ·exists rp18
 ·intro k hk
  refine ⟨_,rfl,?_⟩
  have hg:((List.range c.length).map fun k=>m.2.getD k 0-m.1.getD k 0).getD k 0=m.2.getD k 0-m.1.getD k 0:=by rw [List.getD_eq_getElem?_getD,List.getElem?_map,List.getElem?_range hk]; rfl
  rw [hg]
  cases c.getD k none with
  | none=>
   exists rp18
   rfl
  | some x=>
   exists rp18
   rfl
noncomputable def S0 (cs:List Cap) (x:Cap):Bool:=cs.any fun d=>i8 x d
theorem cI {cs:List Cap} {x:Cap} (hl:∀ d∈cs,d.length=x.length):x3 [tC x,.lst (cs.map tC)]=.ok (.bl (S0 cs x)):=by
 have fin:Ok (x3 [tC x,.lst (cs.map tC)]) fun v=>v=.bl (S0 cs x):=by
  exists rpB,af
  refine u5 (x6 (fun i ρ=>∃ a2,ρ = [.par (tC x),.par (.lst (cs.map tC)),a2]∧∀ k (hk:k<cs.length),k<i→i8 x cs[k]=false) ⟨_,rfl,fun k _ hk=>absurd hk (Nat.not_lt_zero _)⟩ ?_ ?_)
  ·rintro i u ρ hu ⟨a2,rfl,hall⟩
   rw [List.getElem?_map] at hu
   obtain ⟨d,hd,rfl⟩:=Option.map_eq_some_iff.mp hu
   obtain ⟨hi,ed⟩:=List.getElem?_eq_some_iff.mp hd
   have hdm:=List.mem_of_getElem? hd
   have k:=cQ (cs:=x) (ds:=d) (hl d hdm)
   refine ⟨_,rfl,?_⟩
   exists k
   refine cC (fun h=>?_) (fun h=>?_)
   ·exists rp18
    have:S0 cs x=true:=List.any_eq_true.mpr ⟨d,hdm,h⟩
    rw [this]
   ·exists rp18
    refine ⟨_,rfl,fun k hk hki=>?_⟩
    by_cases e:k=i
    ·subst e; rw [ed]; exact h
    ·exact hall k hk (by omega)
  ·rintro ρ ⟨a2,rfl,hall⟩
   exists rp18
   have:S0 cs x=false:=by
    unfold S0
    rw [List.any_eq_false]
    intro d hd
    obtain ⟨k,hk,e⟩:=List.mem_iff_getElem.mp hd
    have:=hall k hk (by rw [List.length_map]; exact hk)
    rw [e] at this
    rw [this]; decide
   rw [this]
 obtain ⟨v,e,rfl⟩:=fin
 exact e
theorem cx {c:Cap} {es:List GEnt} {i:Nat} {e:GEnt} (h:es[i]?=some e):L2.atI (h7 c es) ((i+1:Nat):Int)=some (gW e):=Q4 (k:=i+1) (by show (es.map gW)[i]?=_; rw [List.getElem?_map,h]; rfl)
theorem Q9 {c:Cap} {es:List GEnt} {a:Nat} (h:a≤es.length):∃ x y:W,L2.atI (h7 c es) (a:Int)=some (.tup [tC (sC c es a),x,y]):=by
 cases a with
 | zero=>exact ⟨.non,.non,Q4 (k:=0) rfl⟩
 | succ a=>
  have he:es[a]?=some es[a]:=List.getElem?_eq_getElem (by omega)
  rw [gX he]
  exact ⟨_,_,cx he⟩
theorem aQ {c:Cap} {es:List GEnt} {n:Nat} (hp:C3 es) (hl:es.length≤100) (hn:n≤es.length):n9 [.lst (h7 c es),.int (n:Int)]=.ok (lI ((i5 es n).map fun (k:Nat)=>(k:Int))):=by
 have fin:Ok (n9 [.lst (h7 c es),.int (n:Int)]) fun v=>v=lI ((i5 es n).map fun (k:Nat)=>(k:Int)):=by
  have hwl:=(E7 hp n hn).2
  exists rpB,bf
  refine u5 (dL ?_)
  refine ig (fun m ρ=>∃ (xs l':List Nat) (w:W) (a3:Sl),ρ = [.par (.lst (h7 c es)),.par (.int (n:Int)),.own ((xs.map fun (k:Nat)=>(k:Int)).map W.int),a3]∧(a3=.val w∨a3=.par w)∧xs++l'=i5 es n∧((w=.non∧l' = [])∨∃ (n':Nat),w=.int (n':Int)∧l'=i5 es n'∧n'<m∧n'≤es.length)) ?_ (n+1) _ ⟨[],i5 es n,.int (n:Int),.val (.int (n:Int)),rfl,.inl rfl,rfl,.inr ⟨n,rfl,rfl,Nat.lt_succ_self n,hn⟩⟩
  rintro m ρ ⟨xs,l',w,a3,rfl,ha,hx,hc⟩
  rcases hc with ⟨rfl,rfl⟩ | ⟨n',rfl,rfl,hm,hn'⟩
  ·refine ⟨false,?_,?_⟩
   ·rcases ha with rfl | rfl
    ·exists rp18
    ·exists rp18
   ·rw [if_neg Bool.false_ne_true]
    rw [List.append_nil] at hx
    subst hx
    exists rp18
  ·refine ⟨true,?_,?_⟩
   ·rcases ha with rfl | rfl
    ·exists rp18
    ·exists rp18
   ·rw [if_pos rfl]
    have hxl:xs.length≤(i5 es n).length:=by rw [← hx,List.length_append]; omega
    cases n' with
    | zero=>
     have r00:L2.atI (h7 c es) (((0:Nat)):Int)=some (g0 c):=Q4 (k:=0) rfl
     have r01:L2.atI (h7 c es) 0=some (g0 c):=r00
     have b1:L2.atI [tC c,W.non,W.non] 1=some W.non:=rfl
     have hx2:(xs ++ [0]) ++ []=i5 es n:=by rw [← hx,List.append_nil]; rfl
     rcases ha with rfl | rfl
     ·exists r00,r01,b1
      exact ⟨0,by omega,xs ++ [0],[],.non,_,by simp only [List.map_append,List.map_cons,List.map_nil]; rfl,.inr rfl,hx2,.inl ⟨rfl,rfl⟩⟩
     ·exists r00,r01,b1
      exact ⟨0,by omega,xs ++ [0],[],.non,_,by simp only [List.map_append,List.map_cons,List.map_nil]; rfl,.inr rfl,hx2,.inl ⟨rfl,rfl⟩⟩
    | succ i=>
     have h:es[i]?=some es[i]:=List.getElem?_eq_getElem (by omega)
     generalize es[i]=e at h
     have r1:=cx (c:=c) h
     have b1:L2.atI [tC e.1,.int (e.2.1:Int),.int (e.2.2:Int)] 1=some (.int (e.2.1:Int)):=rfl
     have hpi:=hp i e h
     have hx2:(xs ++ [i+1])++i5 es e.2.1=i5 es n:=by rw [← hx,j9 hp h,List.append_assoc]; rfl
     rcases ha with rfl | rfl
     ·exists r1,b1
      exact ⟨i+1,by omega,xs ++ [i+1],i5 es e.2.1,.int (e.2.1:Int),_,by simp only [List.map_append,List.map_cons,List.map_nil],.inr rfl,hx2,.inr ⟨e.2.1,rfl,rfl,by omega,by omega⟩⟩
     ·exists r1,b1
      exact ⟨i+1,by omega,xs ++ [i+1],i5 es e.2.1,.int (e.2.1:Int),_,by simp only [List.map_append,List.map_cons,List.map_nil],.inr rfl,hx2,.inr ⟨e.2.1,rfl,rfl,by omega,by omega⟩⟩
 obtain ⟨v,e,rfl⟩:=fin
 exact e
noncomputable def upC (c:Cap) (es:List GEnt) (l:List Nat) (x:Cap):Cap:=l.foldl (fun y q=>j0 y (sC c es q)) x
noncomputable def o6 (c:Cap) (ms:List Mv) (es:List GEnt) (a k:Nat):Cap:=upC c es (i5 es a) (o7 (sC c es a) (mvN ms k))
theorem au (c:Cap) (es:List GEnt):∀ (l:List Nat) (x:Cap),(upC c es l x).length=x.length
 | [],_=>rfl
 | q::l,x=>by
  show (upC c es l (j0 x (sC c es q))).length=_
  rw [au c es l,N3]
theorem Z8 (c:Cap) (ms:List Mv) (es:List GEnt) (a k:Nat):(o6 c ms es a k).length=(sC c es a).length:=by unfold o6; rw [au,K3]
theorem gx {c:Cap} {es:List GEnt} {e:GEnt}:∀ (l:List Nat) (x:Cap),(∀ q∈l,q≤es.length)→upC c (es ++ [e]) l x=upC c es l x
 | [],_,_=>rfl
 | q::l,x,h=>by
  show upC c (es ++ [e]) l (j0 x (sC c (es ++ [e]) q))=upC c es l (j0 x (sC c es q))
  rw [eM (h q List.mem_cons_self),gx l _ fun q' hq'=>h q' (List.mem_cons_of_mem _ hq')]
theorem lK {c:Cap} {ms:List Mv} {es:List GEnt} {e:GEnt} {a k:Nat} (hp:C3 es) (hx:e.2.1≤es.length) (ha:a≤es.length):o6 c ms (es ++ [e]) a k=o6 c ms es a k:=by
 unfold o6
 rw [mj hp hx a ha,eM ha,gx]
 intro q hq
 have:=(E7 hp a ha).1 q hq
 omega
noncomputable def K4 (c:Cap) (ms:List Mv) (es:List GEnt) (a k:Nat):List GEnt:=if (N9 (sC c es a) (mvN ms k)&&!S0 (stC c es) (o6 c ms es a k))=true then es ++ [(o6 c ms es a k,a,k)] else es
noncomputable def bB (c:Cap):Option GEnt→Cap
 | none=>c
 | some e=>e.1
noncomputable def Y9 (c:Cap):Option GEnt→W
 | none=>g0 c
 | some e=>gW e
theorem eN (c:Cap) (es:List GEnt):h7 c es=(none::es.map some).map (Y9 c):=by rw [List.map_cons,List.map_map]; rfl
theorem so (c:Cap) (es:List GEnt):(none::es.map some).map (bB c)=stC c es:=by rw [List.map_cons,List.map_map]; rfl
theorem ll (c:Cap) (es:List GEnt):l9 (h7 c es)=true:=by
 rw [eN]
 refine X4 (Y9 c) (fun o=>?_) _
 cases o with
 | none=>show (l9 (c.map oW)&&(true&&(true&&true)))=true; rw [y9]; rfl
 | some e=>show (l9 (e.1.map oW)&&(true&&(true&&true)))=true; rw [y9]; rfl
theorem E5 {c:Cap} {es:List GEnt} (hl:∀ e∈es,e.1.length=c.length) {a:Nat} (ha:a≤es.length):(sC c es a).length=c.length:=by
 have:=bT (c:=c) ha
 unfold stC at this
 rcases List.mem_cons.mp this with e | e
 ·rw [e]
 ·obtain ⟨z,hz,ez⟩:=List.mem_map.mp e
  rw [← ez]; exact hl z hz
theorem vH {b:List Int} {ms:List Mv} {es:List GEnt} {a k:Nat} (h6:b.length≤6) (hm:∀ m∈ms,okN b.length m) (hp:C3 es) (hl:∀ e∈es,e.1.length=b.length) (h100:es.length≤90) (ha:a≤es.length) (hk:k<ms.length):aK (.tup [tI b,tM_ ms]) (h7 (b.map some) es) [.int (a:Int),.int (k:Int)]=.ok (h7 (b.map some) (K4 (b.map some) ms es a k)):=by
 obtain ⟨c,hc⟩:∃ c:Cap,c=b.map some:=⟨_,rfl⟩
 have hcl:c.length=b.length:=by rw [hc,List.length_map]
 rw [← hc]
 refine ng fun p=>?_
 have hl':∀ e∈es,e.1.length=c.length:=fun e he=>by rw [hcl]; exact hl e he
 have hsl:=E5 hl' ha
 have hmk:okN (sC c es a).length (mvN ms k):=by rw [hsl,hcl]; exact getM hm hk
 have a1:L2.atI [tI b,tM_ ms] 1=some (tM_ ms):=rfl
 have ej:L2.atI (ms.map mW) (k:Int)=some (mW (mvN ms k)):=by
  have:=atM (ms:=ms) (r:=(k:Int)) (by omega) (by omega)
  rw [Int.toNat_natCast] at this
  exact this
 obtain ⟨x,y,er⟩:=Q9 (c:=c) (es:=es) ha
 have b0:L2.atI [tC (sC c es a),x,y] 0=some (tC (sC c es a)):=rfl
 have k1:=eB (c:=sC c es a) hmk
 have hnl:=ll c es
 unfold Y8
 rw [if_pos ⟨rfl,hnl⟩]
 obtain ⟨rw_,hrw⟩:∃ rw_,rw_=h7 c es:=⟨_,rfl⟩
 rw [← hrw] at er
 cases hab:N9 (sC c es a) (mvN ms k) with
 | false=>
  rw [hab] at k1
  have e:P7 p [.par (.tup [tI b,tM_ ms]),.iop p rw_,.par (.int (a:Int)),.par (.int (k:Int)),.un,.un,.un]=.ok (.bk [.par (.tup [tI b,tM_ ms]),.iop p rw_,.par (.int (a:Int)),.par (.int (k:Int)),.par (mW (mvN ms k)),.un,.un]):=by
   exists rpB,P7,a1,ej,er,b0,k1
  rw [hrw] at e
  show (match P7 p [.par (.tup [tI b,tM_ ms]),.iop p (h7 c es),.par (.int (a:Int)),.par (.int (k:Int)),.un,.un,.un] with | .ok (.nx ρ)=>ioR p ρ | .ok (.bk ρ)=>ioR p ρ | _=>.stuck)=_
  rw [e]
  show (if p=p then R.ok (h7 c es) else .stuck)=_
  rw [if_pos rfl]
  unfold K4
  rw [hab]; rfl
 | true=>
  rw [hab] at k1
  have h6':(sC c es a).length≤6:=by omega
  have k2:=cM h6' hmk hab
  have kw:=aQ (c:=c) hp (by omega) ha
  have hwl:=E7 hp a ha
  have hal:(o7 (sC c es a) (mvN ms k)).length=c.length:=by rw [K3,hsl]
  have kU:=cI (cs:=stC c es) (x:=o6 c ms es a k) (fun d hd=>by
   rw [Z8,hsl]
   unfold stC at hd
   rcases List.mem_cons.mp hd with q | q
   ·rw [q]
   ·obtain ⟨z,hz,ez⟩:=List.mem_map.mp q
    rw [← ez]; exact hl' z hz)
  have ekn:∀ N mg me ρ (h:∀ o∈(none::es.map some:List (Option GEnt)),∃ ρ1,mg (Y9 c o) (ρ++List.replicate (N-ρ.length) Sl.un)=some ρ1∧me ρ1=.ok (tC (bB c o))),m5 N mg yes me rw_ ρ=.ok (.lst ((stC c es).map tC)):=fun N mg me ρ h=>by
   rw [hrw,eN,l4 (fun o=>tC (bB c o)) _ _ ρ (by simp; omega) h]
   rw [← so]
   refine congrArg (fun l=>R.ok (W.lst l)) ?_
   rw [List.map_map]; rfl
  have hrl:rw_.length=es.length+1:=by rw [hrw]; simp
  have hsel:∀ q,q≤es.length→∃ x y:W,L2.atI rw_ (q:Int)=some (.tup [tC (sC c es q),x,y]):=fun q hq=>by rw [hrw]; exact Q9 hq
  rw [← hrw] at kw
  have po:Po (P7 p [.par (.tup [tI b,tM_ ms]),.iop p rw_,.par (.int (a:Int)),.par (.int (k:Int)),.un,.un,.un]) (fun ρ=>ρ[1]?=some (.iop p (h7 c (K4 c ms es a k)))) (fun _=>False):=by
   exists rpB,P7,a1,ej,er,b0,k1,k2,kw
   refine T6 (fun ρ=>∃ a6,ρ = [.par (.tup [tI b,tM_ ms]),.iop p rw_,.par (.int (a:Int)),.par (.int (k:Int)),.par (mW (mvN ms k)),.val (tC (o6 c ms es a k)),a6]) (BO ?_) ?_
   ·refine X2 (fun i ρ=>∃ a6,ρ = [.par (.tup [tI b,tM_ ms]),.iop p rw_,.par (.int (a:Int)),.par (.int (k:Int)),.par (mW (mvN ms k)),.val (tC (upC c es ((i5 es a).take i) (o7 (sC c es a) (mvN ms k)))),a6]) ⟨_,rfl⟩ ?_ ?_
    ·rintro i u ρ hu ⟨a6,rfl⟩
     rw [List.map_map,List.getElem?_map] at hu
     obtain ⟨q,hq,rfl⟩:=Option.map_eq_some_iff.mp hu
     have hqn:=hwl.1 q (List.mem_of_getElem? hq)
     obtain ⟨x2,y2,er2⟩:=hsel q (by omega)
     have b2:L2.atI [tC (sC c es q),x2,y2] 0=some (tC (sC c es q)):=rfl
     have kr:=fJ (cs:=upC c es ((i5 es a).take i) (o7 (sC c es a) (mvN ms k))) (es:=sC c es q) (by rw [au,hal]; exact E5 hl' (by omega)) (by rw [au,hal]; omega)
     have hst:j0 (upC c es ((i5 es a).take i) (o7 (sC c es a) (mvN ms k))) (sC c es q)=upC c es ((i5 es a).take (i+1)) (o7 (sC c es a) (mvN ms k)):=by
      rw [List.take_add_one,hq]
      unfold upC
      rw [List.foldl_append]; rfl
     rw [hst] at kr
     refine ⟨_,rfl,?_⟩
     have hcq:(W.int∘fun (k:Nat)=>(k:Int)) q=.int (q:Int):=rfl
     exists hcq,er2,b2,kr
     exact ⟨_,rfl⟩
    ·rintro ρ ⟨a6,rfl⟩
     rw [List.length_map,List.length_map,List.take_length]
     exact ⟨_,rfl⟩
   ·rintro ρ ⟨a6,rfl⟩
    exists rp18
    rw [ekn]
    rotate_left
    ·intro o ho
     refine ⟨_,rfl,?_⟩
     cases o with
     | none=>
      have b0:L2.atI [tC c,W.non,W.non] 0=some (tC c):=rfl
      have b1:Y9 c none=.tup [tC c,.non,.non]:=rfl
      have b2:bB c none=c:=rfl
      exists b1,b0,b2,M4 (show noL (tC c)=true from y9 c)
     | some e=>
      have b0:L2.atI [tC e.1,.int (e.2.1:Int),.int (e.2.2:Int)] 0=some (tC e.1):=rfl
      have b1:Y9 c (some e)=.tup [tC e.1,.int (e.2.1:Int),.int (e.2.2:Int)]:=rfl
      have b2:bB c (some e)=e.1:=rfl
      exists b1,b0,b2,M4 (show noL (tC e.1)=true from y9 e.1)
    exists kU
    cases hU:S0 (stC c es) (o6 c ms es a k) with
    | true=>
     exists rp18
     unfold K4
     rw [hab,hU,hrw]
     rfl
    | false=>
     exists rp18
     rw [qH (ws:=rw_) (w:=gW (o6 c ms es a k,a,k)) rfl ?_ (by omega)]
     ·show ((List.map clI _).set 1 _)[1]?=_
      rw [List.getElem?_set_self (by simp)]
      unfold K4
      rw [hab,hU,hrw]
      show some (Sl.iop p (g0 c::es.map gW ++ [_]))=some (Sl.iop p (g0 c::(es ++ [_]).map gW))
      rw [List.map_append]; rfl
     ·exists rp18
  rw [hrw] at po
  show (match P7 p [.par (.tup [tI b,tM_ ms]),.iop p (h7 c es),.par (.int (a:Int)),.par (.int (k:Int)),.un,.un,.un] with | .ok (.nx ρ)=>ioR p ρ | .ok (.bk ρ)=>ioR p ρ | _=>.stuck)=_
  revert po
  cases P7 p [.par (.tup [tI b,tM_ ms]),.iop p (h7 c es),.par (.int (a:Int)),.par (.int (k:Int)),.un,.un,.un] with
  | stuck=>exact fun h=>h.elim
  | ex e=>exact fun h=>h.elim
  | ok f=>
   cases f with
   | nx ρ=>
    intro h
    have h:ρ[1]?=some (.iop p (h7 c (K4 c ms es a k))):=h
    show ioR p ρ=_
    unfold ioR
    rw [h]
    exact if_pos rfl
   | rt w=>exact fun h=>h.elim
   | bk ρ=>exact fun h=>h.elim
   | ct ρ=>exact fun h=>h.elim
structure GK (c:Cap) (ms:List Mv) (es:List GEnt) (A kk:Nat):Prop where
 len:∀ e∈es,e.1.length=c.length
 k8:∀ e∈es,e.2.2<ms.length
 lt:∀ e∈es,e.2.1<A∨(e.2.1=A∧e.2.2<kk)
 inc:es.Pairwise fun x y=>cdG x<cdG y
 par:C3 es
 beh:∀ (i:Nat) (e:GEnt),es[i]?=some e→N9 (sC c es e.2.1) (mvN ms e.2.2)=true∧e.1=o6 c ms es e.2.1 e.2.2∧∀ j,j≤i→i8 e.1 (sC c es j)=false
 set:∀ a k,(a<A∨(a=A∧k<kk))→k<ms.length→N9 (sC c es a) (mvN ms k)=true→(∃ e∈es,e.2=(a,k))∨∃ j,j≤es.length∧(∀ (i:Nat) (e:GEnt),j=i+1→es[i]?=some e→cdG e<a*8+k)∧i8 (o6 c ms es a k) (sC c es j)=true
theorem GK.start (c:Cap) (ms:List Mv):GK c ms [] 0 0 where
 len:=by simp
 k8:=by simp
 lt:=by simp
 inc:=List.Pairwise.nil
 par:=fun i e h=>by simp at h
 beh:=fun i e h=>by simp at h
 set:=fun a k h=>by omega
section
variable {c:Cap} {ms:List Mv} {es:List GEnt} {A kk:Nat}
theorem GK.below (h:GK c ms es A kk) (h8:ms.length≤8):∀ e∈es,cdG e<A*8+kk:=fun e he=>by
 have:=h.k8 e he
 unfold cdG
 rcases h.lt e he with q | ⟨q,q'⟩
 ·omega
 ·omega
theorem GK.stay (h:GK c ms es A kk) (h8:ms.length≤8) (hno:N9 (sC c es A) (mvN ms kk)=true→S0 (stC c es) (o6 c ms es A kk)=true):GK c ms es A (kk+1) where
 len:=h.len
 k8:=h.k8
 lt:=fun e he=>by
  rcases h.lt e he with q | ⟨q,q'⟩
  ·exact .inl q
  ·exact .inr ⟨q,by omega⟩
 inc:=h.inc
 par:=h.par
 beh:=h.beh
 set:=fun a k hj hk hab=>by
  by_cases e:a=A∧k=kk
  ·obtain ⟨rfl,rfl⟩:=e
   obtain ⟨d,hd,hu⟩:=List.any_eq_true.mp (hno hab)
   obtain ⟨j,hj,ej⟩:=List.mem_iff_getElem.mp hd
   rw [V7] at hj
   refine .inr ⟨j,by omega,fun i e _ he=>h.below h8 e (List.mem_of_getElem? he),?_⟩
   have:sC c es j=d:=by unfold sC; rw [List.getD_eq_getElem?_getD,List.getElem?_eq_getElem (by rw [V7]; exact hj),ej]; rfl
   rw [this]; exact hu
  ·exact h.set a k (by omega) hk hab
theorem GK.snoc (h:GK c ms es A kk) (h8:ms.length≤8) (hA:A≤es.length) (hk:kk<ms.length) (hab:N9 (sC c es A) (mvN ms kk)=true) (hno:S0 (stC c es) (o6 c ms es A kk)=false):GK c ms (es ++ [(o6 c ms es A kk,A,kk)]) A (kk+1):=by
 have hS:∀ a,a≤es.length→sC c (es ++ [(o6 c ms es A kk,A,kk)]) a=sC c es a:=fun a ha=>eM ha
 have hC:∀ a k,a≤es.length→o6 c ms (es ++ [(o6 c ms es A kk,A,kk)]) a k=o6 c ms es a k:=fun a k ha=>lK h.par hA ha
 have hpar:∀ (i:Nat) (e:GEnt),es[i]?=some e→e.2.1≤es.length:=fun i e he=>by
  have:=h.par i e he
  have:=(List.getElem?_eq_some_iff.mp he).1
  omega
 have cases_:∀ (i:Nat) (e:GEnt),(es ++ [(o6 c ms es A kk,A,kk)])[i]?=some e→(es[i]?=some e∧i<es.length)∨(i=es.length∧e=(o6 c ms es A kk,A,kk)):=fun i e he=>by
  by_cases hi:i<es.length
  ·rw [List.getElem?_append_left hi] at he; exact .inl ⟨he,hi⟩
  ·have hi':=(List.getElem?_eq_some_iff.mp he).1
   rw [List.length_append,List.length_singleton] at hi'
   have:i=es.length:=by omega
   subst this
   rw [List.getElem?_append_right (Nat.le_refl _),Nat.sub_self] at he
   cases he; exact .inr ⟨rfl,rfl⟩
 refine ⟨fun e he=>?_,fun e he=>?_,fun e he=>?_,?_,fun i e he=>?_,fun i e he=>?_,fun a k hj hkm hab'=>?_⟩
 ·rcases List.mem_append.mp he with q | q
  ·exact h.len e q
  ·rw [List.mem_singleton.mp q]
   show (o6 c ms es A kk).length=_
   rw [Z8]; exact E5 h.len hA
 ·rcases List.mem_append.mp he with q | q
  ·exact h.k8 e q
  ·rw [List.mem_singleton.mp q]; exact hk
 ·rcases List.mem_append.mp he with q | q
  ·rcases h.lt e q with q1 | ⟨q1,q2⟩
   ·exact .inl q1
   ·exact .inr ⟨q1,by omega⟩
  ·rw [List.mem_singleton.mp q]; exact .inr ⟨rfl,Nat.lt_succ_self kk⟩
 ·refine List.pairwise_append.mpr ⟨h.inc,List.pairwise_singleton _ _,fun x hx y hy=>?_⟩
  rw [List.mem_singleton.mp hy]
  exact h.below h8 x hx
 ·rcases cases_ i e he with ⟨q,_⟩ | ⟨rfl,rfl⟩
  ·exact h.par i e q
  ·exact hA
 ·rcases cases_ i e he with ⟨q,hi⟩ | ⟨rfl,rfl⟩
  ·obtain ⟨p1,p2,p3⟩:=h.beh i e q
   have hp:=hpar i e q
   rw [hS _ hp,hC _ _ hp]
   exact ⟨p1,p2,fun j hj=>by rw [hS j (by omega)]; exact p3 j hj⟩
  ·refine ⟨by rw [hS _ hA]; exact hab,by rw [hC _ _ hA],fun j hj=>?_⟩
   rw [hS j hj]
   unfold S0 at hno
   rw [List.any_eq_false] at hno
   have:=hno _ (bT hj)
   simpa using this
 ·have ha:a≤es.length:=by omega
  rw [hS a ha] at hab'
  rw [hC a k ha]
  by_cases e:a=A∧k=kk
  ·obtain ⟨rfl,rfl⟩:=e
   exact .inl ⟨_,List.mem_append_right _ (List.mem_singleton_self _),rfl⟩
  ·rcases h.set a k (by omega) hkm hab' with ⟨e,he,q⟩ | ⟨j,hj,h1,h2⟩
   ·exact .inl ⟨e,List.mem_append_left _ he,q⟩
   ·refine .inr ⟨j,by rw [List.length_append,List.length_singleton]; omega,fun i e hji he=>?_,by rw [hS j hj]; exact h2⟩
    rcases cases_ i e he with ⟨q,_⟩ | ⟨rfl,_⟩
    ·exact h1 i e hji q
    ·omega
theorem GK.step (h:GK c ms es A kk) (h8:ms.length≤8) (hA:A≤es.length) (hk:kk<ms.length):GK c ms (K4 c ms es A kk) A (kk+1):=by
 unfold K4
 cases hab:N9 (sC c es A) (mvN ms kk) with
 | false=>
  rw [if_neg (by simp)]
  exact h.stay h8 fun q=>by rw [hab] at q; cases q
 | true=>
  cases hU:S0 (stC c es) (o6 c ms es A kk) with
  | true=>
   rw [if_neg (by simp)]
   exact h.stay h8 fun _=>hU
  | false=>
   rw [if_pos (by simp)]
   exact h.snoc h8 hA hk hab hU
theorem GK.next (h:GK c ms es A ms.length):GK c ms es (A+1) 0 where
 len:=h.len
 k8:=h.k8
 lt:=fun e he=>by
  have:=h.k8 e he
  rcases h.lt e he with q | ⟨q,q'⟩
  ·exact .inl (by omega)
  ·exact .inl (by omega)
 inc:=h.inc
 par:=h.par
 beh:=h.beh
 set:=fun a k hj hk hab=>h.set a k (by omega) hk hab
theorem mI (c:Cap) (ms:List Mv) (es:List GEnt) (a k:Nat):es.length≤(K4 c ms es a k).length∧(K4 c ms es a k).length≤es.length+1:=by
 unfold K4
 split
 ·rw [List.length_append,List.length_singleton]; omega
 ·omega
end
theorem lA {b:List Int} {ms:List Mv} {most:Nat} (h6:b.length≤6) (hm:∀ m∈ms,okN b.length m) (h8:ms.length≤8) (h1:1≤most) (h30:most≤30):Ok (B2 [.tup [tI b,tM_ ms],.int (most:Int)]) fun w=>(w=.non∧∃ es A,GK (b.map some) ms es A 0∧most<es.length+1)∨∃ es,w=.lst (h7 (b.map some) es)∧es.length+1≤most∧GK (b.map some) ms es (es.length+1) 0:=by
 have hcl:(b.map some).length=b.length:=List.length_map ..
 have a0:L2.atI [tI b,tM_ ms] 0=some (tI b):=rfl
 have a1:L2.atI [tI b,tM_ ms] 1=some (tM_ ms):=rfl
 have gr:∀ (es:List GEnt) (A k:Nat),GK (b.map some) ms es A k→A≤es.length→k<ms.length→es.length≤90→aK (.tup [tI b,tM_ ms]) (h7 (b.map some) es) [.int (A:Int),.int (k:Int)]=.ok (h7 (b.map some) (K4 (b.map some) ms es A k)):=fun es A k hK hA hk hl=>vH h6 hm hK.par (fun e he=>by rw [← hcl]; exact hK.len e he) hl hA hk
 have hb0:(.lst [.tup [tI b,.non,.non]]:W)=.lst (h7 (b.map some) []):=by rw [sj]; rfl
 generalize hc:b.map some=c at *
 exists rpB,dj,a0,M4 (iw b)
 refine u5 (dL ?_)
 refine ig (fun m ρ=>∃ (es:List GEnt) (at_:Nat) (a4:Sl),ρ = [.par (.tup [tI b,tM_ ms]),.par (.int (most:Int)),.own (h7 c es),.val (.int (at_:Int)),a4]∧GK c ms es at_ 0∧at_≤es.length+1∧es.length+1≤most∧m+at_=102) ?_ 102 _ ⟨[],0,_,by rw [show h7 c [] = [.tup [tI b,.non,.non]] from by injection hb0 with h; exact h.symm]; rfl,GK.start c ms,by simp,by simpa using h1,rfl⟩
 rintro m ρ ⟨es,at_,a4,rfl,hK,hat,hmost,hmm⟩
 have hrl:(h7 c es).length=es.length+1:=by simp
 by_cases hlt:at_<es.length+1
 ·refine ⟨true,?_,?_⟩
  ·have d1:decide ((at_:Int)<((es.length+1:Nat):Int))=true:=decide_eq_true (by omega)
   exists hrl,d1
  ·rw [if_pos rfl]
   exists a1
   refine T6 (fun ρ=>∃ (es:List GEnt) (a4:Sl),ρ = [.par (.tup [tI b,tM_ ms]),.par (.int (most:Int)),.own (h7 c es),.val (.int (at_:Int)),a4]∧GK c ms es at_ ms.length∧at_≤es.length∧es.length≤60) ?_ ?_
   ·refine X2 (fun i ρ=>∃ (es:List GEnt) (a4:Sl),ρ = [.par (.tup [tI b,tM_ ms]),.par (.int (most:Int)),.own (h7 c es),.val (.int (at_:Int)),a4]∧GK c ms es at_ i∧at_≤es.length∧es.length≤30+i) ⟨es,_,rfl,hK,by omega,by omega⟩ ?_ ?_
    ·rintro i u ρ hu ⟨es,a4,rfl,hK,hA,hl⟩
     obtain ⟨hi,rfl⟩:=W9 hu
     have kg:=gr es at_ i hK hA hi (by omega)
     have hsl:=mI c ms es at_ i
     refine ⟨_,rfl,?_⟩
     obtain ⟨rw_,hrw⟩:∃ rw_,rw_=h7 c es:=⟨_,rfl⟩
     rw [← hrw] at kg ⊢
     exists kg
     exact ⟨K4 c ms es at_ i,_,rfl,hK.step h8 hA hi,by omega,by omega⟩
    ·rintro ρ ⟨es,a4,rfl,hK,hA,hl⟩
     simp only [List.length_map,List.length_range] at hK hl
     exact ⟨es,_,rfl,hK,hA,by omega⟩
   ·rintro ρ ⟨es,a4,rfl,hK,hA,hl⟩
    have hrl:(h7 c es).length=es.length+1:=by simp
    exists hrl
    refine aE (fun h=>?_) (fun h=>?_)
    ·have h:=of_decide_eq_true h
     exists rp18
     exact .inl ⟨es,at_+1,hK.next,by omega⟩
    ·have h:=of_decide_eq_false h
     exists rp18
     exact ⟨101-at_,by omega,es,at_+1,_,by rw [show ((at_+1:Nat):Int)=(at_:Int)+1 by omega],hK.next,by omega,by omega,by omega⟩
 ·refine ⟨false,?_,?_⟩
  ·have d1:decide ((at_:Int)<((es.length+1:Nat):Int))=false:=decide_eq_false (by omega)
   exists hrl,d1
  ·rw [if_neg Bool.false_ne_true]
   exists rp18
   have:at_=es.length+1:=by omega
   subst this
   exact .inr ⟨es,rfl,hmost,hK⟩
theorem oa {b:List Int} {ms:List Mv} {most:Nat} (h6:b.length≤6) (hm:∀ m∈ms,okN b.length m) (h8:ms.length≤8) (h1:1≤most) (h30:most≤30):Ok (B2 [.tup [tI b,tM_ ms],.int (most:Int)]) fun w=>w=.non∨∃ es,w=.lst (h7 (b.map some) es)∧es.length+1≤most∧GK (b.map some) ms es (es.length+1) 0:=by
 obtain ⟨w,e,h⟩:=lA h6 hm h8 h1 h30
 refine ⟨w,e,?_⟩
 rcases h with ⟨h,_⟩ | h
 ·exact .inl h
 ·exact .inr h
theorem Y2 {ns:List Int} {k:Int}:Ok (j8 [.scr (ns.map W.int),.int k]) fun w=>∃ z:Int,w=.int z:=by
 by_cases hl:0<(ns.length:Int)
 ·have m0:0≤k%(ns.length:Int):=Int.emod_nonneg _ (by omega)
  have m1:k%(ns.length:Int)<(ns.length:Int):=Int.emod_lt_of_pos _ hl
  exists rpB,L4,decide_eq_true hl
  exact ⟨_,rfl,_,rfl⟩
 ·exists rpB,L4,decide_eq_false hl
  exact ⟨_,rfl,_,rfl⟩
theorem sqk {k:Int} (h0:0≤k) (h1:k≤1000):0≤k*k∧k*k≤1000000:=⟨Int.mul_nonneg h0 h0,by
 have:=Int.mul_le_mul h1 h1 h0 (by omega:(0:Int)≤1000)
 omega⟩
theorem O5 {ns:List Int} {k m:Int} (h0:0≤k) (h1:k≤1000) (hm:0<m):Ok (l6 [.scr (ns.map W.int),.int k,.int m]) fun w=>∃ z:Int,w=.int z∧0≤z∧z<m:=by
 obtain ⟨_,e1,c,rfl⟩:=Y2 (ns:=ns) (k:=k)
 have:=sqk h0 h1
 exists rpB,al,e1
 exact ⟨_,rfl,_,rfl,Int.emod_nonneg _ (by omega),Int.emod_lt_of_pos _ hm⟩
theorem jK {xs:List Int} {z:Int} (h:nn xs) (hz:0≤z):nn (xs ++ [z]):=fun x hx=>by
 rcases List.mem_append.mp hx with q | q
 ·exact h x q
 ·rw [List.mem_singleton.mp q]; exact hz
noncomputable def ub (xs:List Int):Prop:=∀ x∈xs,x≤10000000000
theorem jp {xs:List Int} {z:Int} (h:ub xs) (hz:z≤10000000000):ub (xs ++ [z]):=fun x hx=>by
 rcases List.mem_append.mp hx with q | q
 ·exact h x q
 ·rw [List.mem_singleton.mp q]; exact hz
theorem bb {ns mn:List Int} {a s:Int} {n:Nat} (hn:n≤6) (ha:0≤a) (ha1:a≤300) (hs0:0≤s) (hs1:s≤1000000000) (hml:0<mn.length) (hmn:nn mn) (hm3:∀ x∈mn,x≤3):Ok (n8 [.scr (ns.map W.int),.int a,.int (n:Int),lI mn,.int s]) fun w=>∃ xs:List Int,w=tI xs∧xs.length=n∧nn xs∧ub xs:=by
 exists rpB,R3
 refine u5 (x6 (fun i ρ=>∃ (xs:List Int) (a6 a7:Sl),ρ = [.par (.scr (ns.map W.int)),.par (.int a),.par (.int (n:Int)),.par (lI mn),.par (.int s),.own (xs.map W.int),a6,a7]∧xs.length=i∧nn xs∧ub xs) ⟨[],_,_,rfl,rfl,(fun x hx=>by cases hx),fun x hx=>by cases hx⟩ ?_ ?_)
 ·rintro i u ρ hu ⟨xs,a6,a7,rfl,hxl,hxn,hxu⟩
  obtain ⟨hi,rfl⟩:=W9 hu
  obtain ⟨_,e1,d,rfl,hd0,hd1⟩:=O5 (ns:=ns) (k:=a+(i:Int)) (m:=(mn.length:Int)) (by omega) (by omega) (by omega)
  obtain ⟨_,e2,c,rfl⟩:=Y2 (ns:=ns) (k:=a+(i:Int))
  have hh:0≤mn.getD d.toNat 0:=mem_getD hmn (by omega)
  have hh3:mn.getD d.toNat 0≤3:=mem_getD (P:=fun x=>x≤3) hm3 (by omega)
  refine ⟨_,rfl,?_⟩
  exists e1
  generalize mn.getD d.toNat 0=held at hh hh3
  refine aE (fun h=>?_) (fun h=>?_)
  ·exists rp18
   rw [e2]
   exists rp18
   exact ⟨xs ++ [(c+(i:Int))*48271%1000000001],_,_,by rw [List.map_append],by simp [hxl],jK hxn (by omega),jp hxu (by omega)⟩
  ·exists rp18
   have:=Int.mul_le_mul hh3 hs1 hs0 (by omega:(0:Int)≤3)
   exact ⟨xs ++ [held*s],_,_,by rw [List.map_append],by simp [hxl],jK hxn (Int.mul_nonneg hh hs0),jp hxu (by omega)⟩
 ·rintro ρ ⟨xs,a6,a7,rfl,hxl,hxn,hxu⟩
  rw [List.length_map,List.length_range] at hxl
  exists rp18
  exact ⟨xs,rfl,hxl,hxn,hxu⟩
theorem pF {ns:List Int}:Ok (K2 [.scr (ns.map W.int)]) fun w=>∃ z:Int,w=.int z∧0≤z∧z≤1000000000:=by
 obtain ⟨_,e1,d,rfl,hd0,hd1⟩:=O5 (ns:=ns) (k:=2) (m:=8) (by omega) (by omega) (by omega)
 obtain ⟨_,e2,c,rfl⟩:=Y2 (ns:=ns) (k:=2)
 exists rpB,X7,e1
 refine u5 (aE (fun h=>?_) (fun h=>?_))
 ·exists rp18
  exact ⟨_,rfl,by omega,by omega⟩
 exists rp18
 refine aE (fun h=>?_) (fun h=>?_)
 ·exists e2
  exact ⟨_,rfl,by omega,by omega⟩
 ·exists rp18
  exact ⟨_,rfl,by omega,by omega⟩
theorem jM {l:List Int} {lo hi:Nat} (hl:∀ x∈l,(lo:Int)≤x∧x≤(hi:Int)) {d:Int} (h0:0≤d) (h:d<l.length):∃ p:Nat,L2.atI (l.map W.int) d=some (.int (p:Int))∧lo≤p∧p≤hi:=by
 obtain ⟨a,b⟩:=mem_getD (P:=fun x=>(lo:Int)≤x∧x≤(hi:Int)) hl (i:=d.toNat) (by omega)
 exact ⟨(l.getD d.toNat 0).toNat,by rw [atW h0 h,Int.toNat_of_nonneg (by omega)],by omega,by omega⟩
theorem pl8 {d:Int} (h0:0≤d) (h:d<8):∃ p:Nat,L2.atI [W.int 2,W.int 3,W.int 1,W.int 5,W.int 3,W.int 4,W.int 2,W.int 6] d=some (.int (p:Int))∧(1≤p∧p≤6):=jM (l:=[2,3,1,5,3,4,2,6]) (by decide) h0 h
theorem mv11 {d:Int} (h0:0≤d) (h:d<11):∃ p:Nat,L2.atI [W.int 3,W.int 2,W.int 4,W.int 1,W.int 3,W.int 5,W.int 2,W.int 8,W.int 0,W.int 6,W.int 7] d=some (.int (p:Int))∧p≤8:=by
 obtain ⟨p,e,_,q⟩:=jM (l:=[3,2,4,1,3,5,2,8,0,6,7]) (lo:=0) (hi:=8) (by decide) h0 h
 exact ⟨p,e,q⟩
theorem fc {l:List Int} (h:l.all (fun x=>decide (0≤x))=true):nn l:=fun x hx=>of_decide_eq_true (List.all_eq_true.mp h x hx)
theorem yY {xs:List Int} {j:Nat} {z:Int} (h:nn xs) (hz:0≤z):nn (xs.set j z):=fun x hx=>by
 rcases List.mem_or_eq_of_mem_set hx with q | q
 ·exact h x q
 ·rw [q]; exact hz
theorem qX {ns:List Int}:Ok (M3 [.scr (ns.map W.int)]) fun w=>∃ (b:List Int) (ms:List Mv),w=.tup [tI b,tM_ ms]∧1≤b.length∧b.length≤6∧nn b∧(∀ m∈ms,okN b.length m)∧ms.length≤8∧∀ m∈ms,ub m.1∧ub m.2:=by
 obtain ⟨_,e0,d0,rfl,h00,h01⟩:=O5 (ns:=ns) (k:=0) (m:=8) (by decide) (by decide) (by decide)
 obtain ⟨_,e1,d1,rfl,h10,h11⟩:=O5 (ns:=ns) (k:=1) (m:=11) (by decide) (by decide) (by decide)
 obtain ⟨_,e9,d9,rfl,h90,h91⟩:=O5 (ns:=ns) (k:=49) (m:=8) (by decide) (by decide) (by decide)
 obtain ⟨_,ec,c,rfl⟩:=Y2 (ns:=ns) (k:=48)
 obtain ⟨_,es,sc,rfl,hs0,hs1⟩:=pF (ns:=ns)
 obtain ⟨p,hp,hp1,hp6⟩:=pl8 h00 h01
 obtain ⟨q,hq,hq8⟩:=mv11 h10 h11
 exists rpB,ai,e0,hp,es,e1,hq
 refine u5 (x6 (fun i ρ=>∃ (ms:List Mv) (a4 a5 a6 a7:Sl),ρ = [.par (.scr (ns.map W.int)),.val (.int (p:Int)),.val (.int sc),.own (ms.map mW),a4,a5,a6,a7,.un]∧(∀ m∈ms,okN p m)∧ms.length=i∧∀ m∈ms,ub m.1∧ub m.2) ⟨[],_,_,_,_,rfl,by simp,rfl,by simp⟩ ?_ ?_)
 ·rintro i u ρ hu ⟨ms,a4,a5,a6,a7,rfl,hms,hml,hmu⟩
  obtain ⟨hi,rfl⟩:=W9 hu
  have hpr:0≤(p:Int)*(2*(i:Int)+1)∧(p:Int)*(2*(i:Int)+1)≤6*17:=⟨Int.mul_nonneg (by omega) (by omega),Int.mul_le_mul (by omega) (by omega) (by omega) (by omega)⟩
  obtain ⟨_,e5,t,rfl,htl,htn,htu⟩:=bb (ns:=ns) (mn:=[0,1,0,2,1,0]) (a:=5+(p:Int)*(2*(i:Int)+1)) (s:=sc) hp6 (by omega) (by omega) hs0 hs1 (by decide) (fc (by decide)) (by decide)
  obtain ⟨_,e6,u,rfl,hul,hun,huu⟩:=bb (ns:=ns) (mn:=[1,0,0,1,2,0]) (a:=5+(p:Int)*(2*(i:Int)+1)+(p:Int)) (s:=sc) hp6 (by omega) (by omega) hs0 hs1 (by decide) (fc (by decide)) (by decide)
  have e5:n8 [.scr (ns.map W.int),.int (5+(p:Int)*(2*(i:Int)+1)),.int (p:Int),.lst [.int 0,.int 1,.int 0,.int 2,.int 1,.int 0],.int sc]=.ok (tI t):=e5
  have e6:n8 [.scr (ns.map W.int),.int (5+(p:Int)*(2*(i:Int)+1)+(p:Int)),.int (p:Int),.lst [.int 1,.int 0,.int 0,.int 1,.int 2,.int 0],.int sc]=.ok (tI u):=e6
  refine ⟨_,rfl,?_⟩
  exists e5,e6
  refine ⟨ms ++ [(t,u)],_,_,_,_,by rw [List.map_append]; rfl,fun m hm=>?_,by simp [hml],fun m hm=>?_⟩
  ·rcases List.mem_append.mp hm with q | q
   ·exact hms m q
   ·rw [List.mem_singleton.mp q]; exact ⟨htl,hul,htn,hun⟩
  ·rcases List.mem_append.mp hm with q | q
   ·exact hmu m q
   ·rw [List.mem_singleton.mp q]; exact ⟨htu,huu⟩
 ·rintro ρ ⟨ms,a4,a5,a6,a7,rfl,hms,hml,hmu⟩
  rw [List.length_map,List.length_range] at hml
  obtain ⟨_,e5,t,rfl,htl,htn,htu⟩:=bb (ns:=ns) (mn:=[1,0,2,1,3,0]) (a:=5) (s:=sc) hp6 (by omega) (by omega) hs0 hs1 (by decide) (fc (by decide)) (by decide)
  have e5:n8 [.scr (ns.map W.int),.int 5,.int (p:Int),.lst [.int 1,.int 0,.int 2,.int 1,.int 3,.int 0],.int sc]=.ok (tI t):=e5
  obtain ⟨_,e8,d8,rfl,h80,h81⟩:=O5 (ns:=ns) (k:=48) (m:=(p:Int)) (by omega) (by omega) (by omega)
  exists e5,e9
  refine T6 (fun ρ=>∃ (b:List Int),ρ = [.par (.scr (ns.map W.int)),.val (.int (p:Int)),.val (.int sc),.own (ms.map mW),a4,a5,a6,a7,.own (b.map W.int)]∧b.length=p∧nn b) ?_ ?_
  ·refine cC (fun h=>?_) (fun h=>?_)
   ·exists ec,e8
    exact ⟨t.set d8.toNat (c*982451653%1000000000000000000000000000000000000000000000000000000000000),rfl,by rw [List.length_set]; exact htl,yY htn (Int.emod_nonneg _ (by decide))⟩
   ·exists rp18
    exact ⟨t,rfl,htl,htn⟩
  rintro ρ ⟨b,rfl,hbl,hbn⟩
  exists aM (yW ms),M4 (iw b)
  exact ⟨b,ms,rfl,by omega,by omega,hbn,by rw [hbl]; exact hms,by omega,hmu⟩
theorem se {xs:List Int} (h:ub xs) (k:Nat):xs.getD k 0≤10000000000:=by
 by_cases hk:k<xs.length
 ·exact mem_getD (P:=fun x=>x≤10000000000) h hk
 ·rw [List.getD_eq_getElem?_getD]; simp [hk]
theorem xr (n:Nat) (cs:Cap):shp (n+1) (lC cs)=true:=aU oW n (fun o=>by cases o with | none=>exact jv n | some i=>exact Q8 n i) cs
noncomputable def kO:Option Int→List Int
 | none=>[1,0]
 | some n=>[0,n]
noncomputable def n6 (c:Cap):List (List Int):=c.map kO
theorem zm {x y:Option Int} (h:kO x=kO y):x=y:=by
 cases x with
 | none=>
  cases y with
  | none=>rfl
  | some m=>simp [kO] at h
 | some n=>
  cases y with
  | none=>simp [kO] at h
  | some m=>simp [kO] at h; rw [h]
theorem dq:∀ {a b:Cap},n6 a=n6 b→a=b
 | [],[],_=>rfl
 | [],_::_,h=>by simp [n6] at h
 | _::_,[],h=>by simp [n6] at h
 | x::a,y::b,h=>by
  have h:kO x::n6 a=kO y::n6 b:=h
  injection h with h1 h2
  rw [zm h1,dq h2]
theorem fD (x y:Option Int) (a b:Cap):i8 (x::a) (y::b)=(B6 x y&&i8 a b):=by
 unfold i8
 rw [List.length_cons,List.range_succ_eq_map,List.all_cons,List.all_map]
 rfl
theorem oU {x y:Option Int} (h:B6 x y=true) (hn:kO y≠kO x):lexLt (kO y) (kO x)=false:=by
 cases y with
 | none=>
  cases x with
  | none=>exact absurd rfl hn
  | some n=>simp [kO,TP.lexLt]
 | some m=>
  cases x with
  | none=>cases h
  | some n=>
   have h:n≤m:=of_decide_eq_true h
   simp [kO,TP.lexLt]
   omega
theorem jo:∀ {a b:Cap},a.length=b.length→i8 a b=true→r8 (n6 b) (n6 a)=false
 | [],[],_,_=>rfl
 | [],_::_,h,_=>by simp at h
 | _::_,[],h,_=>by simp at h
 | x::a,y::b,hl,h=>by
  rw [fD,Bool.and_eq_true] at h
  show (if kO y=kO x then r8 (n6 b) (n6 a) else lexLt (kO y) (kO x))=false
  by_cases e:kO y=kO x
  ·rw [if_pos e]; exact jo (by simpa using hl) h.2
  ·rw [if_neg e]; exact oU h.1 e
theorem Q6 (a:Cap):i8 a a=true:=dy fun k _=>by
 cases a.getD k none with
 | none=>rfl
 | some x=>exact decide_eq_true (Int.le_refl x)
theorem wX {a b:Cap} (hl:a.length=b.length) (h1:r8 (n6 a) (n6 b)=false) (h2:i8 a b=true):a=b:=dq (bo _ _ h1 (jo hl h2))
theorem kD {c:Cap} (h6:c.length≤6):A7 [tC c]=.ok (kW (n6 c)):=by
 have e:∀ N mg me ρ (h:∀ z:Option Int,∃ ρ1,mg (oW z) (ρ++List.replicate (N-ρ.length) Sl.un)=some ρ1∧me ρ1=.ok (.tup ((kO z).map W.int))),m5 N mg yes me (c.map oW) ρ=.ok (.lst (dA (n6 c))):=fun N mg me ρ h=>by
  rw [l4 (fun z=>.tup ((kO z).map W.int)) oW c ρ (by omega) (fun z _=>h z)]
  unfold dA n6
  exact congrArg (fun l=>R.ok (W.lst l)) (by rw [List.map_map]; rfl)
 exists rpB,bh
 rw [e]
 ·have hn:l9 (dA (n6 c))=true:=iu (n6 c)
  exists aM hn
  rfl
 ·intro z
  refine ⟨_,rfl,?_⟩
  cases z with
  | none=>
   exists rp18
   rfl
  | some n=>
   exists rp18
   rfl
theorem nQ {c:Cap} (h1:1≤c.length):keyOf (.ok (kW (n6 c)))=some (n6 c):=by
 have ht:Y6 (dA (n6 c))=some (n6 c):=gD _
 unfold keyOf kW
 dsimp only
 rw [ht]
 cases c with
 | nil=>simp at h1
 | cons a c=>rfl
theorem fQ:∀ {cs:List Cap},(∀ c∈cs,1≤c.length∧c.length≤6)→E1 A7 (cs.map tC)=some (cs.map n6)
 | [],_=>rfl
 | c::cs,h=>by
  have hc:=h c List.mem_cons_self
  rw [List.map_cons]
  unfold E1
  rw [kD hc.2,nQ hc.1,fQ fun d hd=>h d (List.mem_cons_of_mem _ hd)]
  rfl
theorem qk {α β:Type} (f:α→β) {ks:List (List (List Int))} {d:α} {e:β} {vs:List α} (hl:vs.length=ks.length):u9 ks e (vs.map f)=(u9 ks d vs).map f:=by
 unfold u9
 rw [List.map_reverse,List.map_map]
 refine congrArg List.reverse (List.map_congr_left fun i hi=>?_)
 have hi':i<vs.reverse.length:=by
  have:=(O2 ks.reverse).mem_iff.mp hi
  rw [List.mem_range,List.length_reverse] at this
  rw [List.length_reverse]; omega
 rw [← List.map_reverse,List.getD_eq_getElem?_getD,List.getElem?_map,List.getElem?_eq_getElem hi']
 show _=f (vs.reverse.getD i d)
 rw [List.getD_eq_getElem?_getD,List.getElem?_eq_getElem hi']
 rfl
noncomputable def srt (cs:List Cap):List Cap:=u9 (cs.map n6) [] cs
theorem pk (cs:List Cap):(srt cs).Perm cs:=nB (by simp)
theorem pp (cs:List Cap):(srt cs).Pairwise fun a b=>r8 (n6 a) (n6 b)=false:=by
 unfold srt u9
 rw [List.pairwise_reverse,List.pairwise_map]
 have hm:∀ i∈R0 (cs.map n6).reverse,i<cs.reverse.length:=fun i hi=>by
  have:=(O2 (cs.map n6).reverse).mem_iff.mp hi
  rw [List.mem_range,List.length_reverse,List.length_map] at this
  rw [List.length_reverse]; exact this
 have hk:∀ i,i<cs.reverse.length→(cs.map n6).reverse.getD i []=n6 (cs.reverse.getD i []):=fun i hi=>by
  rw [← List.map_reverse,List.getD_eq_getElem?_getD,List.getElem?_map,List.getElem?_eq_getElem hi,List.getD_eq_getElem?_getD,List.getElem?_eq_getElem hi]
  rfl
 refine List.Pairwise.imp_of_mem (fun {i j} hi hj h=>?_) (uK (cs.map n6).reverse)
 rw [hk i (hm i hi),hk j (hm j hj)] at h
 exact h
theorem nK (cs:List Cap):l9 (cs.map tC)=true:=X4 tC (fun c=>y9 c) cs
theorem kF {cs:List Cap} {c:Bool} (hl:∀ c∈cs,1≤c.length∧c.length≤6) (h64:cs.length<64):ck c A7 [.lst (cs.map tC)]=.ok (.lst ((srt cs).map tC)):=by
 show (match E1 A7 (cs.map tC) with | some ks=>if (cs.map tC).length<64 then chks c (u9 ks W.non (cs.map tC)) else .stuck | none=>.stuck)=_
 rw [fQ hl]
 dsimp only
 rw [if_pos (by rw [List.length_map]; exact h64),qk tC (d:=[]) (by simp),W0 (nK _)]
 rfl
theorem tL {cs:List Cap} {n:Nat} (hl:∀ c∈cs,c.length=n) (h1:1≤n) (h6:n≤6) (h64:cs.length<64):Ok (cj [.lst (cs.map tC)]) fun w=>∃ ts:List Cap,w=.lst (ts.map tC)∧(∀ t∈ts,t∈cs)∧ts.length≤cs.length∧(ts.Pairwise fun a b=>r8 (n6 a) (n6 b)=true∧i8 a b=false∧i8 b a=false)∧∀ c∈cs,∃ t∈ts,i8 c t=true:=by
 have hs:=kF (cs:=cs) (c:=false) (fun c hc=>by rw [hl c hc]; exact ⟨h1,h6⟩) h64
 have hp:=pk cs
 have hd:=pp cs
 have hsl:(srt cs).length=cs.length:=hp.length_eq
 have hln:∀ c∈srt cs,c.length=n:=fun c hc=>hl c (hp.mem_iff.mp hc)
 generalize srt cs=ss at *
 exists rpB,iy,hs
 refine u5 (x6 (fun i ρ=>∃ (fs:List Cap) (a2:Sl),ρ = [.par (.lst (cs.map tC)),.own (fs.map tC),a2]∧(∀ t∈fs,t∈ss.take i)∧fs.length≤i∧(fs.Pairwise fun a b=>r8 (n6 a) (n6 b)=false∧i8 b a=false)∧∀ c∈ss.take i,∃ t∈fs,i8 c t=true) ⟨[],_,rfl,by simp,by simp,List.Pairwise.nil,by simp⟩ ?_ ?_)
 ·rintro i u ρ hu ⟨fs,a2,rfl,hfm,hfl,hfp,hfc⟩
  rw [List.getElem?_map] at hu
  obtain ⟨x,hx,rfl⟩:=Option.map_eq_some_iff.mp hu
  obtain ⟨hi,ex⟩:=List.getElem?_eq_some_iff.mp hx
  have hxm:=List.mem_of_getElem? hx
  have ht:ss.take (i+1)=ss.take i ++ [x]:=by rw [List.take_add_one,hx]; rfl
  have hfn:∀ t∈fs,t.length=x.length:=fun t htm=>by rw [hln t (List.mem_of_mem_take (hfm t htm)),hln x hxm]
  have ku:=cI (cs:=fs) (x:=x) hfn
  have hf64:fs.length<64:=by omega
  refine ⟨_,rfl,?_⟩
  exists ku
  cases hU:S0 fs x with
  | true=>
   exists rp18
   refine ⟨fs,_,rfl,fun t q=>by rw [ht]; exact List.mem_append_left _ (hfm t q),by omega,hfp,fun c hc=>?_⟩
   rw [ht] at hc
   rcases List.mem_append.mp hc with q | q
   ·exact hfc c q
   ·rw [List.mem_singleton.mp q]
    obtain ⟨t,h1,h2⟩:=List.any_eq_true.mp hU
    exact ⟨t,h1,h2⟩
  | false=>
   exists M4 (show noL (tC x)=true from y9 x)
   refine ⟨fs ++ [x],_,by rw [List.map_append]; rfl,fun t q=>?_,by rw [List.length_append,List.length_singleton]; omega,?_,fun c hc=>?_⟩
   ·rw [ht]
    rcases List.mem_append.mp q with q | q
    ·exact List.mem_append_left _ (hfm t q)
    ·exact List.mem_append_right _ q
   ·refine List.pairwise_append.mpr ⟨hfp,List.pairwise_singleton _ _,fun t htm y hy=>?_⟩
    rw [List.mem_singleton.mp hy]
    refine ⟨?_,?_⟩
    ·obtain ⟨j,hj,ej⟩:=List.mem_iff_getElem.mp (hfm t htm)
     rw [List.length_take] at hj
     rw [List.getElem_take] at ej
     have:=List.pairwise_iff_getElem.mp hd j i (by omega) hi (by omega)
     rw [ej,ex] at this
     exact this
    ·unfold S0 at hU
     rw [List.any_eq_false] at hU
     have:=hU t htm
     simpa using this
   ·rw [ht] at hc
    rcases List.mem_append.mp hc with q | q
    ·obtain ⟨t,h1,h2⟩:=hfc c q
     exact ⟨t,List.mem_append_left _ h1,h2⟩
    ·rw [List.mem_singleton.mp q]
     exact ⟨x,List.mem_append_right _ (List.mem_singleton_self _),Q6 x⟩
 ·rintro ρ ⟨fs,a2,rfl,hfm,hfl,hfp,hfc⟩
  rw [List.length_map] at hfl
  rw [List.length_map,List.take_length] at hfm hfc
  exists rp18
  refine ⟨fs.reverse,by rw [List.map_reverse],fun t q=>hp.mem_iff.mp (hfm t (List.mem_reverse.mp q)),by rw [List.length_reverse]; omega,?_,fun c hc=>?_⟩
  ·rw [List.pairwise_reverse]
   refine List.Pairwise.imp_of_mem (fun {b a} hb ha h=>?_) hfp
   have hbl:=hln b (hfm b hb)
   have hal:=hln a (hfm a ha)
   have key:i8 b a=false:=by
    cases hq:i8 b a with
    | false=>rfl
    | true=>
     have:=wX (by omega) h.1 hq
     subst this
     rw [Q6] at hq
     have h2:=h.2
     rw [Q6] at h2
     cases h2
   refine ⟨?_,h.2,key⟩
   cases hq:r8 (n6 a) (n6 b) with
   | true=>rfl
   | false=>
    have:=dq (bo _ _ h.1 hq)
    subst this
    rw [Q6] at key
    cases key
  ·obtain ⟨t,q1,q2⟩:=hfc c (hp.mem_iff.mpr hc)
   exact ⟨t,List.mem_reverse.mpr q1,q2⟩
theorem kn {x y z:Option Int} (h1:B6 x y=true) (h2:B6 y z=true):B6 x z=true:=by
 cases z with
 | none=>rfl
 | some c=>
  cases y with
  | none=>cases h2
  | some b=>
   cases x with
   | none=>cases h1
   | some a=>
    have h1:a≤b:=of_decide_eq_true h1
    have h2:b≤c:=of_decide_eq_true h2
    exact decide_eq_true (by omega)
theorem O0:∀ {a b c:Cap},a.length=b.length→b.length=c.length→i8 a b=true→i8 b c=true→i8 a c=true
 | [],[],[],_,_,_,_=>rfl
 | [],_::_,_,h,_,_,_=>by simp at h
 | _::_,[],_,h,_,_,_=>by simp at h
 | _,[],_::_,_,h,_,_=>by simp at h
 | _,_::_,[],_,h,_,_=>by simp at h
 | x::a,y::b,z::c,h1,h2,h3,h4=>by
  rw [fD,Bool.and_eq_true] at h3 h4 ⊢
  exact ⟨kn h3.1 h4.1,O0 (by simpa using h1) (by simpa using h2) h3.2 h4.2⟩
theorem rH {b:List Int} {ms:List Mv} {most:Nat} (h1:1≤b.length) (h6:b.length≤6) (hm:∀ m∈ms,okN b.length m) (h8:ms.length≤8) (hm1:1≤most) (h30:most≤30):∃ w u:W,B2 [.tup [tI b,tM_ ms],.int (most:Int)]=.ok w∧O4 [.tup [tI b,tM_ ms],.int (most:Int)]=.ok u∧((w=.non∧u=.non)∨∃ (es:List GEnt) (ts:List Cap),w=.lst (h7 (b.map some) es)∧es.length+1≤most∧GK (b.map some) ms es (es.length+1) 0∧u=.lst (ts.map tC)∧(∀ t∈ts,t∈stC (b.map some) es)∧ts.length≤es.length+1∧(ts.Pairwise fun a b=>r8 (n6 a) (n6 b)=true∧i8 a b=false∧i8 b a=false)∧∀ c∈stC (b.map some) es,∃ t∈ts,i8 c t=true):=by
 obtain ⟨w,eg,hw⟩:=oa (most:=most) h6 hm h8 hm1 h30
 have hcl:(b.map some).length=b.length:=List.length_map ..
 rcases hw with rfl | ⟨es,rfl,hes,hK⟩
 ·refine ⟨_,.non,eg,?_,.inl ⟨rfl,rfl⟩⟩
  exists rpB,cE,eg
 ·generalize hc:b.map some=c at *
  have hsn:∀ d∈stC c es,d.length=b.length:=fun d hd=>by
   unfold stC at hd
   rcases List.mem_cons.mp hd with q | q
   ·rw [q,hcl]
   ·obtain ⟨z,hz,ez⟩:=List.mem_map.mp q
    rw [← ez,hK.len z hz,hcl]
  obtain ⟨u,et,ts,rfl,q1,q2,q3,q4⟩:=tL (cs:=stC c es) (n:=b.length) hsn h1 h6 (by rw [V7]; omega)
  rw [V7] at q2
  refine ⟨_,.lst (ts.map tC),eg,?_,.inr ⟨es,ts,rfl,hes,hK,rfl,q1,q2,q3,q4⟩⟩
  have ekn:∀ N mg me ρ (h:∀ o∈(none::es.map some:List (Option GEnt)),∃ ρ1,mg (Y9 c o) (ρ++List.replicate (N-ρ.length) Sl.un)=some ρ1∧me ρ1=.ok (tC (bB c o))),m5 N mg yes me (h7 c es) ρ=.ok (.lst ((stC c es).map tC)):=fun N mg me ρ h=>by
   rw [eN,l4 (fun o=>tC (bB c o)) _ _ ρ (by simp; omega) h]
   rw [← so]
   refine congrArg (fun l=>R.ok (W.lst l)) ?_
   rw [List.map_map]; rfl
  obtain ⟨rw_,hrw⟩:∃ rw_,rw_=h7 c es:=⟨_,rfl⟩
  rw [← hrw] at eg ekn
  exists rpB,cE,eg
  rw [ekn]
  ·exists et
  ·intro o ho
   refine ⟨_,rfl,?_⟩
   cases o with
   | none=>
    have b0:L2.atI [tC c,W.non,W.non] 0=some (tC c):=rfl
    have b1:Y9 c none=.tup [tC c,.non,.non]:=rfl
    have b2:bB c none=c:=rfl
    exists b1,b0,b2,M4 (show noL (tC c)=true from y9 c)
   | some e=>
    have b0:L2.atI [tC e.1,.int (e.2.1:Int),.int (e.2.2:Int)] 0=some (tC e.1):=rfl
    have b1:Y9 c (some e)=.tup [tC e.1,.int (e.2.1:Int),.int (e.2.2:Int)]:=rfl
    have b2:bB c (some e)=e.1:=rfl
    exists b1,b0,b2,M4 (show noL (tC e.1)=true from y9 e.1)
theorem ay {l:List Int} {k:Nat} (h:k<l.length):(l.map some).getD k none=some (l.getD k 0):=by
 rw [List.getD_eq_getElem?_getD,List.getElem?_map,List.getElem?_eq_getElem h,List.getD_eq_getElem?_getD,List.getElem?_eq_getElem h]; rfl
theorem gy {cs ds:Cap} (h:i8 cs ds=true) {k:Nat} (hk:k<cs.length):B6 (cs.getD k none) (ds.getD k none)=true:=by
 unfold i8 at h
 exact List.all_eq_true.mp h k (by simpa using hk)
theorem mE (x:Option Int):B6 x x=true:=by
 cases x with
 | none=>rfl
 | some a=>exact decide_eq_true (Int.le_refl a)
theorem cV {α:Type} (n k:Nat) (f:Nat→α) (d:α) (h:k<n):((List.range n).map f).getD k d=f k:=by
 rw [List.getD_eq_getElem?_getD,List.getElem?_map,List.getElem?_range h]; rfl
theorem tK (x e:Cap):i8 x (j0 x e)=true:=by
 unfold j0
 by_cases h:i8 e x=true
 ·rw [if_pos h]
  refine dy fun k hk=>?_
  rw [cV _ _ _ _ hk]
  unfold ad
  by_cases q:x.getD k none=e.getD k none
  ·rw [if_pos q]; exact mE _
  ·rw [if_neg q]; rfl
 ·rw [if_neg h]; exact Q6 x
theorem mD (c:Cap) (es:List GEnt):∀ (l:List Nat) (x:Cap),i8 x (upC c es l x)=true
 | [],x=>Q6 x
 | q::l,x=>O0 (N3 x (sC c es q)).symm (au c es l (j0 x (sC c es q))).symm (tK x (sC c es q)) (mD c es l (j0 x (sC c es q)))
noncomputable def y4 (st:List Int) (m:Mv):Bool:=(List.range st.length).all fun k=>decide (m.1.getD k 0≤st.getD k 0)
noncomputable def bhS (st:List Int) (m:Mv):List Int:=(List.range st.length).map fun k=>st.getD k 0-m.1.getD k 0+m.2.getD k 0
theorem R7 (st:List Int) (m:Mv):(bhS st m).length=st.length:=by simp [bhS]
theorem wJ {st:List Int} {m:Mv} (h:y4 st m=true) {k:Nat} (hk:k<st.length):m.1.getD k 0≤st.getD k 0:=by
 unfold y4 at h
 exact of_decide_eq_true (List.all_eq_true.mp h k (by simpa using hk))
theorem wI {st:List Int} {m:Mv} {t:Cap} (hm:okN st.length m) (hl:st.length=t.length) (h:y4 st m=true) (hu:i8 (st.map some) t=true):N9 t m=true:=by
 refine O0 (b:=st.map some) (by rw [List.length_map,List.length_map,hm.1]) (by rw [List.length_map]; exact hl) (dy fun k hk=>?_) hu
 rw [List.length_map,hm.1] at hk
 rw [ay (by rw [hm.1]; exact hk),ay hk]
 exact decide_eq_true (wJ h hk)
theorem Bk {st:List Int} {m:Mv} {t:Cap} (hl:st.length=t.length) (hu:i8 (st.map some) t=true):i8 ((bhS st m).map some) (o7 t m)=true:=by
 refine dy fun k hk=>?_
 rw [List.length_map,R7] at hk
 have hu:=gy hu (k:=k) (by rw [List.length_map]; exact hk)
 rw [ay hk] at hu
 rw [ay (by rw [R7]; exact hk)]
 unfold bhS o7
 rw [cV _ _ _ _ hk,cV _ _ _ _ (by omega)]
 cases hy:t.getD k none with
 | none=>rfl
 | some y=>
  rw [hy] at hu
  have hu:st.getD k 0≤y:=of_decide_eq_true hu
  exact decide_eq_true (show st.getD k 0-m.1.getD k 0+m.2.getD k 0≤y+(m.2.getD k 0-m.1.getD k 0) by omega)
theorem gK {c:Cap} {es:List GEnt} {t:Cap} (h:t∈stC c es):∃ a,a≤es.length∧t=sC c es a:=by
 obtain ⟨a,ha,ea⟩:=List.mem_iff_getElem.mp h
 refine ⟨a,by rw [V7] at ha; omega,?_⟩
 unfold sC
 rw [List.getD_eq_getElem?_getD,List.getElem?_eq_getElem ha,ea]; rfl
theorem Cd {ms:List Mv} {m:Mv} (h:m∈ms):∃ k,k<ms.length∧m=mvN ms k:=by
 obtain ⟨k,hk,ek⟩:=List.mem_iff_getElem.mp h
 refine ⟨k,hk,?_⟩
 unfold mvN
 rw [List.getD_eq_getElem?_getD,List.getElem?_eq_getElem hk,ek]; rfl
theorem pb {c:Cap} {ms:List Mv} {es:List GEnt} {t:Cap} {m:Mv} (hK:GK c ms es (es.length+1) 0) (ht:t∈stC c es) (hm:m∈ms) (hab:N9 t m=true):∃ d∈stC c es,i8 (o7 t m) d=true:=by
 obtain ⟨a,ha,rfl⟩:=gK ht
 obtain ⟨k,hk,rfl⟩:=Cd hm
 have hl:=E5 hK.len ha
 have h1:i8 (o7 (sC c es a) (mvN ms k)) (o6 c ms es a k)=true:=mD c es (i5 es a) _
 rcases hK.set a k (by omega) hk hab with ⟨e,he,q⟩ | ⟨j,hj,_,h2⟩
 ·obtain ⟨i,hi,ei⟩:=List.mem_iff_getElem.mp he
  have:=(hK.beh i e (by rw [List.getElem?_eq_getElem hi,ei])).2.1
  rw [q] at this
  refine ⟨e.1,List.mem_cons_of_mem _ (List.mem_map.mpr ⟨e,he,rfl⟩),?_⟩
  rw [this]; exact h1
 ·exact ⟨_,bT hj,O0 (by rw [K3,Z8]) (by rw [Z8,hl]; exact (E5 hK.len hj).symm) h1 h2⟩
theorem cS {c:Cap} {ms:List Mv} {es:List GEnt} {A kk:Nat} (hK:GK c ms es A kk):∀ d∈stC c es,d.length=c.length:=fun d hd=>by
 obtain ⟨a,ha,rfl⟩:=gK hd
 exact E5 hK.len ha
theorem ot {c:Cap} {ms:List Mv} {es:List GEnt} {ts:List Cap} {st:List Int} {m:Mv} (hK:GK c ms es (es.length+1) 0) (hms:∀ m∈ms,okN c.length m) (q1:∀ t∈ts,t∈stC c es) (q4:∀ d∈stC c es,∃ t∈ts,i8 d t=true)
  (hl:st.length=c.length) (hm:m∈ms) (hab:y4 st m=true) (hu:∃ t∈ts,i8 (st.map some) t=true):∃ t∈ts,i8 ((bhS st m).map some) t=true:=by
 obtain ⟨t,ht,hu⟩:=hu
 have hlen:=cS hK
 have lt:=hlen t (q1 t ht)
 have hb:=Bk (m:=m) (by omega) hu
 obtain ⟨d,hd,h2⟩:=pb hK (q1 t ht) hm (wI (by rw [hl]; exact hms m hm) (by omega) hab hu)
 obtain ⟨t',ht',h3⟩:=q4 d hd
 have ld:=hlen d hd
 have lt':=hlen t' (q1 t' ht')
 exact ⟨t',ht',O0 (by rw [List.length_map,R7]; omega) (by omega) (O0 (by rw [List.length_map,R7,K3]; omega) (by rw [K3]; omega) hb h2) h3⟩
noncomputable def pz (l:List Nat):List Int:=l.map fun (k:Nat)=>(k:Int)
theorem J8 (l:List Nat):(pz l).length=l.length:=by unfold pz; rw [List.length_map]
theorem aZ (l:List Nat):(pz l).map W.int=l.map fun (q:Nat)=>W.int (q:Int):=by unfold pz; rw [List.map_map]; rfl
noncomputable def plc (x h:Cap):List Nat:=(List.range x.length).filter fun k=>decide (h.getD k none≠x.getD k none)
noncomputable def lfs (c:Cap) (es:List GEnt):List Nat→Cap→List (Nat×List Nat)
 | [],_=>[]
 | q::l,x=>(if plc x (j0 x (sC c es q)) = [] then [] else [(q,plc x (j0 x (sC c es q)))])++lfs c es l (j0 x (sC c es q))
noncomputable abbrev lfT (p:Nat×List Nat):W:=.tup [.int (p.1:Int),tI (pz p.2)]
theorem jG (x h:Cap):(plc x h).length≤x.length:=by
 unfold plc
 have:=List.length_filter_le (fun k=>decide (h.getD k none≠x.getD k none)) (List.range x.length)
 rwa [List.length_range] at this
theorem Ar (a b:Option Int):fEq true (oW a) (oW b)=.ok (.bl (decide (a≠b))):=by
 cases a with
 | none=>
  cases b with
  | none=>rfl
  | some y=>rw [show oW none=W.non from rfl,show oW (some y)=W.int y from rfl,iK]; rfl
 | some x=>
  cases b with
  | none=>rw [show oW none=W.non from rfl,show oW (some x)=W.int x from rfl,iL]; rfl
  | some y=>
   rw [show oW (some x)=W.int x from rfl,show oW (some y)=W.int y from rfl,iM]
   by_cases h:x=y <;> simp [h]
theorem atO {cs:List (Option Int)} {k:Nat} (h:k<cs.length):L2.atI (cs.map oW) (k:Int)=some (oW (cs.getD k none)):=Q4 (by rw [List.getElem?_map,List.getD_eq_getElem?_getD,List.getElem?_eq_getElem h]; rfl)
theorem mB {b:List Int} {ms:List Mv} {c:Cap} {es:List GEnt} {A kk i:Nat} {e:GEnt} (hK:GK c ms es A kk) (h6:c.length≤6) (hm:∀ m∈ms,okN c.length m) (he:es[i]?=some e):A6 [.tup [tI b,tM_ ms],.lst (h7 c es),.int ((i+1:Nat):Int)]=.ok (tC (o7 (sC c es e.2.1) (mvN ms e.2.2))):=by
 have hi:=(List.getElem?_eq_some_iff.mp he).1
 have hem:=List.mem_of_getElem? he
 have hp:=hK.par i e he
 have hk:=hK.k8 e hem
 have hs:=E5 hK.len (a:=e.2.1) (by omega)
 obtain ⟨hab,_,_⟩:=hK.beh i e he
 have r1:=cx (c:=c) he
 obtain ⟨x,y,er⟩:=Q9 (c:=c) (es:=es) (a:=e.2.1) (by omega)
 have a0:L2.atI [tC (sC c es e.2.1),x,y] 0=some (tC (sC c es e.2.1)):=rfl
 have a1:L2.atI [tI b,tM_ ms] 1=some (tM_ ms):=rfl
 have b1:L2.atI [tC e.1,.int (e.2.1:Int),.int (e.2.2:Int)] 1=some (.int (e.2.1:Int)):=rfl
 have b2:L2.atI [tC e.1,.int (e.2.1:Int),.int (e.2.2:Int)] 2=some (.int (e.2.2:Int)):=rfl
 have ej:L2.atI (ms.map mW) (e.2.2:Int)=some (mW (mvN ms e.2.2)):=by
  have:=atM (ms:=ms) (r:=(e.2.2:Int)) (by omega) (by omega)
  rw [Int.toNat_natCast] at this
  exact this
 have k:=cM (c:=sC c es e.2.1) (m:=mvN ms e.2.2) (by omega) (by rw [hs]; exact getM hm hk) hab
 obtain ⟨rw_,hrw⟩:∃ rw_,rw_=h7 c es:=⟨_,rfl⟩
 rw [← hrw] at r1 er
 rw [← hrw]
 exists rpB,bg,r1,b1,er,a0,a1,b2,ej,k
theorem cut1 (l:List Nat) (q:Nat):bz (pz (q::l)) (some 1) none=pz l:=by
 unfold bz
 rw [show (1:Int)=((1:Nat):Int) from rfl,HT.sIx_nat,HT.sIx_none]
 have:min 1 (pz (q::l)).length=1:=by rw [J8,List.length_cons]; omega
 rw [this]
 show (pz l).take _=_
 exact List.take_of_length_le (by rw [J8,J8,List.length_cons]; omega)
theorem ly {b:List Int} {ms:List Mv} {c:Cap} {es:List GEnt} {A kk i:Nat} {e:GEnt} (hK:GK c ms es A kk) (h6:c.length≤6) (hm:∀ m∈ms,okN c.length m) (h100:es.length≤90) (he:es[i]?=some e):E3 [.tup [tI b,tM_ ms],.lst (h7 c es),.int ((i+1:Nat):Int)]=.ok (.lst ((lfs c es (i5 es e.2.1) (o7 (sC c es e.2.1) (mvN ms e.2.2))).map lfT)):=by
 have fin:Ok (E3 [.tup [tI b,tM_ ms],.lst (h7 c es),.int ((i+1:Nat):Int)]) fun v=>v=.lst ((lfs c es (i5 es e.2.1) (o7 (sC c es e.2.1) (mvN ms e.2.2))).map lfT):=by
  have hi:=(List.getElem?_eq_some_iff.mp he).1
  have hp:=hK.par i e he
  have ku:=mB (b:=b) hK h6 hm he
  have kw:=aQ (c:=c) (n:=i+1) hK.par (by omega) (by omega)
  have hws:=j9 hK.par he
  have hcut:=cut1 (i5 es e.2.1) (i+1)
  have hwl:=E7 hK.par e.2.1 (by omega)
  have hs:=E5 hK.len (a:=e.2.1) (by omega)
  have kw:n9 [.lst (h7 c es),.int ((i+1:Nat):Int)]=.ok (lI (pz ((i+1)::i5 es e.2.1))):=by rw [hws] at kw; exact kw
  have z0:decide (((i+1:Nat):Int)=0)=false:=decide_eq_false (by omega)
  have hsel:∀ q,q≤es.length→∃ x y:W,L2.atI (h7 c es) (q:Int)=some (.tup [tC (sC c es q),x,y]):=fun q hq=>Q9 hq
  have hx0:(o7 (sC c es e.2.1) (mvN ms e.2.2)).length=c.length:=by rw [K3,hs]
  generalize o7 (sC c es e.2.1) (mvN ms e.2.2)=x0 at *
  generalize hl0:i5 es e.2.1=l0 at *
  obtain ⟨rw_,hrw⟩:∃ rw_,rw_=h7 c es:=⟨_,rfl⟩
  rw [← hrw] at ku kw hsel
  rw [← hrw]
  obtain ⟨wl,hwl_⟩:∃ wl,wl=pz ((i+1)::l0):=⟨_,rfl⟩
  rw [← hwl_] at kw hcut
  exists rpB,bi,z0,ku,kw,hcut
  refine u5 (x6 (fun j ρ=>∃ (fs:List (Nat×List Nat)) (x:Cap) (a5 a6 a7:Sl),ρ = [.par (.tup [tI b,tM_ ms]),.par (.lst rw_),.par (.int ((i+1:Nat):Int)),.own (fs.map lfT),.val (tC x),a5,a6,a7]∧lfs c es l0 x0=fs++lfs c es (l0.drop j) x∧x.length=c.length∧fs.length≤j) ⟨[],x0,_,_,_,rfl,rfl,hx0,Nat.le_refl _⟩ ?_ ?_)
  ·rintro j u ρ hu ⟨fs,x,a5,a6,a7,rfl,hf,hx,hfl⟩
   rw [aZ,List.getElem?_map] at hu
   obtain ⟨q,hq,rfl⟩:=Option.map_eq_some_iff.mp hu
   obtain ⟨hj,eq⟩:=List.getElem?_eq_some_iff.mp hq
   have hqn:=hwl.1 q (List.mem_of_getElem? hq)
   obtain ⟨p1,p2,er⟩:=hsel q (by omega)
   have a0:L2.atI [tC (sC c es q),p1,p2] 0=some (tC (sC c es q)):=rfl
   have kr:=fJ (cs:=x) (es:=sC c es q) (by rw [hx]; exact E5 hK.len (by omega)) (by omega)
   have hd:l0.drop j=q::l0.drop (j+1):=by rw [List.drop_eq_getElem_cons hj,eq]
   rw [hd] at hf
   have hf:lfs c es l0 x0=fs++((if plc x (j0 x (sC c es q)) = [] then [] else [(q,plc x (j0 x (sC c es q)))])++lfs c es (l0.drop (j+1)) (j0 x (sC c es q))):=hf
   have hhl:(j0 x (sC c es q)).length=x.length:=N3 x _
   generalize j0 x (sC c es q)=h at *
   have ek:∀ N mg mc me ρ (hh:∀ k∈List.range x.length,∃ ρ1,mg (.int (k:Nat)) (ρ++List.replicate (N-ρ.length) Sl.un)=some ρ1∧mc ρ1=.ok (decide (h.getD k none≠x.getD k none))∧(decide (h.getD k none≠x.getD k none)=true→me ρ1=.ok (.int (k:Nat)))),m5 N mg mc me ((List.range x.length).map fun k=>W.int (k:Nat)) ρ=.ok (lI (pz (plc x h))):=fun N mg mc me ρ hh=>by
    rw [X9 (fun k=>.int (k:Nat)) (fun k=>W.int (k:Nat)) (fun k=>decide (h.getD k none≠x.getD k none)) _ ρ (by simp; omega) hh]
    exact congrArg (fun l=>R.ok (W.lst l)) (aZ _).symm
   have hpl:=jG x h
   have hzl:=J8 (plc x h)
   have hfl2:(fs.map lfT).length≤100:=by rw [List.length_map]; omega
   refine ⟨_,rfl,?_⟩
   exists er,a0,kr
   rw [ek]
   rotate_left
   ·intro k hk
    have hk:k<x.length:=by simpa using hk
    have y1:=atO hk
    have y2:=atO (cs:=h) (k:=k) (by omega)
    refine ⟨_,rfl,?_,fun _=>?_⟩
    ·exists y1,y2,Ar
    ·exists rp18
   exists hzl
   by_cases hemp:plc x h = []
   ·have z1:decide ((0:Int)<((plc x h).length:Int))=false:=by rw [hemp]; rfl
    rw [if_pos hemp] at hf
    exists z1
    exact ⟨fs,h,_,_,_,rfl,hf,by omega,by omega⟩
   ·have z1:decide ((0:Int)<((plc x h).length:Int))=true:=decide_eq_true (by have:=List.length_pos_iff.mpr hemp; omega)
    rw [if_neg hemp,← List.append_assoc] at hf
    exists z1
    exact ⟨fs ++ [(q,plc x h)],h,_,_,_,by rw [List.map_append]; rfl,hf,by omega,by rw [List.length_append,List.length_singleton]; omega⟩
  ·rintro ρ ⟨fs,x,a5,a6,a7,rfl,hf,hx,hfl⟩
   rw [List.length_map,J8,List.drop_length] at hf
   exists rp18
   rw [hf]
   show W.lst (fs.map lfT)=W.lst ((fs ++ []).map lfT)
   rw [List.append_nil]
 obtain ⟨v,e,rfl⟩:=fin
 exact e
noncomputable def mvD (m:Mv) (p:Nat):Int:=m.2.getD p 0-m.1.getD p 0
noncomputable def dsp (ms:List Mv):List Nat→Nat→Int
 | [],_=>0
 | k::r,p=>mvD (mvN ms k) p+dsp ms r p
noncomputable def gos (n:Nat) (ms:List Mv):List Nat→(Nat→Int)→Prop
 | [],_=>True
 | k::r,s=>k<ms.length∧(∀ p,p<n→(mvN ms k).1.getD p 0≤s p)∧gos n ms r fun p=>s p+mvD (mvN ms k) p
section
variable {n:Nat} {ms:List Mv}
theorem cG (q:List Nat) (p:Nat):∀ r:List Nat,dsp ms (r++q) p=dsp ms r p+dsp ms q p
 | []=>by show dsp ms q p=0+dsp ms q p; omega
 | k::r=>by
  show mvD (mvN ms k) p+dsp ms (r++q) p=mvD (mvN ms k) p+dsp ms r p+dsp ms q p
  rw [cG q p r]; omega
noncomputable def repR (r:List Nat):Nat→List Nat
 | 0=>[]
 | k+1=>r++repR r k
end
noncomputable def AD (c:Cap) (N:Int) (p:Nat):Int:=(c.getD p none).getD N
noncomputable def BG (n:Nat) (N:Int) (c:Cap) (s:Nat→Int):Prop:=∀ p,p<n→(∀ v,c.getD p none=some v→s p=v)∧(c.getD p none=none→N≤s p)
noncomputable def Rz (n:Nat) (ms:List Mv) (x c:Cap):Prop:=∀ N:Int,∃ (N0:Int) (r:List Nat),gos n ms r (AD x N0)∧BG n N c fun p=>AD x N0 p+dsp ms r p
section
variable {n:Nat} {ms:List Mv} {x c e:Cap}
theorem gA {a b:Cap} (h:i8 a b=true) {p:Nat} (hp:p<a.length):B6 (a.getD p none) (b.getD p none)=true:=by
 unfold i8 at h
 rw [List.all_eq_true] at h
 exact h p (by simpa using hp)
end
section
variable {c:Cap} {ms:List Mv} {es:List GEnt} {A kk:Nat}
theorem oR (hp:C3 es):∀ j,j≤es.length→0∈i5 es j:=by
 intro j
 induction j using Nat.strongRecOn with
 | _ j ih=>
  intro hj
  cases j with
  | zero=>rw [B5]; exact List.mem_singleton.mpr rfl
  | succ j=>
   have he:es[j]?=some es[j]:=List.getElem?_eq_getElem (by omega)
   have:=hp j _ he
   rw [j9 hp he]
   exact List.mem_cons_of_mem _ (ih es[j].2.1 (by omega) (by omega))
end
noncomputable def nnC (d:Cap):Prop:=∀ k x,d.getD k none=some x→0≤x
theorem uU {x e:Cap} (h:nnC x):nnC (j0 x e):=fun k z hz=>by
 unfold j0 at hz
 by_cases q:i8 e x=true
 ·rw [if_pos q] at hz
  by_cases hk:k<x.length
  ·rw [List.getD_eq_getElem?_getD,List.getElem?_map,List.getElem?_range hk] at hz
   have hz:ad (x.getD k none) (e.getD k none)=some z:=hz
   unfold ad at hz
   by_cases q2:x.getD k none=e.getD k none
   ·rw [if_pos q2] at hz; exact h k z hz
   ·rw [if_neg q2] at hz; cases hz
  ·rw [List.getD_eq_getElem?_getD,List.getElem?_eq_none (by simpa using Nat.le_of_not_lt hk)] at hz; cases hz
 ·rw [if_neg q] at hz; exact h k z hz
theorem nM {c:Cap} {es:List GEnt}:∀ (l:List Nat) (x:Cap),nnC x→nnC (upC c es l x)
 | [],_,h=>h
 | q::l,x,h=>nM l (j0 x (sC c es q)) (uU h)
theorem uV {t:Cap} {m:Mv} (hm:okN t.length m) (hab:N9 t m=true):nnC (o7 t m):=fun k z hz=>by
 unfold o7 at hz
 by_cases hk:k<t.length
 ·rw [List.getD_eq_getElem?_getD,List.getElem?_map,List.getElem?_range hk] at hz
  have hz:(t.getD k none).map (fun x=>x+(m.2.getD k 0-m.1.getD k 0))=some z:=hz
  cases hy:t.getD k none with
  | none=>rw [hy] at hz; cases hz
  | some y=>
   rw [hy] at hz
   cases hz
   have h1:B6 ((m.1.map some).getD k none) (t.getD k none)=true:=by
    unfold N9 i8 at hab
    exact List.all_eq_true.mp hab k (by rw [List.mem_range,List.length_map,hm.1]; exact hk)
   have hkm:k<m.1.length:=by rw [hm.1]; exact hk
   have e1:(m.1.map some).getD k none=some (m.1.getD k 0):=by
    rw [List.getD_eq_getElem?_getD,List.getElem?_map,List.getElem?_eq_getElem hkm,List.getD_eq_getElem?_getD,List.getElem?_eq_getElem hkm]; rfl
   rw [e1,hy] at h1
   have h1:m.1.getD k 0≤y:=of_decide_eq_true h1
   have h2:=bd hm.2.2.2 k
   show 0≤y+(m.2.getD k 0-m.1.getD k 0)
   omega
 ·rw [List.getD_eq_getElem?_getD,List.getElem?_eq_none (by simpa using Nat.le_of_not_lt hk)] at hz; cases hz
theorem GK.nng {c:Cap} {ms:List Mv} {es:List GEnt} {A kk:Nat} (hK:GK c ms es A kk) (hms:∀ m∈ms,okN c.length m) (hc:nnC c):∀ d∈stC c es,nnC d:=fun d hd=>by
 unfold stC at hd
 rcases List.mem_cons.mp hd with rfl | hd
 ·exact hc
 ·obtain ⟨e,he,rfl⟩:=List.mem_map.mp hd
  obtain ⟨i,hi,ei⟩:=List.mem_iff_getElem.mp he
  have hq:es[i]?=some e:=by rw [List.getElem?_eq_getElem hi,ei]
  obtain ⟨hab,hb,_⟩:=hK.beh i e hq
  have hp:=hK.par i e hq
  rw [hb]
  exact nM _ _ (uV (by rw [E5 hK.len (by omega)]; exact getM hms (hK.k8 e he)) hab)
theorem qB {b:List Int} (h:nn b):nnC (b.map some):=fun k x hx=>by
 by_cases hk:k<b.length
 ·rw [List.getD_eq_getElem?_getD,List.getElem?_map,List.getElem?_eq_getElem hk] at hx
  cases hx
  exact h _ (List.getElem_mem _)
 ·rw [List.getD_eq_getElem?_getD,List.getElem?_eq_none (by simpa using Nat.le_of_not_lt hk)] at hx; cases hx
noncomputable def hur (ms:List Mv):List Nat→Nat→Int
 | [],_=>0
 | k::r,p=>max ((mvN ms k).1.getD p 0) (hur ms r p-mvD (mvN ms k) p)
theorem lP {a b u:Int} (h:a≤u) (hb:0≤b):0-(b-a)≤u:=by omega
theorem lO {h x y s:Int} (h2:h+x≤s) (e:y =-x):h≤s+y:=by omega
theorem jW {ms:List Mv} {q:List Nat} {p:Nat}:∀ {r:List Nat} {u:Int},hur ms r p≤u→hur ms q p≤u+dsp ms r p→hur ms (r++q) p≤u:=by
 intro r
 induction r with
 | nil=>
  intro u _ h
  have h:hur ms q p≤u+0:=h
  rw [Int.add_zero] at h
  exact h
 | cons k r ih=>
  intro u h1 h2
  have h1:=Int.max_le.mp (show max ((mvN ms k).1.getD p 0) (hur ms r p-mvD (mvN ms k) p)≤u from h1)
  have h2:hur ms q p≤u+(mvD (mvN ms k) p+dsp ms r p):=h2
  rw [← Int.add_assoc] at h2
  exact Int.max_le.mpr ⟨h1.1,Int.sub_right_le_of_le_add (ih (Int.le_add_of_sub_right_le h1.2) h2)⟩
noncomputable abbrev Blk:=List Nat×Int
noncomputable def okB (n:Nat) (ms:List Mv) (s:Nat→Int) (b:Blk):Prop:=1≤b.2∧(∀ k∈b.1,k<ms.length)∧b.1.length≤30∧∀ p,p<n→hur ms b.1 p≤s p∧hur ms b.1 p≤s p+(b.2-1)*dsp ms b.1 p
noncomputable def U8 (ms:List Mv) (s:Nat→Int) (b:Blk):Nat→Int:=fun p=>s p+b.2*dsp ms b.1 p
noncomputable def goB (n:Nat) (ms:List Mv):List Blk→(Nat→Int)→Prop
 | [],_=>True
 | b::bs,s=>okB n ms s b∧goB n ms bs (U8 ms s b)
noncomputable def w4 (ms:List Mv):List Blk→(Nat→Int)→Nat→Int
 | [],s=>s
 | b::bs,s=>w4 ms bs (U8 ms s b)
noncomputable def rl (n:Nat) (x:Cap) (w s:Nat→Int):Prop:=∀ p,p<n→(∀ v,x.getD p none=some v→s p=v)∧(x.getD p none=none→w p≤s p)
noncomputable def ldB (n:Nat) (ms:List Mv) (x:Cap) (w:Nat→Int) (bs:List Blk) (y:Cap) (u:Nat→Int):Prop:=∀ s,rl n x w s→goB n ms bs s∧rl n y u (w4 ms bs s)
theorem ldB.cons {n:Nat} {ms:List Mv} {x y z:Cap} {w u v:Nat→Int} {b:Blk} {bs:List Blk} (h1:ldB n ms x w [b] y u) (h2:ldB n ms y u bs z v):ldB n ms x w (b::bs) z v:=fun s hs=>by
 obtain ⟨⟨g1,_⟩,f1⟩:=h1 s hs
 obtain ⟨g2,f2⟩:=h2 _ f1
 exact ⟨⟨g1,g2⟩,f2⟩
theorem ldB.skip {n:Nat} {ms:List Mv} {x y z:Cap} {w u v:Nat→Int} {bs:List Blk} (h1:ldB n ms x w [] y u) (h2:ldB n ms y u bs z v):ldB n ms x w bs z v:=fun s hs=>h2 _ (h1 s hs).2
theorem ldB.refl {n:Nat} {ms:List Mv} (x:Cap) (w:Nat→Int):ldB n ms x w [] x w:=fun _ hs=>⟨trivial,hs⟩
noncomputable def ahW (ms:List Mv) (r:List Nat) (t:Int) (w:Nat→Int) (p:Nat):Int:=max (max (hur ms r p) (hur ms r p+(1-t)*dsp ms r p)) (w p+(-t)*dsp ms r p)
theorem hJ {x e:Cap} {p:Nat} (hu:i8 e x=true) (hp:p<x.length):(j0 x e).getD p none=ad (x.getD p none) (e.getD p none):=by
 unfold j0
 rw [if_pos hu,List.getD_eq_getElem?_getD,List.getElem?_map,List.getElem?_range hp]; rfl
theorem J2 {x e:Cap} {p:Nat} {v:Int} (h:(j0 x e).getD p none=some v):x.getD p none=some v:=by
 by_cases hu:i8 e x=true
 ·by_cases hp:p<x.length
  ·rw [hJ hu hp] at h
   unfold ad at h
   by_cases q:x.getD p none=e.getD p none
   ·rw [if_pos q] at h; exact h
   ·rw [if_neg q] at h; cases h
  ·rw [List.getD_eq_getElem?_getD,List.getElem?_eq_none (by rw [N3]; omega)] at h; cases h
 ·unfold j0 at h
  rw [if_neg hu] at h; exact h
theorem jm {c:Cap} {es:List GEnt} {p:Nat} {v:Int}:∀ (l:List Nat) (x:Cap),(upC c es l x).getD p none=some v→x.getD p none=some v
 | [],_,h=>h
 | q::l,x,h=>J2 (jm l (j0 x (sC c es q)) h)
theorem vw {n:Nat} {ms:List Mv} {x e:Cap} {r:List Nat} {t:Int} {w:Nat→Int} (hx:x.length=n) (he:e.length=n) (hu:i8 e x=true) (hr:∀ k∈r,k<ms.length) (hl:r.length≤30)
  (hrow:∀ p,p<n→∀ v,x.getD p none=some v→∃ u,e.getD p none=some u∧u+dsp ms r p=v∧hur ms r p≤u) (ht:1≤t) (hw:∀ p,p<n→∀ v,x.getD p none=some v→(j0 x e).getD p none=none→w p≤v+t*dsp ms r p):ldB n ms x (ahW ms r t w) [(r,t)] (j0 x e) w:=fun s hs=>by
 have hup:∀ p,p<n→∀ v,x.getD p none=some v→∀ u,e.getD p none=some u→u≤v:=fun p hp v hv u hu'=>by
  have:=gA hu (p:=p) (by omega)
  rw [hv,hu'] at this
  exact of_decide_eq_true this
 refine ⟨⟨⟨ht,hr,hl,fun p hp=>?_⟩,trivial⟩,fun p hp=>?_⟩
 ·obtain ⟨h1,h2⟩:=hs p hp
  show hur ms r p≤s p∧hur ms r p≤s p+(t-1)*dsp ms r p
  cases q:x.getD p none with
  | some v=>
   obtain ⟨u,eu,ed,eh⟩:=hrow p hp v q
   have:=hup p hp v q u eu
   have e1:=h1 v q
   have:=Int.mul_nonneg (show 0≤t-1 by omega) (show 0≤dsp ms r p by omega)
   omega
  | none=>
   have h2:=h2 q
   unfold ahW at h2
   have e1:(t-1)*dsp ms r p =-((1-t)*dsp ms r p):=by rw [← Int.neg_mul,Int.neg_sub]
   have h2:=Int.max_le.mp (Int.max_le.mp h2).1
   exact ⟨h2.1,lO h2.2 e1⟩
 ·obtain ⟨h1,h2⟩:=hs p hp
  have hsh:w4 ms [(r,t)] s p=s p+t*dsp ms r p:=rfl
  rw [hsh]
  refine ⟨fun v hv=>?_,fun hv=>?_⟩
  ·have hxv:=J2 hv
   obtain ⟨u,eu,ed,eh⟩:=hrow p hp v hxv
   rw [hJ hu (by omega),hxv,eu] at hv
   unfold ad at hv
   by_cases q:v=u
   ·have:dsp ms r p=0:=by omega
    rw [h1 v hxv,this,Int.mul_zero,Int.add_zero]
   ·rw [if_neg (fun z=>q (Option.some.inj z))] at hv; cases hv
  ·cases q:x.getD p none with
   | some v=>
    rw [h1 v q]; exact hw p hp v q hv
   | none=>
    have h2:=h2 q
    unfold ahW at h2
    exact lO (Int.max_le.mp h2).2 (by rw [Int.neg_mul,Int.neg_neg])
theorem qI {n:Nat} {ms:List Mv} {x e:Cap} {w:Nat→Int} (hw:∀ p,p<n→∀ v,x.getD p none=some v→(j0 x e).getD p none=none→w p≤v) (hn:∀ p,p<n→x.getD p none=none→(j0 x e).getD p none=none):ldB n ms x w [] (j0 x e) w:=fun s hs=>⟨trivial,fun p hp=>by
 obtain ⟨h1,h2⟩:=hs p hp
 show (∀ v,(j0 x e).getD p none=some v→s p=v)∧((j0 x e).getD p none=none→w p≤s p)
 refine ⟨fun v hv=>h1 v (J2 hv),fun hv=>?_⟩
 cases q:x.getD p none with
 | some v=>rw [h1 v q]; exact hw p hp v q hv
 | none=>exact h2 q⟩
theorem eF {c:Cap} {m:Mv} {p:Nat} (hp:p<c.length):(o7 c m).getD p none=(c.getD p none).map fun x=>x+mvD m p:=by
 unfold o7 mvD
 rw [List.getD_eq_getElem?_getD,List.getElem?_map,List.getElem?_range hp]; rfl
theorem iU {c:Cap} {m:Mv} {p:Nat} {v:Int} (hm:okN c.length m) (ha:N9 c m=true) (hp:p<c.length) (hv:c.getD p none=some v):m.1.getD p 0≤v:=by
 have hu:=gA ha (p:=p) (by rw [List.length_map,hm.1]; exact hp)
 have e1:(m.1.map some).getD p none=some (m.1.getD p 0):=by
  rw [List.getD_eq_getElem?_getD,List.getElem?_map,List.getD_eq_getElem?_getD,List.getElem?_eq_getElem (by rw [hm.1]; exact hp)]; rfl
 rw [e1,hv] at hu
 exact of_decide_eq_true hu
theorem uX {n:Nat} {ms:List Mv} {c:Cap} {k:Nat} {w:Nat→Int} (hc:c.length=n) (hk:k<ms.length) (hm:okN n (mvN ms k)) (ha:N9 c (mvN ms k)=true):ldB n ms c (ahW ms [k] 1 w) [([k],1)] (o7 c (mvN ms k)) w:=fun s hs=>by
 have hh:∀ p,hur ms [k] p=max ((mvN ms k).1.getD p 0) (0-mvD (mvN ms k) p):=fun p=>rfl
 have hd:∀ p,dsp ms [k] p=mvD (mvN ms k) p+0:=fun p=>rfl
 refine ⟨⟨⟨Int.le_refl 1,by simpa using hk,by simp,fun p hp=>?_⟩,trivial⟩,fun p hp=>?_⟩
 ·obtain ⟨h1,h2⟩:=hs p hp
  show hur ms [k] p≤s p∧hur ms [k] p≤s p+(1-1)*dsp ms [k] p
  rw [show (1:Int)-1=0 from rfl,Int.zero_mul,Int.add_zero]
  suffices hur ms [k] p≤s p from ⟨this,this⟩
  cases q:c.getD p none with
  | some v=>
   have h3:=iU (by rw [hc]; exact hm) ha (by omega) q
   have h4:=bd hm.2.2.2 p
   rw [h1 v q,hh]
   exact Int.max_le.mpr ⟨h3,lP h3 h4⟩
  | none=>
   have h2:=h2 q
   unfold ahW at h2
   exact (Int.max_le.mp (Int.max_le.mp h2).1).1
 ·obtain ⟨h1,h2⟩:=hs p hp
  have hsh:w4 ms [([k],1)] s p=s p+1*dsp ms [k] p:=rfl
  rw [hsh,eF (by omega),hd]
  cases q:c.getD p none with
  | some v=>
   refine ⟨fun u hu=>?_,fun hu=>by cases hu⟩
   have hu:v+mvD (mvN ms k) p=u:=Option.some.inj hu
   rw [h1 v q,Int.one_mul,Int.add_zero]
   exact hu
  | none=>
   refine ⟨fun u hu=>(by cases hu),fun _=>?_⟩
   have h2:=h2 q
   unfold ahW at h2
   rw [hd] at h2
   exact lO (Int.max_le.mp h2).2 (by rw [Int.neg_mul,Int.neg_neg])
noncomputable def ae (es:List GEnt) (a:Nat):Nat:=(es.getD (a-1) ([],0,0)).2.2
noncomputable def F0 (es:List GEnt) (q j:Nat):List Nat:=((i5 es j).takeWhile fun a=>decide (a≠q)).reverse
noncomputable def r9 (es:List GEnt) (q j:Nat):List Nat:=(F0 es q j).map (ae es)
theorem bZ {es:List GEnt} (hp:C3 es) {q:Nat} (hq:q≤es.length):F0 es q q = []:=by
 unfold F0
 cases q with
 | zero=>rw [B5]; rfl
 | succ i=>
  rw [j9 hp (List.getElem?_eq_getElem (show i<es.length by omega)),List.takeWhile_cons]
  simp
theorem fL {es:List GEnt} (hp:C3 es) {q i:Nat} {e:GEnt} (he:es[i]?=some e) (hq:q≠i+1):F0 es q (i+1)=F0 es q e.2.1 ++ [i+1]:=by
 unfold F0
 rw [j9 hp he,List.takeWhile_cons,if_pos (by simpa using fun h=>hq h.symm),List.reverse_cons]
theorem fb {es:List GEnt} {i:Nat} {e:GEnt} (he:es[i]?=some e):ae es (i+1)=e.2.2:=by
 unfold ae
 rw [Nat.add_sub_cancel,getD_at he]
theorem bU {es:List GEnt} (hp:C3 es) {q i:Nat} {e:GEnt} (he:es[i]?=some e) (hq:q≠i+1):r9 es q (i+1)=r9 es q e.2.1 ++ [e.2.2]:=by
 unfold r9
 rw [fL hp he hq,List.map_append,List.map_singleton,fb he]
theorem pJ {es:List GEnt} (hp:C3 es) {q j:Nat} (hj:j≤es.length):(r9 es q j).length≤j+1:=by
 unfold r9 F0
 rw [List.length_map,List.length_reverse]
 have h1:=(List.takeWhile_sublist (fun a=>decide (a≠q)) (l:=i5 es j)).length_le
 have h2:=(E7 hp j hj).2
 omega
section
variable {c:Cap} {ms:List Mv} {es:List GEnt} {A kk:Nat}
theorem tX (h:GK c ms es A kk) {q:Nat}:∀ j,j≤es.length→q∈i5 es j→∀ k∈r9 es q j,k<ms.length:=by
 intro j
 induction j using Nat.strongRecOn with
 | _ j ih=>
  intro hj hq
  by_cases e:q=j
  ·subst e
   unfold r9
   rw [bZ h.par hj]
   intro k hk; cases hk
  ·cases j with
   | zero=>rw [B5] at hq; exact absurd (List.mem_singleton.mp hq) e
   | succ i=>
    have he:es[i]?=some es[i]:=List.getElem?_eq_getElem (by omega)
    have hp:=h.par i _ he
    rw [j9 h.par he] at hq
    have hq:q∈i5 es es[i].2.1:=by
     rcases List.mem_cons.mp hq with q' | q'
     ·exact absurd q' e
     ·exact q'
    rw [bU h.par he e]
    intro k hk
    rcases List.mem_append.mp hk with k' | k'
    ·exact ih es[i].2.1 (by omega) (by omega) hq k k'
    ·rw [List.mem_singleton.mp k']; exact h.k8 _ (List.mem_of_getElem? he)
theorem uJ (h:GK c ms es A kk) (hm:∀ m∈ms,okN c.length m) (hc:nnC c) {q p:Nat} (hp:p<c.length):∀ j,j≤es.length→q∈i5 es j→∀ v,(sC c es j).getD p none=some v→∃ u,(sC c es q).getD p none=some u∧u+dsp ms (r9 es q j) p=v∧hur ms (r9 es q j) p≤u:=by
 intro j
 induction j using Nat.strongRecOn with
 | _ j ih=>
  intro hj hq v hv
  by_cases e:q=j
  ·subst e
   refine ⟨v,hv,?_⟩
   have:r9 es q q = []:=by unfold r9; rw [bZ h.par hj]; rfl
   rw [this]
   have h0:=h.nng hm hc _ (bT hj) p v hv
   exact ⟨Int.add_zero v,h0⟩
  ·cases j with
   | zero=>rw [B5] at hq; exact absurd (List.mem_singleton.mp hq) e
   | succ i=>
    have he:es[i]?=some es[i]:=List.getElem?_eq_getElem (by omega)
    have hpa:=h.par i _ he
    have hk:=h.k8 _ (List.mem_of_getElem? he)
    rw [j9 h.par he] at hq
    have hq:q∈i5 es es[i].2.1:=by
     rcases List.mem_cons.mp hq with q' | q'
     ·exact absurd q' e
     ·exact q'
    obtain ⟨hab,hbe,_⟩:=h.beh i _ he
    rw [gX he,hbe] at hv
    unfold o6 at hv
    have hv:=jm _ _ hv
    have hsl:=E5 h.len (a:=es[i].2.1) (by omega)
    rw [eF (by omega)] at hv
    cases hu:(sC c es es[i].2.1).getD p none with
    | none=>rw [hu] at hv; cases hv
    | some u'=>
     rw [hu] at hv
     have hv:u'+mvD (mvN ms es[i].2.2) p=v:=Option.some.inj hv
     obtain ⟨u,eu,ed,eh⟩:=ih es[i].2.1 (by omega) (by omega) hq u' hu
     have hok:okN (sC c es es[i].2.1).length (mvN ms es[i].2.2):=by rw [hsl]; exact getM hm hk
     have h3:=iU hok hab (by omega) hu
     have h4:=bd hok.2.2.2 p
     have ed1:mvD (mvN ms es[i].2.2) p=(mvN ms es[i].2.2).2.getD p 0-(mvN ms es[i].2.2).1.getD p 0:=rfl
     have hh:hur ms [es[i].2.2] p=max ((mvN ms es[i].2.2).1.getD p 0) (0-mvD (mvN ms es[i].2.2) p):=rfl
     have hd:dsp ms [es[i].2.2] p=mvD (mvN ms es[i].2.2) p+0:=rfl
     rw [bU h.par he e]
     exact ⟨u,eu,by rw [cG,hd,Int.add_zero,← Int.add_assoc,ed]; exact hv,jW eh (by rw [hh,ed]; exact Int.max_le.mpr ⟨h3,by rw [ed1]; exact lP h3 h4⟩)⟩
end
noncomputable def srcL (g t p:List Int):List Int:=(List.range g.length).map fun k=>max (t.getD k 0) (g.getD k 0-p.getD k 0+t.getD k 0)
theorem mJ {g t p:List Int} (ht:t.length=g.length) (hp:p.length=g.length) (hg:g.length≤6):Y0 [tI g,.tup [tI t,tI p]]=.ok (tI (srcL g t p)):=by
 have a0:L2.atI [tI t,tI p] 0=some (tI t):=rfl
 have a1:L2.atI [tI t,tI p] 1=some (tI p):=rfl
 have hz:=wQ (tI g) (tI t) (tI p) _ _ _ rfl rfl rfl
 rw [tz ht hp] at hz
 exists rpB,df,a0,a1,hz
 have e:∀ N mg me ρ (h:∀ k,k<g.length→∃ ρ1,mg (.tup [.int (g.getD k 0),.int (t.getD k 0),.int (p.getD k 0)]) (ρ++List.replicate (N-ρ.length) Sl.un)=some ρ1∧me ρ1=.ok (.int (max (t.getD k 0) (g.getD k 0-p.getD k 0+t.getD k 0)))),m5 N mg yes me ((List.range g.length).map fun k=>.tup [.int (g.getD k 0),.int (t.getD k 0),.int (p.getD k 0)]) ρ=.ok (lI (srcL g t p)):=fun N mg me ρ h=>by
  rw [l4 (fun k=>.int (max (t.getD k 0) (g.getD k 0-p.getD k 0+t.getD k 0))) _ _ ρ (by simpa using (by omega:g.length≤1000)) (fun k hk=>h k (by simpa using hk)),db]
  rfl
 rw [e]
 ·exists rp18
 ·intro k hk
  refine ⟨_,rfl,?_⟩
  exists rp18
theorem vO {z:W} {k:Int} (h:1≤k∧k≤1000):fRepT (.tup [z]) (.int k)=.ok (.tup (List.replicate k.toNat [z]).flatten):=by
 show (if _ then _ else _)=_
 rw [if_pos ⟨List.cons_ne_nil _ _,by simp; omega,h.1,h.2⟩]
noncomputable def tp (ms:List Mv) (k:Nat) (r:Int):Int×Int:=((ms.getD r.toNat ([],[])).1.getD k 0,(ms.getD r.toNat ([],[])).2.getD k 0)
noncomputable def col (ms:List Mv) (k:Nat) (rs:List Int):List (Int×Int):=rs.map (tp ms k)
noncomputable def iI:List (Int×Int)→Int
 | []=>0
 | a::r=>max a.1 (iI r-a.2+a.1)
noncomputable def W5:List (Int×Int)→Int
 | []=>0
 | a::r=>a.2-a.1+W5 r
theorem gI:∀ (a b:List (Int×Int)),W5 (a++b)=W5 a+W5 b
 | [],b=>by simp [W5]
 | x::a,b=>by simp only [List.cons_append,W5,gI a b]; omega
noncomputable def ao (n:Nat) (ms:List Mv) (rs:List Int):List Int:=(List.range n).map fun k=>iI (col ms k rs)
noncomputable def W4 (n:Nat) (ms:List Mv) (rs:List Int):List Int:=(List.range n).map fun k=>W5 (col ms k rs)
theorem br (n:Nat) (ms:List Mv) (rs:List Int):(ao n ms rs).length=n:=by simp [ao]
theorem gG (n:Nat) (ms:List Mv) (rs:List Int):(W4 n ms rs).length=n:=by simp [W4]
theorem zeros (n:Nat) (f:Nat→Int) (h:∀ k,f k=0):List.replicate n (0:Int)=(List.range n).map f:=by
 apply List.ext_getElem
 ·simp
 ·intro i h1 h2; simp [h]
theorem dR {b:List Int} {w:W} (h1:1≤b.length) (h6:b.length≤6):K1 [.tup [tI b,w]]=.ok (tI (List.replicate b.length 0)):=by
 have a0:L2.atI [tI b,w] 0=some (tI b):=rfl
 exists rpB,ca,a0,vO
noncomputable abbrev okR (ms:List Mv) (rs:List Int):Prop:=∀ r∈rs,0≤r∧r<(ms.length:Int)
theorem nY {b:List Int} {ms:List Mv} {rs:List Int} (h1:1≤b.length) (h6:b.length≤6) (hm:∀ m∈ms,okN b.length m) (hr:okR ms rs):N5 [.tup [tI b,tM_ ms],lI rs]=.ok (tI (ao b.length ms rs)):=by
 have fin:Ok (N5 [.tup [tI b,tM_ ms],lI rs]) fun v=>v=tI (ao b.length ms rs):=by
  have k0:=dR (b:=b) (w:=tM_ ms) h1 h6
  have a1:L2.atI [tI b,tM_ ms] 1=some (tM_ ms):=rfl
  exists rpB,di,k0
  rw [← List.map_reverse]
  refine u5 (x6 (fun i ρ=>∃ (a:Sl),ρ = [.par (.tup [tI b,tM_ ms]),.par (lI rs),.val (tI (ao b.length ms (rs.reverse.take i).reverse)),a]) ⟨.un,by rw [zeros b.length (fun k=>iI (col ms k [])) (fun _=>rfl)]; rfl⟩ ?_ ?_)
  ·rintro i w ρ hw ⟨a,rfl⟩
   obtain ⟨hi,rfl⟩:=nN hw
   have hri:0≤rs.reverse.getD i 0∧rs.reverse.getD i 0<(ms.length:Int):=memD (P:=fun r=>0≤r∧r<(ms.length:Int)) (fun r h=>hr r (List.mem_reverse.mp h)) hi
   have e1:=atM hri.1 hri.2
   have hk:=getM hm (show (rs.reverse.getD i 0).toNat<ms.length by omega)
   have e2:=mJ (g:=ao b.length ms (rs.reverse.take i).reverse) (t:=(ms.getD (rs.reverse.getD i 0).toNat ([],[])).1) (p:=(ms.getD (rs.reverse.getD i 0).toNat ([],[])).2) (by rw [br,hk.1]) (by rw [br,hk.2.1]) (by rw [br]; exact h6)
   refine ⟨_,rfl,?_⟩
   exists a1,e1,e2
   refine ⟨.par (.int (rs.reverse.getD i 0)),?_⟩
   have:srcL (ao b.length ms (rs.reverse.take i).reverse) (ms.getD (rs.reverse.getD i 0).toNat ([],[])).1 (ms.getD (rs.reverse.getD i 0).toNat ([],[])).2=ao b.length ms (rs.reverse.take (i+1)).reverse:=by
    have q:(rs.reverse.take (i+1)).reverse=rs.reverse.getD i 0::(rs.reverse.take i).reverse:=by
     rw [List.take_succ,List.reverse_append,List.getD_eq_getElem?_getD]
     simp only [List.getElem?_eq_getElem hi]; rfl
    rw [q]
    unfold srcL
    rw [br]
    refine List.map_congr_left fun k hk=>?_
    rw [show (ao b.length ms (rs.reverse.take i).reverse).getD k 0=_ from F7 (by simpa using hk)]
    rfl
   rw [this]
  ·rintro ρ ⟨a,rfl⟩
   rw [List.length_map,List.take_length,List.reverse_reverse]
   exists rp18
 obtain ⟨v,e,rfl⟩:=fin
 exact e
theorem kG {g d:List Int} {z:Int} (hl:d.length=g.length) (h6:g.length≤1000) (hz:-1000000≤z∧z≤1000000):A8 [tI g,tI d,.int z]=.ok (tI ((List.range g.length).map fun k=>g.getD k 0+z*d.getD k 0)):=by
 have hzz:=W1 (tI g) (tI d) _ _ rfl rfl
 rw [cv hl] at hzz
 exists rpB,Z5,hzz
 have e:∀ N mg me ρ (h:∀ k,k<g.length→∃ ρ1,mg (.tup [.int (g.getD k 0),.int (d.getD k 0)]) (ρ++List.replicate (N-ρ.length) Sl.un)=some ρ1∧me ρ1=.ok (.int (g.getD k 0+z*d.getD k 0))),m5 N mg yes me ((List.range g.length).map fun k=>W.tup [.int (g.getD k 0),.int (d.getD k 0)]) ρ=.ok (lI ((List.range g.length).map fun k=>g.getD k 0+z*d.getD k 0)):=fun N mg me ρ h=>by
  rw [l4 (fun k=>.int (g.getD k 0+z*d.getD k 0)) _ _ ρ (by simpa using h6) (fun k hk=>h k (by simpa using hk)),db]
 rw [e]
 ·exists rp18
 ·intro k hk
  refine ⟨_,rfl,?_⟩
  exists rp18
theorem rK {ms:List Mv} {k i:Nat} {rs:List Int} (h:i<rs.length):col ms k (rs.take (i+1))=col ms k (rs.take i) ++ [tp ms k (rs.getD i 0)]:=by
 unfold col
 rw [List.take_succ,List.map_append,List.getD_eq_getElem?_getD]
 simp only [List.getElem?_eq_getElem h]; rfl
theorem xq {b:List Int} {ms:List Mv} {rs:List Int} (h1:1≤b.length) (h6:b.length≤6) (hm:∀ m∈ms,okN b.length m) (hr:okR ms rs):B1 [.tup [tI b,tM_ ms],lI rs]=.ok (tI (W4 b.length ms rs)):=by
 have fin:Ok (B1 [.tup [tI b,tM_ ms],lI rs]) fun v=>v=tI (W4 b.length ms rs):=by
  have k0:=dR (b:=b) (w:=tM_ ms) h1 h6
  have a1:L2.atI [tI b,tM_ ms] 1=some (tM_ ms):=rfl
  exists rpB,de,k0
  refine u5 (x6 (fun i ρ=>∃ (a:Sl),ρ = [.par (.tup [tI b,tM_ ms]),.par (lI rs),.val (tI (W4 b.length ms (rs.take i))),a]) ⟨.un,by rw [zeros b.length (fun k=>W5 (col ms k [])) (fun _=>rfl)]; rfl⟩ ?_ ?_)
  ·rintro i w ρ hw ⟨a,rfl⟩
   obtain ⟨hi,rfl⟩:=nN hw
   have hri:0≤rs.getD i 0∧rs.getD i 0<(ms.length:Int):=memD (P:=fun r=>0≤r∧r<(ms.length:Int)) hr hi
   have e1:=atM hri.1 hri.2
   have hk:=getM hm (show (rs.getD i 0).toNat<ms.length by omega)
   have e2:=fY h6 hk
   have e3:=kG (g:=W4 b.length ms (rs.take i)) (d:=(List.range b.length).map fun k=>(ms.getD (rs.getD i 0).toNat ([],[])).2.getD k 0-(ms.getD (rs.getD i 0).toNat ([],[])).1.getD k 0) (z:=1) (by simp [W4]) (by rw [gG]; omega) (by omega)
   refine ⟨_,rfl,?_⟩
   exists a1,e1,e2,e3
   refine ⟨.par (.int (rs.getD i 0)),?_⟩
   rw [gG]
   have:((List.range b.length).map fun k=>(W4 b.length ms (rs.take i)).getD k 0+1*((List.range b.length).map fun k=>(ms.getD (rs.getD i 0).toNat ([],[])).2.getD k 0-(ms.getD (rs.getD i 0).toNat ([],[])).1.getD k 0).getD k 0)=W4 b.length ms (rs.take (i+1)):=by
    refine List.map_congr_left fun k hk=>?_
    have hk:k<b.length:=by simpa using hk
    rw [F7 hk,show (W4 b.length ms (rs.take i)).getD k 0=_ from F7 hk,rK hi,gI,Int.one_mul]
    simp only [W5,tp]; omega
   rw [this]
  ·rintro ρ ⟨a,rfl⟩
   rw [List.length_map,List.take_length]
   exists rp18
 obtain ⟨v,e,rfl⟩:=fin
 exact e
noncomputable abbrev vF (n:Nat) (f:Nat→Int):List Int:=(List.range n).map f
theorem W2 (n:Nat) (f:Nat→Int):(vF n f).length=n:=by simp
theorem xb (ms:List Mv) (p k:Nat):tp ms p (k:Int)=((mvN ms k).1.getD p 0,(mvN ms k).2.getD p 0):=by
 unfold tp mvN
 rw [Int.toNat_natCast]
theorem jV (ms:List Mv) (p:Nat):∀ r:List Nat,iI (col ms p (pz r))=hur ms r p
 | []=>rfl
 | k::r=>by
  show max (tp ms p (k:Int)).1 (iI (col ms p (pz r))-(tp ms p (k:Int)).2+(tp ms p (k:Int)).1)=max ((mvN ms k).1.getD p 0) (hur ms r p-mvD (mvN ms k) p)
  rw [jV ms p r,xb]
  unfold mvD
  congr 1
  omega
theorem jq (ms:List Mv) (p:Nat):∀ r:List Nat,W5 (col ms p (pz r))=dsp ms r p
 | []=>rfl
 | k::r=>by
  show (tp ms p (k:Int)).2-(tp ms p (k:Int)).1+W5 (col ms p (pz r))=mvD (mvN ms k) p+dsp ms r p
  rw [jq ms p r,xb]; rfl
theorem nG {ms:List Mv} {r:List Nat} (h:∀ k∈r,k<ms.length):okR ms (pz r):=fun x hx=>by
 obtain ⟨k,hk,rfl⟩:=List.mem_map.mp hx
 have:=h k hk
 omega
theorem vE {b:List Int} {ms:List Mv} {r:List Nat} (h1:1≤b.length) (h6:b.length≤6) (hm:∀ m∈ms,okN b.length m) (hr:∀ k∈r,k<ms.length):N5 [.tup [tI b,tM_ ms],lI (pz r)]=.ok (tI (vF b.length (hur ms r))):=by
 rw [nY h1 h6 hm (nG hr)]
 unfold ao
 simp only [jV]
theorem jr {b:List Int} {ms:List Mv} {r:List Nat} (h1:1≤b.length) (h6:b.length≤6) (hm:∀ m∈ms,okN b.length m) (hr:∀ k∈r,k<ms.length):B1 [.tup [tI b,tM_ ms],lI (pz r)]=.ok (tI (vF b.length (dsp ms r))):=by
 rw [xq h1 h6 hm (nG hr)]
 unfold W4
 simp only [jq]
theorem fF {n:Nat} {g d:Nat→Int} {z:Int} (h6:n≤6) (hd:∀ p,p<n→-18446744073709551616<d p∧d p<18446744073709551616):A8 [tI (vF n g),tI (vF n d),.int z]=.ok (tI (vF n fun p=>g p+z*d p)):=by
 have hzz:=W1 (tI (vF n g)) (tI (vF n d)) _ _ rfl rfl
 rw [cv (by rw [W2,W2]),W2] at hzz
 exists rpB,Z5,hzz
 have e:∀ N mg me ρ (h:∀ k,k<n→∃ ρ1,mg (.tup [.int ((vF n g).getD k 0),.int ((vF n d).getD k 0)]) (ρ++List.replicate (N-ρ.length) Sl.un)=some ρ1∧me ρ1=.ok (.int (g k+z*d k))),m5 N mg yes me ((List.range n).map fun k=>W.tup [.int ((vF n g).getD k 0),.int ((vF n d).getD k 0)]) ρ=.ok (lI (vF n fun p=>g p+z*d p)):=fun N mg me ρ h=>by
  rw [l4 (fun k=>.int (g k+z*d k)) _ _ ρ (by simp; omega) (fun k hk=>h k (by simpa using hk)),db]
 rw [e]
 ·exists rp18
 ·intro k hk
  have q:=gq (i:=z) (hd k hk)
  refine ⟨_,rfl,?_⟩
  rw [F7 hk,F7 hk]
  exists q
theorem ij {n:Nat} {g d:Nat→Int} (h6:n≤6):C0 [tI (vF n g),tI (vF n d)]=.ok (tI (vF n fun p=>max (g p) (d p))):=by
 have hzz:=W1 (tI (vF n g)) (tI (vF n d)) _ _ rfl rfl
 rw [cv (by rw [W2,W2]),W2] at hzz
 exists rpB,X5,hzz
 have e:∀ N mg me ρ (h:∀ k,k<n→∃ ρ1,mg (.tup [.int ((vF n g).getD k 0),.int ((vF n d).getD k 0)]) (ρ++List.replicate (N-ρ.length) Sl.un)=some ρ1∧me ρ1=.ok (.int (max (g k) (d k)))),m5 N mg yes me ((List.range n).map fun k=>W.tup [.int ((vF n g).getD k 0),.int ((vF n d).getD k 0)]) ρ=.ok (lI (vF n fun p=>max (g p) (d p))):=fun N mg me ρ h=>by
  rw [l4 (fun k=>.int (max (g k) (d k))) _ _ ρ (by simp; omega) (fun k hk=>h k (by simpa using hk)),db]
 rw [e]
 ·exists rp18
 ·intro k hk
  refine ⟨_,rfl,?_⟩
  rw [F7 hk,F7 hk]
  exists rp18
noncomputable def W7 (ms:List Mv):Prop:=∀ m∈ms,∀ p,-10000000000≤mvD m p∧mvD m p≤10000000000
theorem T9 {ms:List Mv} (h:W7 ms) (p:Nat):∀ r:List Nat,(∀ k∈r,k<ms.length)→-((r.length:Int)*10000000000)≤dsp ms r p∧dsp ms r p≤(r.length:Int)*10000000000
 | [],_=>by show -(((0:Nat):Int)*_)≤0∧0≤((0:Nat):Int)*_; omega
 | k::r,hr=>by
  have hk:=hr k List.mem_cons_self
  have h1:=h (mvN ms k) (by unfold mvN; rw [List.getD_eq_getElem?_getD,List.getElem?_eq_getElem hk]; exact List.getElem_mem _) p
  have h2:=T9 h p r fun q hq=>hr q (List.mem_cons_of_mem _ hq)
  have e:dsp ms (k::r) p=mvD (mvN ms k) p+dsp ms r p:=rfl
  rw [e,List.length_cons]
  omega
theorem wS {b:List Int} {ms:List Mv} {r:List Nat} {t:Int} {w:Nat→Int} (h1:1≤b.length) (h6:b.length≤6) (hm:∀ m∈ms,okN b.length m) (hs:W7 ms) (hr:∀ k∈r,k<ms.length) (hl:r.length≤100):t5 [.tup [tI b,tM_ ms],lI (pz r),.int t,tI (vF b.length w)]=.ok (tI (vF b.length (ahW ms r t w))):=by
 have k1:=vE h1 h6 hm hr
 have k2:=jr h1 h6 hm hr
 have hd:∀ p,p<b.length→-18446744073709551616<dsp ms r p∧dsp ms r p<18446744073709551616:=fun p _=>by
  have:=T9 hs p r hr
  omega
 have k3:=fF (n:=b.length) (g:=hur ms r) (d:=dsp ms r) (z:=1-t) h6 hd
 have k4:=ij (n:=b.length) (g:=hur ms r) (d:=fun p=>hur ms r p+(1-t)*dsp ms r p) h6
 have k5:=fF (n:=b.length) (g:=w) (d:=dsp ms r) (z:=-t) h6 hd
 have k6:=ij (n:=b.length) (g:=fun p=>max (hur ms r p) (hur ms r p+(1-t)*dsp ms r p)) (d:=fun p=>w p+(-t)*dsp ms r p) h6
 have e7:vF b.length (ahW ms r t w)=vF b.length fun p=>max (max (hur ms r p) (hur ms r p+(1-t)*dsp ms r p)) (w p+(-t)*dsp ms r p):=rfl
 rw [e7]
 generalize vF b.length (hur ms r)=g1 at *
 generalize vF b.length (dsp ms r)=g2 at *
 generalize (vF b.length fun p=>hur ms r p+(1-t)*dsp ms r p)=g3 at *
 generalize (vF b.length fun p=>max (hur ms r p) (hur ms r p+(1-t)*dsp ms r p))=g4 at *
 generalize (vF b.length fun p=>w p+(-t)*dsp ms r p)=g5 at *
 generalize (vF b.length fun p=>max (max (hur ms r p) (hur ms r p+(1-t)*dsp ms r p)) (w p+(-t)*dsp ms r p))=g6 at *
 generalize vF b.length w=g7 at *
 exists rpB,R1,k1,k2,k3,k4,k5,k6
noncomputable def aa (x:Cap) (st:Nat→Int) (P:List Nat) (w:Nat→Int):Int:=F1 (0::P.map fun p=>-(((x.getD p none).getD 0-w p)/st p))
theorem xg (x:Cap) (st:Nat→Int) (P:List Nat) (w:Nat→Int):0≤aa x st P w:=by
 have:=fm (ns:=0::P.map fun p=>-(((x.getD p none).getD 0-w p)/st p)) 0 (by simp)
 exact this
theorem xh {x:Cap} {st:Nat→Int} {P:List Nat} {w:Nat→Int} {p:Nat} {v:Int} (hp:p∈P) (hv:x.getD p none=some v) (hs:0<st p):w p≤v+aa x st P w*st p:=by
 have hm:-(((x.getD p none).getD 0-w p)/st p)∈0::P.map fun p=>-(((x.getD p none).getD 0-w p)/st p):=List.mem_cons_of_mem _ (List.mem_map.mpr ⟨p,hp,rfl⟩)
 obtain ⟨k,hk,ek⟩:=List.mem_iff_getElem.mp hm
 have:=fm (ns:=0::P.map fun p=>-(((x.getD p none).getD 0-w p)/st p)) k hk
 rw [List.getD_eq_getElem?_getD,List.getElem?_eq_getElem hk,ek] at this
 rw [hv] at this
 have this:-((v-w p)/st p)≤aa x st P w:=this
 have h2:=Int.mul_le_mul_of_nonneg_right (show -(aa x st P w)≤(v-w p)/st p by omega) (show 0≤st p by omega)
 have h3:=Int.ediv_mul_le (v-w p) (show st p≠0 by omega)
 rw [Int.neg_mul] at h2
 omega
theorem pe {n:Nat} {x:Cap} {st w:Nat→Int} {P:List Nat} (h6:n≤6) (hx:x.length=n) (hP:∀ p∈P,p<n∧(∃ v,x.getD p none=some v)∧0<st p∧st p≤1000000000000000000000) (hl:P.length≤6):E9 [tC x,tI (vF n st),tI (pz P),tI (vF n w)]=.ok (.int (aa x st P w)):=by
 have e:∀ N mg me ρ (h:∀ k∈P,∃ ρ1,mg (.int (k:Nat)) (ρ++List.replicate (N-ρ.length) Sl.un)=some ρ1∧me ρ1=.ok (.int (-(((x.getD k none).getD 0-w k)/st k)))),m5 N mg yes me ((pz P).map W.int) ρ=.ok (lI (P.map fun p=>-(((x.getD p none).getD 0-w p)/st p))):=fun N mg me ρ h=>by
  rw [aZ,l4 (fun k=>.int (-(((x.getD k none).getD 0-w k)/st k))) (fun k=>W.int (k:Nat)) _ ρ (by omega) h]
  exact congrArg (fun l=>R.ok (W.lst l)) (by rw [List.map_map]; rfl)
 have hc:lF true (.lst [.int 0]) (lI (P.map fun p=>-(((x.getD p none).getD 0-w p)/st p)))=.ok (lI (0::P.map fun p=>-(((x.getD p none).getD 0-w p)/st p))):=by
  have:(W.lst [W.int 0])=.lst (([0]:List Int).map W.int):=rfl
  rw [this,om (by simp; omega),← List.map_append]; rfl
 have hb:Z7 F1 [lI (0::P.map fun p=>-(((x.getD p none).getD 0-w p)/st p))]=.ok (.int (aa x st P w)):=fu (by simp)
 obtain ⟨ls,hls⟩:∃ ls,ls=lI (P.map fun p=>-(((x.getD p none).getD 0-w p)/st p)):=⟨_,rfl⟩
 obtain ⟨ls2,hls2⟩:∃ ls,ls=lI (0::P.map fun p=>-(((x.getD p none).getD 0-w p)/st p)):=⟨_,rfl⟩
 rw [← hls2] at hb hc
 rw [← hls] at e hc
 exists rpB,ag
 rw [e]
 rotate_left
 ·intro p hp
  obtain ⟨h1,⟨v,hv⟩,h3,h4⟩:=hP p hp
  have q1:=atO (cs:=x) (k:=p) (by omega)
  rw [hv] at q1
  have q2:L2.atI ((vF n w).map W.int) (p:Int)=some (.int (w p)):=Q4 (by rw [List.getElem?_map,List.getElem?_map,List.getElem?_range h1]; rfl)
  have q3:L2.atI ((vF n st).map W.int) (p:Int)=some (.int (st p)):=Q4 (by rw [List.getElem?_map,List.getElem?_map,List.getElem?_range h1]; rfl)
  have q4:=wf (i:=v-w p) h3 h4
  refine ⟨_,rfl,?_⟩
  rw [hv]
  exists q1,q2,q3,q4
  rfl
 exists hc,hb
theorem lZ {es:List GEnt} (hp:C3 es) {q:Nat}:∀ n,n≤es.length→q∈i5 es n→∃ R,i5 es n=((i5 es n).takeWhile fun a=>decide (a≠q))++q::R∧q∉R:=by
 intro n
 induction n using Nat.strongRecOn with
 | _ n ih=>
  intro hn hq
  by_cases e:q=n
  ·subst e
   cases q with
   | zero=>exact ⟨[],by rw [B5]; rfl,by simp⟩
   | succ i=>
    have he:es[i]?=some es[i]:=List.getElem?_eq_getElem (by omega)
    have hpa:=hp i _ he
    refine ⟨i5 es es[i].2.1,?_,fun h=>?_⟩
    ·rw [j9 hp he,List.takeWhile_cons,if_neg (by simp)]; rfl
    ·have:=(E7 hp es[i].2.1 (by omega)).1 _ h
     omega
  ·cases n with
   | zero=>rw [B5] at hq; exact absurd (List.mem_singleton.mp hq) e
   | succ i=>
    have he:es[i]?=some es[i]:=List.getElem?_eq_getElem (by omega)
    have hpa:=hp i _ he
    rw [j9 hp he] at hq ⊢
    have hq:q∈i5 es es[i].2.1:=by
     rcases List.mem_cons.mp hq with q' | q'
     ·exact absurd q' e
     ·exact q'
    obtain ⟨R,h1,h2⟩:=ih es[i].2.1 (by omega) (by omega) hq
    refine ⟨R,?_,h2⟩
    rw [List.takeWhile_cons,if_pos (by simpa using fun h=>e h.symm),List.cons_append,← h1]
noncomputable def ba (es:List GEnt) (n:Nat):List Nat:=(i5 es n).reverse
theorem kX {es:List GEnt} (hp:C3 es) {q n:Nat} (hn:n≤es.length) (hq:q∈i5 es n):∃ A,ba es n=A++q::F0 es q n∧q∉A:=by
 obtain ⟨R,h1,h2⟩:=lZ hp n hn hq
 refine ⟨R.reverse,?_,fun h=>h2 (List.mem_reverse.mp h)⟩
 unfold ba F0
 conv=>lhs; rw [h1]
 rw [List.reverse_append,List.reverse_cons,List.append_assoc]; rfl
theorem wR {c:Cap} {es:List GEnt} {n:Nat} (hp:C3 es) (hl:es.length≤100) (hn:n≤es.length):dY [.lst (h7 c es),.int (n:Int)]=.ok (lI (pz (ba es n))):=by
 have k:=aQ (c:=c) hp hl hn
 have e:lI (pz (ba es n))=.lst (((i5 es n).map fun (k:Nat)=>(k:Int)).reverse.map W.int):=by unfold pz ba; rw [List.map_reverse]
 rw [e]
 exists rpB,lw,k
theorem zU (p:Int):∀ qs:List Int,fo (.int p) (qs.map W.int)=qs.findIdx? fun q=>decide (q=p)
 | []=>rfl
 | q::qs=>by
  have g:=zU p qs
  have e:PyData.eqv (pd (.int q)) (pd (.int p))=decide (q=p):=by
   have:=eqI [q] [p]
   simpa [pds,PyData.eqvAll] using this
  unfold fo at g ⊢
  rw [List.map_cons,pds,List.findIdx?_cons,List.findIdx?_cons,g,e]
theorem qS {A B:List Nat} {q:Nat} (hq:q∉A) (hl:(A++q::B).length≤500):iH ((pz (A++q::B)).map W.int) (.int (q:Int))=.ok (.int (A.length:Int)):=by
 have e:(pz (A++q::B)).findIdx? (fun x=>decide (x=(q:Int)))=some A.length:=by
  rw [List.findIdx?_eq_some_iff_getElem]
  refine ⟨by rw [J8,List.length_append,List.length_cons]; omega,?_,fun j hj=>?_⟩
  ·unfold pz
   simp
  ·unfold pz
   have hjA:A[j]'hj≠q:=fun h=>hq (h ▸ List.getElem_mem _)
   rw [List.getElem_map,List.getElem_append_left hj]
   simp only [decide_eq_true_eq]
   omega
 unfold iH
 rw [Q8,gO,Bool.and_self,if_pos rfl,zU,e]
 exact if_pos (by rw [List.length_append,List.length_cons] at hl; omega)
theorem rE (l:List Nat) (j:Nat):bz (pz l) (some ((j:Int)+1)) none=pz (l.drop (j+1)):=by
 unfold bz
 rw [show ((j:Int)+1)=((j+1:Nat):Int) by omega,HT.sIx_nat,HT.sIx_none]
 have e:pz (l.drop (j+1))=(pz l).drop (j+1):=by unfold pz; rw [List.map_drop]
 rw [e]
 by_cases h:j+1≤(pz l).length
 ·rw [Nat.min_eq_left h]
  exact List.take_of_length_le (by rw [List.length_drop]; omega)
 ·rw [Nat.min_eq_right (by omega),Nat.sub_self,List.take_zero,List.drop_eq_nil_of_le (by omega)]
theorem jy {c:Cap} {es:List GEnt} {q:Nat} (h0:0<q) (h:q≤es.length):∃ x y:W,L2.atI (h7 c es) (q:Int)=some (.tup [x,y,.int (ae es q:Int)]):=by
 obtain ⟨i,rfl⟩:∃ i,q=i+1:=⟨q-1,by omega⟩
 have he:es[i]?=some es[i]:=List.getElem?_eq_getElem (by omega)
 refine ⟨tC es[i].1,.int (es[i].2.1:Int),(cx he).trans ?_⟩
 rw [fb he]
theorem qz {es:List GEnt} (hp:C3 es) {q:Nat}:∀ n,n≤es.length→q∈i5 es n→∀ a∈F0 es q n,0<a∧a≤es.length:=by
 intro n
 induction n using Nat.strongRecOn with
 | _ n ih=>
  intro hn hq a ha
  by_cases e:q=n
  ·subst e
   rw [bZ hp hn] at ha; cases ha
  ·cases n with
   | zero=>rw [B5] at hq; exact absurd (List.mem_singleton.mp hq) e
   | succ i=>
    have he:es[i]?=some es[i]:=List.getElem?_eq_getElem (by omega)
    have hpa:=hp i _ he
    rw [j9 hp he] at hq
    have hq:q∈i5 es es[i].2.1:=by
     rcases List.mem_cons.mp hq with q' | q'
     ·exact absurd q' e
     ·exact q'
    rw [fL hp he e] at ha
    rcases List.mem_append.mp ha with k' | k'
    ·exact ih es[i].2.1 (by omega) (by omega) hq a k'
    ·rw [List.mem_singleton.mp k']; omega
theorem tW {c:Cap} {es:List GEnt} {n q:Nat} (hp:C3 es) (hl:es.length≤90) (hn:n≤es.length) (hq:q∈i5 es n):A0 [.lst (h7 c es),.int (q:Int),.int (n:Int)]=.ok (lI (pz (r9 es q n))):=by
 have kw:=wR (c:=c) hp (by omega) hn
 obtain ⟨A,hA,hqA⟩:=kX hp hn hq
 have hwl:=(E7 hp n hn).2
 have hpl:(ba es n).length≤n+1:=by unfold ba; rw [List.length_reverse]; exact hwl
 rw [hA] at kw hpl
 have hj:=qS (B:=F0 es q n) hqA (by omega)
 have hcut:=rE (A++q::F0 es q n) A.length
 have hdr:(A++q::F0 es q n).drop (A.length+1)=F0 es q n:=by
  rw [List.drop_append,List.drop_eq_nil_of_le (by omega)]
  simp
 rw [hdr] at hcut
 rw [List.length_append,List.length_cons] at hpl
 have e:∀ N mg me ρ (h:∀ a∈F0 es q n,∃ ρ1,mg (.int (a:Nat)) (ρ++List.replicate (N-ρ.length) Sl.un)=some ρ1∧me ρ1=.ok (.int (ae es a:Int))),m5 N mg yes me ((pz (F0 es q n)).map W.int) ρ=.ok (lI (pz (r9 es q n))):=fun N mg me ρ h=>by
  rw [aZ,l4 (fun a=>.int (ae es a:Int)) (fun (a:Nat)=>W.int (a:Int)) _ ρ (by omega) h]
  refine congrArg (fun l=>R.ok (W.lst l)) ?_
  unfold r9
  rw [aZ,List.map_map]; rfl
 have hnp:=qz hp n hn hq
 have hsel:∀ a,0<a→a≤es.length→∃ x y:W,L2.atI (h7 c es) (a:Int)=some (.tup [x,y,.int (ae es a:Int)]):=fun a h0 h=>jy h0 h
 generalize pz (r9 es q n)=g1 at *
 generalize hg2:pz (F0 es q n)=g2 at *
 generalize pz (A++q::F0 es q n)=g3 at *
 obtain ⟨rw_,hrw⟩:∃ rw_,rw_=h7 c es:=⟨_,rfl⟩
 rw [← hrw] at kw hsel
 rw [← hrw]
 exists rpB,U3,kw,hj,hcut
 rw [e]
 ·exists rp18
 ·intro a ha
  obtain ⟨h0,h1⟩:=hnp a ha
  obtain ⟨x,y,er⟩:=hsel a h0 h1
  have b2:L2.atI [x,y,.int (ae es a:Int)] 2=some (.int (ae es a:Int)):=rfl
  refine ⟨_,rfl,?_⟩
  exists er,b2
noncomputable def chn (c:Cap) (es:List GEnt):Cap→List (Nat×List Nat)→Cap→Prop
 | x,[],y=>x=y
 | x,f::L,y=>(f.2=plc x (j0 x (sC c es f.1))∧f.2 ≠ [])∧chn c es (j0 x (sC c es f.1)) L y
theorem uC {x h:Cap} (hl:h.length=x.length) (hp:plc x h = []):h=x:=by
 refine List.ext_getElem? fun k=>?_
 by_cases hk:k<x.length
 ·have:¬ (h.getD k none≠x.getD k none):=fun q=>by
   have:k∈plc x h:=List.mem_filter.mpr ⟨List.mem_range.mpr hk,decide_eq_true q⟩
   rw [hp] at this; cases this
  have this:h.getD k none=x.getD k none:=by
   by_cases q:h.getD k none=x.getD k none
   ·exact q
   ·exact absurd q this
  rw [List.getD_eq_getElem?_getD,List.getD_eq_getElem?_getD,List.getElem?_eq_getElem hk,List.getElem?_eq_getElem (by omega)] at this
  rw [List.getElem?_eq_getElem hk,List.getElem?_eq_getElem (by omega)]
  exact congrArg some this
 ·rw [List.getElem?_eq_none (by omega),List.getElem?_eq_none (by omega)]
theorem fj {c:Cap} {es:List GEnt}:∀ (l:List Nat) (x:Cap),chn c es x (lfs c es l x) (upC c es l x)
 | [],_=>rfl
 | q::l,x=>by
  show chn c es x ((if plc x (j0 x (sC c es q)) = [] then [] else [(q,plc x (j0 x (sC c es q)))])++lfs c es l (j0 x (sC c es q))) (upC c es l (j0 x (sC c es q)))
  by_cases h:plc x (j0 x (sC c es q)) = []
  ·rw [if_pos h,uC (N3 _ _) h]
   exact fj l x
  ·rw [if_neg h]
   exact ⟨⟨rfl,h⟩,fj l _⟩
theorem jO {c:Cap} {es:List GEnt}:∀ (l:List Nat) (x:Cap),∀ f∈lfs c es l x,f.1∈l
 | [],_,f,hf=>by cases hf
 | q::l,x,f,hf=>by
  rcases List.mem_append.mp hf with h | h
  ·by_cases e:plc x (j0 x (sC c es q)) = []
   ·rw [if_pos e] at h; cases h
   ·rw [if_neg e] at h
    rw [List.mem_singleton.mp h]; exact List.mem_cons_self
  ·exact List.mem_cons_of_mem _ (jO l _ f h)
theorem iP {c:Cap} {es:List GEnt} {f:Nat×List Nat} {y:Cap}:∀ {L:List (Nat×List Nat)} {x:Cap},chn c es x (L ++ [f]) y→∃ z,chn c es x L z∧f.2=plc z y∧f.2 ≠ []∧y=j0 z (sC c es f.1)
 | [],x,⟨⟨h1,h2⟩,h3⟩=>⟨x,rfl,by have h3:j0 x (sC c es f.1)=y:=h3; rw [← h3]; exact h1,h2,h3.symm⟩
 | g::L,x,⟨h1,h2⟩=>by
  obtain ⟨z,hz,r⟩:=iP (L:=L) h2
  exact ⟨z,⟨h1,hz⟩,r⟩
theorem iO {c:Cap} {es:List GEnt} {y:Cap}:∀ {L:List (Nat×List Nat)} {x:Cap},chn c es x L y→y.length=x.length∧∀ p v,y.getD p none=some v→x.getD p none=some v
 | [],x,h=>by have h:x=y:=h; subst h; exact ⟨rfl,fun _ _ h=>h⟩
 | g::L,x,⟨_,h2⟩=>by
  obtain ⟨h3,h4⟩:=iO (L:=L) h2
  exact ⟨by rw [h3,N3],fun p v hv=>J2 (h4 p v hv)⟩
noncomputable def N4 (x:Cap):Nat:=(List.range x.length).countP fun k=>(x.getD k none).isSome
theorem ft (x:Cap):N4 x≤x.length:=by
 unfold N4
 have:=List.countP_le_length (p:=fun k=>(x.getD k none).isSome) (l:=List.range x.length)
 rwa [List.length_range] at this
theorem fW {α:Type} {p q:α→Bool}:∀ {l:List α},(∀ a∈l,p a=true→q a=true)→(∃ a∈l,p a=false∧q a=true)→l.countP p<l.countP q
 | [],_,⟨a,ha,_⟩=>by cases ha
 | b::l,h,⟨a,ha,h1,h2⟩=>by
  rw [List.countP_cons,List.countP_cons]
  rcases List.mem_cons.mp ha with rfl | ha
  ·have:=List.countP_mono_left (l:=l) (p:=p) (q:=q) fun x hx=>h x (List.mem_cons_of_mem _ hx)
   rw [h1,h2]
   simp
   omega
  ·have:=fW (l:=l) (p:=p) (q:=q) (fun x hx=>h x (List.mem_cons_of_mem _ hx)) ⟨a,ha,h1,h2⟩
   have hb:=h b List.mem_cons_self
   cases hp:p b
   ·simp; split <;> omega
   ·rw [hb hp]; simp; omega
theorem vN {z y:Cap} {p:Nat} {v:Int} (hl:y.length=z.length) (hs:∀ p v,y.getD p none=some v→z.getD p none=some v) (hp:p<z.length) (h1:z.getD p none=some v) (h2:y.getD p none=none):N4 y<N4 z:=by
 unfold N4
 rw [hl]
 refine fW (fun k _ hk=>?_) ⟨p,List.mem_range.mpr hp,by rw [h2]; rfl,by rw [h1]; rfl⟩
 cases q:y.getD k none with
 | none=>rw [q] at hk; cases hk
 | some u=>rw [hs k u q]; rfl
theorem rm {c:Cap} {m:Mv}:N4 (o7 c m)=N4 c:=by
 unfold N4
 rw [K3]
 refine List.countP_congr fun k hk=>?_
 rw [eF (List.mem_range.mp hk)]
 cases c.getD k none <;> simp
theorem gu {es:List GEnt} (hp:C3 es):∀ n,n≤es.length→∀ j a,(i5 es n)[j]?=some a→(i5 es n).drop j=i5 es a:=by
 intro n
 induction n using Nat.strongRecOn with
 | _ n ih=>
  intro hn j a ha
  cases n with
  | zero=>
   rw [B5] at ha ⊢
   cases j with
   | zero=>cases ha; exact (B5 es).symm
   | succ j=>cases ha
  | succ i=>
   have he:es[i]?=some es[i]:=List.getElem?_eq_getElem (by omega)
   have hpa:=hp i _ he
   cases j with
   | zero=>
    rw [j9 hp he] at ha
    cases ha; rfl
   | succ j=>
    rw [j9 hp he] at ha ⊢
    exact ih es[i].2.1 (by omega) (by omega) j a ha
theorem rD (l:List Nat):bz (pz l) none (some (-1))=pz l.dropLast:=by
 have e:pz l.dropLast=(pz l).dropLast:=by unfold pz; rw [List.map_dropLast]
 rw [e]
 unfold bz
 rw [HT.sIx_none,List.drop_zero,List.dropLast_eq_take]
 congr 1
 unfold HT.sIx
 simp
 omega
noncomputable abbrev blW (b:Blk):W:=.tup [lI (pz b.1),.int b.2]
theorem jF {x e:Cap} {p:Nat} (h:p∈plc x (j0 x e)):p<x.length∧(∃ v,x.getD p none=some v)∧(j0 x e).getD p none=none:=by
 unfold plc at h
 obtain ⟨h1,h2⟩:=List.mem_filter.mp h
 have h1:=List.mem_range.mp h1
 have h2:(j0 x e).getD p none≠x.getD p none:=of_decide_eq_true h2
 refine ⟨h1,?_,?_⟩
 ·cases q:x.getD p none with
  | some v=>exact ⟨v,rfl⟩
  | none=>
   exfalso
   refine h2 ?_
   rw [q]
   cases q2:(j0 x e).getD p none with
   | none=>rfl
   | some v=>rw [J2 q2] at q; cases q
 ·cases q2:(j0 x e).getD p none with
  | none=>rfl
  | some v=>exact absurd (by rw [q2,J2 q2]) h2
theorem pV {x e:Cap} {p:Nat} (h:x.getD p none=none):(j0 x e).getD p none=none:=by
 cases q:(j0 x e).getD p none with
 | none=>rfl
 | some v=>rw [J2 q] at h; cases h
theorem uB {x e:Cap} (h:plc x (j0 x e) ≠ []):i8 e x=true:=by
 cases q:i8 e x with
 | true=>rfl
 | false=>
  exfalso
  refine h ?_
  have:j0 x e=x:=by unfold j0; rw [if_neg (by rw [q]; simp)]
  rw [this]
  unfold plc
  rw [List.filter_eq_nil_iff]
  intro a _
  simp
theorem ldB.weak {n:Nat} {ms:List Mv} {x y:Cap} {w w' u u':Nat→Int} {bs:List Blk} (h:ldB n ms x w bs y u) (hw:∀ p,p<n→x.getD p none=none→w p≤w' p) (hu:∀ p,p<n→y.getD p none=none→u' p≤u p):ldB n ms x w' bs y u':=fun s hs=>by
 obtain ⟨h1,h2⟩:=h s fun p hp=>⟨(hs p hp).1,fun q=>Int.le_trans (hw p hp q) ((hs p hp).2 q)⟩
 exact ⟨h1,fun p hp=>⟨(h2 p hp).1,fun q=>Int.le_trans (hu p hp q) ((h2 p hp).2 q)⟩⟩
theorem rL {b:List Int} {ms:List Mv} {es:List GEnt} {A kk n:Nat} {hh:Int} (hK:GK (b.map some) ms es A kk) (h1:1≤b.length) (h6:b.length≤6) (hbn:nn b) (hm:∀ m∈ms,okN b.length m) (hs:W7 ms) (h29:es.length≤29) (hn:n≤es.length) :
  Ok (R5 [.tup [tI b,tM_ ms],.lst (h7 (b.map some) es),.int (n:Int),.int hh]) fun w=>∃ bs:List Blk,w=.lst (bs.map blW)∧bs.length≤40∧ldB b.length ms (b.map some) (fun _=>0) bs (sC (b.map some) es n) (fun _=>hh):=by
 have hcl:(b.map some).length=b.length:=List.length_map ..
 have hcn:nnC (b.map some):=qB hbn
 obtain ⟨c,hc⟩:∃ c:Cap,c=b.map some:=⟨_,rfl⟩
 rw [← hc] at hK hcl hcn ⊢
 rw [← hcl] at h1 h6 hm
 have hlen:∀ a,a≤es.length→(sC c es a).length=c.length:=fun a ha=>E5 hK.len ha
 have kw:=aQ (c:=c) (n:=n) hK.par (by omega) hn
 have kw:n9 [.lst (h7 c es),.int (n:Int)]=.ok (lI (pz (i5 es n))):=kw
 have hwl:=E7 hK.par n hn
 have hcut:=rD (i5 es n)
 have hwy30:(i5 es n).length≤30:=Nat.le_trans hwl.2 (Nat.succ_le_succ (Nat.le_trans hn h29))
 obtain ⟨x0,y0,er⟩:=Q9 (c:=c) (es:=es) hn
 have a0:L2.atI [tC (sC c es n),x0,y0] 0=some (tC (sC c es n)):=rfl
 obtain ⟨w0,hw0⟩:∃ w0:Nat→Int,w0=fun p=>((sC c es n).getD p none).getD hh:=⟨_,rfl⟩
 have ew:∀ N mg me ρ (h:∀ o∈sC c es n,∃ ρ1,mg (oW o) (ρ++List.replicate (N-ρ.length) Sl.un)=some ρ1∧me ρ1=.ok (.int (o.getD hh))),m5 N mg yes me ((sC c es n).map oW) ρ=.ok (lI (vF c.length w0)):=fun N mg me ρ h=>by
  have hl:=hlen n hn
  rw [l4 (fun o=>.int (o.getD hh)) _ _ ρ (by omega) h]
  refine congrArg (fun l=>R.ok (W.lst l)) ?_
  rw [List.map_map]
  apply List.ext_getElem?
  intro k
  rw [List.getElem?_map,List.getElem?_map]
  by_cases hk:k<c.length
  ·rw [List.getElem?_range hk,List.getElem?_eq_getElem (by omega)]
   show some (W.int _)=some (W.int (w0 k))
   rw [hw0]
   show _=some (W.int (((sC c es n).getD k none).getD hh))
   rw [List.getD_eq_getElem?_getD,List.getElem?_eq_getElem (by omega)]; rfl
  ·rw [List.getElem?_eq_none (by omega),List.getElem?_eq_none (by simp; omega)]; rfl
 have hu:∀ i e,es[i]?=some e→A6 [.tup [tI b,tM_ ms],.lst (h7 c es),.int ((i+1:Nat):Int)]=.ok (tC (o7 (sC c es e.2.1) (mvN ms e.2.2))):=fun i e he=>mB hK h6 hm he
 have hli:∀ i e,es[i]?=some e→E3 [.tup [tI b,tM_ ms],.lst (h7 c es),.int ((i+1:Nat):Int)]=.ok (.lst ((lfs c es (i5 es e.2.1) (o7 (sC c es e.2.1) (mvN ms e.2.2))).map lfT)):=fun i e he=>ly hK h6 hm (by omega) he
 have hrb:∀ a q,a≤es.length→q∈i5 es a→A0 [.lst (h7 c es),.int (q:Int),.int (a:Int)]=.ok (lI (pz (r9 es q a))):=fun a q ha hq=>tW hK.par (by omega) ha hq
 have hr2:∀ a,0<a→a≤es.length→∃ x y:W,L2.atI (h7 c es) (a:Int)=some (.tup [x,y,.int (ae es a:Int)]):=fun a h0 h=>jy h0 h
 have hsu:∀ r:List Nat,(∀ k∈r,k<ms.length)→B1 [.tup [tI b,tM_ ms],lI (pz r)]=.ok (tI (vF c.length (dsp ms r))):=fun r hr=>by rw [hcl]; exact jr (by omega) (by omega) (by rw [← hcl]; exact hm) hr
 have hwa:∀ (r:List Nat) (t:Int) (w:Nat→Int),(∀ k∈r,k<ms.length)→r.length≤100→t5 [.tup [tI b,tM_ ms],lI (pz r),.int t,tI (vF c.length w)]=.ok (tI (vF c.length (ahW ms r t w))):=fun r t w hr hl=>by rw [hcl]; exact wS (by omega) (by omega) (by rw [← hcl]; exact hm) hs hr hl
 have hti:∀ (x:Cap) (st w:Nat→Int) (P:List Nat),x.length=c.length→(∀ p∈P,p<c.length∧(∃ v,x.getD p none=some v)∧0<st p∧st p≤1000000000000000000000)→P.length≤6→E9 [tC x,tI (vF c.length st),tI (pz P),tI (vF c.length w)]=.ok (.int (aa x st P w)):=fun x st w P hx hP hl=>pe h6 hx hP hl
 rw [← hcl]
 obtain ⟨mo,hmo⟩:∃ mo,mo=W.tup [tI b,tM_ ms]:=⟨_,rfl⟩
 rw [← hmo] at hu hli hsu hwa ⊢
 obtain ⟨rw_,hrw⟩:∃ rw_,rw_=h7 c es:=⟨_,rfl⟩
 rw [← hrw] at kw er hu hli hrb hr2 ⊢
 obtain ⟨wy,hwy⟩:∃ wy,wy=i5 es n:=⟨_,rfl⟩
 rw [← hwy] at kw hwl hcut hwy30
 obtain ⟨vv,hvv⟩:∃ vv:(Nat→Int)→List Int,vv=vF c.length:=⟨_,rfl⟩
 rw [← hvv] at ew hwa hsu hti
 exists rpB,ff,er,a0
 rw [ew]
 rotate_left
 ·intro o ho
  refine ⟨_,rfl,?_⟩
  cases o with
  | none=>
   exists rp18
   rfl
  | some v=>
   exists rp18
   rfl
 exists kw,hcut
 refine u5 (T6 (fun ρ=>∃ (bs:List Blk) (w:Nat→Int) (a6 a7 a8 a9 a10 a11:Sl),ρ = [.par mo,.par (.lst rw_),.par (.int (n:Int)),.par (.int hh),.val (tI (vv w)),.own (bs.map blW),a6,a7,a8,a9,a10,a11]∧bs.length≤36∧ldB c.length ms c w bs.reverse (sC c es n) w0) ?_ ?_)
 ·refine X2 (fun j ρ=>∃ (bs:List Blk) (w:Nat→Int) (a6 a7 a8 a9 a10 a11:Sl) (a:Nat),ρ = [.par mo,.par (.lst rw_),.par (.int (n:Int)),.par (.int hh),.val (tI (vv w)),.own (bs.map blW),a6,a7,a8,a9,a10,a11]∧wy[j]?=some a∧bs.length≤j+N4 (sC c es a)∧ldB c.length ms (sC c es a) w bs.reverse (sC c es n) w0) ?_ ?_ ?_
  ·have:wy[0]?=some n:=by
    rw [hwy]
    cases n with
    | zero=>rw [B5]; rfl
    | succ i=>rw [j9 hK.par (List.getElem?_eq_getElem (show i<es.length by omega))]; rfl
   exact ⟨[],w0,_,_,_,_,_,_,n,rfl,this,by simp,.refl _ _⟩
  ·rintro j u ρ hj ⟨bs,w,a6,a7,a8,a9,a10,a11,a,rfl,haj,hbl,hld⟩
   rw [aZ,List.getElem?_map] at hj
   obtain ⟨a',ha',rfl⟩:=Option.map_eq_some_iff.mp hj
   have hjl:j<wy.dropLast.length:=(List.getElem?_eq_some_iff.mp ha').1
   have hjl2:j+1<wy.length:=by rw [List.length_dropLast] at hjl; omega
   have haa:a'=a:=by
    rw [List.getElem?_dropLast,if_pos (by omega),haj] at ha'
    exact (Option.some.inj ha').symm
   subst haa
   have hdr:=gu hK.par n hn j a' (by rw [← hwy]; exact haj)
   rw [← hwy] at hdr
   have han:a'≤n:=hwl.1 a' (List.mem_of_getElem? haj)
   cases a' with
   | zero=>
    exfalso
    have:=congrArg List.length hdr
    rw [List.length_drop,B5] at this
    simp at this
    omega
   | succ i=>
    have he:es[i]?=some es[i]:=List.getElem?_eq_getElem (by omega)
    obtain ⟨e,hee⟩:∃ e,e=es[i]:=⟨_,rfl⟩
    rw [← hee] at he
    have hpa:=hK.par i e he
    have hk8:=hK.k8 e (List.mem_of_getElem? he)
    have hi1:i+1≤es.length:=Nat.le_trans han hn
    have he1:e.2.1≤es.length:=Nat.le_trans hpa (Nat.le_of_succ_le hi1)
    have ile:i<es.length:=hi1
    obtain ⟨hab,hbe,_⟩:=hK.beh i e he
    have ku:=hu i e he
    have kl:=hli i e he
    have hnx:wy[j+1]?=some e.2.1:=by
     rw [j9 hK.par he] at hdr
     have:(wy.drop j)[1]?=(i5 es e.2.1)[0]?:=by rw [hdr]; rfl
     rw [List.getElem?_drop] at this
     rw [this]
     cases q:e.2.1 with
     | zero=>rw [B5]; rfl
     | succ i'=>rw [j9 hK.par (List.getElem?_eq_getElem (show i'<es.length by omega))]; rfl
    have hsp:=hlen e.2.1 he1
    have hx0l:(o7 (sC c es e.2.1) (mvN ms e.2.2)).length=c.length:=by rw [K3]; exact hsp
    rw [gX he,hbe] at hbl hld
    obtain ⟨z1,z2,er2⟩:=hr2 (i+1) (Nat.succ_pos i) hi1
    rw [fb he] at er2
    have b2:L2.atI [z1,z2,W.int (e.2.2:Int)] 2=some (.int (e.2.2:Int)):=rfl
    have hpath:∀ q∈i5 es e.2.1,∀ p,p<c.length→∀ v,(o7 (sC c es e.2.1) (mvN ms e.2.2)).getD p none=some v→∃ u,(sC c es q).getD p none=some u∧u+dsp ms (r9 es q (i+1)) p=v∧hur ms (r9 es q (i+1)) p≤u:=fun q hq p hp v hv=>by
     have hqi:q≠i+1:=by
      have:=(E7 hK.par e.2.1 he1).1 q hq
      omega
     rw [eF (hsp.symm ▸ hp)] at hv
     cases hu':(sC c es e.2.1).getD p none with
     | none=>rw [hu'] at hv; cases hv
     | some u'=>
      rw [hu'] at hv
      have hv:u'+mvD (mvN ms e.2.2) p=v:=Option.some.inj hv
      obtain ⟨u,eu,ed,eh⟩:=uJ hK hm hcn hp e.2.1 he1 hq u' hu'
      have hok:okN (sC c es e.2.1).length (mvN ms e.2.2):=by rw [hsp]; exact getM hm hk8
      have h3:=iU hok hab (hsp.symm ▸ hp) hu'
      have h4:=bd hok.2.2.2 p
      have ed1:mvD (mvN ms e.2.2) p=(mvN ms e.2.2).2.getD p 0-(mvN ms e.2.2).1.getD p 0:=rfl
      have hh:hur ms [e.2.2] p=max ((mvN ms e.2.2).1.getD p 0) (0-mvD (mvN ms e.2.2) p):=rfl
      have hd:dsp ms [e.2.2] p=mvD (mvN ms e.2.2) p+0:=rfl
      rw [bU hK.par he hqi]
      exact ⟨u,eu,by rw [cG,hd,Int.add_zero,← Int.add_assoc,ed]; exact hv,jW eh (by rw [hh,ed]; exact Int.max_le.mpr ⟨h3,by rw [ed1]; exact lP h3 h4⟩)⟩
    unfold o6 at hbl hld
    have hch:=fj (c:=c) (es:=es) (i5 es e.2.1) (o7 (sC c es e.2.1) (mvN ms e.2.2))
    have hlm:=jO (c:=c) (es:=es) (i5 es e.2.1) (o7 (sC c es e.2.1) (mvN ms e.2.2))
    have hmv:=fun w=>uX (n:=c.length) (w:=w) hsp hk8 (getM hm hk8) hab
    have hfa:N4 (o7 (sC c es e.2.1) (mvN ms e.2.2))=N4 (sC c es e.2.1):=rm
    have hwm:∀ w,t5 [mo,.lst [.int (e.2.2:Int)],.int 1,tI (vv w)]=.ok (tI (vv (ahW ms [e.2.2] 1 w))):=fun w=>hwa [e.2.2] 1 w (by simpa using hk8) (by simp)
    generalize hX0:o7 (sC c es e.2.1) (mvN ms e.2.2)=X0 at *
    obtain ⟨Lf,hLf⟩:∃ Lf,Lf=lfs c es (i5 es e.2.1) X0:=⟨_,rfl⟩
    rw [← hLf] at kl hch hlm
    refine ⟨_,rfl,?_⟩
    exists ku,kl
    refine T6 (fun ρ=>∃ (bs:List Blk) (w:Nat→Int) (a8 a9 a10 a11:Sl),ρ = [.par mo,.par (.lst rw_),.par (.int (n:Int)),.par (.int hh),.val (tI (vv w)),.own (bs.map blW),.par (.int ((i+1:Nat):Int)),.val (tC X0),a8,a9,a10,a11]∧bs.length≤j+N4 X0∧ldB c.length ms X0 w bs.reverse (sC c es n) w0) ?_ ?_
    ·rw [← List.map_reverse]
     refine X2 (fun m ρ=>∃ (bs:List Blk) (w:Nat→Int) (a8 a9 a10 a11:Sl) (X:Cap),ρ = [.par mo,.par (.lst rw_),.par (.int (n:Int)),.par (.int hh),.val (tI (vv w)),.own (bs.map blW),.par (.int ((i+1:Nat):Int)),.val (tC X0),a8,a9,a10,a11]∧bs.length≤j+N4 X∧ldB c.length ms X w bs.reverse (sC c es n) w0∧chn c es X0 (Lf.take (Lf.length-m)) X) ⟨bs,w,_,_,_,_,_,rfl,hbl,hld,by rw [Nat.sub_zero,List.take_length]; exact hch⟩ ?_ ?_
     ·rintro m u ρ hmu ⟨bs,w,a8,a9,a10,a11,X,rfl,hbl,hld,hchm⟩
      rw [List.getElem?_map] at hmu
      obtain ⟨f,hf,rfl⟩:=Option.map_eq_some_iff.mp hmu
      have hmL:m<Lf.length:=by
       have:=(List.getElem?_eq_some_iff.mp hf).1
       rwa [List.length_reverse] at this
      have hfm:f∈Lf:=List.mem_reverse.mp (List.mem_of_getElem? hf)
      rw [List.getElem?_reverse hmL] at hf
      have htk:Lf.take (Lf.length-m)=Lf.take (Lf.length-(m+1)) ++ [f]:=by
       rw [show Lf.length-m=(Lf.length-(m+1))+1 from (Nat.succ_pred_eq_of_pos (Nat.sub_pos_of_lt hmL)).symm,List.take_add_one,show Lf.length-(m+1)=Lf.length-1-m by rw [Nat.sub_sub,Nat.add_comm 1 m],hf]; rfl
      rw [htk] at hchm
      obtain ⟨z,hz,hP,hP0,hX⟩:=iP hchm
      obtain ⟨hzl,hzs⟩:=iO hz
      have hq:=hlm f hfm
      have hql:=(E7 hK.par e.2.1 he1).1 _ hq
      have hqw:f.1∈i5 es (i+1):=by rw [j9 hK.par he]; exact List.mem_cons_of_mem _ hq
      have krb:=hrb (i+1) f.1 hi1 hqw
      have hrl:=tX hK (i+1) hi1 hqw
      have hrn:(r9 es f.1 (i+1)).length≤30:=Nat.le_trans (pJ (q:=f.1) hK.par hi1) (Nat.succ_le_succ (Nat.le_trans hi1 h29))
      have hzc:z.length=c.length:=hzl.trans hx0l
      have ksu:=hsu _ hrl
      have hund:i8 (sC c es f.1) z=true:=uB (by rw [← hX,← hP]; exact hP0)
      have hqlen:=hlen f.1 (Nat.le_trans hql he1)
      have hrow:∀ p,p<c.length→∀ v,z.getD p none=some v→∃ u,(sC c es f.1).getD p none=some u∧u+dsp ms (r9 es f.1 (i+1)) p=v∧hur ms (r9 es f.1 (i+1)) p≤u:=fun p hp v hv=>hpath f.1 hq p hp v (hzs p v hv)
      have hpl:∀ p∈f.2,p<c.length∧(∃ v,X0.getD p none=some v)∧0<dsp ms (r9 es f.1 (i+1)) p∧dsp ms (r9 es f.1 (i+1)) p≤1000000000000000000000:=fun p hp=>by
       rw [hP,hX] at hp
       obtain ⟨p1,⟨v,p2⟩,p3⟩:=jF hp
       have hpc:p<c.length:=hzc ▸ p1
       obtain ⟨u,eu,ed,_⟩:=hrow p hpc v p2
       have hle:u≤v:=by
        have:=gA hund (p:=p) (hqlen.symm ▸ hpc)
        rw [eu,p2] at this
        exact of_decide_eq_true this
       have hne:v≠u:=fun q=>by
        rw [hJ hund p1,p2,eu,q] at p3
        unfold ad at p3
        rw [if_pos rfl] at p3; cases p3
       have:=T9 hs p _ hrl
       exact ⟨hpc,⟨v,hzs p v p2⟩,by omega,by omega⟩
      have hpl6:f.2.length≤6:=by
       rw [hP]
       exact Nat.le_trans (jG z X) (hzc.symm ▸ h6)
      have kti:=hti X0 (dsp ms (r9 es f.1 (i+1))) w f.2 hx0l hpl hpl6
      have htn:=xg X0 (dsp ms (r9 es f.1 (i+1))) f.2 w
      have hge:∀ p,p<c.length→∀ v,z.getD p none=some v→X.getD p none=none→w p≤v+aa X0 (dsp ms (r9 es f.1 (i+1))) f.2 w*dsp ms (r9 es f.1 (i+1)) p:=fun p hp v hv hn'=>by
       have hpm:p∈f.2:=by
        rw [hP]
        unfold plc
        exact List.mem_filter.mpr ⟨List.mem_range.mpr (hzc.symm ▸ hp),decide_eq_true (by rw [hn',hv]; simp)⟩
       exact xh hpm (hzs p v hv) (hpl p hpm).2.2.1
      have dv:N4 X<N4 z:=by
       obtain ⟨p,hp⟩:=List.exists_mem_of_ne_nil _ hP0
       rw [hP,hX] at hp
       obtain ⟨p1,⟨v,p2⟩,p3⟩:=jF hp
       rw [hX]
       exact vN (N3 _ _) (fun p v h=>J2 h) p1 p2 p3
      have kwa:=hwa (r9 es f.1 (i+1)) (aa X0 (dsp ms (r9 es f.1 (i+1))) f.2 w) w hrl (Nat.le_trans hrn (by decide))
      have hfz:=ft z
      have hjn:j≤30:=Nat.le_trans (Nat.le_of_lt (Nat.lt_of_succ_lt hjl2)) hwy30
      have hb1000:bs.length<1000:=Nat.lt_of_le_of_lt hbl (Nat.lt_of_le_of_lt (Nat.add_le_add hjn (Nat.le_trans (Nat.le_of_lt dv) (Nat.le_trans hfz (hzc.symm ▸ h6)))) (by decide))
      generalize aa X0 (dsp ms (r9 es f.1 (i+1))) f.2 w=t at *
      obtain ⟨r,hr⟩:∃ r,r=r9 es f.1 (i+1):=⟨_,rfl⟩
      rw [← hr] at krb hrl hrn ksu hrow hge kwa kti
      obtain ⟨rz,hrz⟩:∃ rz,rz=pz r:=⟨_,rfl⟩
      rw [← hrz] at krb ksu kwa
      refine ⟨_,rfl,?_⟩
      exists krb,ksu,kti
      refine cC (fun ht=>?_) (fun ht=>?_)
      ·have ht:0<t:=by simpa using ht
       have hL:=vw (ms:=ms) (t:=t) (w:=w) hzc hqlen hund hrl hrn hrow ht (by rw [← hX]; exact hge)
       rw [← hX] at hL
       exists kwa
       refine ⟨bs ++ [(r,t)],_,_,_,_,_,z,by rw [List.map_append,hrz]; rfl,by rw [List.length_append,List.length_singleton]; exact Nat.succ_le_of_lt (Nat.lt_of_le_of_lt hbl (Nat.add_lt_add_left dv j)),by rw [List.reverse_append]; exact hL.cons hld,hz⟩
      ·have ht:t=0:=by
        have:¬ 0<t:=by simpa using ht
        omega
       rw [ht] at hge
       have hL:=qI (ms:=ms) (n:=c.length) (x:=z) (e:=sC c es f.1) (w:=w) (by rw [← hX]; intro p hp v hv hn'; have:=hge p hp v hv hn'; omega) (fun p _ h=>pV h)
       rw [← hX] at hL
       exists rp18
       exact ⟨bs,w,_,_,_,_,z,rfl,Nat.le_trans hbl (Nat.add_le_add_left (Nat.le_of_lt dv) j),hL.skip hld,hz⟩
     ·rintro ρ ⟨bs,w,a8,a9,a10,a11,X,rfl,hbl,hld,hchm⟩
      rw [List.length_map,List.length_reverse,Nat.sub_self,List.take_zero] at hchm
      have hchm:X0=X:=hchm
      subst hchm
      exact ⟨bs,w,_,_,_,_,rfl,hbl,hld⟩
    ·rintro ρ ⟨bs,w,a8,a9,a10,a11,rfl,hbl,hld⟩
     have hfl:=ft X0
     have hwm:=hwm w
     have hb1000:bs.length<1000:=Nat.lt_of_le_of_lt hbl (Nat.lt_of_le_of_lt (Nat.add_le_add (Nat.le_trans (Nat.le_of_lt (Nat.lt_of_succ_lt hjl2)) hwy30) (Nat.le_trans hfl (hx0l.symm ▸ h6))) (by decide))
     exists er2,b2,hwm
     exact ⟨bs ++ [([e.2.2],1)],_,_,_,_,_,_,_,e.2.1,by rw [List.map_append]; rfl,hnx,by rw [List.length_append,List.length_singleton,← hfa,Nat.add_right_comm]; exact Nat.succ_le_succ hbl,by rw [List.reverse_append]; exact (hmv w).cons hld⟩
  ·rintro ρ ⟨bs,w,a6,a7,a8,a9,a10,a11,a,rfl,haj,hbl,hld⟩
   rw [List.length_map,J8] at haj hbl
   have hdr:=gu hK.par n hn _ a (by rw [← hwy]; exact haj)
   rw [← hwy] at hdr
   have han:a≤n:=hwl.1 a (List.mem_of_getElem? haj)
   have ha0:a=0:=by
    cases a with
    | zero=>rfl
    | succ i=>
     exfalso
     have he:es[i]?=some es[i]:=List.getElem?_eq_getElem (by omega)
     have hpa:=hK.par i _ he
     have hr:=oR hK.par es[i].2.1 (by omega)
     have:=congrArg List.length hdr
     rw [j9 hK.par he,List.length_drop,List.length_cons,List.length_dropLast] at this
     have h1:wy.length-(wy.length-1)≤1:=Nat.sub_le_of_le_add (by rw [Nat.add_comm]; exact Nat.le_add_of_sub_le (Nat.le_refl _))
     rw [this] at h1
     exact absurd (List.length_pos_of_mem hr) (Nat.not_lt_of_le (Nat.le_of_succ_le_succ h1))
   subst ha0
   have h0:sC c es 0=c:=rfl
   rw [h0] at hbl hld
   have:=ft c
   rw [List.length_dropLast] at hbl
   exact ⟨bs,w,_,_,_,_,_,_,rfl,Nat.le_trans hbl (Nat.le_trans (Nat.add_le_add (Nat.sub_le_sub_right hwy30 1) (Nat.le_trans this h6)) (by decide)),hld⟩
 ·rintro ρ ⟨bs,w,a6,a7,a8,a9,a10,a11,rfl,hb,hld⟩
  exists rp18
  refine ⟨bs.reverse,by rw [List.map_reverse],by rw [List.length_reverse]; omega,hld.weak (fun p hp q=>?_) (fun p hp q=>?_)⟩
  ·rw [hc,List.getD_eq_getElem?_getD,List.getElem?_map,List.getElem?_eq_getElem (by omega)] at q
   cases q
  ·rw [hw0]
   show hh≤((sC c es n).getD p none).getD hh
   rw [q]; exact Int.le_refl _
theorem pw {n:Nat} {ms:List Mv} (hm:∀ m∈ms,okN n m) (hu:∀ m∈ms,ub m.1∧ub m.2):W7 ms:=fun m h p=>by
 have h1:=hm m h
 have h2:=hu m h
 have a1:=bd h1.2.2.1 p
 have a2:=bd h1.2.2.2 p
 have b1:=se h2.1 p
 have b2:=se h2.2 p
 unfold mvD
 omega
theorem cO (z:Int):v9 [.int z]=.ok (.bl true):=by
 exists rpB,X6
theorem qQ {n:Nat} {ms:List Mv} {s:Nat→Int} {bl:Blk} (h:okB n ms s bl):r6 [blW bl,.int (ms.length:Int)]=.ok (.bl true):=by
 obtain ⟨h1,h2,h3,_⟩:=h
 obtain ⟨r,t⟩:=bl
 have h1:1≤t:=h1
 have h2:∀ k∈r,k<ms.length:=h2
 have h3:r.length≤30:=h3
 have a0:L2.atI [lI (pz r),W.int t] 0=some (lI (pz r)):=rfl
 have a1:L2.atI [lI (pz r),W.int t] 1=some (.int t):=rfl
 have kw:=cO t
 have d1:decide (t<0)=false:=decide_eq_false (by omega)
 have d2:decide (((pz r).length:Int)>30)=false:=decide_eq_false (by rw [J8]; omega)
 have e:∀ N mg me ρ (h:∀ k∈r,∃ ρ1,mg (.int (k:Nat)) (ρ++List.replicate (N-ρ.length) Sl.un)=some ρ1∧me ρ1=.ok (.bl true)),m5 N mg yes me ((pz r).map W.int) ρ=.ok (.lst ((r.map fun _=>true).map W.bl)):=fun N mg me ρ h=>by
  rw [aZ,l4 (fun _=>.bl true) (fun (k:Nat)=>W.int (k:Int)) _ ρ (by omega) h,List.map_map]; rfl
 have hall:lE (r.map fun _=>true)=true:=by
  unfold lE
  rw [List.all_eq_true]
  intro x hx
  obtain ⟨_,_,rfl⟩:=List.mem_map.mp hx
  rfl
 show r6 [.tup [lI (pz r),.int t],.int (ms.length:Int)]=.ok (.bl true)
 have hpl:=J8 r
 generalize pz r=rz at *
 have d3:decide (30<(r.length:Int))=false:=decide_eq_false (by omega)
 have d22:decide (((2:Nat):Int)=2)=true:=rfl
 exists rpB,P8,a0,a1,kw,d1,hpl,d3,d22
 rw [e]
 ·exists hall
 ·intro k hk
  have kk:=cO (k:Int)
  have hk:=h2 k hk
  refine ⟨_,rfl,?_⟩
  have w1:decide ((0:Int)≤(k:Int))=true:=decide_eq_true (by omega)
  have w2:decide ((k:Int)<(ms.length:Int))=true:=decide_eq_true (by omega)
  exists kk,w1,w2
theorem vD {ms:List Mv} {p:Nat}:∀ (r:List Nat) (j k:Nat),r[j]?=some k→(mvN ms k).1.getD p 0-dsp ms (r.take j) p≤hur ms r p:=by
 intro r
 induction r with
 | nil=>intro j k h; cases h
 | cons a r ih=>
  intro j k h
  cases j with
  | zero=>
   cases h
   show (mvN ms a).1.getD p 0-0≤max ((mvN ms a).1.getD p 0) (hur ms r p-mvD (mvN ms a) p)
   rw [Int.sub_zero]
   exact Int.le_max_left _ _
  | succ j=>
   have:=ih j k h
   show (mvN ms k).1.getD p 0-(mvD (mvN ms a) p+dsp ms (r.take j) p)≤max ((mvN ms a).1.getD p 0) (hur ms r p-mvD (mvN ms a) p)
   rw [Int.add_comm,← Int.sub_sub]
   exact Int.le_trans (Int.sub_le_sub_right this _) (Int.le_max_right _ _)
theorem zX {n:Nat} {ms:List Mv} (hm:∀ m∈ms,okN n m) {p:Nat}:∀ r:List Nat,(∀ k∈r,k<ms.length)→0≤hur ms r p
 | [],_=>Int.le_refl 0
 | a::r,h=>by
  have:=bd (getM hm (h a List.mem_cons_self)).2.2.1 p
  have:0≤(mvN ms a).1.getD p 0:=this
  show 0≤max ((mvN ms a).1.getD p 0) (hur ms r p-mvD (mvN ms a) p)
  omega
theorem mv {n m:Nat} {f:Nat→Int} {v:Int} (hm:m<n):(vF n f).set m v=vF n fun p=>if p=m then v else f p:=by
 apply List.ext_getElem?
 intro k
 by_cases e:m=k
 ·subst e
  rw [List.getElem?_set_self (by simpa using hm),List.getElem?_map,List.getElem?_range hm]
  show some v=some (if m=m then v else f m)
  rw [if_pos rfl]
 ·rw [List.getElem?_set_ne e,List.getElem?_map,List.getElem?_map]
  by_cases hk:k<n
  ·rw [List.getElem?_range hk]
   show some (f k)=some (if k=m then v else f k)
   rw [if_neg (fun q=>e q.symm)]
  ·rw [List.getElem?_eq_none (by simp; omega)]; rfl
theorem aR {n p:Nat} (f:Nat→Int) (h:p<n):L2.atI ((vF n f).map W.int) (p:Int)=some (.int (f p)):=Q4 (by rw [List.getElem?_map,List.getElem?_map,List.getElem?_range h]; rfl)
theorem rC {ms:List Mv} {p:Nat} {r:List Nat} {j k:Nat} (h:r[j]?=some k):dsp ms (r.take (j+1)) p=dsp ms (r.take j) p+mvD (mvN ms k) p:=by
 rw [List.take_add_one,h,cG]
 show _+(mvD (mvN ms k) p+0)=_
 omega
theorem jX {n:Nat} {ms:List Mv} {s:Nat→Int} {r:List Nat} {t:Int} (h6:n≤6) (hm:∀ m∈ms,okN n m) (hs:W7 ms) (h:okB n ms s (r,t)):x4 [lI (vF n s),tM_ ms,lI (pz r),.int t]=.ok (lI (vF n (U8 ms s (r,t)))):=by
 have fin:Ok (x4 [lI (vF n s),tM_ ms,lI (pz r),.int t]) fun v=>v=lI (vF n (U8 ms s (r,t))):=by
  obtain ⟨h1,h2,h3,h4⟩:=h
  have h1:1≤t:=h1
  have h2:∀ k∈r,k<ms.length:=h2
  have h3:r.length≤30:=h3
  have h4:∀ p,p<n→hur ms r p≤s p∧hur ms r p≤s p+(t-1)*dsp ms r p:=h4
  have d0:decide (t=0)=false:=decide_eq_false (by omega)
  have hvl:=W2 n s
  have hs0:∀ p,p<n→L2.atI ((vF n s).map W.int) (p:Int)=some (.int (s p)):=fun p hp=>aR s hp
  have e0:∀ N mg me ρ (h:∀ x∈vF n s,∃ ρ1,mg (.int x) (ρ++List.replicate (N-ρ.length) Sl.un)=some ρ1∧me ρ1=.ok (.int 0)),m5 N mg yes me ((vF n s).map W.int) ρ=.ok (lI (vF n fun _=>0)):=fun N mg me ρ h=>by
   rw [l4 (fun _=>.int 0) _ _ ρ (by rw [hvl]; omega) h]
   refine congrArg (fun l=>R.ok (W.lst l)) ?_
   rw [List.map_map,List.map_map]; rfl
  have ef:∀ N mg me ρ (h:∀ p,p<n→∃ ρ1,mg (.int (p:Nat)) (ρ++List.replicate (N-ρ.length) Sl.un)=some ρ1∧me ρ1=.ok (.int (U8 ms s (r,t) p))),m5 N mg yes me ((List.range n).map fun k=>W.int (k:Nat)) ρ=.ok (lI (vF n (U8 ms s (r,t)))):=fun N mg me ρ h=>by
   rw [l4 (fun p=>.int (U8 ms s (r,t) p)) _ _ ρ (by simp; omega) (fun k hk=>h k (by simpa using hk)),db]
  obtain ⟨sv,hsv⟩:∃ sv,sv=vF n s:=⟨_,rfl⟩
  rw [← hsv] at hvl hs0 e0 ⊢
  exists rpB,ak,d0
  rw [e0]
  rotate_left
  ·intro x hx
   refine ⟨_,rfl,?_⟩
   exists rp18
  exists rp18
  rw [e0]
  rotate_left
  ·intro x hx
   refine ⟨_,rfl,?_⟩
   exists rp18
  exists rp18
  refine u5 (T6 (fun ρ=>∃ (lo:Nat→Int) (a6 a7 a8 a9:Sl),ρ = [.par (lI sv),.par (tM_ ms),.par (lI (pz r)),.par (.int t),.own ((vF n lo).map W.int),.own ((vF n (dsp ms r)).map W.int),a6,a7,a8,a9]∧∀ p,p<n→lo p≤hur ms r p) ?_ ?_)
  ·refine X2 (fun j ρ=>∃ (lo:Nat→Int) (a6 a7 a8 a9:Sl),ρ = [.par (lI sv),.par (tM_ ms),.par (lI (pz r)),.par (.int t),.own ((vF n lo).map W.int),.own ((vF n (dsp ms (r.take j))).map W.int),a6,a7,a8,a9]∧∀ p,p<n→lo p≤hur ms r p) ⟨fun _=>0,_,_,_,_,rfl,fun p _=>zX hm r h2⟩ ?_ ?_
   ·rintro j u ρ hj ⟨lo,a6,a7,a8,a9,rfl,hlo⟩
    rw [aZ,List.getElem?_map] at hj
    obtain ⟨k,hk,rfl⟩:=Option.map_eq_some_iff.mp hj
    have hkm:=h2 k (List.mem_of_getElem? hk)
    have ej:L2.atI (ms.map mW) (k:Int)=some (mW (mvN ms k)):=by
     have:=atM (ms:=ms) (r:=(k:Int)) (by omega) (by omega)
     rw [Int.toNat_natCast] at this
     exact this
    have hok:=getM hm hkm
    have hok:okN n (mvN ms k):=hok
    refine ⟨_,rfl,?_⟩
    exists ej,hvl
    refine X2 (fun m ρ=>∃ (f g:Nat→Int) (a9:Sl),ρ = [.par (lI sv),.par (tM_ ms),.par (lI (pz r)),.par (.int t),.own ((vF n f).map W.int),.own ((vF n g).map W.int),.par (.int (k:Int)),.par (tI (mvN ms k).1),.par (tI (mvN ms k).2),a9]∧(∀ p,p<n→p<m→f p≤hur ms r p∧g p=dsp ms (r.take (j+1)) p)∧∀ p,p<n→m≤p→f p=lo p∧g p=dsp ms (r.take j) p) ⟨lo,dsp ms (r.take j),_,rfl,fun p _ h=>absurd h (Nat.not_lt_zero _),fun p _ _=>⟨rfl,rfl⟩⟩ ?_ ?_
    ·rintro m u ρ hmu ⟨f,g,a9,rfl,hlt,hge⟩
     obtain ⟨hmn,rfl⟩:=W9 hmu
     have q1:=aR f hmn
     have q2:=aR g hmn
     have m1:=O7 (ns:=(mvN ms k).1) (k:=m) (by rw [hok.1]; exact hmn)
     have m2:=O7 (ns:=(mvN ms k).2) (k:=m) (by rw [hok.2.1]; exact hmn)
     have hpr:=vD (ms:=ms) (p:=m) r j k hk
     obtain ⟨g1,g2⟩:=hge m hmn (Nat.le_refl _)
     have hl:=hlo m hmn
     refine ⟨_,rfl,?_⟩
     exists q1,q2,m1,m2
     rw [mv hmn,mv hmn]
     have hdt:=rC (ms:=ms) (p:=m) hk
     have hmd:mvD (mvN ms k) m=(mvN ms k).2.getD m 0-(mvN ms k).1.getD m 0:=rfl
     refine ⟨_,_,_,rfl,fun p hp hpm=>?_,fun p hp hpm=>?_⟩
     ·by_cases e:p=m
      ·subst e
       rw [if_pos rfl,if_pos rfl]
       exact ⟨by omega,by omega⟩
      ·rw [if_neg e,if_neg e]
       exact hlt p hp (by omega)
     ·rw [if_neg (by omega),if_neg (by omega)]
      exact hge p hp (by omega)
    ·rintro ρ ⟨f,g,a9,rfl,hlt,hge⟩
     rw [List.length_map,List.length_range] at hlt
     have:vF n g=vF n (dsp ms (r.take (j+1))):=List.map_congr_left fun p hp=>(hlt p (List.mem_range.mp hp) (List.mem_range.mp hp)).2
     rw [this]
     exact ⟨f,_,_,_,_,rfl,fun p hp=>(hlt p hp hp).1⟩
   ·rintro ρ ⟨lo,a6,a7,a8,a9,rfl,hlo⟩
    rw [List.length_map,J8,List.take_length]
    exact ⟨lo,_,_,_,_,rfl,hlo⟩
  ·rintro ρ ⟨lo,a6,a7,a8,a9,rfl,hlo⟩
   exists hvl
   refine x6 (fun m ρ=>∃ (a9:Sl),ρ = [.par (lI sv),.par (tM_ ms),.par (lI (pz r)),.par (.int t),.own ((vF n lo).map W.int),.own ((vF n (dsp ms r)).map W.int),a6,a7,a8,a9]) ⟨_,rfl⟩ ?_ ?_
   ·rintro m u ρ hmu ⟨a9,rfl⟩
    obtain ⟨hmn,rfl⟩:=W9 hmu
    have q0:=hs0 m hmn
    have q1:=aR lo hmn
    have q2:=aR (dsp ms r) hmn
    have hds:=T9 hs m r h2
    obtain ⟨g1,g2⟩:=h4 m hmn
    have hl:=hlo m hmn
    have hmx:max (0-dsp ms r m) 0<18446744073709551616 ∧ -18446744073709551616<max (0-dsp ms r m) 0:=by omega
    have qm:=gq (i:=t-1) (j:=max (0-dsp ms r m) 0) ⟨hmx.2,hmx.1⟩
    have dl:decide (s m<lo m+(t-1)*max (0-dsp ms r m) 0)=false:=decide_eq_false (by
     by_cases q:0≤dsp ms r m
     ·rw [show max (0-dsp ms r m) 0=0 by omega,Int.mul_zero]; omega
     ·rw [show max (0-dsp ms r m) 0 = -dsp ms r m by omega,Int.mul_neg]; omega)
    refine ⟨_,rfl,?_⟩
    exists q0,q1,q2,qm,dl
    exact ⟨_,rfl⟩
   ·rintro ρ ⟨a9,rfl⟩
    exists hvl
    rw [ef]
    ·exists rp18
    ·intro p hp
     have q0:=hs0 p hp
     have q2:=aR (dsp ms r) hp
     have hds:=T9 hs p r h2
     have qm:=gq (i:=t) (j:=dsp ms r p) ⟨by omega,by omega⟩
     refine ⟨_,rfl,?_⟩
     exists q0,q2,qm
     rfl
 obtain ⟨v,e,rfl⟩:=fin
 exact e
theorem By (b:List Int):b=vF b.length fun p=>b.getD p 0:=by
 apply List.ext_getElem?
 intro k
 rw [List.getElem?_map]
 by_cases hk:k<b.length
 ·rw [List.getElem?_range hk,List.getElem?_eq_getElem hk]
  show _=some (b.getD k 0)
  rw [List.getD_eq_getElem?_getD,List.getElem?_eq_getElem hk]; rfl
 ·rw [List.getElem?_eq_none (by omega),List.getElem?_eq_none (by simp; omega)]; rfl
theorem jY {n:Nat} {ms:List Mv}:∀ (bs:List Blk) (s:Nat→Int) (j:Nat) (bl:Blk),goB n ms bs s→bs[j]?=some bl→okB n ms (w4 ms (bs.take j) s) bl∧w4 ms (bs.take (j+1)) s=U8 ms (w4 ms (bs.take j) s) bl
 | [],_,_,_,_,h=>by cases h
 | b::bs,s,0,bl,hg,h=>by cases h; exact ⟨hg.1,rfl⟩
 | b::bs,s,j+1,bl,hg,h=>jY bs (U8 ms s b) j bl hg.2 h
theorem lJ {b:List Int} {ms:List Mv} {bs:List Blk} (h6:b.length≤6) (hm:∀ m∈ms,okN b.length m) (hs:W7 ms) (hl:bs.length≤40) (hg:goB b.length ms bs fun p=>b.getD p 0):o5 [tI b,tM_ ms,.lst (bs.map blW)]=.ok (lI (vF b.length (w4 ms bs fun p=>b.getD p 0))):=by
 have fin:Ok (o5 [tI b,tM_ ms,.lst (bs.map blW)]) fun v=>v=lI (vF b.length (w4 ms bs fun p=>b.getD p 0)):=by
  have hbl:(bs.map blW).length=bs.length:=List.length_map ..
  have d1:decide (100<(bs.length:Int))=false:=decide_eq_false (by omega)
  have hml:(ms.map mW).length=ms.length:=List.length_map ..
  have kb:∀ (s:Nat→Int) (bl:Blk),okB b.length ms s bl→r6 [blW bl,.int (ms.length:Int)]=.ok (.bl true):=fun s bl h=>qQ h
  have kg:∀ (s:Nat→Int) (r:List Nat) (t:Int),okB b.length ms s (r,t)→x4 [lI (vF b.length s),tM_ ms,lI (pz r),.int t]=.ok (lI (vF b.length (U8 ms s (r,t)))):=fun s r t h=>jX h6 hm hs h
  obtain ⟨n,hn⟩:∃ n,n=b.length:=⟨_,rfl⟩
  obtain ⟨mw,hmw⟩:∃ mw,mw=ms.map mW:=⟨_,rfl⟩
  rw [← hmw] at hml
  have kg:∀ (s:Nat→Int) (r:List Nat) (t:Int),okB b.length ms s (r,t)→x4 [lI (vF b.length s),.tup mw,lI (pz r),.int t]=.ok (lI (vF b.length (U8 ms s (r,t)))):=by rw [hmw]; exact kg
  obtain ⟨bw,hbw⟩:∃ bw,bw=bs.map blW:=⟨_,rfl⟩
  rw [← hbw] at hbl
  show Ok (o5 [tI b,.tup (ms.map mW),.lst (bs.map blW)]) fun v=>v=lI (vF b.length (w4 ms bs fun p=>b.getD p 0))
  rw [← hbw,← hmw]
  exists rpB,R4,hbl,d1,W0 (C4 b)
  refine u5 (x6 (fun j ρ=>∃ (a4:Sl),ρ = [.par (tI b),.par (.tup mw),.par (.lst bw),.own ((vF b.length (w4 ms (bs.take j) fun p=>b.getD p 0)).map W.int),a4]) ⟨.un,by rw [List.take_zero]; show _ = [_,_,_,Sl.own ((vF b.length fun p=>b.getD p 0).map W.int),_]; rw [← By b]⟩ ?_ ?_)
  ·rintro j u ρ hu ⟨a4,rfl⟩
   rw [hbw,List.getElem?_map] at hu
   obtain ⟨⟨r,t⟩,hbl2,rfl⟩:=Option.map_eq_some_iff.mp hu
   obtain ⟨ho,he⟩:=jY bs _ j (r,t) hg hbl2
   rw [he]
   generalize w4 ms (bs.take j) (fun p=>b.getD p 0)=s at *
   have k1:=kb s (r,t) ho
   have k1:r6 [.tup [lI (pz r),.int t],.int (ms.length:Int)]=.ok (.bl true):=k1
   have k2:=kg s r t ho
   have a0:L2.atI [lI (pz r),W.int t] 0=some (lI (pz r)):=rfl
   have a1:L2.atI [lI (pz r),W.int t] 1=some (.int t):=rfl
   have eb:blW (r,t)=.tup [lI (pz r),.int t]:=rfl
   generalize vF b.length s=sv at *
   generalize vF b.length (U8 ms s (r,t))=sv2 at *
   generalize pz r=rz at *
   refine ⟨_,rfl,?_⟩
   exists eb,hml,k1,a0,a1,k2
   exact ⟨_,rfl⟩
  ·rintro ρ ⟨a4,rfl⟩
   rw [hbl,List.take_length]
   exists rp18
 obtain ⟨v,e,rfl⟩:=fin
 exact e
noncomputable def V5 (ts:List Cap) (p:Nat):List (Option Int):=ts.map fun t=>t.getD p none
noncomputable def xsP (ts:List Cap) (p:Nat):List Int:=ts.map fun t=>(t.getD p none).getD 0
noncomputable def pkL (ts:List Cap) (p:Nat):List W:=if (V5 ts p).any (·.isNone)=true then [.str "grows"] else [.str "at most",.int (F1 (xsP ts p))]
theorem rp:∀ (cs:List (Option Int)),fIn false .non (lC cs)=.ok (.bl (cs.any (·.isNone))):=fun cs=>by
 unfold fIn
 rw [xr,jv,Bool.and_self,if_pos rfl]
 have:((pds (cs.map oW)).any fun y=>PyData.eqv y (pd .non))=cs.any (·.isNone):=by
  induction cs with
  | nil=>rfl
  | cons q qs ih=>
   rw [List.map_cons,pds,List.any_cons,List.any_cons,ih]
   cases q <;> rfl
 show (match some ((pds (cs.map oW)).any fun y=>PyData.eqv y (pd .non)) with | some b=>R.ok (W.bl (if false=true then !b else b)) | none=>.stuck)=_
 rw [this]; rfl
theorem qy {ts:List Cap} {p:Nat} (h:(V5 ts p).any (·.isNone)=false):(V5 ts p).map oW=(xsP ts p).map W.int:=by
 unfold V5 xsP at *
 rw [List.map_map,List.map_map]
 refine List.map_congr_left fun t ht=>?_
 rw [List.any_eq_false] at h
 have:=h _ (List.mem_map.mpr ⟨t,ht,rfl⟩)
 show oW (t.getD p none)=W.int ((t.getD p none).getD 0)
 cases hq:t.getD p none with
 | none=>rw [hq] at this; exact absurd rfl this
 | some x=>rfl
theorem qf {w:W} {ts:List Cap} {p most:Nat} (hc:O4 [w,.int (most:Int)]=.ok (.lst (ts.map tC))) (hl:ts.length≤100) (h0:0<ts.length) (hp:∀ t∈ts,p<t.length):aJ [w,.int (p:Int),.int (most:Int)]=.ok (.tup (pkL ts p)):=by
 have ek:∀ N mg me ρ (h:∀ t∈ts,∃ ρ1,mg (tC t) (ρ++List.replicate (N-ρ.length) Sl.un)=some ρ1∧me ρ1=.ok (oW (t.getD p none))),m5 N mg yes me (ts.map tC) ρ=.ok (lC (V5 ts p)):=fun N mg me ρ h=>by
  rw [l4 (fun t=>oW (t.getD p none)) _ _ ρ (by omega) h]
  exact congrArg (fun l=>R.ok (W.lst l)) (by unfold V5; rw [List.map_map]; rfl)
 have kin:=rp (V5 ts p)
 obtain ⟨tw,htw⟩:∃ tw,tw=ts.map tC:=⟨_,rfl⟩
 rw [← htw] at hc ek
 exists rpB,iz,hc
 rw [ek]
 rotate_left
 ·intro t ht
  have k:=atO (hp t ht)
  refine ⟨_,rfl,?_⟩
  exists k
 exists kin
 unfold pkL
 cases hn:(V5 ts p).any (·.isNone) with
 | true=>
  exists rp18
 | false=>
  have hb:Z7 F1 [lI (xsP ts p)]=.ok (.int (F1 (xsP ts p))):=fu (by unfold xsP; rw [List.length_map]; exact h0)
  exists rp18
  rw [qy hn]
  exists hb
theorem rS {st:List Int} {m:Mv} {i:Nat} (hi:i<st.length):(bhS st m).take (i+1)=(bhS st m).take i ++ [st.getD i 0-m.1.getD i 0+m.2.getD i 0]:=by
 have e:(bhS st m)[i]?=some (st.getD i 0-m.1.getD i 0+m.2.getD i 0):=by
  unfold bhS; rw [List.getElem?_map,List.getElem?_range hi]; rfl
 rw [List.take_add_one,e]; rfl
theorem qJ {st:List Int} {m:Mv} (h6:st.length≤6) (hm:okN st.length m):A1 [lI st,mW m]=.ok (if y4 st m=true then lI (bhS st m) else .non):=by
 have fin:Ok (A1 [lI st,mW m]) fun v=>v=if y4 st m=true then lI (bhS st m) else .non:=by
  have a0:L2.atI [tI m.1,tI m.2] 0=some (tI m.1):=rfl
  have a1:L2.atI [tI m.1,tI m.2] 1=some (tI m.2):=rfl
  exists rpB,U4
  refine u5 (x6 (fun i ρ=>∃ a,ρ = [.par (lI st),.par (mW m),.own (((bhS st m).take i).map W.int),a]∧∀ k,k<i→m.1.getD k 0≤st.getD k 0) ⟨_,rfl,fun k hk=>absurd hk (Nat.not_lt_zero _)⟩ ?_ ?_)
  ·rintro i u ρ hu ⟨a,rfl,hall⟩
   obtain ⟨hi,rfl⟩:=W9 hu
   have c1:=O7 (ns:=st) (k:=i) hi
   have m1:=O7 (ns:=m.1) (k:=i) (by rw [hm.1]; exact hi)
   have m2:=O7 (ns:=m.2) (k:=i) (by rw [hm.2.1]; exact hi)
   have ht:=rS (m:=m) hi
   have hal:((bhS st m).take i).length≤6:=by rw [List.length_take,R7]; omega
   refine ⟨_,rfl,?_⟩
   exists c1,a0,m1
   refine aE (fun h=>?_) (fun h=>?_)
   ·have h:=of_decide_eq_true h
    exists rp18
    have:y4 st m=false:=by
     unfold y4
     rw [List.all_eq_false]
     exact ⟨i,by simpa using hi,by rw [decide_eq_false (by omega)]; exact Bool.false_ne_true⟩
    rw [this]; rfl
   ·have h:=of_decide_eq_false h
    exists c1,a0,a1,m1,m2
    refine ⟨.par (.int (i:Int)),by rw [ht,List.map_append],fun k hk=>?_⟩
    by_cases e:k=i
    ·subst e; omega
    ·exact hall k (by omega)
  ·rintro ρ ⟨a,rfl,hall⟩
   rw [List.length_map,List.length_range] at hall
   have e1:(bhS st m).take ((List.range st.length).map fun k=>W.int (k:Nat)).length=bhS st m:=List.take_of_length_le (by rw [List.length_map,List.length_range,R7]; omega)
   rw [e1]
   exists rp18
   have:y4 st m=true:=by
    unfold y4
    rw [List.all_eq_true]
    exact fun k hk=>decide_eq_true (hall k (by simpa using hk))
   rw [if_pos this]
 obtain ⟨v,e,rfl⟩:=fin
 exact e
theorem vT (a b:Option Int):fEq false (oW a) (oW b)=.ok (.bl (decide (a=b))):=by
 cases a with
 | none=>
  cases b with
  | none=>rfl
  | some y=>rw [show oW none=W.non from rfl,show oW (some y)=W.int y from rfl,iK]; rfl
 | some x=>
  cases b with
  | none=>rw [show oW none=W.non from rfl,show oW (some x)=W.int x from rfl,iL]; rfl
  | some y=>
   rw [show oW (some x)=W.int x from rfl,show oW (some y)=W.int y from rfl,iM]
   by_cases h:x=y <;> simp [h]
theorem jk {b zs:List Int} {ms:List Mv} {c:Cap} {es:List GEnt} {ts:List Cap} (hc:c=b.map some) (h6:b.length≤6) (h8:ms.length≤8) (hK:GK c ms es (es.length+1) 0) (hms:∀ m∈ms,okN c.length m) (q1:∀ t∈ts,t∈stC c es) (q4:∀ d∈stC c es,∃ t∈ts,i8 d t=true):Ok (A9 [tI b,tM_ ms,lI zs]) fun w=>∃ g:List Int,w=lI g∧g.length=b.length∧∀ p,p<b.length→∃ t∈ts,B6 (some (g.getD p 0)) (t.getD p none)=true:=by
 have hcl:c.length=b.length:=by rw [hc,List.length_map]
 have hlen:=cS hK
 have h0:∃ t∈ts,i8 (b.map some) t=true:=q4 _ (by rw [← hc]; exact List.mem_cons_self)
 have up:∀ st:List Int,st.length=c.length→(∃ t∈ts,i8 (st.map some) t=true)→∀ p,p<b.length→∃ t∈ts,B6 (some (st.getD p 0)) (t.getD p none)=true:=fun st hst zz88 p hp=>by
  obtain ⟨t,ht,hu⟩:=zz88
  have:=gy hu (k:=p) (by rw [List.length_map]; omega)
  rw [ay (by omega)] at this
  exact ⟨t,ht,this⟩
 have kw:∀ (st:List Int) N mg me ρ (h:∀ m∈ms,∃ ρ1,mg (mW m) (ρ++List.replicate (N-ρ.length) Sl.un)=some ρ1∧me ρ1=.ok (if y4 st m=true then lI (bhS st m) else .non)),m5 N mg yes me (ms.map mW) ρ=.ok (.lst (ms.map fun m=>if y4 st m=true then lI (bhS st m) else .non)):=fun st N mg me ρ h=>by
  rw [l4 (fun m=>if y4 st m=true then lI (bhS st m) else .non) _ _ ρ (by omega) h]
 have kf:∀ (st:List Int) N mg mc me ρ (h:∀ m∈ms,∃ ρ1,mg (if y4 st m=true then lI (bhS st m) else .non) (ρ++List.replicate (N-ρ.length) Sl.un)=some ρ1∧mc ρ1=.ok (y4 st m)∧(y4 st m=true→me ρ1=.ok (lI (bhS st m)))),m5 N mg mc me (ms.map fun m=>if y4 st m=true then lI (bhS st m) else .non) ρ=.ok (.lst ((ms.filter (y4 st)).map fun m=>lI (bhS st m))):=fun st N mg mc me ρ h=>by
  rw [X9 (fun m=>lI (bhS st m)) _ (y4 st) _ ρ (by omega) h]
 exists rpB,P9,W0 (C4 b)
 refine u5 (x6 (fun i ρ=>∃ (st g:List Int) (a3 a5 a6:Sl),ρ = [.par (tI b),.par (tM_ ms),.par (lI zs),a3,.own (g.map W.int),a5,a6]∧(a3=.own (st.map W.int)∨a3=.val (lI st))∧st.length=c.length∧(∃ t∈ts,i8 (st.map some) t=true)∧g.length=b.length∧∀ p,p<b.length→∃ t∈ts,B6 (some (g.getD p 0)) (t.getD p none)=true) ⟨b,b,_,_,_,rfl,.inl rfl,hcl.symm,h0,rfl,up b hcl.symm h0⟩ ?_ ?_)
 ·rintro i u ρ hu ⟨st,g,a3,a5,a6,rfl,h4,hst,hex,hgl,hg⟩
  rw [List.getElem?_map] at hu
  obtain ⟨z,hz,rfl⟩:=Option.map_eq_some_iff.mp hu
  have r4:rdS .B (some a3)=.ok (lI st):=by rcases h4 with rfl | rfl <;> rfl
  have hfl:(ms.filter (y4 st)).length≤8:=Nat.le_trans (List.length_filter_le _ _) h8
  refine ⟨_,rfl,?_⟩
  exists rp18
  rw [kw st]
  rotate_left
  ·intro m hm
   have k:=qJ (st:=st) (m:=m) (by omega) (by rw [hst]; exact hms m hm)
   refine ⟨_,rfl,?_⟩
   exists r4,k
  exists rp18
  rw [kf st]
  rotate_left
  ·intro m hm
   refine ⟨_,rfl,?_,fun h=>?_⟩
   ·cases hab:y4 st m with
    | true=>
     exists rp18
    | false=>
     exists rp18
   ·rw [if_pos h]
    exists rp18
  obtain ⟨fs,hfs⟩:∃ fs,fs=ms.filter (y4 st):=⟨_,rfl⟩
  obtain ⟨fw,hfw⟩:∃ fw,fw=fs.map fun m=>lI (bhS st m):=⟨_,rfl⟩
  have hfwl:fw.length=fs.length:=by rw [hfw,List.length_map]
  rw [← hfs] at hfl
  rw [← hfs,← hfw]
  exists hfwl
  refine cC (fun h=>?_) (fun h=>?_)
  ·have h:0<(fs.length:Int):=by simpa using h
   obtain ⟨y,hy⟩:∃ y,y=z*48271%1000003/7:=⟨_,rfl⟩
   have m0:0≤y%(fs.length:Int):=Int.emod_nonneg _ (by omega)
   have m1:y%(fs.length:Int)<(fs.length:Int):=Int.emod_lt_of_pos _ h
   obtain ⟨j,hj⟩:∃ j:Nat,y%(fs.length:Int)=(j:Int):=⟨(y%(fs.length:Int)).toNat,by omega⟩
   have hjl:j<fs.length:=by omega
   rw [hy] at hj
   obtain ⟨m,hm⟩:∃ m,fs[j]?=some m:=⟨fs[j],List.getElem?_eq_getElem hjl⟩
   have hmf:m∈ms∧y4 st m=true:=by
    have:=List.mem_of_getElem? hm
    rw [hfs] at this
    exact List.mem_filter.mp this
   have aj:L2.atI fw (j:Int)=some (lI (bhS st m)):=Q4 (by rw [hfw,List.getElem?_map,hm]; rfl)
   have hnew:=ot hK hms q1 q4 hst hmf.1 hmf.2 hex
   have hbl:(bhS st m).length=c.length:=by rw [R7,hst]
   have hbl2:(bhS st m).length=b.length:=by omega
   have km:∀ N mg me ρ (h:∀ p,p<b.length→∃ ρ1,mg (.int (p:Nat)) (ρ++List.replicate (N-ρ.length) Sl.un)=some ρ1∧me ρ1=.ok (.int (max (g.getD p 0) ((bhS st m).getD p 0)))),m5 N mg yes me ((List.range b.length).map fun k=>W.int (k:Nat)) ρ=.ok (lI ((List.range b.length).map fun p=>max (g.getD p 0) ((bhS st m).getD p 0))):=fun N mg me ρ h=>by
    rw [l4 (fun p=>.int (max (g.getD p 0) ((bhS st m).getD p 0))) _ _ ρ (by simp; omega) (fun k hk=>h k (by simpa using hk)),db]
   generalize bhS st m=sn at *
   exists hfwl,hj,aj,hbl2
   rw [km]
   ·exists rp18
    refine ⟨sn,_,_,_,_,rfl,.inr rfl,hbl,hnew,by simp,fun p hp=>?_⟩
    rw [F7 hp]
    by_cases q:g.getD p 0≤sn.getD p 0
    ·rw [show max (g.getD p 0) (sn.getD p 0)=sn.getD p 0 by omega]
     exact up sn hbl hnew p hp
    ·rw [show max (g.getD p 0) (sn.getD p 0)=g.getD p 0 by omega]
     exact hg p hp
   ·intro p hp
    have c1:=O7 (ns:=g) (k:=p) (by omega)
    have c2:=O7 (ns:=sn) (k:=p) (by omega)
    refine ⟨_,rfl,?_⟩
    exists c1,c2
  ·exists rp18
   exact ⟨st,g,_,_,_,rfl,h4,hst,hex,hgl,hg⟩
 ·rintro ρ ⟨st,g,a3,a5,a6,rfl,h4,hst,hex,hgl,hg⟩
  exists rp18
  exact ⟨g,rfl,hgl,hg⟩
theorem cY {b:List Int} {ms:List Mv} {es:List GEnt} {ts:List Cap} {p:Nat} {hh sn:Int} (h1:1≤b.length) (h6:b.length≤6) (hbn:nn b) (hm:∀ m∈ms,okN b.length m) (hs:W7 ms) (h29:es.length≤29) (hK:GK (b.map some) ms es (es.length+1) 0) (hcr:O4 [.tup [tI b,tM_ ms],.int 30]=.ok (.lst (ts.map tC))) (htl:ts.length≤es.length+1) (q1:∀ t∈ts,t∈stC (b.map some) es) (q4:∀ d∈stC (b.map some) es,∃ t∈ts,i8 d t=true) (hp:p<b.length) (hsn:∃ t∈ts,B6 (some sn) (t.getD p none)=true) :
  x9 [.tup [tI b,tM_ ms],.lst (h7 (b.map some) es),.int (p:Int),.int hh,.int sn]=.ok (.bl true):=by
 have hcl:(b.map some).length=b.length:=List.length_map ..
 have hlen:=cS hK
 have ht0:0<ts.length:=by
  obtain ⟨t,ht,_⟩:=hsn
  exact List.length_pos_of_mem ht
 have htp:∀ t∈ts,p<t.length:=fun t ht=>by rw [hlen t (q1 t ht),hcl]; exact hp
 have kp:=qf (most:=30) hcr (by omega) ht0 htp
 obtain ⟨c,hc⟩:∃ c:Cap,c=b.map some:=⟨_,rfl⟩
 have kc:∀ n:Nat,n≤es.length→Ok (R5 [.tup [tI b,tM_ ms],.lst (h7 c es),.int (n:Int),.int hh]) fun w=>∃ bs:List Blk,w=.lst (bs.map blW)∧bs.length≤40∧ldB b.length ms c (fun _=>0) bs (sC c es n) (fun _=>hh):=fun n hn=>by rw [hc]; exact rL hK h1 h6 hbn hm hs h29 hn
 have kd:∀ bs:List Blk,bs.length≤40→goB b.length ms bs (fun p=>b.getD p 0)→o5 [tI b,tM_ ms,.lst (bs.map blW)]=.ok (lI (vF b.length (w4 ms bs fun p=>b.getD p 0))):=fun bs hl hg=>lJ h6 hm hs hl hg
 have hfit:rl b.length c (fun _=>0) fun p=>b.getD p 0:=fun q hq=>by
  rw [hc,ay hq]
  exact ⟨fun v hv=>Option.some.inj hv,fun h=>by cases h⟩
 have a0:L2.atI [tI b,tM_ ms] 0=some (tI b):=rfl
 have a1:L2.atI [tI b,tM_ ms] 1=some (tM_ ms):=rfl
 rw [← hc] at hK hcl q1 q4 hlen ⊢
 -- the choice of a number of the tree
 have key:∀ o:Option Int,(∃ t∈ts,t.getD p none=o)→∃ (L:List Nat) (n0:Nat),(List.range (es.length+1)).filter (fun k=>decide ((sC c es k).getD p none=o))=n0::L∧n0≤es.length∧(sC c es n0).getD p none=o∧L.length≤30:=fun o zz89=>by
  obtain ⟨t,ht,hto⟩:=zz89
  obtain ⟨a,ha,ea⟩:=gK (q1 t ht)
  have hm2:a∈(List.range (es.length+1)).filter (fun k=>decide ((sC c es k).getD p none=o)):=List.mem_filter.mpr ⟨List.mem_range.mpr (by omega),decide_eq_true (by rw [← ea]; exact hto)⟩
  have hll:=List.length_filter_le (fun k=>decide ((sC c es k).getD p none=o)) (List.range (es.length+1))
  rw [List.length_range] at hll
  cases hL:(List.range (es.length+1)).filter (fun k=>decide ((sC c es k).getD p none=o)) with
  | nil=>rw [hL] at hm2; cases hm2
  | cons n0 L=>
   have:n0∈(List.range (es.length+1)).filter (fun k=>decide ((sC c es k).getD p none=o)):=by rw [hL]; exact List.mem_cons_self
   obtain ⟨g1,g2⟩:=List.mem_filter.mp this
   rw [hL,List.length_cons] at hll
   exact ⟨L,n0,rfl,by have:=List.mem_range.mp g1; omega,of_decide_eq_true g2,by omega⟩
 have ek:∀ o N mg mc me ρ (h:∀ k,k<es.length+1→∃ ρ1,mg (.int (k:Nat)) (ρ++List.replicate (N-ρ.length) Sl.un)=some ρ1∧mc ρ1=.ok (decide ((sC c es k).getD p none=o))∧(decide ((sC c es k).getD p none=o)=true→me ρ1=.ok (.int (k:Nat)))),m5 N mg mc me ((List.range (es.length+1)).map fun k=>W.int (k:Nat)) ρ=.ok (lI (pz ((List.range (es.length+1)).filter fun k=>decide ((sC c es k).getD p none=o)))):=fun o N mg mc me ρ h=>by
  rw [X9 (fun k=>.int (k:Nat)) (fun k=>W.int (k:Nat)) (fun k=>decide ((sC c es k).getD p none=o)) _ ρ (by simp; omega) (fun k hk=>h k (by simpa using hk))]
  exact congrArg (fun l=>R.ok (W.lst l)) (aZ _).symm
 have hrl:(h7 c es).length=es.length+1:=by simp
 have hsel:∀ k,k<es.length+1→∃ x y:W,L2.atI (h7 c es) (k:Int)=some (.tup [tC (sC c es k),x,y]):=fun k hk=>Q9 (by omega)
 have hsl:∀ k,k<es.length+1→p<(sC c es k).length:=fun k hk=>by rw [hlen _ (bT (by omega)),hcl]; exact hp
 obtain ⟨mo,hmo⟩:∃ mo,mo=W.tup [tI b,tM_ ms]:=⟨_,rfl⟩
 have am0:fIx mo (.int 0)=.ok (tI b):=by rw [hmo]; rfl
 have am1:fIx mo (.int 1)=.ok (tM_ ms):=by rw [hmo]; rfl
 rw [← hmo] at kp kc ⊢
 obtain ⟨rw_,hrw⟩:∃ rw_,rw_=h7 c es:=⟨_,rfl⟩
 rw [← hrw] at kc hrl hsel ⊢
 have fin:Ok (x9 [mo,.lst rw_,.int (p:Int),.int hh,.int sn]) fun v=>v=.bl true:=by
  have start:∃ (fw:List W) (o:Option Int),pkL ts p=fw∧((fw = [.str "grows"]∧o=none)∨∃ v,fw = [.str "at most",.int v]∧o=some v∧sn≤v)∧∃ t∈ts,t.getD p none=o:=by
   unfold pkL
   cases hn:(V5 ts p).any (·.isNone) with
   | true=>
    obtain ⟨x,hx,hx2⟩:=List.any_eq_true.mp hn
    obtain ⟨t,ht,rfl⟩:=List.mem_map.mp hx
    refine ⟨_,none,rfl,.inl ⟨rfl,rfl⟩,t,ht,?_⟩
    cases q:t.getD p none with
    | none=>rfl
    | some v=>rw [q] at hx2; cases hx2
   | false=>
    have hxl:0<(xsP ts p).length:=by unfold xsP; rw [List.length_map]; exact ht0
    have dv:∀ t∈ts,∃ v,t.getD p none=some v:=fun t ht=>by
     rw [List.any_eq_false] at hn
     have:=hn _ (List.mem_map.mpr ⟨t,ht,rfl⟩)
     cases q:t.getD p none with
     | none=>rw [q] at this; exact absurd rfl this
     | some v=>exact ⟨v,rfl⟩
    obtain ⟨tm,htm,em⟩:=List.mem_map.mp (qF (ns:=xsP ts p) hxl)
    obtain ⟨vm,hvm⟩:=dv tm htm
    rw [hvm] at em
    have em:vm=F1 (xsP ts p):=em
    refine ⟨_,some (F1 (xsP ts p)),rfl,.inr ⟨_,rfl,rfl,?_⟩,tm,htm,by rw [hvm,em]⟩
    obtain ⟨t,ht,hu⟩:=hsn
    obtain ⟨v,hv⟩:=dv t ht
    rw [hv] at hu
    have hu:sn≤v:=of_decide_eq_true hu
    obtain ⟨k,hk,ek⟩:=List.mem_iff_getElem.mp (show v∈xsP ts p from List.mem_map.mpr ⟨t,ht,by rw [hv]; rfl⟩)
    have:=fm (ns:=xsP ts p) k hk
    rw [List.getD_eq_getElem?_getD,List.getElem?_eq_getElem hk,ek] at this
    have this:v≤F1 (xsP ts p):=this
    omega
  obtain ⟨fw,o,hfw,hfo,hto⟩:=start
  rw [hfw] at kp
  have kp:aJ [mo,.int (p:Int),.int 30]=.ok (.tup fw):=kp
  have rest:∀ ρ,ρ = [Sl.par mo,.par (.lst rw_),.par (.int (p:Int)),.par (.int hh),.par (.int sn),.val (.tup fw),.val (oW o),.un,.un]→Po ((c6 (sF 7 (o0 10 (bI N2 (aC (bA fLen (aC (b5 .B 1) aN)) aN)) (gN .U 9) (d6 (b2 (fEq false) (b2 fIx (b2 fIx (b2 fIx (b5 .B 1) (b5 .B 9)) (mC (.int 0))) (b5 .B 2)) (b5 .B 6))) (b5 .V 9)))
  (c6 (mIf (d6 (b2 (y8 false) (bA fLen (aC (b5 .B 7) aN)) (mC (.int 0)))) (i9 (mC (.bl false))) sNx)
  (c6 (sF 8 (bA o5 (aC (b2 fIx (b5 .B 0) (mC (.int 0))) (aC (b2 fIx (b5 .B 0) (mC (.int 1))) (aC (bA R5 (aC (b5 .B 0) (aC (b5 .B 1) (aC (b2 fIx (b5 .B 7) (mC (.int 0))) (aC (b5 .B 3) aN))))) aN)))))
  (c6 (mIf (d6 (b2 (F2 false) (b5 .B 8) (mC .non))) (i9 (mC (.bl false))) sNx)
  (c6 (mIf (d6 (b2 (F2 false) (b5 .B 6) (mC .non))) (i9 (b2 (fI0 gGe) (b2 fIx (b5 .B 8) (b5 .B 2)) (b5 .B 3))) sNx)
  (i9 (b2 (fEq false) (b2 fIx (b5 .B 8) (b5 .B 2)) (b5 .B 6)))))))) ρ) (fun _=>W.non=W.bl true) (fun v=>v=.bl true):=by
   rintro ρ rfl
   obtain ⟨L,n0,hL,hn0,hno,hLl⟩:=key o hto
   obtain ⟨_,ec,bs,rfl,hbs,hld⟩:=kc n0 hn0
   obtain ⟨hgo,hfit2⟩:=hld _ hfit
   have kd2:=kd bs hbs hgo
   obtain ⟨f1,f2⟩:=hfit2 p hp
   have rO:rdS .B (some (.val (oW o)))=.ok (oW o):=rfl
   exists hrl
   rw [ek o]
   rotate_left
   ·intro k hk
    obtain ⟨x,y,er⟩:=hsel k hk
    have b0:L2.atI [tC (sC c es k),x,y] 0=some (tC (sC c es k)):=rfl
    have y1:=atO (hsl k hk)
    have y2:=vT ((sC c es k).getD p none) o
    generalize (sC c es k).getD p none=g at *
    refine ⟨_,rfl,?_,fun _=>?_⟩
    ·exists er,b0,y1,y2
    ·exists rp18
   rw [hL]
   have hzl:(pz (n0::L)).length=L.length+1:=by rw [J8,List.length_cons]
   have dz:decide (((L.length+1:Nat):Int)=0)=false:=decide_eq_false (by omega)
   have z0:L2.atI ((pz (n0::L)).map W.int) 0=some (.int (n0:Int)):=Q4 (k:=0) (by unfold pz; rfl)
   generalize pz (n0::L)=zl at *
   have sv:=aR (n:=b.length) (w4 ms bs fun p=>b.getD p 0) hp
   obtain ⟨bw,hbw⟩:∃ bw,bw=bs.map blW:=⟨_,rfl⟩
   rw [← hbw] at ec kd2
   generalize vF b.length (w4 ms bs fun p=>b.getD p 0)=vv at *
   generalize w4 ms bs (fun p=>b.getD p 0) p=ev at *
   have mb0:L2.atI [tI b,tM_ ms] 0=some (tI b):=rfl
   have mb1:L2.atI [tI b,tM_ ms] 1=some (tM_ ms):=rfl
   cases o with
   | none=>
    have eo:oW none=.non:=rfl
    have f2:hh≤ev:=f2 hno
    have dg:decide (hh≤ev)=true:=decide_eq_true f2
    exists eo,hzl,dz,z0,am0,am1,ec,kd2,sv,dg
   | some v=>
    have eo:oW (some v)=.int v:=rfl
    have f1:ev=v:=f1 v hno
    have k3:fEq false (.int ev) (.int v)=.ok (.bl true):=by rw [f1]; exact iJ (Q8 8 v)
    exists eo,hzl,dz,z0,am0,am1,ec,kd2,sv,k3
  have hx:∃ (x:Str) (bt:Bool),L2.atI fw 0=some (.str x)∧y8 false (.str x) (.str "at most")=.ok (.bl bt)∧(bt=true→∃ v,fw = [.str "at most",.int v]∧o=some v∧sn≤v)∧(bt=false→fw = [.str "grows"]∧o=none):=by
   rcases hfo with ⟨rfl,rfl⟩ | ⟨v,rfl,rfl,hv⟩
   ·exact ⟨"grows",false,rfl,by rfl,(fun h=>by cases h),fun _=>⟨rfl,rfl⟩⟩
   ·exact ⟨"at most",true,rfl,by rfl,fun _=>⟨v,rfl,rfl,hv⟩,fun h=>by cases h⟩
  obtain ⟨x,bt,w0,e1,hbt,hbf⟩:=hx
  have i1:fIsi [.str x,.ty "str"]=.ok (.bl true):=rfl
  exists rpB,X8,kp,w0,i1,e1
  refine u5 (T6 (fun ρ=>ρ = [Sl.par mo,.par (.lst rw_),.par (.int (p:Int)),.par (.int hh),.par (.int sn),.val (.tup fw),.val (oW o),.un,.un]) ?_ rest)
  cases bt with
  | true=>
   obtain ⟨v,rfl,rfl,hv⟩:=hbt rfl
   have v1:L2.atI [W.str "at most",W.int v] 1=some (.int v):=rfl
   have d2:decide (((2:Nat):Int)=2)=true:=rfl
   have kwh:=cO v
   have d3:decide (v<sn)=false:=decide_eq_false (by omega)
   have eo:oW (some v)=.int v:=rfl
   exists v1,d2,kwh,d3,eo
  | false=>
   obtain ⟨rfl,rfl⟩:=hbf rfl
   have k2:fEq true (.tup [.str "grows"]) (.tup [.str "grows"])=.ok (.bl false):=iJ (by decide +kernel)
   have eo:oW none=.non:=rfl
   exists k2,eo
 obtain ⟨v,e,rfl⟩:=fin
 exact e
theorem law_pure (ns:List Int) (h:ns.length≤63):dZ [.scr (ns.map W.int)]=.ok (.bl true):=by
 have fin:Ok (dZ [.scr (ns.map W.int)]) fun v=>v=.bl true:=by
  obtain ⟨_,e0,b,ms,rfl,hb1,hb6,hbn,hm,hml,hmu⟩:=qX (ns:=ns)
  obtain ⟨_,f4,d4,rfl,_,_⟩:=O5 (ns:=ns) (k:=4) (m:=10) (by omega) (by omega) (by omega)
  obtain ⟨_,f3,d3,rfl,_,_⟩:=O5 (ns:=ns) (k:=3) (m:=2) (by omega) (by omega) (by omega)
  obtain ⟨_,ec,cz,rfl⟩:=Y2 (ns:=ns) (k:=4)
  have hs:=pw hm hmu
  obtain ⟨w,u,eg,ecr,hw⟩:=rH (most:=30) hb1 hb6 hm hml (by omega) (by omega)
  have eg:B2 [.tup [tI b,tM_ ms],.int 30]=.ok w:=eg
  have ecr:O4 [.tup [tI b,tM_ ms],.int 30]=.ok u:=ecr
  have a0:L2.atI [tI b,tM_ ms] 0=some (tI b):=rfl
  have a1:L2.atI [tI b,tM_ ms] 1=some (tM_ ms):=rfl
  rcases hw with ⟨rfl,rfl⟩ | ⟨es,ts,rfl,hes,hK,rfl,q1,q2,q3,q4⟩
  ·exists rpB,gs,e0,eg
   exact ⟨_,rfl,rfl⟩
  ·have hmc:∀ m∈ms,okN (b.map some).length m:=by rw [List.length_map]; exact hm
   have kp:∀ (p:Nat) (hh sn:Int),p<b.length→(∃ t∈ts,B6 (some sn) (t.getD p none)=true)→x9 [.tup [tI b,tM_ ms],.lst (h7 (b.map some) es),.int (p:Int),.int hh,.int sn]=.ok (.bl true):=fun p hh sn hp hsn=>cY hb1 hb6 hbn hm hs (by omega) hK ecr q2 q1 q4 hp hsn
   obtain ⟨rw_,hrw⟩:∃ rw_,rw_=h7 (b.map some) es:=⟨_,rfl⟩
   rw [← hrw] at eg kp
   exists rpB,gs,e0,eg,f4,f3
   refine u5 (T6 (fun ρ=>∃ hh:Int,ρ = [.par (.scr (ns.map W.int)),.val (.tup [tI b,tM_ ms]),.own rw_,.val (.int hh),.un,.un]) ?_ ?_)
   ·refine cC (fun q=>?_) (fun q=>?_)
    ·exists ec
     exact ⟨_,rfl⟩
    ·exists rp18
     exact ⟨_,rfl⟩
   rintro ρ ⟨hh,rfl⟩
   obtain ⟨_,kg,g,rfl,hgl,hg⟩:=jk (zs:=bz ns none (some 200)) rfl hb6 hml hK hmc q1 q4
   exists a0,a1,kg
   refine x6 (fun i ρ=>∃ a5:Sl,ρ = [.par (.scr (ns.map W.int)),.val (.tup [tI b,tM_ ms]),.own rw_,.val (.int hh),.own (g.map W.int),a5]) ⟨_,rfl⟩ ?_ ?_
   ·rintro i u ρ hu ⟨a5,rfl⟩
    obtain ⟨hi,rfl⟩:=W9 hu
    have c1:=O7 (ns:=g) (k:=i) (by omega)
    have k:=kp i hh (g.getD i 0) hi (hg i hi)
    refine ⟨_,rfl,?_⟩
    exists c1,k
    exact ⟨_,rfl⟩
   ·rintro ρ ⟨a5,rfl⟩
    exists rp18
 obtain ⟨v,e,rfl⟩:=fin
 exact e
end K46
set_option maxHeartbeats 4000000
open PySem L2 TP
namespace K46
local macro_rules | `(tactic| trivial)=>`(tactic| first | exact Or.inl rfl | exact Or.inr rfl | exact Or.inr (Or.inl rfl) | exact Or.inr (Or.inr rfl) | assumption)
noncomputable def top (i:Nat):Stmt:=PySem.Challenge.pw_tokenmoor_k46_whole_peaks_are_come_to.main.body.getD i (.Pass ⟨0,0,0,0⟩)
noncomputable abbrev V9:Stmt:=top 4
noncomputable abbrev ax:Stmt:=top 6
noncomputable abbrev L8:Stmt:=top 7
noncomputable abbrev av:Stmt:=top 9
noncomputable abbrev O8:Stmt:=top 10
noncomputable abbrev T0:Stmt:=top 11
noncomputable abbrev K7:Stmt:=top 12
noncomputable abbrev V8:Stmt:=top 13
noncomputable abbrev gj:Stmt:=top 14
noncomputable abbrev S8:Stmt:=top 15
noncomputable abbrev az:Stmt:=top 16
noncomputable abbrev dE:Stmt:=top 17
noncomputable abbrev F9:Stmt:=top 18
noncomputable abbrev bO:Stmt:=top 19
noncomputable abbrev cw:Stmt:=top 21
noncomputable abbrev aw:Stmt:=top 22
noncomputable abbrev Q7:Stmt:=top 23
noncomputable abbrev W6:Stmt:=top 24
noncomputable abbrev kC:Stmt:=top 26
noncomputable abbrev J0:Stmt:=top 27
noncomputable abbrev S9:Stmt:=top 28
noncomputable abbrev S7:Stmt:=top 29
noncomputable abbrev bP:Stmt:=top 30
noncomputable abbrev O9:Stmt:=top 31
noncomputable abbrev M5:Stmt:=top 32
noncomputable abbrev dC:Stmt:=top 33
noncomputable abbrev u8:Stmt:=top 35
noncomputable abbrev C8:Stmt:=top 36
noncomputable abbrev M6:Stmt:=top 37
noncomputable abbrev S5:Stmt:=top 38
noncomputable abbrev V1:Stmt:=top 39
noncomputable abbrev L9:Stmt:=top 40
noncomputable abbrev B9:Stmt:=top 41
noncomputable abbrev C7:Stmt:=top 42
noncomputable abbrev M7:Stmt:=top 43
noncomputable abbrev P0:Stmt:=top 44
noncomputable abbrev v4:Stmt:=top 45
noncomputable abbrev M0:Stmt:=top 46
noncomputable abbrev bN:Stmt:=top 47
structure Blt (mg:Str→Option Value):Prop where
 all_:mg "all" = none
 bool_:mg "bool" = none
 int_:mg "int" = none
 isinstance_:mg "isinstance" = none
 len_:mg "len" = none
 list_:mg "list" = none
 max_:mg "max" = none
 range_:mg "range" = none
 reversed_:mg "reversed" = none
 sorted_:mg "sorted" = none
 str_:mg "str" = none
 tuple_:mg "tuple" = none
 zip_:mg "zip" = none
theorem pE:g9 ["move"] ["move"] (c0 V9):=⟨rfl,rfl,rfl,by decide +kernel,rfl,by decide +kernel,by decide +kernel⟩
theorem pB:g9 ["stand", "move"] ["stand", "move"] (c0 ax):=⟨rfl,rfl,rfl,by decide +kernel,rfl,by decide +kernel,by decide +kernel⟩
theorem gR:g9 ["stand", "other"] ["stand", "other"] (c0 L8):=⟨rfl,rfl,rfl,by decide +kernel,rfl,by decide +kernel,by decide +kernel⟩
theorem eK:g9 ["cap", "other", "number", "bound"] ["cap", "other"] (c0 av):=⟨rfl,rfl,rfl,by decide +kernel,rfl,by decide +kernel,by decide +kernel⟩
theorem cJ:g9 ["cap", "caps", "other"] ["cap", "caps"] (c0 O8):=⟨rfl,rfl,rfl,by decide +kernel,rfl,by decide +kernel,by decide +kernel⟩
theorem kI:g9 ["cap", "move"] ["cap", "move"] (c0 T0):=⟨rfl,rfl,rfl,by decide +kernel,rfl,by decide +kernel,by decide +kernel⟩
theorem ja:g9 ["cap", "move"] ["cap", "move"] (c0 K7):=⟨rfl,rfl,rfl,by decide +kernel,rfl,by decide +kernel,by decide +kernel⟩
theorem pC:g9 ["cap", "elder"] ["cap", "elder"] (c0 V8):=⟨rfl,rfl,rfl,by decide +kernel,rfl,by decide +kernel,by decide +kernel⟩
theorem gP:g9 ["caps", "found", "cap"] ["caps"] (c0 gj):=⟨rfl,rfl,rfl,by decide +kernel,rfl,by decide +kernel,by decide +kernel⟩
theorem kH:g9 ["cap"] ["cap"] (c0 S8):=⟨rfl,rfl,rfl,by decide +kernel,rfl,by decide +kernel,by decide +kernel⟩
theorem W8:g9 ["moor", "most", "tree", "at", "number"] ["moor", "most"] (c0 az):=⟨rfl,rfl,rfl,by decide +kernel,rfl,by decide +kernel,by decide +kernel⟩
theorem bQ:g9 ["moor", "tree", "at", "number", "move", "cap", "elder"] ["moor", "tree", "at", "number"] (c0 dE):=⟨rfl,rfl,rfl,by decide +kernel,rfl,by decide +kernel,by decide +kernel⟩
theorem V0:g9 ["tree", "number", "numbers", "at"] ["tree", "number"] (c0 F9):=⟨rfl,rfl,rfl,by decide +kernel,rfl,by decide +kernel,by decide +kernel⟩
theorem jw:g9 ["moor", "most", "tree"] ["moor", "most"] (c0 bO):=⟨rfl,rfl,rfl,by decide +kernel,rfl,by decide +kernel,by decide +kernel⟩
theorem aY:g9 ["moor", "row", "needed", "number"] ["moor", "row"] (c0 cw):=⟨rfl,rfl,rfl,by decide +kernel,rfl,by decide +kernel,by decide +kernel⟩
theorem aW:g9 ["moor", "row", "total", "number"] ["moor", "row"] (c0 aw):=⟨rfl,rfl,rfl,by decide +kernel,rfl,by decide +kernel,by decide +kernel⟩
theorem mT:g9 ["stand", "step", "times"] ["stand", "step", "times"] (c0 Q7):=⟨rfl,rfl,rfl,by decide +kernel,rfl,by decide +kernel,by decide +kernel⟩
theorem mV:g9 ["moor"] ["moor"] (c0 W6):=⟨rfl,rfl,rfl,by decide +kernel,rfl,by decide +kernel,by decide +kernel⟩
theorem Bz:g9 ["tree", "number"] ["tree", "number"] (c0 kC):=⟨rfl,rfl,rfl,by decide +kernel,rfl,by decide +kernel,by decide +kernel⟩
theorem bG:g9 ["tree", "elder", "number", "path"] ["tree", "elder", "number"] (c0 J0):=⟨rfl,rfl,rfl,by decide +kernel,rfl,by decide +kernel,by decide +kernel⟩
theorem C6:g9 ["moor", "tree", "number", "found", "cap", "elder", "higher", "places"] ["moor", "tree", "number"] (c0 S9):=⟨rfl,rfl,rfl,by decide +kernel,rfl,by decide +kernel,by decide +kernel⟩
theorem dF:g9 ["moor", "tree", "number", "row"] ["moor", "tree", "number"] (c0 S7):=⟨rfl,rfl,rfl,by decide +kernel,rfl,by decide +kernel,by decide +kernel⟩
theorem B7:g9 ["moor", "tree", "number", "height", "wanted", "blocks", "at", "cap", "elder", "places", "row", "times"] ["moor", "tree", "number", "height"] (c0 bP):=⟨rfl,rfl,rfl,by decide +kernel,rfl,by decide +kernel,by decide +kernel⟩
theorem iZ:g9 ["cap", "step", "places", "wanted"] ["cap", "step", "places", "wanted"] (c0 O9):=⟨rfl,rfl,rfl,by decide +kernel,rfl,by decide +kernel,by decide +kernel⟩
theorem K6:g9 ["moor", "row", "times", "wanted", "needed", "step", "first_and_last"] ["moor", "row", "times", "wanted"] (c0 M5):=⟨rfl,rfl,rfl,by decide +kernel,rfl,by decide +kernel,by decide +kernel⟩
theorem gQ:g9 ["moor", "place", "most", "caps", "numbers"] ["moor", "place", "most"] (c0 dC):=⟨rfl,rfl,rfl,by decide +kernel,rfl,by decide +kernel,by decide +kernel⟩
theorem eL:g9 ["_law_script", "_law_k"] ["_law_script", "_law_k"] (c0 u8):=⟨rfl,rfl,rfl,by decide +kernel,rfl,by decide +kernel,by decide +kernel⟩
theorem jb:g9 ["_law_script", "_law_k", "_law_many"] ["_law_script", "_law_k", "_law_many"] (c0 C8):=⟨rfl,rfl,rfl,by decide +kernel,rfl,by decide +kernel,by decide +kernel⟩
theorem x5:g9 ["_law_script", "_law_at", "_law_places", "_law_menu", "_law_scale_here", "_law_found", "_law_k", "_law_held"] ["_law_script", "_law_at", "_law_places", "_law_menu", "_law_scale_here"] (c0 M6):=⟨rfl,rfl,rfl,by decide +kernel,rfl,by decide +kernel,by decide +kernel⟩
theorem bR:g9 ["_law_script", "_law_kind"] ["_law_script"] (c0 S5):=⟨rfl,rfl,rfl,by decide +kernel,rfl,by decide +kernel,by decide +kernel⟩
theorem v5:g9 ["_law_script", "_law_places", "_law_scale_here", "_law_moves", "_law_k", "_law_at", "_law_take", "_law_put", "_law_begin"] ["_law_script"] (c0 V1):=⟨rfl,rfl,rfl,by decide +kernel,rfl,by decide +kernel,by decide +kernel⟩
theorem gU:g9 ["_law_found"] ["_law_found"] (c0 L9):=⟨rfl,rfl,rfl,by decide +kernel,rfl,by decide +kernel,by decide +kernel⟩
theorem dG:g9 ["_law_block", "_law_count"] ["_law_block", "_law_count"] (c0 B9):=⟨rfl,rfl,rfl,by decide +kernel,rfl,by decide +kernel,by decide +kernel⟩
theorem w9:g9 ["_law_stand", "_law_moves", "_law_row", "_law_times", "_law_low", "_law_total", "_law_number", "_law_take", "_law_put", "_law_k"] ["_law_stand", "_law_moves", "_law_row", "_law_times"] (c0 C7):=⟨rfl,rfl,rfl,by decide +kernel,rfl,by decide +kernel,by decide +kernel⟩
theorem K8:g9 ["_law_begin", "_law_moves", "_law_blocks", "_law_stand", "_law_block"] ["_law_begin", "_law_moves", "_law_blocks"] (c0 M7):=⟨rfl,rfl,rfl,by decide +kernel,rfl,by decide +kernel,by decide +kernel⟩
theorem U2:g9 ["_law_stand", "_law_move", "_law_found", "_law_k"] ["_law_stand", "_law_move"] (c0 P0):=⟨rfl,rfl,rfl,by decide +kernel,rfl,by decide +kernel,by decide +kernel⟩
theorem o9:g9 ["_law_begin", "_law_moves", "_law_cells", "_law_stand", "_law_found", "_law_cell", "_law_steps"] ["_law_begin", "_law_moves", "_law_cells"] (c0 v4):=⟨rfl,rfl,rfl,by decide +kernel,rfl,by decide +kernel,by decide +kernel⟩
theorem B8:g9 ["_law_land", "_law_tree", "_law_place_here", "_law_height", "_law_seen", "_law_found", "_law_held", "_law_numbers_here", "_law_stand"] ["_law_land", "_law_tree", "_law_place_here", "_law_height", "_law_seen"] (c0 M0):=⟨rfl,rfl,rfl,by decide +kernel,rfl,by decide +kernel,by decide +kernel⟩
theorem aX:g9 ["_law_script", "_law_land", "_law_tree", "_law_height", "_law_seen", "_law_place_here"] ["_law_script"] (c0 bN):=⟨rfl,rfl,rfl,by decide +kernel,rfl,by decide +kernel,by decide +kernel⟩
section
variable {P:Program} {w:World} {K:Frag} {mg:Str→Option Value} {base:Heap}
theorem qu {f:Addr} {fd:FuncData} (D:Def K mg "change" V9 ["move"] f fd) (B:Blt mg):FnOk P w K mg base CX0 1 f fd ["move"] (spM K 1 .F (N6)):=by
 refine D.F.ok pE (fun vs H Q E h=>h.1) (fun cdv A outer s H vs Q E hr h=>?_)
 exact ⟨tSt K (fun _ _=>False) .F dk,(b9 (i2 (@L7 _ _ _ _ _ _ _ _ _ _ _ _ _ _ N1 (M9 (c:=true)) (by rfl) B.tuple_ u6 (b4 (j5 (@v7 _ _ _ _ _ _ _ _ _ _ _ _ _ _ _ _ (show i4 (c0 V9) _ ["move"] ["move", "take", "put"] from ⟨rfl,by decide +kernel,by decide +kernel,by decide +kernel,by decide +kernel,by decide,by decide +kernel,by decide +kernel⟩) rfl (@aB _ _ _ _ _ _ _ _ _ _ _ (by rfl) B.zip_ (b4 (d7 (c8 (qv .B 0) b7)) (b4 (d7 (c8 (qv .B 0) b7)) b6)) (by rfl) (by rfl) (by rfl)) (fun _ _ _ _=>(@L3 _ K _ _ _ _ 2 rfl (@m9 _ _ _ _ _ (@d5 _ _ 1 _ (by decide +kernel:(["move", "take", "put"]:List Str).Nodup) rfl (Or.inl rfl) (.inr rfl)) (@m9 _ _ _ _ _ (@d5 _ _ 2 _ (by decide +kernel:(["move", "take", "put"]:List Str).Nodup) rfl (Or.inl rfl) (.inr rfl)) L1 (by rfl)) (by rfl)) (by rfl) (by rfl) (by rfl))) (Q2 (.inr rfl) (n4 (.inr rfl) j6 (n4 (.inr rfl) j6 L5))) (aH (x8 (show 1≤1 by decide) (x8 (show 1≤2 by decide) aI))) (fun _ _ _ _=>u3) (fun _ _ _ _=>(i7 P4 (j1 (g:=gSub) (fun _ _=>rfl) (fun _ _ _=>.int)) (qv .B 2) (qv .B 1))) (by intro _; rfl))) b6) (by decide) (by decide) (by rfl) (by rfl)))),
  j3 (n:=1) (Nl:=["move"]) (.inl rfl) h⟩
theorem qp {f:Addr} {fd:FuncData} (D:Def K mg "source" ax ["stand", "move"] f fd) (B:Blt mg):FnOk P w K mg base CX0 1 f fd ["stand", "move"] (spM K 2 .F (Y0)):=by
 refine D.F.ok pB (fun vs H Q E h=>h.1) (fun cdv A outer s H vs Q E hr h=>?_)
 exact ⟨tSt K (fun _ _=>False) .F df,(b9 (i2 (@L7 _ _ _ _ _ _ _ _ _ _ _ _ _ _ N1 (M9 (c:=true)) (by rfl) B.tuple_ u6 (b4 (j5 (@v7 _ _ _ _ _ _ _ _ _ _ _ _ _ _ _ _ (show i4 (c0 ax) _ ["stand", "move"] ["stand", "move", "number", "take", "put"] from ⟨rfl,by decide +kernel,by decide +kernel,by decide +kernel,by decide +kernel,by decide,by decide +kernel,by decide +kernel⟩) rfl (@aB _ _ _ _ _ _ _ _ _ _ _ (by rfl) B.zip_ (b4 (qv .B 0) (b4 (d7 (c8 (qv .B 1) b7)) (b4 (d7 (c8 (qv .B 1) b7)) b6))) (by rfl) (by rfl) (by rfl)) (fun _ _ _ _=>(@L3 _ K _ _ _ _ 3 rfl (@m9 _ _ _ _ _ (@d5 _ _ 2 _ (by decide +kernel:(["stand", "move", "number", "take", "put"]:List Str).Nodup) rfl (Or.inl rfl) (.inr rfl)) (@m9 _ _ _ _ _ (@d5 _ _ 3 _ (by decide +kernel:(["stand", "move", "number", "take", "put"]:List Str).Nodup) rfl (Or.inl rfl) (.inr rfl)) (@m9 _ _ _ _ _ (@d5 _ _ 4 _ (by decide +kernel:(["stand", "move", "number", "take", "put"]:List Str).Nodup) rfl (Or.inl rfl) (.inr rfl)) L1 (by rfl)) (by rfl)) (by rfl)) (by rfl) (by rfl) (by rfl))) (Q2 (.inr rfl) (n4 (.inr rfl) j6 (n4 (.inr rfl) j6 (n4 (.inr rfl) j6 L5)))) (aH (x8 (show 2≤2 by decide) (x8 (show 2≤3 by decide) (x8 (show 2≤4 by decide) aI)))) (fun _ _ _ _=>u3) (fun _ _ _ _=>(@m8 _ _ _ _ _ _ _ _ _ _ _ _ _ _ (U0 rfl) (b_2 (g:=U6)) (by rfl) B.max_ Y3 (b4 (qv .B 3) (b4 (i7 u4 (j1 (g:=n5) (fun _ _=>rfl) (fun _ _ _=>.int)) (i7 P4 (j1 (g:=gSub) (fun _ _=>rfl) (fun _ _ _=>.int)) (qv .B 2) (qv .B 4)) (qv .B 3)) b6)) (by decide) (by decide) (by rfl) (by rfl))) (by intro _; rfl))) b6) (by decide) (by decide) (by rfl) (by rfl)))),
  j3 (n:=2) (Nl:=["stand", "move"]) (.inl rfl) h⟩
theorem im {f:Addr} {fd:FuncData} (D:Def K mg "least_over" L8 ["stand", "other"] f fd) (B:Blt mg):FnOk P w K mg base CX0 1 f fd ["stand", "other"] (spM K 2 .F (C0)):=by
 refine D.F.ok gR (fun vs H Q E h=>h.1) (fun cdv A outer s H vs Q E hr h=>?_)
 exact ⟨tSt K (fun _ _=>False) .F X5,(b9 (i2 (@L7 _ _ _ _ _ _ _ _ _ _ _ _ _ _ N1 (M9 (c:=true)) (by rfl) B.tuple_ u6 (b4 (j5 (@v7 _ _ _ _ _ _ _ _ _ _ _ _ _ _ _ _ (show i4 (c0 L8) _ ["stand", "other"] ["stand", "other", "number", "wanted"] from ⟨rfl,by decide +kernel,by decide +kernel,by decide +kernel,by decide +kernel,by decide,by decide +kernel,by decide +kernel⟩) rfl (@aB _ _ _ _ _ _ _ _ _ _ _ (by rfl) B.zip_ (b4 (qv .B 0) (b4 (qv .B 1) b6)) (by rfl) (by rfl) (by rfl)) (fun _ _ _ _=>(@L3 _ K _ _ _ _ 2 rfl (@m9 _ _ _ _ _ (@d5 _ _ 2 _ (by decide +kernel:(["stand", "other", "number", "wanted"]:List Str).Nodup) rfl (Or.inl rfl) (.inr rfl)) (@m9 _ _ _ _ _ (@d5 _ _ 3 _ (by decide +kernel:(["stand", "other", "number", "wanted"]:List Str).Nodup) rfl (Or.inl rfl) (.inr rfl)) L1 (by rfl)) (by rfl)) (by rfl) (by rfl) (by rfl))) (Q2 (.inr rfl) (n4 (.inr rfl) j6 (n4 (.inr rfl) j6 L5))) (aH (x8 (show 2≤2 by decide) (x8 (show 2≤3 by decide) aI))) (fun _ _ _ _=>u3) (fun _ _ _ _=>(@m8 _ _ _ _ _ _ _ _ _ _ _ _ _ _ (U0 rfl) (b_2 (g:=U6)) (by rfl) B.max_ Y3 (b4 (qv .B 2) (b4 (qv .B 3) b6)) (by decide) (by decide) (by rfl) (by rfl))) (by intro _; rfl))) b6) (by decide) (by decide) (by rfl) (by rfl)))),
  j3 (n:=2) (Nl:=["stand", "other"]) (.inl rfl) h⟩
theorem uM {f:Addr} {fd:FuncData} (D:Def K mg "under" av ["cap", "other"] f fd) (B:Blt mg):FnOk P w K mg base CX0 1 f fd ["cap", "other"] (spM K 2 .F (E8)):=by
 refine D.F.ok eK (fun vs H Q E h=>h.1) (fun cdv A outer s H vs Q E hr h=>?_)
 exact ⟨tSt K (fun _ _=>False) .F fe,(b8 (@w8 _ _ _ _ _ _ _ _ _ _ _ _ _ PassesOwn.never rfl (@yk _ _ _ _ _ _ _ _ _ _ _ (by rfl) B.zip_ (b4 (qv .U 0) (b4 (qv .U 1) b6)) (by rfl) (by rfl) (by rfl)) (@L3 _ K _ _ _ _ 2 rfl (@m9 _ _ _ _ _ (@d5 _ _ 2 _ eK.nd rfl (by trivial) (by trivial)) (@m9 _ _ _ _ _ (@d5 _ _ 3 _ eK.nd rfl (by trivial) (by trivial)) L1 (by rfl)) (by rfl)) (by rfl) (by rfl) (by rfl)) (Q2 (.inr rfl) (n4 (.inr rfl) j6 (n4 (.inr rfl) j6 L5))) (b9 (k9 (PW.pt (no (@i3 _ _ _ _ _ _ _ _ _ _ _ _ eR eX (qv .B 3) q5 (by first | exact h9 _ | rfl)) (jD (PW.pt (V2 (@i3 _ _ _ _ _ _ _ _ _ _ _ _ M1 M2 (qv .B 2) q5 (by first | exact h9 _ | rfl)) (aD (@i3 _ _ _ _ _ _ _ _ _ _ _ _ P6 (j1 (g:=gGt) (fun _ _=>rfl) (fun _ _ _=>.bl)) (qv .B 2) (qv .B 3) (by first | exact h9 _ | rfl)))))))) (b9 (i2 P3)) k7)) (by intro _; rfl)) (b9 (i2 P3))),
  j3 (n:=2) (Nl:=["cap", "other", "number", "bound"]) (.inl rfl) h⟩
theorem jc {f:Addr} {fd:FuncData} (D:Def K mg "under_any" O8 ["cap", "caps"] f fd) (B:Blt mg) {funder:Addr} {fdunder:FuncData} (Dunder:Def K mg "under" av ["cap", "other"] funder fdunder) (Gunder:FnOk P w K mg base CX0 1 funder fdunder ["cap", "other"] (spM K 2 .F (E8))):FnOk P w K mg base CX0 2 f fd ["cap", "caps"] (spM K 2 .F (x3)):=by
 refine D.F.ok cJ (fun vs H Q E h=>h.1) (fun cdv A outer s H vs Q E hr h=>?_)
 exact ⟨tSt K (fun _ _=>False) .F af,(b8 (@w8 _ _ _ _ _ _ _ _ _ _ _ _ _ PassesOwn.never rfl (@P2 _ _ _ _ _ _ (qv .U 1) (by rfl)) (@d5 _ _ 2 _ cJ.nd rfl (by trivial) (by trivial)) j6 (b9 (k9 (@C9 _ _ _ _ _ (m7 (j5 (@c9 _ _ _ _ _ _ _ _ _ _ _ _ _ _ _ _ Gunder (.inl rfl) (by exact hr.mono (by decide)) (by rfl) Dunder.m Dunder.F.kp Dunder.b (b4 (qv .B 0) (b4 (qv .B 2) b6)) (by decide) (by rfl) (by rfl)))) (by intro _; rfl)) (b9 (i2 P3)) k7)) (by intro _; rfl)) (b9 (i2 P3))),
  j3 (n:=2) (Nl:=["cap", "caps", "other"]) (.inl rfl) h⟩
theorem lj {f:Addr} {fd:FuncData} (D:Def K mg "cap_able" T0 ["cap", "move"] f fd) (B:Blt mg) {funder:Addr} {fdunder:FuncData} (Dunder:Def K mg "under" av ["cap", "other"] funder fdunder) (Gunder:FnOk P w K mg base CX0 1 funder fdunder ["cap", "other"] (spM K 2 .F (E8))):FnOk P w K mg base CX0 2 f fd ["cap", "move"] (spM K 2 .F (E4)):=by
 refine D.F.ok kI (fun vs H Q E h=>h.1) (fun cdv A outer s H vs Q E hr h=>?_)
 exact ⟨tSt K (fun _ _=>False) .F bj,(b9 (i2 (@c9 _ _ _ _ _ _ _ _ _ _ _ _ _ _ _ _ Gunder (.inl rfl) (by exact hr.mono (by decide)) (by rfl) Dunder.m Dunder.F.kp Dunder.b (b4 (d7 (c8 (qv .B 1) b7)) (b4 (qv .B 0) b6)) (by decide) (by rfl) (by rfl)))),
  j3 (n:=2) (Nl:=["cap", "move"]) (.inl rfl) h⟩
theorem je {f:Addr} {fd:FuncData} (D:Def K mg "cap_after" K7 ["cap", "move"] f fd) (B:Blt mg) {fcap_able:Addr} {fdcap_able:FuncData} (Dcap_able:Def K mg "cap_able" T0 ["cap", "move"] fcap_able fdcap_able) (Gcap_able:FnOk P w K mg base CX0 2 fcap_able fdcap_able ["cap", "move"] (spM K 2 .F (E4))) {fchange:Addr} {fdchange:FuncData} (Dchange:Def K mg "change" V9 ["move"] fchange fdchange) (Gchange:FnOk P w K mg base CX0 1 fchange fdchange ["move"] (spM K 1 .F (N6))):FnOk P w K mg base CX0 3 f fd ["cap", "move"] (spM K 2 .F (B3)):=by
 refine D.F.ok ja (fun vs H Q E h=>h.1) (fun cdv A outer s H vs Q E hr h=>?_)
 exact ⟨tSt K (fun _ _=>False) .F ah,(b8 (k9 (A3 (@C9 _ _ _ _ _ (m7 (j5 (@c9 _ _ _ _ _ _ _ _ _ _ _ _ _ _ _ _ Gcap_able (.inl rfl) (by exact hr.mono (by decide)) (by rfl) Dcap_able.m Dcap_able.F.kp Dcap_able.b (b4 (qv .B 0) (b4 (qv .B 1) b6)) (by decide) (by rfl) (by rfl)))) (by intro _; rfl))) (b9 uo) k7) (b9 (i2 (@L7 _ _ _ _ _ _ _ _ _ _ _ _ _ _ N1 (M9 (c:=true)) (by rfl) B.tuple_ u6 (b4 (j5 (@v7 _ _ _ _ _ _ _ _ _ _ _ _ _ _ _ _ (show i4 (c0 K7) _ ["cap", "move"] ["cap", "move", "number", "step"] from ⟨rfl,by decide +kernel,by decide +kernel,by decide +kernel,by decide +kernel,by decide,by decide +kernel,by decide +kernel⟩) rfl (@aB _ _ _ _ _ _ _ _ _ _ _ (by rfl) B.zip_ (b4 (qv .B 0) (b4 (m7 (j5 (@c9 _ _ _ _ _ _ _ _ _ _ _ _ _ _ _ _ Gchange (.inl rfl) (by exact hr.mono (by decide)) (by rfl) Dchange.m Dchange.F.kp Dchange.b (b4 (qv .B 1) b6) (by decide) (by rfl) (by rfl)))) b6)) (by rfl) (by rfl) (by rfl)) (fun _ _ _ _=>(@L3 _ K _ _ _ _ 2 rfl (@m9 _ _ _ _ _ (@d5 _ _ 2 _ (by decide +kernel:(["cap", "move", "number", "step"]:List Str).Nodup) rfl (Or.inl rfl) (.inr rfl)) (@m9 _ _ _ _ _ (@d5 _ _ 3 _ (by decide +kernel:(["cap", "move", "number", "step"]:List Str).Nodup) rfl (Or.inl rfl) (.inr rfl)) L1 (by rfl)) (by rfl)) (by rfl) (by rfl) (by rfl))) (Q2 (.inr rfl) (n4 (.inr rfl) j6 (n4 (.inr rfl) j6 L5))) (aH (x8 (show 2≤2 by decide) (x8 (show 2≤3 by decide) aI))) (fun _ _ _ _=>u3) (fun _ _ _ _=>(kT (@i3 _ _ _ _ _ _ _ _ _ _ _ _ M1 M2 (qv .B 2) q5 (by first | exact h9 _ | rfl)) q5 (i7 u4 (j1 (g:=n5) (fun _ _=>rfl) (fun _ _ _=>.int)) (qv .B 2) (qv .B 3)))) (by intro _; rfl))) b6) (by decide) (by decide) (by rfl) (by rfl))))),
  j3 (n:=2) (Nl:=["cap", "move"]) (.inl rfl) h⟩
theorem qq {f:Addr} {fd:FuncData} (D:Def K mg "raised" V8 ["cap", "elder"] f fd) (B:Blt mg) {funder:Addr} {fdunder:FuncData} (Dunder:Def K mg "under" av ["cap", "other"] funder fdunder) (Gunder:FnOk P w K mg base CX0 1 funder fdunder ["cap", "other"] (spM K 2 .F (E8))):FnOk P w K mg base CX0 2 f fd ["cap", "elder"] (spM K 2 .F (K0)):=by
 refine D.F.ok pC (fun vs H Q E h=>h.1) (fun cdv A outer s H vs Q E hr h=>?_)
 exact ⟨tSt K (fun _ _=>False) .F dh,(b8 (k9 (A3 (@C9 _ _ _ _ _ (m7 (j5 (@c9 _ _ _ _ _ _ _ _ _ _ _ _ _ _ _ _ Gunder (.inl rfl) (by exact hr.mono (by decide)) (by rfl) Dunder.m Dunder.F.kp Dunder.b (b4 (qv .B 1) (b4 (qv .B 0) b6)) (by decide) (by rfl) (by rfl)))) (by intro _; rfl))) (b9 (@E6 _ _ _ _ _ 0 _ _ (.inl rfl) (by rfl) (by trivial) (by decide) (by decide))) k7) (b9 (i2 (@L7 _ _ _ _ _ _ _ _ _ _ _ _ _ _ N1 (M9 (c:=true)) (by rfl) B.tuple_ u6 (b4 (j5 (@v7 _ _ _ _ _ _ _ _ _ _ _ _ _ _ _ _ (show i4 (c0 V8) _ ["cap", "elder"] ["cap", "elder", "number", "old"] from ⟨rfl,by decide +kernel,by decide +kernel,by decide +kernel,by decide +kernel,by decide,by decide +kernel,by decide +kernel⟩) rfl (@aB _ _ _ _ _ _ _ _ _ _ _ (by rfl) B.zip_ (b4 (qv .B 0) (b4 (qv .B 1) b6)) (by rfl) (by rfl) (by rfl)) (fun _ _ _ _=>(@L3 _ K _ _ _ _ 2 rfl (@m9 _ _ _ _ _ (@d5 _ _ 2 _ (by decide +kernel:(["cap", "elder", "number", "old"]:List Str).Nodup) rfl (Or.inl rfl) (.inr rfl)) (@m9 _ _ _ _ _ (@d5 _ _ 3 _ (by decide +kernel:(["cap", "elder", "number", "old"]:List Str).Nodup) rfl (Or.inl rfl) (.inr rfl)) L1 (by rfl)) (by rfl)) (by rfl) (by rfl) (by rfl))) (Q2 (.inr rfl) (n4 (.inr rfl) j6 (n4 (.inr rfl) j6 L5))) (aH (x8 (show 2≤2 by decide) (x8 (show 2≤3 by decide) aI))) (fun _ _ _ _=>u3) (fun _ _ _ _=>(kT (@i3 _ _ _ _ _ _ _ _ _ _ _ _ (il (du hr)) (bY (neg:=false)) (qv .B 2) (qv .B 3) (by first | exact h9 _ | rfl)) (qv .V 2) q5)) (by intro _; rfl))) b6) (by decide) (by decide) (by rfl) (by rfl))))),
  j3 (n:=2) (Nl:=["cap", "elder"]) (.inl rfl) h⟩
theorem lg {f:Addr} {fd:FuncData} (D:Def K mg "sort_key" S8 ["cap"] f fd) (B:Blt mg):FnOk P w K mg base CX0 1 f fd ["cap"] (spM K 1 .F (A7)):=by
 refine D.F.ok kH (fun vs H Q E h=>h.1) (fun cdv A outer s H vs Q E hr h=>?_)
 exact ⟨tSt K (fun _ _=>False) .F bh,(b9 (i2 (@L7 _ _ _ _ _ _ _ _ _ _ _ _ _ _ N1 (M9 (c:=true)) (by rfl) B.tuple_ u6 (b4 (j5 (@v7 _ _ _ _ _ _ _ _ _ _ _ _ _ _ _ _ (show i4 (c0 S8) _ ["cap"] ["cap", "number"] from ⟨rfl,by decide +kernel,by decide +kernel,by decide +kernel,by decide +kernel,by decide,by decide +kernel,by decide +kernel⟩) rfl (@J5 _ _ _ _ _ _ (qv .B 0) (by rfl)) (fun _ _ _ _=>(@d5 _ _ 1 _ (by decide +kernel:(["cap", "number"]:List Str).Nodup) rfl (Or.inl rfl) (.inr rfl))) j6 (u7 (show 1≤1 by decide)) (fun _ _ _ _=>u3) (fun _ _ _ _=>(kT (@i3 _ _ _ _ _ _ _ _ _ _ _ _ M1 M2 (qv .B 1) q5 (by first | exact h9 _ | rfl)) (J7 (L0 (b4 b7 (b4 b7 b6)))) (J7 (L0 (b4 b7 (b4 (qv .V 1) b6)))))) (by intro _; rfl))) b6) (by decide) (by decide) (by rfl) (by rfl)))),
  j3 (n:=1) (Nl:=["cap"]) (.inl rfl) h⟩
theorem yP {f:Addr} {fd:FuncData} (D:Def K mg "tops" gj ["caps"] f fd) (B:Blt mg) {fsort_key:Addr} {fdsort_key:FuncData} (Dsort_key:Def K mg "sort_key" S8 ["cap"] fsort_key fdsort_key) (Gsort_key:FnOk P w K mg base CX0 1 fsort_key fdsort_key ["cap"] (spM K 1 .F (A7))) {funder_any:Addr} {fdunder_any:FuncData} (Dunder_any:Def K mg "under_any" O8 ["cap", "caps"] funder_any fdunder_any) (Gunder_any:FnOk P w K mg base CX0 2 funder_any fdunder_any ["cap", "caps"] (spM K 2 .F (x3))):FnOk P w K mg base CX0 4 f fd ["caps"] (spM K 1 .F (cj)):=by
 refine D.F.ok gP (fun vs H Q E h=>h.1) (fun cdv A outer s H vs Q E hr h=>?_)
 exact ⟨tSt K (fun _ _=>False) .F iy,(b8 (@i0 _ _ _ _ _ _ _ 1 _ _ gP.nd rfl (by trivial) (A4 b6) (by rfl) (by trivial)) (b8 (@w8 _ _ _ _ _ _ _ _ _ _ _ _ _ PassesOwn.never rfl (@P2 _ _ _ _ _ _ (ib (J7 (@um _ _ _ _ _ _ _ _ _ _ _ _ _ _ _ _ _ _ _ _ false Gsort_key (by exact hr.mono (by decide)) (by rfl) Dsort_key.m Dsort_key.b (by rfl) B.sorted_ oD (b4 (qv .B 0) b6) (by rfl) (by decide) (by decide) (by decide) (by rfl) (by rfl) (by rfl) (by rfl) (by rfl)))) (by rfl)) (@d5 _ _ 2 _ gP.nd rfl (by trivial) (by trivial)) j6 (b9 (k9 (A3 (@C9 _ _ _ _ _ (m7 (j5 (@c9 _ _ _ _ _ _ _ _ _ _ _ _ _ _ _ _ Gunder_any (.inl rfl) (by exact hr.mono (by decide)) (by rfl) Dunder_any.m Dunder_any.F.kp Dunder_any.b (b4 (qv .B 2) (b4 (qv .B 1) b6)) (by decide) (by rfl) (by rfl)))) (by intro _; rfl))) (b9 (@Z2 _ _ _ _ _ _ _ 1 _ _ _ _ rfl (by trivial) (qv .V 2) (by decide) (by decide) (by rfl) (by rfl) (by rfl) (by rfl) (by rfl))) k7)) (by intro _; rfl)) (b8 (@sy _ _ _ _ _ 1 _ _ _ _ rfl (by trivial) (by rfl) (by decide) (by decide) (by rfl) (by rfl) (by rfl)) (b9 (@E6 _ _ _ _ _ 1 _ _ (.inl rfl) (by rfl) (by trivial) (by decide) (by decide)))))),
  j3 (n:=1) (Nl:=["caps", "found", "cap"]) (.inl rfl) h⟩
theorem lb {f:Addr} {fd:FuncData} (D:Def K mg "way_back" F9 ["tree", "number"] f fd) (B:Blt mg):FnOk P w K mg base CX0 1 f fd ["tree", "number"] (spM K 2 .F (n9)):=by
 refine D.F.ok V0 (fun vs H Q E h=>h.1) (fun cdv A outer s H vs Q E hr h=>?_)
 exact ⟨tSt K (fun _ _=>False) .F bf,(b8 (@i0 _ _ _ _ _ _ _ 2 _ _ V0.nd rfl (by trivial) (A4 b6) (by rfl) (by trivial)) (b8 (@J3 _ _ _ _ _ _ _ 3 _ _ V0.nd rfl (by trivial) (qv .V 1) (by rfl) (by trivial)) (b8 (jC PassesOwn.never (@i3 _ _ _ _ _ _ _ _ _ _ _ _ eR eX (qv .B 3) q5 (by first | exact h9 _ | rfl)) (b8 (@Z2 _ _ _ _ _ _ _ 2 _ _ _ _ rfl (by trivial) (qv .V 3) (by decide) (by decide) (by rfl) (by rfl) (by rfl) (by rfl) (by rfl)) (b9 (@dI _ _ _ _ _ _ _ 3 _ _ V0.nd rfl (by trivial) (c8 (d7 (c8 (qv .B 0) (qv .B 3))) b7) (by rfl) (by trivial))))) (b9 (@E6 _ _ _ _ _ 2 _ _ (.inl rfl) (by rfl) (by trivial) (by decide) (by decide)))))),
  j3 (n:=2) (Nl:=["tree", "number", "numbers", "at"]) (.inl rfl) h⟩
theorem yR {f:Addr} {fd:FuncData} (D:Def K mg "grow" dE ["moor", "tree", "at", "number"] f fd) (B:Blt mg) {fcap_after:Addr} {fdcap_after:FuncData} (Dcap_after:Def K mg "cap_after" K7 ["cap", "move"] fcap_after fdcap_after) (Gcap_after:FnOk P w K mg base CX0 3 fcap_after fdcap_after ["cap", "move"] (spM K 2 .F (B3))) {fway_back:Addr} {fdway_back:FuncData} (Dway_back:Def K mg "way_back" F9 ["tree", "number"] fway_back fdway_back) (Gway_back:FnOk P w K mg base CX0 1 fway_back fdway_back ["tree", "number"] (spM K 2 .F (n9))) {fcap_able:Addr} {fdcap_able:FuncData} (Dcap_able:Def K mg "cap_able" T0 ["cap", "move"] fcap_able fdcap_able) (Gcap_able:FnOk P w K mg base CX0 2 fcap_able fdcap_able ["cap", "move"] (spM K 2 .F (E4))) {fraised:Addr} {fdraised:FuncData} (Draised:Def K mg "raised" V8 ["cap", "elder"] fraised fdraised) (Graised:FnOk P w K mg base CX0 2 fraised fdraised ["cap", "elder"] (spM K 2 .F (K0))) {funder_any:Addr} {fdunder_any:FuncData} (Dunder_any:Def K mg "under_any" O8 ["cap", "caps"] funder_any fdunder_any) (Gunder_any:FnOk P w K mg base CX0 2 funder_any fdunder_any ["cap", "caps"] (spM K 2 .F (x3))):FnOk P w K mg base CX0 4 f fd ["moor", "tree", "at", "number"] (cT K 4 (aK)):=by
 refine D.F.ok bQ (fun vs H Q E h=>h.1) (fun cdv A outer s H vs Q E hr h=>?_)
 obtain ⟨p,hb⟩:=wx (n:=4) (Nl:=["moor", "tree", "at", "number", "move", "cap", "elder"]) h
 exact ⟨tStI K (fun _ _=>False) p (P7 p),(cA (@q_i _ _ _ .F _ _ _ (@dI _ _ _ _ _ _ _ 4 _ _ bQ.nd rfl (by trivial) (c8 (d7 (c8 (qv .B 0) b7)) (qv .B 3)) (by rfl) (by trivial))) (cA (sD (A3 (@C9 _ _ _ _ _ (m7 (j5 (@c9 _ _ _ _ _ _ _ _ _ _ _ _ _ _ _ _ Gcap_able (.inl rfl) (by exact hr.mono (by decide)) (by rfl) Dcap_able.m Dcap_able.F.kp Dcap_able.b (b4 (d7 (c8 (d7 (c8 (qv .B 1) (qv .B 2))) b7)) (b4 (qv .B 4) b6)) (by decide) (by rfl) (by rfl)))) (by intro _; rfl))) (eQ ym) (@yo _ _ _ .F _ _ _ k7)) (cA (@q_i _ _ _ .F _ _ _ (@i0 _ _ _ _ _ _ _ 5 _ _ bQ.nd rfl (by trivial) (@c9 _ _ _ _ _ _ _ _ _ _ _ _ _ _ _ _ Gcap_after (.inl rfl) (by exact hr.mono (by decide)) (by rfl) Dcap_after.m Dcap_after.F.kp Dcap_after.b (b4 (d7 (c8 (d7 (c8 (qv .B 1) (qv .B 2))) b7)) (b4 (qv .B 4) b6)) (by decide) (by rfl) (by rfl)) (by rfl) (by trivial))) (cA (@q_i _ _ _ .F _ _ _ (@w8 _ _ _ _ _ _ _ _ _ _ _ _ _ PassesOwn.never rfl (@P2 _ _ _ _ _ _ (ib (J7 (@c9 _ _ _ _ _ _ _ _ _ _ _ _ _ _ _ _ Gway_back (.inl rfl) (by exact hr.mono (by decide)) (by rfl) Dway_back.m Dway_back.F.kp Dway_back.b (b4 (qv .B 1) (b4 (qv .B 2) b6)) (by decide) (by rfl) (by rfl)))) (by rfl)) (@d5 _ _ 6 _ bQ.nd rfl (by trivial) (by trivial)) j6 (b9 (@i0 _ _ _ _ _ _ _ 5 _ _ bQ.nd rfl (by trivial) (@c9 _ _ _ _ _ _ _ _ _ _ _ _ _ _ _ _ Graised (.inl rfl) (by exact hr.mono (by decide)) (by rfl) Draised.m Draised.F.kp Draised.b (b4 (qv .B 5) (b4 (d7 (c8 (d7 (c8 (qv .B 1) (qv .B 6))) b7)) b6)) (by decide) (by rfl) (by rfl)) (by rfl) (by trivial))) (by intro _; rfl))) (eQ (sD (A3 (@C9 _ _ _ _ _ (m7 (j5 (@c9 _ _ _ _ _ _ _ _ _ _ _ _ _ _ _ _ Gunder_any (.inl rfl) (by exact hr.mono (by decide)) (by rfl) Dunder_any.m Dunder_any.F.kp Dunder_any.b (b4 (qv .B 5) (b4 (m7 (j5 (@v7 _ _ _ _ _ _ _ _ _ _ _ _ _ _ _ _ (show i4 (c0 dE) _ ["moor", "tree", "at", "number", "move", "cap", "elder"] ["moor", "tree", "at", "number", "move", "cap", "elder", "row"] from ⟨rfl,by decide +kernel,by decide +kernel,by decide +kernel,by decide +kernel,by decide,by decide +kernel,by decide +kernel⟩) rfl (@J5 _ _ _ _ _ _ (qv .B 1) (by rfl)) (fun _ _ _ _=>(@d5 _ _ 7 _ (by decide +kernel:(["moor", "tree", "at", "number", "move", "cap", "elder", "row"]:List Str).Nodup) rfl (Or.inl rfl) (.inr rfl))) j6 (u7 (show 7≤7 by decide)) (fun _ _ _ _=>u3) (fun _ _ _ _=>(X1 (c8 (qv .B 7) b7))) (by intro _; rfl)))) b6)) (by decide) (by rfl) (by rfl)))) (by intro _; rfl))) (eQ (@yu _ _ _ _ _ _ _ 1 _ _ _ _ rfl (by trivial) (J7 (L0 (b4 (qv .V 5) (b4 (qv .V 2) (b4 (qv .V 3) b6))))) (by decide) (by decide) (by rfl) (by rfl) (by rfl) (by rfl) (by rfl))) (@yo _ _ _ .F _ _ _ k7))))))),hb⟩
theorem qt {f:Addr} {fd:FuncData} (D:Def K mg "growth" az ["moor", "most"] f fd) (B:Blt mg) {fgrow:Addr} {fdgrow:FuncData} (Dgrow:Def K mg "grow" dE ["moor", "tree", "at", "number"] fgrow fdgrow) (Ggrow:FnOk P w K mg base CX0 4 fgrow fdgrow ["moor", "tree", "at", "number"] (cT K 4 (aK))):FnOk P w K mg base CX0 5 f fd ["moor", "most"] (spM K 2 .F (B2)):=by
 refine D.F.ok W8 (fun vs H Q E h=>h.1) (fun cdv A outer s H vs Q E hr h=>?_)
 exact ⟨tSt K (fun _ _=>False) .F dj,(b8 (@i0 _ _ _ _ _ _ _ 2 _ _ W8.nd rfl (by trivial) (A4 (b4 (J7 (L0 (b4 (X1 (c8 (qv .B 0) b7)) (b4 q5 (b4 q5 b6))))) b6)) (by rfl) (by trivial)) (b8 (@J3 _ _ _ _ _ _ _ 3 _ _ W8.nd rfl (by trivial) b7 (by rfl) (by trivial)) (b8 (jC PassesOwn.never (@i3 _ _ _ _ _ _ _ _ _ _ _ _ dO (j1 (g:=gLt) (fun _ _=>rfl) (fun _ _ _=>.bl)) (qv .B 3) (@m8 _ _ _ _ _ _ _ _ _ _ _ _ _ _ t7 t6 (by rfl) B.len_ PySem.boot_len (b4 (qv .B 2) b6) (by decide) (by decide) (by rfl) (by rfl)) (by first | exact h9 _ | rfl)) (b8 (@w8 _ _ _ _ _ _ _ _ _ _ _ _ _ PassesOwn.never rfl (@J4 _ _ _ _ _ _ _ _ _ (by rfl) B.range_ (b4 (@m8 _ _ _ _ _ _ _ _ _ _ _ _ _ _ t7 t6 (by rfl) B.len_ PySem.boot_len (b4 (d7 (c8 (qv .B 0) b7)) b6) (by decide) (by decide) (by rfl) (by rfl)) b6) (by rfl)) (@d5 _ _ 4 _ W8.nd rfl (by trivial) (by trivial)) j6 (b9 (@uu _ _ _ _ _ _ _ _ 2 _ _ _ _ _ _ _ _ _ _ _ _ rfl (by trivial) Ggrow (by exact hr.mono (by decide)) (by rfl) Dgrow.m Dgrow.F.kp Dgrow.b (qv .B 0) (b4 (qv .B 3) (b4 (qv .B 4) b6)) (by decide) (by decide) (by decide) (by rfl) (by rfl) (by rfl) (by rfl))) (by intro _; rfl)) (b8 (k9 (@i3 _ _ _ _ _ _ _ _ _ _ _ _ P6 (j1 (g:=gGt) (fun _ _=>rfl) (fun _ _ _=>.bl)) (@m8 _ _ _ _ _ _ _ _ _ _ _ _ _ _ t7 t6 (by rfl) B.len_ PySem.boot_len (b4 (qv .B 2) b6) (by decide) (by decide) (by rfl) (by rfl)) (qv .B 1) (by first | exact h9 _ | rfl)) (b9 (i2 q5)) k7) (b9 (@BJ _ _ _ _ _ _ _ 3 _ _ _ _ W8.nd rfl (by trivial) b7 zP (by trivial)))))) (b9 (@E6 _ _ _ _ _ 2 _ _ (.inl rfl) (by rfl) (by trivial) (by decide) (by decide)))))),
  j3 (n:=2) (Nl:=["moor", "most", "tree", "at", "number"]) (.inl rfl) h⟩
theorem uN {f:Addr} {fd:FuncData} (D:Def K mg "crown" bO ["moor", "most"] f fd) (B:Blt mg) {fgrowth:Addr} {fdgrowth:FuncData} (Dgrowth:Def K mg "growth" az ["moor", "most"] fgrowth fdgrowth) (Ggrowth:FnOk P w K mg base CX0 5 fgrowth fdgrowth ["moor", "most"] (spM K 2 .F (B2))) {ftops:Addr} {fdtops:FuncData} (Dtops:Def K mg "tops" gj ["caps"] ftops fdtops) (Gtops:FnOk P w K mg base CX0 4 ftops fdtops ["caps"] (spM K 1 .F (cj))):FnOk P w K mg base CX0 6 f fd ["moor", "most"] (spM K 2 .F (O4)):=by
 refine D.F.ok jw (fun vs H Q E h=>h.1) (fun cdv A outer s H vs Q E hr h=>?_)
 exact ⟨tSt K (fun _ _=>False) .F cE,(b8 (@i0 _ _ _ _ _ _ _ 2 _ _ jw.nd rfl (by trivial) (@c9 _ _ _ _ _ _ _ _ _ _ _ _ _ _ _ _ Ggrowth (.inl rfl) (by exact hr.mono (by decide)) (by rfl) Dgrowth.m Dgrowth.F.kp Dgrowth.b (b4 (qv .B 0) (b4 (qv .B 1) b6)) (by decide) (by rfl) (by rfl)) (by rfl) (by trivial)) (b8 (k9 (@i3 _ _ _ _ _ _ _ _ _ _ _ _ M1 M2 (qv .B 2) q5 (by first | exact h9 _ | rfl)) (b9 (i2 q5)) k7) (b9 (i2 (@c9 _ _ _ _ _ _ _ _ _ _ _ _ _ _ _ _ Gtops (.inl rfl) (by exact hr.mono (by decide)) (by rfl) Dtops.m Dtops.F.kp Dtops.b (b4 (m7 (j5 (@v7 _ _ _ _ _ _ _ _ _ _ _ _ _ _ _ _ (show i4 (c0 bO) _ ["moor", "most", "tree"] ["moor", "most", "tree", "row"] from ⟨rfl,by decide +kernel,by decide +kernel,by decide +kernel,by decide +kernel,by decide,by decide +kernel,by decide +kernel⟩) rfl (@J5 _ _ _ _ _ _ (qv .B 2) (by rfl)) (fun _ _ _ _=>(@d5 _ _ 3 _ (by decide +kernel:(["moor", "most", "tree", "row"]:List Str).Nodup) rfl (Or.inl rfl) (.inr rfl))) j6 (u7 (show 3≤3 by decide)) (fun _ _ _ _=>u3) (fun _ _ _ _=>(X1 (c8 (qv .B 3) b7))) (by intro _; rfl)))) b6) (by decide) (by rfl) (by rfl)))))),
  j3 (n:=2) (Nl:=["moor", "most", "tree"]) (.inl rfl) h⟩
theorem nF {f:Addr} {fd:FuncData} (D:Def K mg "noughts" W6 ["moor"] f fd) (B:Blt mg):FnOk P w K mg base CX0 1 f fd ["moor"] (spM K 1 .F (K1)):=by
 refine D.F.ok mV (fun vs H Q E h=>h.1) (fun cdv A outer s H vs Q E hr h=>?_)
 exact ⟨tSt K (fun _ _=>False) .F ca,(b9 (i2 (i7 uL uQ (j5 (L0 (b4 b7 b6))) (@m8 _ _ _ _ _ _ _ _ _ _ _ _ _ _ t7 t6 (by rfl) B.len_ PySem.boot_len (b4 (d7 (c8 (qv .B 0) b7)) b6) (by decide) (by decide) (by rfl) (by rfl))))),
  j3 (n:=1) (Nl:=["moor"]) (.inl rfl) h⟩
theorem qr {f:Addr} {fd:FuncData} (D:Def K mg "hurdle" cw ["moor", "row"] f fd) (B:Blt mg) {fnoughts:Addr} {fdnoughts:FuncData} (Dnoughts:Def K mg "noughts" W6 ["moor"] fnoughts fdnoughts) (Gnoughts:FnOk P w K mg base CX0 1 fnoughts fdnoughts ["moor"] (spM K 1 .F (K1))) {fsource:Addr} {fdsource:FuncData} (Dsource:Def K mg "source" ax ["stand", "move"] fsource fdsource) (Gsource:FnOk P w K mg base CX0 1 fsource fdsource ["stand", "move"] (spM K 2 .F (Y0))):FnOk P w K mg base CX0 2 f fd ["moor", "row"] (spM K 2 .F (N5)):=by
 refine D.F.ok aY (fun vs H Q E h=>h.1) (fun cdv A outer s H vs Q E hr h=>?_)
 exact ⟨tSt K (fun _ _=>False) .F di,(b8 (@i0 _ _ _ _ _ _ _ 2 _ _ aY.nd rfl (by trivial) (@c9 _ _ _ _ _ _ _ _ _ _ _ _ _ _ _ _ Gnoughts (.inl rfl) (by exact hr.mono (by decide)) (by rfl) Dnoughts.m Dnoughts.F.kp Dnoughts.b (b4 (qv .B 0) b6) (by decide) (by rfl) (by rfl)) (by rfl) (by trivial)) (b8 (@w8 _ _ _ _ _ _ _ _ _ _ _ _ _ PassesOwn.never rfl (@sx _ _ _ _ _ _ _ _ (by rfl) B.reversed_ (b4 (qv .U 1) b6) (by rfl) (by rfl)) (@d5 _ _ 3 _ aY.nd rfl (by trivial) (by trivial)) j6 (b9 (@i0 _ _ _ _ _ _ _ 2 _ _ aY.nd rfl (by trivial) (@c9 _ _ _ _ _ _ _ _ _ _ _ _ _ _ _ _ Gsource (.inl rfl) (by exact hr.mono (by decide)) (by rfl) Dsource.m Dsource.F.kp Dsource.b (b4 (qv .B 2) (b4 (d7 (c8 (d7 (c8 (qv .B 0) b7)) (qv .B 3))) b6)) (by decide) (by rfl) (by rfl)) (by rfl) (by trivial))) (by intro _; rfl)) (b9 (@E6 _ _ _ _ _ 2 _ _ (.inl rfl) (by rfl) (by trivial) (by decide) (by decide))))),
  j3 (n:=2) (Nl:=["moor", "row", "needed", "number"]) (.inl rfl) h⟩
theorem nE {f:Addr} {fd:FuncData} (D:Def K mg "shifted" Q7 ["stand", "step", "times"] f fd) (B:Blt mg):FnOk P w K mg base CX0 1 f fd ["stand", "step", "times"] (spM K 3 .F (A8)):=by
 refine D.F.ok mT (fun vs H Q E h=>h.1) (fun cdv A outer s H vs Q E hr h=>?_)
 exact ⟨tSt K (fun _ _=>False) .F Z5,(b9 (i2 (@L7 _ _ _ _ _ _ _ _ _ _ _ _ _ _ N1 (M9 (c:=true)) (by rfl) B.tuple_ u6 (b4 (j5 (@v7 _ _ _ _ _ _ _ _ _ _ _ _ _ _ _ _ (show i4 (c0 Q7) _ ["stand", "step", "times"] ["stand", "step", "times", "number", "by"] from ⟨rfl,by decide +kernel,by decide +kernel,by decide +kernel,by decide +kernel,by decide,by decide +kernel,by decide +kernel⟩) rfl (@aB _ _ _ _ _ _ _ _ _ _ _ (by rfl) B.zip_ (b4 (qv .B 0) (b4 (qv .B 1) b6)) (by rfl) (by rfl) (by rfl)) (fun _ _ _ _=>(@L3 _ K _ _ _ _ 2 rfl (@m9 _ _ _ _ _ (@d5 _ _ 3 _ (by decide +kernel:(["stand", "step", "times", "number", "by"]:List Str).Nodup) rfl (Or.inl rfl) (.inr rfl)) (@m9 _ _ _ _ _ (@d5 _ _ 4 _ (by decide +kernel:(["stand", "step", "times", "number", "by"]:List Str).Nodup) rfl (Or.inl rfl) (.inr rfl)) L1 (by rfl)) (by rfl)) (by rfl) (by rfl) (by rfl))) (Q2 (.inr rfl) (n4 (.inr rfl) j6 (n4 (.inr rfl) j6 L5))) (aH (x8 (show 3≤3 by decide) (x8 (show 3≤4 by decide) aI))) (fun _ _ _ _=>u3) (fun _ _ _ _=>(i7 u4 (j1 (g:=n5) (fun _ _=>rfl) (fun _ _ _=>.int)) (qv .B 3) (i7 A5 (t8 (C:=CMul) (g:=t9) (fun _ _=>rfl) (fun _ _ _=>.int)) (qv .B 2) (qv .B 4)))) (by intro _; rfl))) b6) (by decide) (by decide) (by rfl) (by rfl)))),
  j3 (n:=3) (Nl:=["stand", "step", "times"]) (.inl rfl) h⟩
theorem qo {f:Addr} {fd:FuncData} (D:Def K mg "sum_of" aw ["moor", "row"] f fd) (B:Blt mg) {fnoughts:Addr} {fdnoughts:FuncData} (Dnoughts:Def K mg "noughts" W6 ["moor"] fnoughts fdnoughts) (Gnoughts:FnOk P w K mg base CX0 1 fnoughts fdnoughts ["moor"] (spM K 1 .F (K1))) {fshifted:Addr} {fdshifted:FuncData} (Dshifted:Def K mg "shifted" Q7 ["stand", "step", "times"] fshifted fdshifted) (Gshifted:FnOk P w K mg base CX0 1 fshifted fdshifted ["stand", "step", "times"] (spM K 3 .F (A8))) {fchange:Addr} {fdchange:FuncData} (Dchange:Def K mg "change" V9 ["move"] fchange fdchange) (Gchange:FnOk P w K mg base CX0 1 fchange fdchange ["move"] (spM K 1 .F (N6))):FnOk P w K mg base CX0 2 f fd ["moor", "row"] (spM K 2 .F (B1)):=by
 refine D.F.ok aW (fun vs H Q E h=>h.1) (fun cdv A outer s H vs Q E hr h=>?_)
 exact ⟨tSt K (fun _ _=>False) .F de,(b8 (@i0 _ _ _ _ _ _ _ 2 _ _ aW.nd rfl (by trivial) (@c9 _ _ _ _ _ _ _ _ _ _ _ _ _ _ _ _ Gnoughts (.inl rfl) (by exact hr.mono (by decide)) (by rfl) Dnoughts.m Dnoughts.F.kp Dnoughts.b (b4 (qv .B 0) b6) (by decide) (by rfl) (by rfl)) (by rfl) (by trivial)) (b8 (@w8 _ _ _ _ _ _ _ _ _ _ _ _ _ PassesOwn.never rfl (@P2 _ _ _ _ _ _ (qv .U 1) (by rfl)) (@d5 _ _ 3 _ aW.nd rfl (by trivial) (by trivial)) j6 (b9 (@i0 _ _ _ _ _ _ _ 2 _ _ aW.nd rfl (by trivial) (@c9 _ _ _ _ _ _ _ _ _ _ _ _ _ _ _ _ Gshifted (.inl rfl) (by exact hr.mono (by decide)) (by rfl) Dshifted.m Dshifted.F.kp Dshifted.b (b4 (qv .B 2) (b4 (m7 (j5 (@c9 _ _ _ _ _ _ _ _ _ _ _ _ _ _ _ _ Gchange (.inl rfl) (by exact hr.mono (by decide)) (by rfl) Dchange.m Dchange.F.kp Dchange.b (b4 (d7 (c8 (d7 (c8 (qv .B 0) b7)) (qv .B 3))) b6) (by decide) (by rfl) (by rfl)))) (b4 b7 b6))) (by decide) (by rfl) (by rfl)) (by rfl) (by trivial))) (by intro _; rfl)) (b9 (@E6 _ _ _ _ _ 2 _ _ (.inl rfl) (by rfl) (by trivial) (by decide) (by decide))))),
  j3 (n:=2) (Nl:=["moor", "row", "total", "number"]) (.inl rfl) h⟩
theorem BY {f:Addr} {fd:FuncData} (D:Def K mg "way" kC ["tree", "number"] f fd) (B:Blt mg) {fway_back:Addr} {fdway_back:FuncData} (Dway_back:Def K mg "way_back" F9 ["tree", "number"] fway_back fdway_back) (Gway_back:FnOk P w K mg base CX0 1 fway_back fdway_back ["tree", "number"] (spM K 2 .F (n9))):FnOk P w K mg base CX0 2 f fd ["tree", "number"] (spM K 2 .F (dY)):=by
 refine D.F.ok Bz (fun vs H Q E h=>h.1) (fun cdv A outer s H vs Q E hr h=>?_)
 exact ⟨tSt K (fun _ _=>False) .F lw,(b9 (i2 (@yn _ _ _ _ _ _ _ _ _ rfl (by rfl) B.list_ (by rfl) B.reversed_ (b4 (m7 (j5 (@c9 _ _ _ _ _ _ _ _ _ _ _ _ _ _ _ _ Gway_back (.inl rfl) (by exact hr.mono (by decide)) (by rfl) Dway_back.m Dway_back.F.kp Dway_back.b (b4 (qv .B 0) (b4 (qv .B 1) b6)) (by decide) (by rfl) (by rfl)))) b6) (by rfl) (by rfl) (by rfl)))),
  j3 (n:=2) (Nl:=["tree", "number"]) (.inl rfl) h⟩
theorem gc {f:Addr} {fd:FuncData} (D:Def K mg "row_between" J0 ["tree", "elder", "number"] f fd) (B:Blt mg) {fway:Addr} {fdway:FuncData} (Dway:Def K mg "way" kC ["tree", "number"] fway fdway) (Gway:FnOk P w K mg base CX0 2 fway fdway ["tree", "number"] (spM K 2 .F (dY))):FnOk P w K mg base CX0 3 f fd ["tree", "elder", "number"] (spM K 3 .F (A0)):=by
 refine D.F.ok bG (fun vs H Q E h=>h.1) (fun cdv A outer s H vs Q E hr h=>?_)
 exact ⟨tSt K (fun _ _=>False) .F U3,(b8 (@i0 _ _ _ _ _ _ _ 3 _ _ bG.nd rfl (by trivial) (@c9 _ _ _ _ _ _ _ _ _ _ _ _ _ _ _ _ Gway (.inl rfl) (by exact hr.mono (by decide)) (by rfl) Dway.m Dway.F.kp Dway.b (b4 (qv .B 0) (b4 (qv .B 2) b6)) (by decide) (by rfl) (by rfl)) (by rfl) (by trivial)) (b9 (i2 (@v7 _ _ _ _ _ _ _ _ _ _ _ _ _ _ _ _ (show i4 (c0 J0) _ ["tree", "elder", "number", "path"] ["tree", "elder", "number", "path", "at"] from ⟨rfl,by decide +kernel,by decide +kernel,by decide +kernel,by decide +kernel,by decide,by decide +kernel,by decide +kernel⟩) rfl (@J5 _ _ _ _ _ _ (m7 (j5 (@kM _ _ _ _ _ _ true _ _ _ _ _ (qv .C 3) (kP (i7 u4 (j1 (g:=n5) (fun _ _=>rfl) (fun _ _ _=>.int)) (@uq _ _ _ _ _ _ _ _ _ _ (du hr) (qv .B 3) (qv .B 1) (by rfl) (by rfl) (by rfl) (by rfl) (by rfl) (by rfl)) b7)) kQ (by rfl)))) (by rfl)) (fun _ _ _ _=>(@d5 _ _ 4 _ (by decide +kernel:(["tree", "elder", "number", "path", "at"]:List Str).Nodup) rfl (Or.inl rfl) (.inr rfl))) j6 (u7 (show 4≤4 by decide)) (fun _ _ _ _=>u3) (fun _ _ _ _=>(X1 (c8 (d7 (c8 (qv .B 0) (qv .B 4))) b7))) (by intro _; rfl))))),
  j3 (n:=3) (Nl:=["tree", "elder", "number", "path"]) (.inl rfl) h⟩
theorem lf {f:Addr} {fd:FuncData} (D:Def K mg "unraised" S7 ["moor", "tree", "number"] f fd) (B:Blt mg) {fcap_after:Addr} {fdcap_after:FuncData} (Dcap_after:Def K mg "cap_after" K7 ["cap", "move"] fcap_after fdcap_after) (Gcap_after:FnOk P w K mg base CX0 3 fcap_after fdcap_after ["cap", "move"] (spM K 2 .F (B3))):FnOk P w K mg base CX0 4 f fd ["moor", "tree", "number"] (spM K 3 .F (A6)):=by
 refine D.F.ok dF (fun vs H Q E h=>h.1) (fun cdv A outer s H vs Q E hr h=>?_)
 exact ⟨tSt K (fun _ _=>False) .F bg,(b8 (@dI _ _ _ _ _ _ _ 3 _ _ dF.nd rfl (by trivial) (c8 (qv .B 1) (qv .B 2)) (by rfl) (by trivial)) (b9 (i2 (@c9 _ _ _ _ _ _ _ _ _ _ _ _ _ _ _ _ Gcap_after (.inl rfl) (by exact hr.mono (by decide)) (by rfl) Dcap_after.m Dcap_after.F.kp Dcap_after.b (b4 (d7 (c8 (d7 (c8 (qv .B 1) (d7 (c8 (qv .B 3) b7)))) b7)) (b4 (d7 (c8 (d7 (c8 (qv .B 0) b7)) (d7 (c8 (qv .B 3) b7)))) b6)) (by decide) (by rfl) (by rfl))))),
  j3 (n:=3) (Nl:=["moor", "tree", "number", "row"]) (.inl rfl) h⟩
theorem lh {f:Addr} {fd:FuncData} (D:Def K mg "lifts_of" S9 ["moor", "tree", "number"] f fd) (B:Blt mg) {funraised:Addr} {fdunraised:FuncData} (Dunraised:Def K mg "unraised" S7 ["moor", "tree", "number"] funraised fdunraised) (Gunraised:FnOk P w K mg base CX0 4 funraised fdunraised ["moor", "tree", "number"] (spM K 3 .F (A6))) {fway_back:Addr} {fdway_back:FuncData} (Dway_back:Def K mg "way_back" F9 ["tree", "number"] fway_back fdway_back) (Gway_back:FnOk P w K mg base CX0 1 fway_back fdway_back ["tree", "number"] (spM K 2 .F (n9))) {fraised:Addr} {fdraised:FuncData} (Draised:Def K mg "raised" V8 ["cap", "elder"] fraised fdraised) (Graised:FnOk P w K mg base CX0 2 fraised fdraised ["cap", "elder"] (spM K 2 .F (K0))):FnOk P w K mg base CX0 5 f fd ["moor", "tree", "number"] (spM K 3 .F (E3)):=by
 refine D.F.ok C6 (fun vs H Q E h=>h.1) (fun cdv A outer s H vs Q E hr h=>?_)
 exact ⟨tSt K (fun _ _=>False) .F bi,(b8 (k9 (@i3 _ _ _ _ _ _ _ _ _ _ _ _ Z3 T7 (qv .B 2) b7 (by first | exact h9 _ | rfl)) (b9 (i2 (A4 b6))) k7) (b8 (@i0 _ _ _ _ _ _ _ 3 _ _ C6.nd rfl (by trivial) (A4 b6) (by rfl) (by trivial)) (b8 (@i0 _ _ _ _ _ _ _ 4 _ _ C6.nd rfl (by trivial) (@c9 _ _ _ _ _ _ _ _ _ _ _ _ _ _ _ _ Gunraised (.inl rfl) (by exact hr.mono (by decide)) (by rfl) Dunraised.m Dunraised.F.kp Dunraised.b (b4 (qv .B 0) (b4 (qv .B 1) (b4 (qv .B 2) b6))) (by decide) (by rfl) (by rfl)) (by rfl) (by trivial)) (b8 (@w8 _ _ _ _ _ _ _ _ _ _ _ _ _ PassesOwn.never rfl (@P2 _ _ _ _ _ _ (ib (J7 (@kM _ _ _ _ _ _ true _ _ _ _ _ (j5 (@c9 _ _ _ _ _ _ _ _ _ _ _ _ _ _ _ _ Gway_back (.inl rfl) (by exact hr.mono (by decide)) (by rfl) Dway_back.m Dway_back.F.kp Dway_back.b (b4 (qv .B 1) (b4 (qv .B 2) b6)) (by decide) (by rfl) (by rfl))) (kP b7) kQ (by rfl)))) (by rfl)) (@d5 _ _ 5 _ C6.nd rfl (by trivial) (by trivial)) j6 (b8 (@i0 _ _ _ _ _ _ _ 6 _ _ C6.nd rfl (by trivial) (@c9 _ _ _ _ _ _ _ _ _ _ _ _ _ _ _ _ Graised (.inl rfl) (by exact hr.mono (by decide)) (by rfl) Draised.m Draised.F.kp Draised.b (b4 (qv .B 4) (b4 (d7 (c8 (d7 (c8 (qv .B 1) (qv .B 5))) b7)) b6)) (by decide) (by rfl) (by rfl)) (by rfl) (by trivial)) (b8 (@i0 _ _ _ _ _ _ _ 7 _ _ C6.nd rfl (by trivial) (@L7 _ _ _ _ _ _ _ _ _ _ _ _ _ _ N1 (M9 (c:=true)) (by rfl) B.tuple_ u6 (b4 (j5 (@v7 _ _ _ _ _ _ _ _ _ _ _ _ _ _ _ _ (show i4 (c0 S9) _ ["moor", "tree", "number", "found", "cap", "elder", "higher", "places"] ["moor", "tree", "number", "found", "cap", "elder", "higher", "places", "place"] from ⟨rfl,by decide +kernel,by decide +kernel,by decide +kernel,by decide +kernel,by decide,by decide +kernel,by decide +kernel⟩) rfl (@J4 _ _ _ _ _ _ _ _ _ (by rfl) B.range_ (b4 (@m8 _ _ _ _ _ _ _ _ _ _ _ _ _ _ t7 t6 (by rfl) B.len_ PySem.boot_len (b4 (qv .B 4) b6) (by decide) (by decide) (by rfl) (by rfl)) b6) (by rfl)) (fun _ _ _ _=>(@d5 _ _ 8 _ (by decide +kernel:(["moor", "tree", "number", "found", "cap", "elder", "higher", "places", "place"]:List Str).Nodup) rfl (Or.inl rfl) (.inr rfl))) j6 (u7 (show 8≤8 by decide)) (fun _ _ _ _=>(ia (@i3 _ _ _ _ _ _ _ _ _ _ _ _ (nC (du hr)) (bY (neg:=true)) (d7 (c8 (qv .B 6) (qv .B 8))) (d7 (c8 (qv .B 4) (qv .B 8))) (by first | exact h9 _ | rfl)))) (fun _ _ _ _=>(qv .V 8)) (by intro _; rfl))) b6) (by decide) (by decide) (by rfl) (by rfl)) (by rfl) (by trivial)) (b8 (k9 (@i3 _ _ _ _ _ _ _ _ _ _ _ _ P6 (j1 (g:=gGt) (fun _ _=>rfl) (fun _ _ _=>.bl)) (@m8 _ _ _ _ _ _ _ _ _ _ _ _ _ _ t7 t6 (by rfl) B.len_ PySem.boot_len (b4 (qv .B 7) b6) (by decide) (by decide) (by rfl) (by rfl)) b7 (by first | exact h9 _ | rfl)) (b9 (@Z2 _ _ _ _ _ _ _ 3 _ _ _ _ rfl (by trivial) (J7 (L0 (b4 (qv .V 5) (b4 (qv .V 7) b6)))) (by decide) (by decide) (by rfl) (by rfl) (by rfl) (by rfl) (by rfl))) k7) (b9 (dJ (@J3 _ _ _ _ _ _ _ 4 _ _ C6.nd rfl (by trivial) (qv .V 6) (by rfl) (by trivial))))))) (by intro _; rfl)) (b9 (@E6 _ _ _ _ _ 3 _ _ (.inl rfl) (by rfl) (by trivial) (by decide) (by decide))))))),
  j3 (n:=3) (Nl:=["moor", "tree", "number", "found", "cap", "elder", "higher", "places"]) (.inl rfl) h⟩
theorem eT {f:Addr} {fd:FuncData} (D:Def K mg "wanted_ahead" M5 ["moor", "row", "times", "wanted"] f fd) (B:Blt mg) {fhurdle:Addr} {fdhurdle:FuncData} (Dhurdle:Def K mg "hurdle" cw ["moor", "row"] fhurdle fdhurdle) (Ghurdle:FnOk P w K mg base CX0 2 fhurdle fdhurdle ["moor", "row"] (spM K 2 .F (N5))) {fsum_of:Addr} {fdsum_of:FuncData} (Dsum_of:Def K mg "sum_of" aw ["moor", "row"] fsum_of fdsum_of) (Gsum_of:FnOk P w K mg base CX0 2 fsum_of fdsum_of ["moor", "row"] (spM K 2 .F (B1))) {fleast_over:Addr} {fdleast_over:FuncData} (Dleast_over:Def K mg "least_over" L8 ["stand", "other"] fleast_over fdleast_over) (Gleast_over:FnOk P w K mg base CX0 1 fleast_over fdleast_over ["stand", "other"] (spM K 2 .F (C0))) {fshifted:Addr} {fdshifted:FuncData} (Dshifted:Def K mg "shifted" Q7 ["stand", "step", "times"] fshifted fdshifted) (Gshifted:FnOk P w K mg base CX0 1 fshifted fdshifted ["stand", "step", "times"] (spM K 3 .F (A8))):FnOk P w K mg base CX0 3 f fd ["moor", "row", "times", "wanted"] (spM K 4 .F (t5)):=by
 refine D.F.ok K6 (fun vs H Q E h=>h.1) (fun cdv A outer s H vs Q E hr h=>?_)
 exact ⟨tSt K (fun _ _=>False) .F R1,(b8 (@i0 _ _ _ _ _ _ _ 4 _ _ K6.nd rfl (by trivial) (@c9 _ _ _ _ _ _ _ _ _ _ _ _ _ _ _ _ Ghurdle (.inl rfl) (by exact hr.mono (by decide)) (by rfl) Dhurdle.m Dhurdle.F.kp Dhurdle.b (b4 (qv .B 0) (b4 (qv .B 1) b6)) (by decide) (by rfl) (by rfl)) (by rfl) (by trivial)) (b8 (@i0 _ _ _ _ _ _ _ 5 _ _ K6.nd rfl (by trivial) (@c9 _ _ _ _ _ _ _ _ _ _ _ _ _ _ _ _ Gsum_of (.inl rfl) (by exact hr.mono (by decide)) (by rfl) Dsum_of.m Dsum_of.F.kp Dsum_of.b (b4 (qv .B 0) (b4 (qv .B 1) b6)) (by decide) (by rfl) (by rfl)) (by rfl) (by trivial)) (b8 (@i0 _ _ _ _ _ _ _ 6 _ _ K6.nd rfl (by trivial) (@c9 _ _ _ _ _ _ _ _ _ _ _ _ _ _ _ _ Gleast_over (.inl rfl) (by exact hr.mono (by decide)) (by rfl) Dleast_over.m Dleast_over.F.kp Dleast_over.b (b4 (qv .B 4) (b4 (m7 (j5 (@c9 _ _ _ _ _ _ _ _ _ _ _ _ _ _ _ _ Gshifted (.inl rfl) (by exact hr.mono (by decide)) (by rfl) Dshifted.m Dshifted.F.kp Dshifted.b (b4 (qv .B 4) (b4 (qv .B 5) (b4 (i7 P4 (j1 (g:=gSub) (fun _ _=>rfl) (fun _ _ _=>.int)) b7 (qv .B 2)) b6))) (by decide) (by rfl) (by rfl)))) b6)) (by decide) (by rfl) (by rfl)) (by rfl) (by trivial)) (b9 (i2 (@c9 _ _ _ _ _ _ _ _ _ _ _ _ _ _ _ _ Gleast_over (.inl rfl) (by exact hr.mono (by decide)) (by rfl) Dleast_over.m Dleast_over.F.kp Dleast_over.b (b4 (qv .B 6) (b4 (m7 (j5 (@c9 _ _ _ _ _ _ _ _ _ _ _ _ _ _ _ _ Gshifted (.inl rfl) (by exact hr.mono (by decide)) (by rfl) Dshifted.m Dshifted.F.kp Dshifted.b (b4 (qv .B 3) (b4 (qv .B 5) (b4 (qd gB (qx (g:=dw) (fun _=>rfl) (fun _ _=>.int)) (qv .B 2)) b6))) (by decide) (by rfl) (by rfl)))) b6)) (by decide) (by rfl) (by rfl))))))),
  j3 (n:=4) (Nl:=["moor", "row", "times", "wanted", "needed", "step", "first_and_last"]) (.inl rfl) h⟩
theorem jd {f:Addr} {fd:FuncData} (D:Def K mg "times_for" O9 ["cap", "step", "places", "wanted"] f fd) (B:Blt mg):FnOk P w K mg base CX0 1 f fd ["cap", "step", "places", "wanted"] (spM K 4 .F (E9)):=by
 refine D.F.ok iZ (fun vs H Q E h=>h.1) (fun cdv A outer s H vs Q E hr h=>?_)
 exact ⟨tSt K (fun _ _=>False) .F ag,(b9 (i2 (@m8 _ _ _ _ _ _ _ _ _ _ _ _ _ _ (fZ rfl) (oI (g:=F1)) (by rfl) B.max_ Y3 (b4 (m7 (j5 (i7 yN (yU (c:=true)) (j5 (A4 (b4 b7 b6))) (j5 (@v7 _ _ _ _ _ _ _ _ _ _ _ _ _ _ _ _ (show i4 (c0 O9) _ ["cap", "step", "places", "wanted"] ["cap", "step", "places", "wanted", "place"] from ⟨rfl,by decide +kernel,by decide +kernel,by decide +kernel,by decide +kernel,by decide,by decide +kernel,by decide +kernel⟩) rfl (@J5 _ _ _ _ _ _ (qv .B 2) (by rfl)) (fun _ _ _ _=>(@d5 _ _ 4 _ (by decide +kernel:(["cap", "step", "places", "wanted", "place"]:List Str).Nodup) rfl (Or.inl rfl) (.inr rfl))) j6 (u7 (show 4≤4 by decide)) (fun _ _ _ _=>u3) (fun _ _ _ _=>(qd gB (qx (g:=dw) (fun _=>rfl) (fun _ _=>.int)) (i7 ql (t8 (C:=bF) (g:=ci) (fun _ _=>rfl) (fun _ _ _=>.int)) (i7 P4 (j1 (g:=gSub) (fun _ _=>rfl) (fun _ _ _=>.int)) (d7 (c8 (qv .B 0) (qv .B 4))) (d7 (c8 (qv .B 3) (qv .B 4)))) (d7 (c8 (qv .B 1) (qv .B 4)))))) (by intro _; rfl)))))) b6) (by decide) (by decide) (by rfl) (by rfl)))),
  j3 (n:=4) (Nl:=["cap", "step", "places", "wanted"]) (.inl rfl) h⟩
theorem uO {f:Addr} {fd:FuncData} (D:Def K mg "climb" bP ["moor", "tree", "number", "height"] f fd) (B:Blt mg) {fway_back:Addr} {fdway_back:FuncData} (Dway_back:Def K mg "way_back" F9 ["tree", "number"] fway_back fdway_back) (Gway_back:FnOk P w K mg base CX0 1 fway_back fdway_back ["tree", "number"] (spM K 2 .F (n9))) {funraised:Addr} {fdunraised:FuncData} (Dunraised:Def K mg "unraised" S7 ["moor", "tree", "number"] funraised fdunraised) (Gunraised:FnOk P w K mg base CX0 4 funraised fdunraised ["moor", "tree", "number"] (spM K 3 .F (A6))) {fwanted_ahead:Addr} {fdwanted_ahead:FuncData} (Dwanted_ahead:Def K mg "wanted_ahead" M5 ["moor", "row", "times", "wanted"] fwanted_ahead fdwanted_ahead) (Gwanted_ahead:FnOk P w K mg base CX0 3 fwanted_ahead fdwanted_ahead ["moor", "row", "times", "wanted"] (spM K 4 .F (t5))) {flifts_of:Addr} {fdlifts_of:FuncData} (Dlifts_of:Def K mg "lifts_of" S9 ["moor", "tree", "number"] flifts_of fdlifts_of) (Glifts_of:FnOk P w K mg base CX0 5 flifts_of fdlifts_of ["moor", "tree", "number"] (spM K 3 .F (E3))) {frow_between:Addr} {fdrow_between:FuncData} (Drow_between:Def K mg "row_between" J0 ["tree", "elder", "number"] frow_between fdrow_between) (Grow_between:FnOk P w K mg base CX0 3 frow_between fdrow_between ["tree", "elder", "number"] (spM K 3 .F (A0))) {ftimes_for:Addr} {fdtimes_for:FuncData} (Dtimes_for:Def K mg "times_for" O9 ["cap", "step", "places", "wanted"] ftimes_for fdtimes_for) (Gtimes_for:FnOk P w K mg base CX0 1 ftimes_for fdtimes_for ["cap", "step", "places", "wanted"] (spM K 4 .F (E9))) {fsum_of:Addr} {fdsum_of:FuncData} (Dsum_of:Def K mg "sum_of" aw ["moor", "row"] fsum_of fdsum_of) (Gsum_of:FnOk P w K mg base CX0 2 fsum_of fdsum_of ["moor", "row"] (spM K 2 .F (B1))):FnOk P w K mg base CX0 6 f fd ["moor", "tree", "number", "height"] (spM K 4 .F (R5)):=by
 refine D.F.ok B7 (fun vs H Q E h=>h.1) (fun cdv A outer s H vs Q E hr h=>?_)
 exact ⟨tSt K (fun _ _=>False) .F ff,(b8 (@i0 _ _ _ _ _ _ _ 4 _ _ B7.nd rfl (by trivial) (@L7 _ _ _ _ _ _ _ _ _ _ _ _ _ _ N1 (M9 (c:=true)) (by rfl) B.tuple_ u6 (b4 (j5 (@v7 _ _ _ _ _ _ _ _ _ _ _ _ _ _ _ _ (show i4 (c0 bP) _ ["moor", "tree", "number", "height", "wanted", "blocks", "at", "cap", "elder", "places", "row", "times"] ["moor", "tree", "number", "height", "wanted", "blocks", "at", "cap", "elder", "places", "row", "times", "bound"] from ⟨rfl,by decide +kernel,by decide +kernel,by decide +kernel,by decide +kernel,by decide,by decide +kernel,by decide +kernel⟩) rfl (@J5 _ _ _ _ _ _ (d7 (c8 (d7 (c8 (qv .B 1) (qv .B 2))) b7)) (by rfl)) (fun _ _ _ _=>(@d5 _ _ 12 _ (by decide +kernel:(["moor", "tree", "number", "height", "wanted", "blocks", "at", "cap", "elder", "places", "row", "times", "bound"]:List Str).Nodup) rfl (Or.inl rfl) (.inr rfl))) j6 (u7 (show 12≤12 by decide)) (fun _ _ _ _=>u3) (fun _ _ _ _=>(kT (@i3 _ _ _ _ _ _ _ _ _ _ _ _ M1 M2 (qv .B 12) q5 (by first | exact h9 _ | rfl)) (qv .V 3) (qv .V 12))) (by intro _; rfl))) b6) (by decide) (by decide) (by rfl) (by rfl)) (by rfl) (by trivial)) (b8 (@i0 _ _ _ _ _ _ _ 5 _ _ B7.nd rfl (by trivial) (A4 b6) (by rfl) (by trivial)) (b8 (@w8 _ _ _ _ _ _ _ _ _ _ _ _ _ PassesOwn.never rfl (@P2 _ _ _ _ _ _ (ib (J7 (@kM _ _ _ _ _ _ true _ _ _ _ _ (j5 (@c9 _ _ _ _ _ _ _ _ _ _ _ _ _ _ _ _ Gway_back (.inl rfl) (by exact hr.mono (by decide)) (by rfl) Dway_back.m Dway_back.F.kp Dway_back.b (b4 (qv .B 1) (b4 (qv .B 2) b6)) (by decide) (by rfl) (by rfl))) kQ (kP (qd gB (qx (g:=dw) (fun _=>rfl) (fun _ _=>.int)) b7)) (by rfl)))) (by rfl)) (@d5 _ _ 6 _ B7.nd rfl (by trivial) (by trivial)) j6 (b8 (@i0 _ _ _ _ _ _ _ 7 _ _ B7.nd rfl (by trivial) (@c9 _ _ _ _ _ _ _ _ _ _ _ _ _ _ _ _ Gunraised (.inl rfl) (by exact hr.mono (by decide)) (by rfl) Dunraised.m Dunraised.F.kp Dunraised.b (b4 (qv .B 0) (b4 (qv .B 1) (b4 (qv .B 6) b6))) (by decide) (by rfl) (by rfl)) (by rfl) (by trivial)) (b8 (@w8 _ _ _ _ _ _ _ _ _ _ _ _ _ PassesOwn.never rfl (@sx _ _ _ _ _ _ _ _ (by rfl) B.reversed_ (b4 (ib (J7 (@c9 _ _ _ _ _ _ _ _ _ _ _ _ _ _ _ _ Glifts_of (.inl rfl) (by exact hr.mono (by decide)) (by rfl) Dlifts_of.m Dlifts_of.F.kp Dlifts_of.b (b4 (qv .B 0) (b4 (qv .B 1) (b4 (qv .B 6) b6))) (by decide) (by rfl) (by rfl)))) b6) (by rfl) (by rfl)) (@L3 _ K _ _ _ _ 2 rfl (@m9 _ _ _ _ _ (@d5 _ _ 8 _ B7.nd rfl (by trivial) (by trivial)) (@m9 _ _ _ _ _ (@d5 _ _ 9 _ B7.nd rfl (by trivial) (by trivial)) L1 (by rfl)) (by rfl)) (by rfl) (by rfl) (by rfl)) (Q2 (.inr rfl) (n4 (.inr rfl) j6 (n4 (.inr rfl) j6 L5))) (b8 (@i0 _ _ _ _ _ _ _ 10 _ _ B7.nd rfl (by trivial) (@c9 _ _ _ _ _ _ _ _ _ _ _ _ _ _ _ _ Grow_between (.inl rfl) (by exact hr.mono (by decide)) (by rfl) Drow_between.m Drow_between.F.kp Drow_between.b (b4 (qv .B 1) (b4 (qv .B 8) (b4 (qv .B 6) b6))) (by decide) (by rfl) (by rfl)) (by rfl) (by trivial)) (b8 (@i0 _ _ _ _ _ _ _ 11 _ _ B7.nd rfl (by trivial) (@c9 _ _ _ _ _ _ _ _ _ _ _ _ _ _ _ _ Gtimes_for (.inl rfl) (by exact hr.mono (by decide)) (by rfl) Dtimes_for.m Dtimes_for.F.kp Dtimes_for.b (b4 (qv .B 7) (b4 (m7 (j5 (@c9 _ _ _ _ _ _ _ _ _ _ _ _ _ _ _ _ Gsum_of (.inl rfl) (by exact hr.mono (by decide)) (by rfl) Dsum_of.m Dsum_of.F.kp Dsum_of.b (b4 (qv .B 0) (b4 (qv .B 10) b6)) (by decide) (by rfl) (by rfl)))) (b4 (qv .B 9) (b4 (qv .B 4) b6)))) (by decide) (by rfl) (by rfl)) (by rfl) (by trivial)) (b9 (k9 (@i3 _ _ _ _ _ _ _ _ _ _ _ _ P6 (j1 (g:=gGt) (fun _ _=>rfl) (fun _ _ _=>.bl)) (qv .B 11) b7 (by first | exact h9 _ | rfl)) (b8 (dJ (dJ (@Z2 _ _ _ _ _ _ _ 5 _ _ _ _ rfl (by trivial) (J7 (L0 (b4 (qv .V 10) (b4 (qv .V 11) b6)))) (by decide) (by decide) (by rfl) (by rfl) (by rfl) (by rfl) (by rfl)))) (b9 (@i0 _ _ _ _ _ _ _ 4 _ _ B7.nd rfl (by trivial) (@c9 _ _ _ _ _ _ _ _ _ _ _ _ _ _ _ _ Gwanted_ahead (.inl rfl) (by exact hr.mono (by decide)) (by rfl) Dwanted_ahead.m Dwanted_ahead.F.kp Dwanted_ahead.b (b4 (qv .B 0) (b4 (qv .B 10) (b4 (qv .B 11) (b4 (qv .B 4) b6)))) (by decide) (by rfl) (by rfl)) (by rfl) (by trivial)))) k7)))) (by intro _; rfl)) (b8 (@Z2 _ _ _ _ _ _ _ 5 _ _ _ _ rfl (by trivial) (J7 (L0 (b4 (J7 (A4 (b4 (X1 (c8 (d7 (c8 (qv .B 1) (qv .B 6))) b7)) b6))) (b4 b7 b6)))) (by decide) (by decide) (by rfl) (by rfl) (by rfl) (by rfl) (by rfl)) (b9 (@i0 _ _ _ _ _ _ _ 4 _ _ B7.nd rfl (by trivial) (@c9 _ _ _ _ _ _ _ _ _ _ _ _ _ _ _ _ Gwanted_ahead (.inl rfl) (by exact hr.mono (by decide)) (by rfl) Dwanted_ahead.m Dwanted_ahead.F.kp Dwanted_ahead.b (b4 (qv .B 0) (b4 (m7 (j5 (A4 (b4 (X1 (c8 (d7 (c8 (qv .B 1) (qv .B 6))) b7)) b6)))) (b4 b7 (b4 (qv .B 4) b6)))) (by decide) (by rfl) (by rfl)) (by rfl) (by trivial)))))) (by intro _; rfl)) (b8 (@sy _ _ _ _ _ 5 _ _ _ _ rfl (by trivial) (by rfl) (by decide) (by decide) (by rfl) (by rfl) (by rfl)) (b9 (@E6 _ _ _ _ _ 5 _ _ (.inl rfl) (by rfl) (by trivial) (by decide) (by decide))))))),
  j3 (n:=4) (Nl:=["moor", "tree", "number", "height", "wanted", "blocks", "at", "cap", "elder", "places", "row", "times"]) (.inl rfl) h⟩
theorem yQ {f:Addr} {fd:FuncData} (D:Def K mg "peak" dC ["moor", "place", "most"] f fd) (B:Blt mg) {fcrown:Addr} {fdcrown:FuncData} (Dcrown:Def K mg "crown" bO ["moor", "most"] fcrown fdcrown) (Gcrown:FnOk P w K mg base CX0 6 fcrown fdcrown ["moor", "most"] (spM K 2 .F (O4))):FnOk P w K mg base CX0 7 f fd ["moor", "place", "most"] (spM K 3 .F (aJ)):=by
 refine D.F.ok gQ (fun vs H Q E h=>h.1) (fun cdv A outer s H vs Q E hr h=>?_)
 exact ⟨tSt K (fun _ _=>False) .F iz,(b8 (@i0 _ _ _ _ _ _ _ 3 _ _ gQ.nd rfl (by trivial) (@c9 _ _ _ _ _ _ _ _ _ _ _ _ _ _ _ _ Gcrown (.inl rfl) (by exact hr.mono (by decide)) (by rfl) Dcrown.m Dcrown.F.kp Dcrown.b (b4 (qv .B 0) (b4 (qv .B 2) b6)) (by decide) (by rfl) (by rfl)) (by rfl) (by trivial)) (b8 (k9 (@i3 _ _ _ _ _ _ _ _ _ _ _ _ M1 M2 (qv .B 3) q5 (by first | exact h9 _ | rfl)) (b9 (i2 (L0 (b4 dH b6)))) k7) (b8 (@bW _ _ _ _ _ _ _ 4 _ _ _ _ _ _ _ _ _ _ _ _ _ (show i4 (c0 dC) _ ["moor", "place", "most", "caps", "numbers"] ["moor", "place", "most", "caps", "numbers", "cap"] from ⟨rfl,by decide +kernel,by decide +kernel,by decide +kernel,by decide +kernel,by decide,by decide +kernel,by decide +kernel⟩) rfl (@J5 _ _ _ _ _ _ (qv .B 3) (by rfl)) (fun _ _ _ _=>(@d5 _ _ 5 _ (by decide +kernel:(["moor", "place", "most", "caps", "numbers", "cap"]:List Str).Nodup) rfl (Or.inl rfl) (.inr rfl))) j6 (u7 (show 5≤5 by decide)) (fun _ _ _ _=>u3) (fun _ _ _ _=>(X1 (c8 (qv .B 5) (qv .B 1)))) gQ.nd rfl (by trivial) (by rfl) (by trivial) (by intro _; rfl)) (b8 (k9 (@i3 _ _ _ _ _ _ _ _ _ _ _ _ (BW (du hr)) (Cb (neg:=false)) q5 (qv .B 4) (by first | exact h9 _ | rfl)) (b9 (i2 (L0 (b4 dH b6)))) k7) (b9 (i2 (L0 (b4 dH (b4 (@m8 _ _ _ _ _ _ _ _ _ _ _ _ _ _ (fZ rfl) (oI (g:=F1)) (by rfl) B.max_ Y3 (b4 (qv .B 4) b6) (by decide) (by decide) (by rfl) (by rfl)) b6))))))))),
  j3 (n:=3) (Nl:=["moor", "place", "most", "caps", "numbers"]) (.inl rfl) h⟩
theorem eW {f:Addr} {fd:FuncData} (D:Def K mg "_law_cell_at" u8 ["_law_script", "_law_k"] f fd) (B:Blt mg):FnOk P w K mg base CX0 1 f fd ["_law_script", "_law_k"] (spM K 2 .F (j8)):=by
 refine D.F.ok eL (fun vs H Q E h=>h.1) (fun cdv A outer s H vs Q E hr h=>?_)
 exact ⟨tSt K (fun _ _=>False) .F L4,(b8 (k9 (@i3 _ _ _ _ _ _ _ _ _ _ _ _ P6 (j1 (g:=gGt) (fun _ _=>rfl) (fun _ _ _=>.bl)) (@m8 _ _ _ _ _ _ _ _ _ _ _ _ _ _ t7 t6 (by rfl) B.len_ PySem.boot_len (b4 (qv .B 0) b6) (by decide) (by decide) (by rfl) (by rfl)) b7 (by first | exact h9 _ | rfl)) (b9 (i2 (yt (c8 (qv .B 0) (i7 P5 (t8 (C:=C1) (g:=E2) (fun _ _=>rfl) (fun _ _ _=>.int)) (qv .B 1) (@m8 _ _ _ _ _ _ _ _ _ _ _ _ _ _ t7 t6 (by rfl) B.len_ PySem.boot_len (b4 (qv .B 0) b6) (by decide) (by decide) (by rfl) (by rfl))))))) k7) (b9 (i2 b7))),
  j3 (n:=2) (Nl:=["_law_script", "_law_k"]) (.inl rfl) h⟩
theorem jh {f:Addr} {fd:FuncData} (D:Def K mg "_law_draw" C8 ["_law_script", "_law_k", "_law_many"] f fd) (B:Blt mg) {f_law_cell_at:Addr} {fd_law_cell_at:FuncData} (D_law_cell_at:Def K mg "_law_cell_at" u8 ["_law_script", "_law_k"] f_law_cell_at fd_law_cell_at) (G_law_cell_at:FnOk P w K mg base CX0 1 f_law_cell_at fd_law_cell_at ["_law_script", "_law_k"] (spM K 2 .F (j8))):FnOk P w K mg base CX0 2 f fd ["_law_script", "_law_k", "_law_many"] (spM K 3 .F (l6)):=by
 refine D.F.ok jb (fun vs H Q E h=>h.1) (fun cdv A outer s H vs Q E hr h=>?_)
 exact ⟨tSt K (fun _ _=>False) .F al,(b9 (i2 (i7 P5 (t8 (C:=C1) (g:=E2) (fun _ _=>rfl) (fun _ _ _=>.int)) (i7 jJ (t8 (C:=ar) (g:=ci) (fun _ _=>rfl) (fun _ _ _=>.int)) (i7 P5 (t8 (C:=C1) (g:=E2) (fun _ _=>rfl) (fun _ _ _=>.int)) (i7 A5 (t8 (C:=CMul) (g:=t9) (fun _ _=>rfl) (fun _ _ _=>.int)) (i7 u4 (j1 (g:=n5) (fun _ _=>rfl) (fun _ _ _=>.int)) (m7 (j5 (@c9 _ _ _ _ _ _ _ _ _ _ _ _ _ _ _ _ G_law_cell_at (.inl rfl) (by exact hr.mono (by decide)) (by rfl) D_law_cell_at.m D_law_cell_at.F.kp D_law_cell_at.b (b4 (qv .B 0) (b4 (qv .B 1) b6)) (by decide) (by rfl) (by rfl)))) b7) (i7 u4 (j1 (g:=n5) (fun _ _=>rfl) (fun _ _ _=>.int)) (i7 u4 (j1 (g:=n5) (fun _ _=>rfl) (fun _ _ _=>.int)) (i7 A5 (t8 (C:=CMul) (g:=t9) (fun _ _=>rfl) (fun _ _ _=>.int)) (qv .B 1) (qv .B 1)) (i7 A5 (t8 (C:=CMul) (g:=t9) (fun _ _=>rfl) (fun _ _ _=>.int)) b7 (qv .B 1))) b7)) b7) b7) (qv .B 2)))),
  j3 (n:=3) (Nl:=["_law_script", "_law_k", "_law_many"]) (.inl rfl) h⟩
theorem eU {f:Addr} {fd:FuncData} (D:Def K mg "_law_numbers" M6 ["_law_script", "_law_at", "_law_places", "_law_menu", "_law_scale_here"] f fd) (B:Blt mg) {f_law_draw:Addr} {fd_law_draw:FuncData} (D_law_draw:Def K mg "_law_draw" C8 ["_law_script", "_law_k", "_law_many"] f_law_draw fd_law_draw) (G_law_draw:FnOk P w K mg base CX0 2 f_law_draw fd_law_draw ["_law_script", "_law_k", "_law_many"] (spM K 3 .F (l6))) {f_law_cell_at:Addr} {fd_law_cell_at:FuncData} (D_law_cell_at:Def K mg "_law_cell_at" u8 ["_law_script", "_law_k"] f_law_cell_at fd_law_cell_at) (G_law_cell_at:FnOk P w K mg base CX0 1 f_law_cell_at fd_law_cell_at ["_law_script", "_law_k"] (spM K 2 .F (j8))):FnOk P w K mg base CX0 3 f fd ["_law_script", "_law_at", "_law_places", "_law_menu", "_law_scale_here"] (spM K 5 .F (n8)):=by
 refine D.F.ok x5 (fun vs H Q E h=>h.1) (fun cdv A outer s H vs Q E hr h=>?_)
 exact ⟨tSt K (fun _ _=>False) .F R3,(b8 (@i0 _ _ _ _ _ _ _ 5 _ _ x5.nd rfl (by trivial) (A4 b6) (by rfl) (by trivial)) (b8 (@w8 _ _ _ _ _ _ _ _ _ _ _ _ _ PassesOwn.never rfl (@J4 _ _ _ _ _ _ _ _ _ (by rfl) B.range_ (b4 (qv .B 2) b6) (by rfl)) (@d5 _ _ 6 _ x5.nd rfl (by trivial) (by trivial)) j6 (b8 (@dI _ _ _ _ _ _ _ 7 _ _ x5.nd rfl (by trivial) (c8 (qv .B 3) (m7 (j5 (@c9 _ _ _ _ _ _ _ _ _ _ _ _ _ _ _ _ G_law_draw (.inl rfl) (by exact hr.mono (by decide)) (by rfl) D_law_draw.m D_law_draw.F.kp D_law_draw.b (b4 (qv .B 0) (b4 (i7 u4 (j1 (g:=n5) (fun _ _=>rfl) (fun _ _ _=>.int)) (qv .B 1) (qv .B 6)) (b4 (@m8 _ _ _ _ _ _ _ _ _ _ _ _ _ _ t7 t6 (by rfl) B.len_ PySem.boot_len (b4 (qv .B 3) b6) (by decide) (by decide) (by rfl) (by rfl)) b6))) (by decide) (by rfl) (by rfl))))) (by rfl) (by trivial)) (b8 (k9 (PW.pt (no (@i3 _ _ _ _ _ _ _ _ _ _ _ _ Z3 T7 (qv .B 4) b7 (by first | exact h9 _ | rfl)) (jD (@i3 _ _ _ _ _ _ _ _ _ _ _ _ P6 (j1 (g:=gGt) (fun _ _=>rfl) (fun _ _ _=>.bl)) (qv .B 7) b7 (by first | exact h9 _ | rfl))))) (b9 (@J3 _ _ _ _ _ _ _ 7 _ _ x5.nd rfl (by trivial) (i7 P5 (t8 (C:=C1) (g:=E2) (fun _ _=>rfl) (fun _ _ _=>.int)) (i7 A5 (t8 (C:=CMul) (g:=t9) (fun _ _=>rfl) (fun _ _ _=>.int)) (i7 u4 (j1 (g:=n5) (fun _ _=>rfl) (fun _ _ _=>.int)) (m7 (j5 (@c9 _ _ _ _ _ _ _ _ _ _ _ _ _ _ _ _ G_law_cell_at (.inl rfl) (by exact hr.mono (by decide)) (by rfl) D_law_cell_at.m D_law_cell_at.F.kp D_law_cell_at.b (b4 (qv .B 0) (b4 (i7 u4 (j1 (g:=n5) (fun _ _=>rfl) (fun _ _ _=>.int)) (qv .B 1) (qv .B 6)) b6)) (by decide) (by rfl) (by rfl)))) (qv .B 6)) b7) (i7 u4 (j1 (g:=n5) (fun _ _=>rfl) (fun _ _ _=>.int)) (i7 dN (t8 (C:=S2) (g:=bv) (fun _ _=>rfl) (fun _ _ _=>.int)) b7 b7) b7)) (by rfl) (by trivial))) (b9 (@J3 _ _ _ _ _ _ _ 7 _ _ x5.nd rfl (by trivial) (i7 A5 (t8 (C:=CMul) (g:=t9) (fun _ _=>rfl) (fun _ _ _=>.int)) (qv .B 7) (qv .B 4)) (by rfl) (by trivial)))) (b9 (@Z2 _ _ _ _ _ _ _ 5 _ _ _ _ rfl (by trivial) (qv .V 7) (by decide) (by decide) (by rfl) (by rfl) (by rfl) (by rfl) (by rfl))))) (by intro _; rfl)) (b9 (i2 (@L7 _ _ _ _ _ _ _ _ _ _ _ _ _ _ N1 (M9 (c:=true)) (by rfl) B.tuple_ u6 (b4 (qv .C 5) b6) (by decide) (by decide) (by rfl) (by rfl)))))),
  j3 (n:=5) (Nl:=["_law_script", "_law_at", "_law_places", "_law_menu", "_law_scale_here", "_law_found", "_law_k", "_law_held"]) (.inl rfl) h⟩
theorem ip {f:Addr} {fd:FuncData} (D:Def K mg "_law_scale" S5 ["_law_script"] f fd) (B:Blt mg) {f_law_draw:Addr} {fd_law_draw:FuncData} (D_law_draw:Def K mg "_law_draw" C8 ["_law_script", "_law_k", "_law_many"] f_law_draw fd_law_draw) (G_law_draw:FnOk P w K mg base CX0 2 f_law_draw fd_law_draw ["_law_script", "_law_k", "_law_many"] (spM K 3 .F (l6))) {f_law_cell_at:Addr} {fd_law_cell_at:FuncData} (D_law_cell_at:Def K mg "_law_cell_at" u8 ["_law_script", "_law_k"] f_law_cell_at fd_law_cell_at) (G_law_cell_at:FnOk P w K mg base CX0 1 f_law_cell_at fd_law_cell_at ["_law_script", "_law_k"] (spM K 2 .F (j8))):FnOk P w K mg base CX0 3 f fd ["_law_script"] (spM K 1 .F (K2)):=by
 refine D.F.ok bR (fun vs H Q E h=>h.1) (fun cdv A outer s H vs Q E hr h=>?_)
 exact ⟨tSt K (fun _ _=>False) .F X7,(b8 (@i0 _ _ _ _ _ _ _ 1 _ _ bR.nd rfl (by trivial) (@c9 _ _ _ _ _ _ _ _ _ _ _ _ _ _ _ _ G_law_draw (.inl rfl) (by exact hr.mono (by decide)) (by rfl) D_law_draw.m D_law_draw.F.kp D_law_draw.b (b4 (qv .B 0) (b4 b7 (b4 b7 b6))) (by decide) (by rfl) (by rfl)) (by rfl) (by trivial)) (b8 (k9 (@i3 _ _ _ _ _ _ _ _ _ _ _ _ Z3 T7 (qv .B 1) b7 (by first | exact h9 _ | rfl)) (b9 (i2 b7)) k7) (b8 (k9 (@i3 _ _ _ _ _ _ _ _ _ _ _ _ P6 (j1 (g:=gGt) (fun _ _=>rfl) (fun _ _ _=>.bl)) (qv .B 1) b7 (by first | exact h9 _ | rfl)) (b9 (i2 (i7 u4 (j1 (g:=n5) (fun _ _=>rfl) (fun _ _ _=>.int)) b7 (i7 P5 (t8 (C:=C1) (g:=E2) (fun _ _=>rfl) (fun _ _ _=>.int)) (i7 A5 (t8 (C:=CMul) (g:=t9) (fun _ _=>rfl) (fun _ _ _=>.int)) (m7 (j5 (@c9 _ _ _ _ _ _ _ _ _ _ _ _ _ _ _ _ G_law_cell_at (.inl rfl) (by exact hr.mono (by decide)) (by rfl) D_law_cell_at.m D_law_cell_at.F.kp D_law_cell_at.b (b4 (qv .B 0) (b4 b7 b6)) (by decide) (by rfl) (by rfl)))) b7) (i7 dN (t8 (C:=S2) (g:=bv) (fun _ _=>rfl) (fun _ _ _=>.int)) b7 b7))))) k7) (b9 (i2 b7))))),
  j3 (n:=1) (Nl:=["_law_script", "_law_kind"]) (.inl rfl) h⟩
theorem jf {f:Addr} {fd:FuncData} (D:Def K mg "_law_moor" V1 ["_law_script"] f fd) (B:Blt mg) {f_law_scale:Addr} {fd_law_scale:FuncData} (D_law_scale:Def K mg "_law_scale" S5 ["_law_script"] f_law_scale fd_law_scale) (G_law_scale:FnOk P w K mg base CX0 3 f_law_scale fd_law_scale ["_law_script"] (spM K 1 .F (K2))) {f_law_draw:Addr} {fd_law_draw:FuncData} (D_law_draw:Def K mg "_law_draw" C8 ["_law_script", "_law_k", "_law_many"] f_law_draw fd_law_draw) (G_law_draw:FnOk P w K mg base CX0 2 f_law_draw fd_law_draw ["_law_script", "_law_k", "_law_many"] (spM K 3 .F (l6))) {f_law_numbers:Addr} {fd_law_numbers:FuncData} (D_law_numbers:Def K mg "_law_numbers" M6 ["_law_script", "_law_at", "_law_places", "_law_menu", "_law_scale_here"] f_law_numbers fd_law_numbers) (G_law_numbers:FnOk P w K mg base CX0 3 f_law_numbers fd_law_numbers ["_law_script", "_law_at", "_law_places", "_law_menu", "_law_scale_here"] (spM K 5 .F (n8))) {f_law_cell_at:Addr} {fd_law_cell_at:FuncData} (D_law_cell_at:Def K mg "_law_cell_at" u8 ["_law_script", "_law_k"] f_law_cell_at fd_law_cell_at) (G_law_cell_at:FnOk P w K mg base CX0 1 f_law_cell_at fd_law_cell_at ["_law_script", "_law_k"] (spM K 2 .F (j8))):FnOk P w K mg base CX0 4 f fd ["_law_script"] (spM K 1 .F (M3)):=by
 refine D.F.ok v5 (fun vs H Q E h=>h.1) (fun cdv A outer s H vs Q E hr h=>?_)
 exact ⟨tSt K (fun _ _=>False) .F ai,(@b8 _ _ _ _ _ _ _ _ (@J3 _ _ _ _ _ _ _ 1 _ _ v5.nd rfl (by trivial) (@kR _ _ _ _ _ _ _ _ (@j5 _ _ _ _ _ (@A4 _ _ _ _ _ _ (@b4 _ _ _ _ _ _ _ _ (@b7 _ _ _ _ _ _ _) (@b4 _ _ _ _ _ _ _ _ (@b7 _ _ _ _ _ _ _) (@b4 _ _ _ _ _ _ _ _ (@b7 _ _ _ _ _ _ _) (@b4 _ _ _ _ _ _ _ _ (@b7 _ _ _ _ _ _ _) (@b4 _ _ _ _ _ _ _ _ (@b7 _ _ _ _ _ _ _) (@b4 _ _ _ _ _ _ _ _ (@b7 _ _ _ _ _ _ _) (@b4 _ _ _ _ _ _ _ _ (@b7 _ _ _ _ _ _ _) (@b4 _ _ _ _ _ _ _ _ (@b7 _ _ _ _ _ _ _) (@b6 _ _ _ _) (by rfl)) (by rfl)) (by rfl)) (by rfl)) (by rfl)) (by rfl)) (by rfl)) (by rfl)))) (@j5 _ _ _ _ _ (@c9 _ _ _ _ _ _ _ _ _ _ _ _ _ _ _ _ G_law_draw (.inl rfl) (by exact hr.mono (by decide)) (by rfl) D_law_draw.m D_law_draw.F.kp D_law_draw.b (@b4 _ _ _ _ _ _ _ _ (@qv _ _ _ _ .B 0 _ (by rfl) (by trivial) (by decide) (by decide)) (@b4 _ _ _ _ _ _ _ _ (@b7 _ _ _ _ _ _ _) (@b4 _ _ _ _ _ _ _ _ (@b7 _ _ _ _ _ _ _) (@b6 _ _ _ _) (by rfl)) (by rfl)) (by rfl)) (by decide) (by rfl) (by rfl))) (by exact fun _ _=>rfl) (by rfl)) (by rfl) (by trivial)) (@b8 _ _ _ _ _ _ _ _ (@i0 _ _ _ _ _ _ _ 2 _ _ v5.nd rfl (by trivial) (@c9 _ _ _ _ _ _ _ _ _ _ _ _ _ _ _ _ G_law_scale (.inl rfl) (by exact hr.mono (by decide)) (by rfl) D_law_scale.m D_law_scale.F.kp D_law_scale.b (@b4 _ _ _ _ _ _ _ _ (@qv _ _ _ _ .B 0 _ (by rfl) (by trivial) (by decide) (by decide)) (@b6 _ _ _ _) (by rfl)) (by decide) (by rfl) (by rfl)) (by rfl) (by trivial)) (@b8 _ _ _ _ _ _ _ _ (@i0 _ _ _ _ _ _ _ 3 _ _ v5.nd rfl (by trivial) (@A4 _ _ _ _ _ _ (@b6 _ _ _ _)) (by rfl) (by trivial)) (@b8 _ _ _ _ _ _ _ _ (@w8 _ _ _ _ _ _ _ _ _ _ _ _ _ PassesOwn.never rfl (@J4 _ _ _ _ _ _ _ _ _ (by rfl) B.range_ (@b4 _ _ _ _ _ _ _ _ (@d7 _ _ _ _ _ (@c8 _ _ _ _ _ _ _ _ (@m7 _ _ _ _ _ (@j5 _ _ _ _ _ (@A4 _ _ _ _ _ _ (@b4 _ _ _ _ _ _ _ _ (@b7 _ _ _ _ _ _ _) (@b4 _ _ _ _ _ _ _ _ (@b7 _ _ _ _ _ _ _) (@b4 _ _ _ _ _ _ _ _ (@b7 _ _ _ _ _ _ _) (@b4 _ _ _ _ _ _ _ _ (@b7 _ _ _ _ _ _ _) (@b4 _ _ _ _ _ _ _ _ (@b7 _ _ _ _ _ _ _) (@b4 _ _ _ _ _ _ _ _ (@b7 _ _ _ _ _ _ _) (@b4 _ _ _ _ _ _ _ _ (@b7 _ _ _ _ _ _ _) (@b4 _ _ _ _ _ _ _ _ (@b7 _ _ _ _ _ _ _) (@b4 _ _ _ _ _ _ _ _ (@b7 _ _ _ _ _ _ _) (@b4 _ _ _ _ _ _ _ _ (@b7 _ _ _ _ _ _ _) (@b4 _ _ _ _ _ _ _ _ (@b7 _ _ _ _ _ _ _) (@b6 _ _ _ _) (by rfl)) (by rfl)) (by rfl)) (by rfl)) (by rfl)) (by rfl)) (by rfl)) (by rfl)) (by rfl)) (by rfl)) (by rfl))))) (@m7 _ _ _ _ _ (@j5 _ _ _ _ _ (@c9 _ _ _ _ _ _ _ _ _ _ _ _ _ _ _ _ G_law_draw (.inl rfl) (by exact hr.mono (by decide)) (by rfl) D_law_draw.m D_law_draw.F.kp D_law_draw.b (@b4 _ _ _ _ _ _ _ _ (@qv _ _ _ _ .B 0 _ (by rfl) (by trivial) (by decide) (by decide)) (@b4 _ _ _ _ _ _ _ _ (@b7 _ _ _ _ _ _ _) (@b4 _ _ _ _ _ _ _ _ (@b7 _ _ _ _ _ _ _) (@b6 _ _ _ _) (by rfl)) (by rfl)) (by rfl)) (by decide) (by rfl) (by rfl)))) (by exact fun _ _=>rfl) (by rfl))) (@b6 _ _ _ _) (by rfl)) (by rfl)) (@d5 _ _ 4 _ v5.nd rfl (by trivial) (by trivial)) (@j6 _ _) (@b8 _ _ _ _ _ _ _ _ (@J3 _ _ _ _ _ _ _ 5 _ _ v5.nd rfl (by trivial) (@i7 _ _ _ _ _ _ _ _ _ _ _ _ _ u4 (j1 (g:=n5) (fun _ _=>rfl) (fun _ _ _=>.int)) (@b7 _ _ _ _ _ _ _) (@i7 _ _ _ _ _ _ _ _ _ _ _ _ _ A5 (t8 (C:=CMul) (g:=t9) (fun _ _=>rfl) (fun _ _ _=>.int)) (@qv _ _ _ _ .B 1 _ (by rfl) (by trivial) (by decide) (by decide)) (@i7 _ _ _ _ _ _ _ _ _ _ _ _ _ u4 (j1 (g:=n5) (fun _ _=>rfl) (fun _ _ _=>.int)) (@i7 _ _ _ _ _ _ _ _ _ _ _ _ _ A5 (t8 (C:=CMul) (g:=t9) (fun _ _=>rfl) (fun _ _ _=>.int)) (@b7 _ _ _ _ _ _ _) (@qv _ _ _ _ .B 4 _ (by rfl) (by trivial) (by decide) (by decide))) (@b7 _ _ _ _ _ _ _)))) (by rfl) (by trivial)) (@b8 _ _ _ _ _ _ _ _ (@i0 _ _ _ _ _ _ _ 6 _ _ v5.nd rfl (by trivial) (@c9 _ _ _ _ _ _ _ _ _ _ _ _ _ _ _ _ G_law_numbers (.inl rfl) (by exact hr.mono (by decide)) (by rfl) D_law_numbers.m D_law_numbers.F.kp D_law_numbers.b (@b4 _ _ _ _ _ _ _ _ (@qv _ _ _ _ .B 0 _ (by rfl) (by trivial) (by decide) (by decide)) (@b4 _ _ _ _ _ _ _ _ (@qv _ _ _ _ .B 5 _ (by rfl) (by trivial) (by decide) (by decide)) (@b4 _ _ _ _ _ _ _ _ (@qv _ _ _ _ .B 1 _ (by rfl) (by trivial) (by decide) (by decide)) (@b4 _ _ _ _ _ _ _ _ (@m7 _ _ _ _ _ (@j5 _ _ _ _ _ (@A4 _ _ _ _ _ _ (@b4 _ _ _ _ _ _ _ _ (@b7 _ _ _ _ _ _ _) (@b4 _ _ _ _ _ _ _ _ (@b7 _ _ _ _ _ _ _) (@b4 _ _ _ _ _ _ _ _ (@b7 _ _ _ _ _ _ _) (@b4 _ _ _ _ _ _ _ _ (@b7 _ _ _ _ _ _ _) (@b4 _ _ _ _ _ _ _ _ (@b7 _ _ _ _ _ _ _) (@b4 _ _ _ _ _ _ _ _ (@b7 _ _ _ _ _ _ _) (@b6 _ _ _ _) (by rfl)) (by rfl)) (by rfl)) (by rfl)) (by rfl)) (by rfl))))) (@b4 _ _ _ _ _ _ _ _ (@qv _ _ _ _ .B 2 _ (by rfl) (by trivial) (by decide) (by decide)) (@b6 _ _ _ _) (by rfl)) (by rfl)) (by rfl)) (by rfl)) (by rfl)) (by decide) (by rfl) (by rfl)) (by rfl) (by trivial)) (@b8 _ _ _ _ _ _ _ _ (@i0 _ _ _ _ _ _ _ 7 _ _ v5.nd rfl (by trivial) (@c9 _ _ _ _ _ _ _ _ _ _ _ _ _ _ _ _ G_law_numbers (.inl rfl) (by exact hr.mono (by decide)) (by rfl) D_law_numbers.m D_law_numbers.F.kp D_law_numbers.b (@b4 _ _ _ _ _ _ _ _ (@qv _ _ _ _ .B 0 _ (by rfl) (by trivial) (by decide) (by decide)) (@b4 _ _ _ _ _ _ _ _ (@i7 _ _ _ _ _ _ _ _ _ _ _ _ _ u4 (j1 (g:=n5) (fun _ _=>rfl) (fun _ _ _=>.int)) (@qv _ _ _ _ .B 5 _ (by rfl) (by trivial) (by decide) (by decide)) (@qv _ _ _ _ .B 1 _ (by rfl) (by trivial) (by decide) (by decide))) (@b4 _ _ _ _ _ _ _ _ (@qv _ _ _ _ .B 1 _ (by rfl) (by trivial) (by decide) (by decide)) (@b4 _ _ _ _ _ _ _ _ (@m7 _ _ _ _ _ (@j5 _ _ _ _ _ (@A4 _ _ _ _ _ _ (@b4 _ _ _ _ _ _ _ _ (@b7 _ _ _ _ _ _ _) (@b4 _ _ _ _ _ _ _ _ (@b7 _ _ _ _ _ _ _) (@b4 _ _ _ _ _ _ _ _ (@b7 _ _ _ _ _ _ _) (@b4 _ _ _ _ _ _ _ _ (@b7 _ _ _ _ _ _ _) (@b4 _ _ _ _ _ _ _ _ (@b7 _ _ _ _ _ _ _) (@b4 _ _ _ _ _ _ _ _ (@b7 _ _ _ _ _ _ _) (@b6 _ _ _ _) (by rfl)) (by rfl)) (by rfl)) (by rfl)) (by rfl)) (by rfl))))) (@b4 _ _ _ _ _ _ _ _ (@qv _ _ _ _ .B 2 _ (by rfl) (by trivial) (by decide) (by decide)) (@b6 _ _ _ _) (by rfl)) (by rfl)) (by rfl)) (by rfl)) (by rfl)) (by decide) (by rfl) (by rfl)) (by rfl) (by trivial)) (@b9 _ _ _ _ _ _ (@dJ _ _ _ _ _ _ _ (@dJ _ _ _ _ _ _ _ (@Z2 _ _ _ _ _ _ _ 3 _ _ _ _ rfl (by trivial) (@J7 _ _ _ _ _ (@L0 _ _ _ _ _ _ _ (@b4 _ _ _ _ _ _ _ _ (@qv _ _ _ _ .V 6 _ (by rfl) (by trivial) (by decide) (by decide)) (@b4 _ _ _ _ _ _ _ _ (@qv _ _ _ _ .V 7 _ (by rfl) (by trivial) (by decide) (by decide)) (@b6 _ _ _ _) (by rfl)) (by rfl)))) (by decide) (by decide) (by rfl) (by rfl) (by rfl) (by rfl) (by rfl)))))))) (by intro _; rfl)) (@b8 _ _ _ _ _ _ _ _ (@i0 _ _ _ _ _ _ _ 8 _ _ v5.nd rfl (by trivial) (@L7 _ _ _ _ _ _ _ _ _ _ _ _ _ _ eG (eC (c:=true)) (by rfl) B.list_ R6 (@b4 _ _ _ _ _ _ _ _ (@j5 _ _ _ _ _ (@c9 _ _ _ _ _ _ _ _ _ _ _ _ _ _ _ _ G_law_numbers (.inl rfl) (by exact hr.mono (by decide)) (by rfl) D_law_numbers.m D_law_numbers.F.kp D_law_numbers.b (@b4 _ _ _ _ _ _ _ _ (@qv _ _ _ _ .B 0 _ (by rfl) (by trivial) (by decide) (by decide)) (@b4 _ _ _ _ _ _ _ _ (@b7 _ _ _ _ _ _ _) (@b4 _ _ _ _ _ _ _ _ (@qv _ _ _ _ .B 1 _ (by rfl) (by trivial) (by decide) (by decide)) (@b4 _ _ _ _ _ _ _ _ (@m7 _ _ _ _ _ (@j5 _ _ _ _ _ (@A4 _ _ _ _ _ _ (@b4 _ _ _ _ _ _ _ _ (@b7 _ _ _ _ _ _ _) (@b4 _ _ _ _ _ _ _ _ (@b7 _ _ _ _ _ _ _) (@b4 _ _ _ _ _ _ _ _ (@b7 _ _ _ _ _ _ _) (@b4 _ _ _ _ _ _ _ _ (@b7 _ _ _ _ _ _ _) (@b4 _ _ _ _ _ _ _ _ (@b7 _ _ _ _ _ _ _) (@b4 _ _ _ _ _ _ _ _ (@b7 _ _ _ _ _ _ _) (@b6 _ _ _ _) (by rfl)) (by rfl)) (by rfl)) (by rfl)) (by rfl)) (by rfl))))) (@b4 _ _ _ _ _ _ _ _ (@qv _ _ _ _ .B 2 _ (by rfl) (by trivial) (by decide) (by decide)) (@b6 _ _ _ _) (by rfl)) (by rfl)) (by rfl)) (by rfl)) (by rfl)) (by decide) (by rfl) (by rfl))) (@b6 _ _ _ _) (by rfl)) (by decide) (by decide) (by rfl) (by rfl)) (by rfl) (by trivial)) (@b8 _ _ _ _ _ _ _ _ (@k9 _ _ _ _ _ _ _ _ _ _ _ (@i3 _ _ _ _ _ _ _ _ _ _ _ _ Z3 T7 (@m7 _ _ _ _ _ (@j5 _ _ _ _ _ (@c9 _ _ _ _ _ _ _ _ _ _ _ _ _ _ _ _ G_law_draw (.inl rfl) (by exact hr.mono (by decide)) (by rfl) D_law_draw.m D_law_draw.F.kp D_law_draw.b (@b4 _ _ _ _ _ _ _ _ (@qv _ _ _ _ .B 0 _ (by rfl) (by trivial) (by decide) (by decide)) (@b4 _ _ _ _ _ _ _ _ (@b7 _ _ _ _ _ _ _) (@b4 _ _ _ _ _ _ _ _ (@b7 _ _ _ _ _ _ _) (@b6 _ _ _ _) (by rfl)) (by rfl)) (by rfl)) (by decide) (by rfl) (by rfl)))) (@b7 _ _ _ _ _ _ _) (by first | exact h9 _ | rfl)) (@b9 _ _ _ _ _ _ (@kN _ _ _ _ _ _ _ _ 8 _ _ _ _ rfl (by trivial) (@m7 _ _ _ _ _ (@j5 _ _ _ _ _ (@c9 _ _ _ _ _ _ _ _ _ _ _ _ _ _ _ _ G_law_draw (.inl rfl) (by exact hr.mono (by decide)) (by rfl) D_law_draw.m D_law_draw.F.kp D_law_draw.b (@b4 _ _ _ _ _ _ _ _ (@qv _ _ _ _ .B 0 _ (by rfl) (by trivial) (by decide) (by decide)) (@b4 _ _ _ _ _ _ _ _ (@b7 _ _ _ _ _ _ _) (@b4 _ _ _ _ _ _ _ _ (@qv _ _ _ _ .B 1 _ (by rfl) (by trivial) (by decide) (by decide)) (@b6 _ _ _ _) (by rfl)) (by rfl)) (by rfl)) (by decide) (by rfl) (by rfl)))) (@i7 _ _ _ _ _ _ _ _ _ _ _ _ _ P5 (t8 (C:=C1) (g:=E2) (fun _ _=>rfl) (fun _ _ _=>.int)) (@i7 _ _ _ _ _ _ _ _ _ _ _ _ _ A5 (t8 (C:=CMul) (g:=t9) (fun _ _=>rfl) (fun _ _ _=>.int)) (@m7 _ _ _ _ _ (@j5 _ _ _ _ _ (@c9 _ _ _ _ _ _ _ _ _ _ _ _ _ _ _ _ G_law_cell_at (.inl rfl) (by exact hr.mono (by decide)) (by rfl) D_law_cell_at.m D_law_cell_at.F.kp D_law_cell_at.b (@b4 _ _ _ _ _ _ _ _ (@qv _ _ _ _ .B 0 _ (by rfl) (by trivial) (by decide) (by decide)) (@b4 _ _ _ _ _ _ _ _ (@b7 _ _ _ _ _ _ _) (@b6 _ _ _ _) (by rfl)) (by rfl)) (by decide) (by rfl) (by rfl)))) (@b7 _ _ _ _ _ _ _)) (@i7 _ _ _ _ _ _ _ _ _ _ _ _ _ dN (t8 (C:=S2) (g:=bv) (fun _ _=>rfl) (fun _ _ _=>.int)) (@b7 _ _ _ _ _ _ _) (@b7 _ _ _ _ _ _ _))) (by decide) (by decide) (@ii _ _ _ _ _ _ _ (@pv _ 8 _ _ (by rfl) (by trivial) (by decide) (by decide)) (@m7 _ _ _ _ _ (@j5 _ _ _ _ _ (@c9 _ _ _ _ _ _ _ _ _ _ _ _ _ _ _ _ G_law_draw (.inl rfl) (by exact hr.mono (by decide)) (by rfl) D_law_draw.m D_law_draw.F.kp D_law_draw.b (@b4 _ _ _ _ _ _ _ _ (@qv _ _ _ _ .B 0 _ (by rfl) (by trivial) (by decide) (by decide)) (@b4 _ _ _ _ _ _ _ _ (@b7 _ _ _ _ _ _ _) (@b4 _ _ _ _ _ _ _ _ (@qv _ _ _ _ .B 1 _ (by rfl) (by trivial) (by decide) (by decide)) (@b6 _ _ _ _) (by rfl)) (by rfl)) (by rfl)) (by decide) (by rfl) (by rfl)))) set_list (by intro _; rfl)) (by rfl) (by rfl))) (@k7 _ _ _ _)) (@b9 _ _ _ _ _ _ (@i2 _ _ _ _ _ _ _ (@L0 _ _ _ _ _ _ _ (@b4 _ _ _ _ _ _ _ _ (@J7 _ _ _ _ _ (@L7 _ _ _ _ _ _ _ _ _ _ _ _ _ _ N1 (M9 (c:=true)) (by rfl) B.tuple_ u6 (@b4 _ _ _ _ _ _ _ _ (@qv _ _ _ _ .C 8 _ (by rfl) (by trivial) (by decide) (by decide)) (@b6 _ _ _ _) (by rfl)) (by decide) (by decide) (by rfl) (by rfl))) (@b4 _ _ _ _ _ _ _ _ (@J7 _ _ _ _ _ (@L7 _ _ _ _ _ _ _ _ _ _ _ _ _ _ N1 (M9 (c:=true)) (by rfl) B.tuple_ u6 (@b4 _ _ _ _ _ _ _ _ (@qv _ _ _ _ .C 3 _ (by rfl) (by trivial) (by decide) (by decide)) (@b6 _ _ _ _) (by rfl)) (by decide) (by decide) (by rfl) (by rfl))) (@b6 _ _ _ _) (by rfl)) (by rfl))))))))))),
  j3 (n:=1) (Nl:=["_law_script", "_law_places", "_law_scale_here", "_law_moves", "_law_k", "_law_at", "_law_take", "_law_put", "_law_begin"]) (.inl rfl) h⟩
theorem io {f:Addr} {fd:FuncData} (D:Def K mg "_law_whole" L9 ["_law_found"] f fd) (B:Blt mg):FnOk P w K mg base CX0 1 f fd ["_law_found"] (spM K 1 .F (v9)):=by
 refine D.F.ok gU (fun vs H Q E h=>h.1) (fun cdv A outer s H vs Q E hr h=>?_)
 exact ⟨tSt K (fun _ _=>False) .F X6,(b9 (i2 (sJ (@m8 _ _ _ _ _ _ _ _ _ _ _ _ _ _ N8 bC (by rfl) B.isinstance_ PyProof.Rows.boot_isinstance (b4 (qv .B 0) (b4 (@cX _ _ _ _ _ _ _ (by rfl) B.int_ Bh (by decide) (by decide)) b6)) (by decide) (by decide) (by rfl) (by rfl)) (sA (BI (@m8 _ _ _ _ _ _ _ _ _ _ _ _ _ _ N8 bC (by rfl) B.isinstance_ PyProof.Rows.boot_isinstance (b4 (qv .B 0) (b4 (@cX _ _ _ _ _ _ _ (by rfl) B.bool_ wA (by decide) (by decide)) b6)) (by decide) (by decide) (by rfl) (by rfl))))))),
  j3 (n:=1) (Nl:=["_law_found"]) (.inl rfl) h⟩
theorem dP {f:Addr} {fd:FuncData} (D:Def K mg "_law_is_block" B9 ["_law_block", "_law_count"] f fd) (B:Blt mg) {f_law_whole:Addr} {fd_law_whole:FuncData} (D_law_whole:Def K mg "_law_whole" L9 ["_law_found"] f_law_whole fd_law_whole) (G_law_whole:FnOk P w K mg base CX0 1 f_law_whole fd_law_whole ["_law_found"] (spM K 1 .F (v9))):FnOk P w K mg base CX0 2 f fd ["_law_block", "_law_count"] (spM K 2 .F (r6)):=by
 refine D.F.ok dG (fun vs H Q E h=>h.1) (fun cdv A outer s H vs Q E hr h=>?_)
 exact ⟨tSt K (fun _ _=>False) .F P8,(b8 (k9 (PW.pt (V2 (A3 (@C9 _ _ _ _ _ (@m8 _ _ _ _ _ _ _ _ _ _ _ _ _ _ N8 bC (by rfl) B.isinstance_ PyProof.Rows.boot_isinstance (b4 (qv .B 0) (b4 (@cX _ _ _ _ _ _ _ (by rfl) B.tuple_ u6 (by decide) (by decide)) b6)) (by decide) (by decide) (by rfl) (by rfl)) (by intro _; rfl))) (V2 (@i3 _ _ _ _ _ _ _ _ _ _ _ _ sN nI (@m8 _ _ _ _ _ _ _ _ _ _ _ _ _ _ t7 t6 (by rfl) B.len_ PySem.boot_len (b4 (qv .B 0) b6) (by decide) (by decide) (by rfl) (by rfl)) b7 (by first | exact h9 _ | rfl)) (V2 (A3 (@C9 _ _ _ _ _ (m7 (j5 (@c9 _ _ _ _ _ _ _ _ _ _ _ _ _ _ _ _ G_law_whole (.inl rfl) (by exact hr.mono (by decide)) (by rfl) D_law_whole.m D_law_whole.F.kp D_law_whole.b (b4 (d7 (c8 (qv .B 0) b7)) b6) (by decide) (by rfl) (by rfl)))) (by intro _; rfl))) (aD (@i3 _ _ _ _ _ _ _ _ _ _ _ _ dO (j1 (g:=gLt) (fun _ _=>rfl) (fun _ _ _=>.bl)) (d7 (c8 (qv .B 0) b7)) b7 (by first | exact h9 _ | rfl))))))) (b9 (i2 P3)) k7) (b8 (k9 (PW.pt (V2 (A3 (@C9 _ _ _ _ _ (@m8 _ _ _ _ _ _ _ _ _ _ _ _ _ _ N8 bC (by rfl) B.isinstance_ PyProof.Rows.boot_isinstance (b4 (d7 (c8 (qv .B 0) b7)) (b4 (@cX _ _ _ _ _ _ _ (by rfl) B.list_ R6 (by decide) (by decide)) b6)) (by decide) (by decide) (by rfl) (by rfl)) (by intro _; rfl))) (aD (@i3 _ _ _ _ _ _ _ _ _ _ _ _ P6 (j1 (g:=gGt) (fun _ _=>rfl) (fun _ _ _=>.bl)) (@m8 _ _ _ _ _ _ _ _ _ _ _ _ _ _ t7 t6 (by rfl) B.len_ PySem.boot_len (b4 (d7 (c8 (qv .B 0) b7)) b6) (by decide) (by decide) (by rfl) (by rfl)) b7 (by first | exact h9 _ | rfl))))) (b9 (i2 P3)) k7) (b9 (i2 (@m8 _ _ _ _ _ _ _ _ _ _ _ _ _ _ (oz rfl) (wD (g:=lE)) (by rfl) B.all_ Bi (b4 (m7 (j5 (@v7 _ _ _ _ _ _ _ _ _ _ _ _ _ _ _ _ (show i4 (c0 B9) _ ["_law_block", "_law_count"] ["_law_block", "_law_count", "_law_number"] from ⟨rfl,by decide +kernel,by decide +kernel,by decide +kernel,by decide +kernel,by decide,by decide +kernel,by decide +kernel⟩) rfl (@J5 _ _ _ _ _ _ (d7 (c8 (qv .B 0) b7)) (by rfl)) (fun _ _ _ _=>(@d5 _ _ 2 _ (by decide +kernel:(["_law_block", "_law_count", "_law_number"]:List Str).Nodup) rfl (Or.inl rfl) (.inr rfl))) j6 (u7 (show 2≤2 by decide)) (fun _ _ _ _=>u3) (fun _ _ _ _=>(sJ (m7 (j5 (@c9 _ _ _ _ _ _ _ _ _ _ _ _ _ _ _ _ G_law_whole (.inl rfl) (by exact hr.mono (by decide)) (by rfl) D_law_whole.m D_law_whole.F.kp D_law_whole.b (b4 (qv .B 2) b6) (by decide) (by rfl) (by rfl)))) (sA (@ur _ _ _ _ _ _ _ _ _ _ _ _ _ _ _ _ _ _ BV (j1 (g:=gLe) (fun _ _=>rfl) (fun _ _ _=>.bl)) dO (j1 (g:=gLt) (fun _ _=>rfl) (fun _ _ _=>.bl)) b7 (qv .B 2) (qv .B 1) (by with_unfolding_all rfl))))) (by intro _; rfl)))) b6) (by decide) (by decide) (by rfl) (by rfl)))))),
  j3 (n:=2) (Nl:=["_law_block", "_law_count"]) (.inl rfl) h⟩
theorem jg {f:Addr} {fd:FuncData} (D:Def K mg "_law_gone" C7 ["_law_stand", "_law_moves", "_law_row", "_law_times"] f fd) (B:Blt mg):FnOk P w K mg base CX0 1 f fd ["_law_stand", "_law_moves", "_law_row", "_law_times"] (spM K 4 .F (x4)):=by
 refine D.F.ok w9 (fun vs H Q E h=>h.1) (fun cdv A outer s H vs Q E hr h=>?_)
 exact ⟨tSt K (fun _ _=>False) .F ak,(b8 (k9 (@i3 _ _ _ _ _ _ _ _ _ _ _ _ Z3 T7 (qv .B 3) b7 (by first | exact h9 _ | rfl)) (b9 (@E6 _ _ _ _ _ 0 _ _ (.inl rfl) (by rfl) (by trivial) (by decide) (by decide))) k7) (b8 (@bW _ _ _ _ _ _ _ 4 _ _ _ _ _ _ _ _ _ _ _ _ _ (show i4 (c0 C7) _ ["_law_stand", "_law_moves", "_law_row", "_law_times", "_law_low", "_law_total", "_law_number", "_law_take", "_law_put", "_law_k"] ["_law_stand", "_law_moves", "_law_row", "_law_times", "_law_low", "_law_total", "_law_number", "_law_take", "_law_put", "_law_k", "_law_held"] from ⟨rfl,by decide +kernel,by decide +kernel,by decide +kernel,by decide +kernel,by decide,by decide +kernel,by decide +kernel⟩) rfl (@J5 _ _ _ _ _ _ (qv .B 0) (by rfl)) (fun _ _ _ _=>(@d5 _ _ 10 _ (by decide +kernel:(["_law_stand", "_law_moves", "_law_row", "_law_times", "_law_low", "_law_total", "_law_number", "_law_take", "_law_put", "_law_k", "_law_held"]:List Str).Nodup) rfl (Or.inl rfl) (.inr rfl))) j6 (u7 (show 10≤10 by decide)) (fun _ _ _ _=>u3) (fun _ _ _ _=>b7) w9.nd rfl (by trivial) (by rfl) (by trivial) (by intro _; rfl)) (b8 (@i0 _ _ _ _ _ _ _ 5 _ _ w9.nd rfl (by trivial) (@v7 _ _ _ _ _ _ _ _ _ _ _ _ _ _ _ _ (show i4 (c0 C7) _ ["_law_stand", "_law_moves", "_law_row", "_law_times", "_law_low", "_law_total", "_law_number", "_law_take", "_law_put", "_law_k"] ["_law_stand", "_law_moves", "_law_row", "_law_times", "_law_low", "_law_total", "_law_number", "_law_take", "_law_put", "_law_k", "_law_held"] from ⟨rfl,by decide +kernel,by decide +kernel,by decide +kernel,by decide +kernel,by decide,by decide +kernel,by decide +kernel⟩) rfl (@J5 _ _ _ _ _ _ (qv .B 0) (by rfl)) (fun _ _ _ _=>(@d5 _ _ 10 _ (by decide +kernel:(["_law_stand", "_law_moves", "_law_row", "_law_times", "_law_low", "_law_total", "_law_number", "_law_take", "_law_put", "_law_k", "_law_held"]:List Str).Nodup) rfl (Or.inl rfl) (.inr rfl))) j6 (u7 (show 10≤10 by decide)) (fun _ _ _ _=>u3) (fun _ _ _ _=>b7) (by intro _; rfl)) (by rfl) (by trivial)) (b8 (@w8 _ _ _ _ _ _ _ _ _ _ _ _ _ PassesOwn.never rfl (@P2 _ _ _ _ _ _ (qv .U 2) (by rfl)) (@d5 _ _ 6 _ w9.nd rfl (by trivial) (by trivial)) j6 (b8 (@BK _ _ _ _ _ _ _ _ _ _ _ (c8 (qv .B 1) (qv .B 6)) (@L3 _ K _ _ _ _ 2 rfl (@m9 _ _ _ _ _ (@d5 _ _ 7 _ w9.nd rfl (by trivial) (by trivial)) (@m9 _ _ _ _ _ (@d5 _ _ 8 _ w9.nd rfl (by trivial) (by trivial)) L1 (by rfl)) (by rfl)) (by rfl) (by rfl) (by rfl)) (Q2 (.inr rfl) (n4 (.inr rfl) j6 (n4 (.inr rfl) j6 L5))) (by rfl) (by rfl) (by rfl)) (b9 (@w8 _ _ _ _ _ _ _ _ _ _ _ _ _ PassesOwn.never rfl (@J4 _ _ _ _ _ _ _ _ _ (by rfl) B.range_ (b4 (@m8 _ _ _ _ _ _ _ _ _ _ _ _ _ _ t7 t6 (by rfl) B.len_ PySem.boot_len (b4 (qv .B 0) b6) (by decide) (by decide) (by rfl) (by rfl)) b6) (by rfl)) (@d5 _ _ 9 _ w9.nd rfl (by trivial) (by trivial)) j6 (b8 (@kN _ _ _ _ _ _ _ _ 4 _ _ _ _ rfl (by trivial) (qv .B 9) (@m8 _ _ _ _ _ _ _ _ _ _ _ _ _ _ (U0 rfl) (b_2 (g:=U6)) (by rfl) B.max_ Y3 (b4 (d7 (c8 (qv .B 4) (qv .B 9))) (b4 (i7 P4 (j1 (g:=gSub) (fun _ _=>rfl) (fun _ _ _=>.int)) (d7 (c8 (qv .B 7) (qv .B 9))) (d7 (c8 (qv .B 5) (qv .B 9)))) b6)) (by decide) (by decide) (by rfl) (by rfl)) (by decide) (by decide) (@ii _ _ _ _ _ _ _ (@pv _ 4 _ _ (by rfl) (by trivial) (by decide) (by decide)) (qv .B 9) set_list (by intro _; rfl)) (by rfl) (by rfl)) (b9 (@kN _ _ _ _ _ _ _ _ 5 _ _ _ _ rfl (by trivial) (qv .B 9) (i7 P4 (j1 (g:=gSub) (fun _ _=>rfl) (fun _ _ _=>.int)) (i7 u4 (j1 (g:=n5) (fun _ _=>rfl) (fun _ _ _=>.int)) (d7 (c8 (qv .B 5) (qv .B 9))) (d7 (c8 (qv .B 8) (qv .B 9)))) (d7 (c8 (qv .B 7) (qv .B 9)))) (by decide) (by decide) (@ii _ _ _ _ _ _ _ (@pv _ 5 _ _ (by rfl) (by trivial) (by decide) (by decide)) (qv .B 9) set_list (by intro _; rfl)) (by rfl) (by rfl)))) (by intro _; rfl)))) (by intro _; rfl)) (b8 (@w8 _ _ _ _ _ _ _ _ _ _ _ _ _ PassesOwn.never rfl (@J4 _ _ _ _ _ _ _ _ _ (by rfl) B.range_ (b4 (@m8 _ _ _ _ _ _ _ _ _ _ _ _ _ _ t7 t6 (by rfl) B.len_ PySem.boot_len (b4 (qv .B 0) b6) (by decide) (by decide) (by rfl) (by rfl)) b6) (by rfl)) (@d5 _ _ 9 _ w9.nd rfl (by trivial) (by trivial)) j6 (b9 (k9 (@i3 _ _ _ _ _ _ _ _ _ _ _ _ dO (j1 (g:=gLt) (fun _ _=>rfl) (fun _ _ _=>.bl)) (d7 (c8 (qv .B 0) (qv .B 9))) (i7 u4 (j1 (g:=n5) (fun _ _=>rfl) (fun _ _ _=>.int)) (d7 (c8 (qv .B 4) (qv .B 9))) (i7 A5 (t8 (C:=CMul) (g:=t9) (fun _ _=>rfl) (fun _ _ _=>.int)) (i7 P4 (j1 (g:=gSub) (fun _ _=>rfl) (fun _ _ _=>.int)) (qv .B 3) b7) (@m8 _ _ _ _ _ _ _ _ _ _ _ _ _ _ (U0 rfl) (b_2 (g:=U6)) (by rfl) B.max_ Y3 (b4 (i7 P4 (j1 (g:=gSub) (fun _ _=>rfl) (fun _ _ _=>.int)) b7 (d7 (c8 (qv .B 5) (qv .B 9)))) (b4 b7 b6)) (by decide) (by decide) (by rfl) (by rfl)))) (by first | exact h9 _ | rfl)) (b9 (i2 q5)) k7)) (by intro _; rfl)) (b9 (i2 (@v7 _ _ _ _ _ _ _ _ _ _ _ _ _ _ _ _ (show i4 (c0 C7) _ ["_law_stand", "_law_moves", "_law_row", "_law_times", "_law_low", "_law_total", "_law_number", "_law_take", "_law_put", "_law_k"] ["_law_stand", "_law_moves", "_law_row", "_law_times", "_law_low", "_law_total", "_law_number", "_law_take", "_law_put", "#_law_k", "_law_k"] from ⟨rfl,by decide +kernel,by decide +kernel,by decide +kernel,by decide +kernel,by decide,by decide +kernel,by decide +kernel⟩) rfl (@J4 _ _ _ _ _ _ _ _ _ (by rfl) B.range_ (b4 (@m8 _ _ _ _ _ _ _ _ _ _ _ _ _ _ t7 t6 (by rfl) B.len_ PySem.boot_len (b4 (qv .B 0) b6) (by decide) (by decide) (by rfl) (by rfl)) b6) (by rfl)) (fun _ _ _ _=>(@d5 _ _ 10 _ (by decide +kernel:(["_law_stand", "_law_moves", "_law_row", "_law_times", "_law_low", "_law_total", "_law_number", "_law_take", "_law_put", "#_law_k", "_law_k"]:List Str).Nodup) rfl (Or.inl rfl) (.inr rfl))) j6 (u7 (show 10≤10 by decide)) (fun _ _ _ _=>u3) (fun _ _ _ _=>(i7 u4 (j1 (g:=n5) (fun _ _=>rfl) (fun _ _ _=>.int)) (d7 (c8 (qv .B 0) (qv .B 10))) (i7 A5 (t8 (C:=CMul) (g:=t9) (fun _ _=>rfl) (fun _ _ _=>.int)) (qv .B 3) (d7 (c8 (qv .B 5) (qv .B 10)))))) (by intro _; rfl))))))))),
  j3 (n:=4) (Nl:=["_law_stand", "_law_moves", "_law_row", "_law_times", "_law_low", "_law_total", "_law_number", "_law_take", "_law_put", "_law_k"]) (.inl rfl) h⟩
theorem eV {f:Addr} {fd:FuncData} (D:Def K mg "_law_climbed" M7 ["_law_begin", "_law_moves", "_law_blocks"] f fd) (B:Blt mg) {f_law_gone:Addr} {fd_law_gone:FuncData} (D_law_gone:Def K mg "_law_gone" C7 ["_law_stand", "_law_moves", "_law_row", "_law_times"] f_law_gone fd_law_gone) (G_law_gone:FnOk P w K mg base CX0 1 f_law_gone fd_law_gone ["_law_stand", "_law_moves", "_law_row", "_law_times"] (spM K 4 .F (x4))) {f_law_is_block:Addr} {fd_law_is_block:FuncData} (D_law_is_block:Def K mg "_law_is_block" B9 ["_law_block", "_law_count"] f_law_is_block fd_law_is_block) (G_law_is_block:FnOk P w K mg base CX0 2 f_law_is_block fd_law_is_block ["_law_block", "_law_count"] (spM K 2 .F (r6))):FnOk P w K mg base CX0 3 f fd ["_law_begin", "_law_moves", "_law_blocks"] (spM K 3 .F (o5)):=by
 refine D.F.ok K8 (fun vs H Q E h=>h.1) (fun cdv A outer s H vs Q E hr h=>?_)
 exact ⟨tSt K (fun _ _=>False) .F R4,(b8 (k9 (PW.pt (V2 (A3 (@C9 _ _ _ _ _ (@m8 _ _ _ _ _ _ _ _ _ _ _ _ _ _ N8 bC (by rfl) B.isinstance_ PyProof.Rows.boot_isinstance (b4 (qv .B 2) (b4 (@cX _ _ _ _ _ _ _ (by rfl) B.list_ R6 (by decide) (by decide)) b6)) (by decide) (by decide) (by rfl) (by rfl)) (by intro _; rfl))) (aD (@i3 _ _ _ _ _ _ _ _ _ _ _ _ P6 (j1 (g:=gGt) (fun _ _=>rfl) (fun _ _ _=>.bl)) (@m8 _ _ _ _ _ _ _ _ _ _ _ _ _ _ t7 t6 (by rfl) B.len_ PySem.boot_len (b4 (qv .B 2) b6) (by decide) (by decide) (by rfl) (by rfl)) b7 (by first | exact h9 _ | rfl))))) (b9 (i2 q5)) k7) (b8 (@i0 _ _ _ _ _ _ _ 3 _ _ K8.nd rfl (by trivial) (@L7 _ _ _ _ _ _ _ _ _ _ _ _ _ _ eG (eC (c:=false)) (by rfl) B.list_ R6 (b4 (qv .B 0) b6) (by decide) (by decide) (by rfl) (by rfl)) (by rfl) (by trivial)) (b8 (@w8 _ _ _ _ _ _ _ _ _ _ _ _ _ PassesOwn.never rfl (@P2 _ _ _ _ _ _ (qv .U 2) (by rfl)) (@d5 _ _ 4 _ K8.nd rfl (by trivial) (by trivial)) j6 (b8 (k9 (A3 (@C9 _ _ _ _ _ (m7 (j5 (@c9 _ _ _ _ _ _ _ _ _ _ _ _ _ _ _ _ G_law_is_block (.inl rfl) (by exact hr.mono (by decide)) (by rfl) D_law_is_block.m D_law_is_block.F.kp D_law_is_block.b (b4 (qv .B 4) (b4 (@m8 _ _ _ _ _ _ _ _ _ _ _ _ _ _ t7 t6 (by rfl) B.len_ PySem.boot_len (b4 (qv .B 1) b6) (by decide) (by decide) (by rfl) (by rfl)) b6)) (by decide) (by rfl) (by rfl)))) (by intro _; rfl))) (b9 (i2 q5)) k7) (b8 (@i0 _ _ _ _ _ _ _ 3 _ _ K8.nd rfl (by trivial) (@c9 _ _ _ _ _ _ _ _ _ _ _ _ _ _ _ _ G_law_gone (.inl rfl) (by exact hr.mono (by decide)) (by rfl) D_law_gone.m D_law_gone.F.kp D_law_gone.b (b4 (qv .B 3) (b4 (qv .B 1) (b4 (d7 (c8 (qv .B 4) b7)) (b4 (d7 (c8 (qv .B 4) b7)) b6)))) (by decide) (by rfl) (by rfl)) (by rfl) (by trivial)) (b9 (k9 (@i3 _ _ _ _ _ _ _ _ _ _ _ _ M1 M2 (qv .B 3) q5 (by first | exact h9 _ | rfl)) (b9 (i2 q5)) k7)))) (by intro _; rfl)) (b9 (@E6 _ _ _ _ _ 3 _ _ (.inl rfl) (by rfl) (by trivial) (by decide) (by decide)))))),
  j3 (n:=3) (Nl:=["_law_begin", "_law_moves", "_law_blocks", "_law_stand", "_law_block"]) (.inl rfl) h⟩
theorem gd {f:Addr} {fd:FuncData} (D:Def K mg "_law_behind" P0 ["_law_stand", "_law_move"] f fd) (B:Blt mg):FnOk P w K mg base CX0 1 f fd ["_law_stand", "_law_move"] (spM K 2 .F (A1)):=by
 refine D.F.ok U2 (fun vs H Q E h=>h.1) (fun cdv A outer s H vs Q E hr h=>?_)
 exact ⟨tSt K (fun _ _=>False) .F U4,(b8 (@i0 _ _ _ _ _ _ _ 2 _ _ U2.nd rfl (by trivial) (A4 b6) (by rfl) (by trivial)) (b8 (@w8 _ _ _ _ _ _ _ _ _ _ _ _ _ PassesOwn.never rfl (@J4 _ _ _ _ _ _ _ _ _ (by rfl) B.range_ (b4 (@m8 _ _ _ _ _ _ _ _ _ _ _ _ _ _ t7 t6 (by rfl) B.len_ PySem.boot_len (b4 (qv .B 0) b6) (by decide) (by decide) (by rfl) (by rfl)) b6) (by rfl)) (@d5 _ _ 3 _ U2.nd rfl (by trivial) (by trivial)) j6 (b8 (k9 (@i3 _ _ _ _ _ _ _ _ _ _ _ _ dO (j1 (g:=gLt) (fun _ _=>rfl) (fun _ _ _=>.bl)) (d7 (c8 (qv .B 0) (qv .B 3))) (d7 (c8 (d7 (c8 (qv .B 1) b7)) (qv .B 3))) (by first | exact h9 _ | rfl)) (b9 (i2 q5)) k7) (b9 (@Z2 _ _ _ _ _ _ _ 2 _ _ _ _ rfl (by trivial) (i7 u4 (j1 (g:=n5) (fun _ _=>rfl) (fun _ _ _=>.int)) (i7 P4 (j1 (g:=gSub) (fun _ _=>rfl) (fun _ _ _=>.int)) (d7 (c8 (qv .B 0) (qv .B 3))) (d7 (c8 (d7 (c8 (qv .B 1) b7)) (qv .B 3)))) (d7 (c8 (d7 (c8 (qv .B 1) b7)) (qv .B 3)))) (by decide) (by decide) (by rfl) (by rfl) (by rfl) (by rfl) (by rfl)))) (by intro _; rfl)) (b9 (@E6 _ _ _ _ _ 2 _ _ (.inl rfl) (by rfl) (by trivial) (by decide) (by decide))))),
  j3 (n:=2) (Nl:=["_law_stand", "_law_move", "_law_found", "_law_k"]) (.inl rfl) h⟩
theorem dQ {f:Addr} {fd:FuncData} (D:Def K mg "_law_greatest" v4 ["_law_begin", "_law_moves", "_law_cells"] f fd) (B:Blt mg) {f_law_behind:Addr} {fd_law_behind:FuncData} (D_law_behind:Def K mg "_law_behind" P0 ["_law_stand", "_law_move"] f_law_behind fd_law_behind) (G_law_behind:FnOk P w K mg base CX0 1 f_law_behind fd_law_behind ["_law_stand", "_law_move"] (spM K 2 .F (A1))):FnOk P w K mg base CX0 2 f fd ["_law_begin", "_law_moves", "_law_cells"] (spM K 3 .F (A9)):=by
 refine D.F.ok o9 (fun vs H Q E h=>h.1) (fun cdv A outer s H vs Q E hr h=>?_)
 exact ⟨tSt K (fun _ _=>False) .F P9,(b8 (@i0 _ _ _ _ _ _ _ 3 _ _ o9.nd rfl (by trivial) (@L7 _ _ _ _ _ _ _ _ _ _ _ _ _ _ eG (eC (c:=false)) (by rfl) B.list_ R6 (b4 (qv .B 0) b6) (by decide) (by decide) (by rfl) (by rfl)) (by rfl) (by trivial)) (b8 (@i0 _ _ _ _ _ _ _ 4 _ _ o9.nd rfl (by trivial) (@L7 _ _ _ _ _ _ _ _ _ _ _ _ _ _ eG (eC (c:=false)) (by rfl) B.list_ R6 (b4 (qv .B 0) b6) (by decide) (by decide) (by rfl) (by rfl)) (by rfl) (by trivial)) (b8 (@w8 _ _ _ _ _ _ _ _ _ _ _ _ _ PassesOwn.never rfl (@P2 _ _ _ _ _ _ (qv .U 2) (by rfl)) (@d5 _ _ 5 _ o9.nd rfl (by trivial) (by trivial)) j6 (b8 (@bW _ _ _ _ _ _ _ 6 _ _ _ _ _ _ _ _ _ _ _ _ _ (show i4 (c0 v4) _ ["_law_begin", "_law_moves", "_law_cells", "_law_stand", "_law_found", "_law_cell", "_law_steps"] ["_law_begin", "_law_moves", "_law_cells", "_law_stand", "_law_found", "_law_cell", "_law_steps", "_law_move"] from ⟨rfl,by decide +kernel,by decide +kernel,by decide +kernel,by decide +kernel,by decide,by decide +kernel,by decide +kernel⟩) rfl (@J5 _ _ _ _ _ _ (qv .B 1) (by rfl)) (fun _ _ _ _=>(@d5 _ _ 7 _ (by decide +kernel:(["_law_begin", "_law_moves", "_law_cells", "_law_stand", "_law_found", "_law_cell", "_law_steps", "_law_move"]:List Str).Nodup) rfl (Or.inl rfl) (.inr rfl))) j6 (u7 (show 7≤7 by decide)) (fun _ _ _ _=>u3) (fun _ _ _ _=>(J7 (@c9 _ _ _ _ _ _ _ _ _ _ _ _ _ _ _ _ G_law_behind (.inl rfl) (by exact hr.mono (by decide)) (by rfl) D_law_behind.m D_law_behind.F.kp D_law_behind.b (b4 (qv .B 3) (b4 (qv .B 7) b6)) (by decide) (by rfl) (by rfl)))) o9.nd rfl (by trivial) (by rfl) (by trivial) (by intro _; rfl)) (b8 (@bW _ _ _ _ _ _ _ 6 _ _ _ _ _ _ _ _ _ _ _ _ _ (show i4 (c0 v4) _ ["_law_begin", "_law_moves", "_law_cells", "_law_stand", "_law_found", "_law_cell", "_law_steps"] ["_law_begin", "_law_moves", "_law_cells", "_law_stand", "_law_found", "_law_cell", "_law_steps", "_law_step"] from ⟨rfl,by decide +kernel,by decide +kernel,by decide +kernel,by decide +kernel,by decide,by decide +kernel,by decide +kernel⟩) rfl (@yq _ _ _ _ _ _ false (qv .C 6) (by rfl)) (fun _ _ _ _=>(@d5 _ _ 7 _ (by decide +kernel:(["_law_begin", "_law_moves", "_law_cells", "_law_stand", "_law_found", "_law_cell", "_law_steps", "_law_step"]:List Str).Nodup) rfl (Or.inl rfl) (.inr rfl))) gt_V (u7 (show 7≤7 by decide)) (fun _ _ _ _=>(ia (@i3 _ _ _ _ _ _ _ _ _ _ _ _ eR eX (qv .B 7) q5 (by first | exact h9 _ | rfl)))) (fun _ _ _ _=>(qv .V 7)) o9.nd rfl (by trivial) (by rfl) (by trivial) (by intro _; rfl)) (b9 (k9 (@i3 _ _ _ _ _ _ _ _ _ _ _ _ P6 (j1 (g:=gGt) (fun _ _=>rfl) (fun _ _ _=>.bl)) (@m8 _ _ _ _ _ _ _ _ _ _ _ _ _ _ t7 t6 (by rfl) B.len_ PySem.boot_len (b4 (qv .B 6) b6) (by decide) (by decide) (by rfl) (by rfl)) b7 (by first | exact h9 _ | rfl)) (b8 (@J3 _ _ _ _ _ _ _ 3 _ _ o9.nd rfl (by trivial) (kR (qv .C 6) (i7 P5 (t8 (C:=C1) (g:=E2) (fun _ _=>rfl) (fun _ _ _=>.int)) (i7 jJ (t8 (C:=ar) (g:=ci) (fun _ _=>rfl) (fun _ _ _=>.int)) (i7 P5 (t8 (C:=C1) (g:=E2) (fun _ _=>rfl) (fun _ _ _=>.int)) (i7 A5 (t8 (C:=CMul) (g:=t9) (fun _ _=>rfl) (fun _ _ _=>.int)) (qv .B 5) b7) b7) b7) (@m8 _ _ _ _ _ _ _ _ _ _ _ _ _ _ t7 t6 (by rfl) B.len_ PySem.boot_len (b4 (qv .B 6) b6) (by decide) (by decide) (by rfl) (by rfl)))) (by rfl) (by trivial)) (b9 (@i0 _ _ _ _ _ _ _ 4 _ _ o9.nd rfl (by trivial) (@v7 _ _ _ _ _ _ _ _ _ _ _ _ _ _ _ _ (show i4 (c0 v4) _ ["_law_begin", "_law_moves", "_law_cells", "_law_stand", "_law_found", "_law_cell", "_law_steps"] ["_law_begin", "_law_moves", "_law_cells", "_law_stand", "_law_found", "_law_cell", "_law_steps", "_law_k"] from ⟨rfl,by decide +kernel,by decide +kernel,by decide +kernel,by decide +kernel,by decide,by decide +kernel,by decide +kernel⟩) rfl (@J4 _ _ _ _ _ _ _ _ _ (by rfl) B.range_ (b4 (@m8 _ _ _ _ _ _ _ _ _ _ _ _ _ _ t7 t6 (by rfl) B.len_ PySem.boot_len (b4 (qv .B 3) b6) (by decide) (by decide) (by rfl) (by rfl)) b6) (by rfl)) (fun _ _ _ _=>(@d5 _ _ 7 _ (by decide +kernel:(["_law_begin", "_law_moves", "_law_cells", "_law_stand", "_law_found", "_law_cell", "_law_steps", "_law_k"]:List Str).Nodup) rfl (Or.inl rfl) (.inr rfl))) j6 (u7 (show 7≤7 by decide)) (fun _ _ _ _=>u3) (fun _ _ _ _=>(@m8 _ _ _ _ _ _ _ _ _ _ _ _ _ _ (U0 rfl) (b_2 (g:=U6)) (by rfl) B.max_ Y3 (b4 (d7 (c8 (qv .B 4) (qv .B 7))) (b4 (d7 (c8 (qv .B 3) (qv .B 7))) b6)) (by decide) (by decide) (by rfl) (by rfl))) (by intro _; rfl)) (by rfl) (by trivial)))) k7)))) (by intro _; rfl)) (b9 (@E6 _ _ _ _ _ 4 _ _ (.inl rfl) (by rfl) (by trivial) (by decide) (by decide)))))),
  j3 (n:=3) (Nl:=["_law_begin", "_law_moves", "_law_cells", "_law_stand", "_law_found", "_law_cell", "_law_steps"]) (.inl rfl) h⟩
theorem iq {f:Addr} {fd:FuncData} (D:Def K mg "_law_place" M0 ["_law_land", "_law_tree", "_law_place_here", "_law_height", "_law_seen"] f fd) (B:Blt mg) {fpeak:Addr} {fdpeak:FuncData} (Dpeak:Def K mg "peak" dC ["moor", "place", "most"] fpeak fdpeak) (Gpeak:FnOk P w K mg base CX0 7 fpeak fdpeak ["moor", "place", "most"] (spM K 3 .F (aJ))) {f_law_climbed:Addr} {fd_law_climbed:FuncData} (D_law_climbed:Def K mg "_law_climbed" M7 ["_law_begin", "_law_moves", "_law_blocks"] f_law_climbed fd_law_climbed) (G_law_climbed:FnOk P w K mg base CX0 3 f_law_climbed fd_law_climbed ["_law_begin", "_law_moves", "_law_blocks"] (spM K 3 .F (o5))) {fclimb:Addr} {fdclimb:FuncData} (Dclimb:Def K mg "climb" bP ["moor", "tree", "number", "height"] fclimb fdclimb) (Gclimb:FnOk P w K mg base CX0 6 fclimb fdclimb ["moor", "tree", "number", "height"] (spM K 4 .F (R5))) {f_law_whole:Addr} {fd_law_whole:FuncData} (D_law_whole:Def K mg "_law_whole" L9 ["_law_found"] f_law_whole fd_law_whole) (G_law_whole:FnOk P w K mg base CX0 1 f_law_whole fd_law_whole ["_law_found"] (spM K 1 .F (v9))):FnOk P w K mg base CX0 8 f fd ["_law_land", "_law_tree", "_law_place_here", "_law_height", "_law_seen"] (spM K 5 .F (x9)):=by
 refine D.F.ok B8 (fun vs H Q E h=>h.1) (fun cdv A outer s H vs Q E hr h=>?_)
 exact ⟨tSt K (fun _ _=>False) .F X8,(b8 (@i0 _ _ _ _ _ _ _ 5 _ _ B8.nd rfl (by trivial) (@c9 _ _ _ _ _ _ _ _ _ _ _ _ _ _ _ _ Gpeak (.inl rfl) (by exact hr.mono (by decide)) (by rfl) Dpeak.m Dpeak.F.kp Dpeak.b (b4 (qv .B 0) (b4 (qv .B 2) (b4 b7 b6))) (by decide) (by rfl) (by rfl)) (by rfl) (by trivial)) (b8 (k9 (PW.pt (V2 (A3 (@C9 _ _ _ _ _ (@m8 _ _ _ _ _ _ _ _ _ _ _ _ _ _ N8 bC (by rfl) B.isinstance_ PyProof.Rows.boot_isinstance (b4 (qv .B 5) (b4 (@cX _ _ _ _ _ _ _ (by rfl) B.tuple_ u6 (by decide) (by decide)) b6)) (by decide) (by decide) (by rfl) (by rfl)) (by intro _; rfl))) (aD (A3 (@C9 _ _ _ _ _ (@m8 _ _ _ _ _ _ _ _ _ _ _ _ _ _ N8 bC (by rfl) B.isinstance_ PyProof.Rows.boot_isinstance (b4 (d7 (c8 (qv .B 5) b7)) (b4 (@cX _ _ _ _ _ _ _ (by rfl) B.str_ Bg (by decide) (by decide)) b6)) (by decide) (by decide) (by rfl) (by rfl)) (by intro _; rfl)))))) (b9 (i2 P3)) k7) (b8 (@J3 _ _ _ _ _ _ _ 6 _ _ B8.nd rfl (by trivial) q5 (by rfl) (by trivial)) (b8 (k9 (@i3 _ _ _ _ _ _ _ _ _ _ _ _ Z3 T7 (d7 (c8 (qv .B 5) b7)) dH (by first | exact h9 _ | rfl)) (b8 (@J3 _ _ _ _ _ _ _ 6 _ _ B8.nd rfl (by trivial) (kR (qv .C 5) b7) (by rfl) (by trivial)) (b9 (k9 (PW.pt (V2 (@i3 _ _ _ _ _ _ _ _ _ _ _ _ sN nI (@m8 _ _ _ _ _ _ _ _ _ _ _ _ _ _ t7 t6 (by rfl) B.len_ PySem.boot_len (b4 (qv .B 5) b6) (by decide) (by decide) (by rfl) (by rfl)) b7 (by first | exact h9 _ | rfl)) (V2 (A3 (@C9 _ _ _ _ _ (m7 (j5 (@c9 _ _ _ _ _ _ _ _ _ _ _ _ _ _ _ _ G_law_whole (.inl rfl) (by exact hr.mono (by decide)) (by rfl) D_law_whole.m D_law_whole.F.kp D_law_whole.b (b4 (qv .B 6) b6) (by decide) (by rfl) (by rfl)))) (by intro _; rfl))) (aD (@i3 _ _ _ _ _ _ _ _ _ _ _ _ P6 (j1 (g:=gGt) (fun _ _=>rfl) (fun _ _ _=>.bl)) (qv .B 4) (qv .B 6) (by first | exact h9 _ | rfl)))))) (b9 (i2 P3)) k7))) (b9 (k9 (@i3 _ _ _ _ _ _ _ _ _ _ _ _ (nC (du hr)) (bY (neg:=true)) (qv .B 5) (d7 (yl (b4 dH b6))) (by first | exact h9 _ | rfl)) (b9 (i2 P3)) k7))) (b8 (@bW _ _ _ _ _ _ _ 7 _ _ _ _ _ _ _ _ _ _ _ _ _ (show i4 (c0 M0) _ ["_law_land", "_law_tree", "_law_place_here", "_law_height", "_law_seen", "_law_found", "_law_held", "_law_numbers_here", "_law_stand"] ["_law_land", "_law_tree", "_law_place_here", "_law_height", "_law_seen", "_law_found", "_law_held", "_law_numbers_here", "_law_stand", "_law_k"] from ⟨rfl,by decide +kernel,by decide +kernel,by decide +kernel,by decide +kernel,by decide,by decide +kernel,by decide +kernel⟩) rfl (@J4 _ _ _ _ _ _ _ _ _ (by rfl) B.range_ (b4 (@m8 _ _ _ _ _ _ _ _ _ _ _ _ _ _ t7 t6 (by rfl) B.len_ PySem.boot_len (b4 (qv .B 1) b6) (by decide) (by decide) (by rfl) (by rfl)) b6) (by rfl)) (fun _ _ _ _=>(@d5 _ _ 9 _ (by decide +kernel:(["_law_land", "_law_tree", "_law_place_here", "_law_height", "_law_seen", "_law_found", "_law_held", "_law_numbers_here", "_law_stand", "_law_k"]:List Str).Nodup) rfl (Or.inl rfl) (.inr rfl))) j6 (u7 (show 9≤9 by decide)) (fun _ _ _ _=>(ia (@i3 _ _ _ _ _ _ _ _ _ _ _ _ (il (du hr)) (bY (neg:=false)) (d7 (c8 (d7 (c8 (d7 (c8 (qv .B 1) (qv .B 9))) b7)) (qv .B 2))) (qv .B 6) (by first | exact h9 _ | rfl)))) (fun _ _ _ _=>(qv .V 9)) B8.nd rfl (by trivial) (by rfl) (by trivial) (by intro _; rfl)) (b8 (k9 (@i3 _ _ _ _ _ _ _ _ _ _ _ _ Z3 T7 (@m8 _ _ _ _ _ _ _ _ _ _ _ _ _ _ t7 t6 (by rfl) B.len_ PySem.boot_len (b4 (qv .B 7) b6) (by decide) (by decide) (by rfl) (by rfl)) b7 (by first | exact h9 _ | rfl)) (b9 (i2 P3)) k7) (b8 (@i0 _ _ _ _ _ _ _ 8 _ _ B8.nd rfl (by trivial) (@c9 _ _ _ _ _ _ _ _ _ _ _ _ _ _ _ _ G_law_climbed (.inl rfl) (by exact hr.mono (by decide)) (by rfl) D_law_climbed.m D_law_climbed.F.kp D_law_climbed.b (b4 (d7 (c8 (qv .B 0) b7)) (b4 (d7 (c8 (qv .B 0) b7)) (b4 (m7 (j5 (@c9 _ _ _ _ _ _ _ _ _ _ _ _ _ _ _ _ Gclimb (.inl rfl) (by exact hr.mono (by decide)) (by rfl) Dclimb.m Dclimb.F.kp Dclimb.b (b4 (qv .B 0) (b4 (qv .B 1) (b4 (d7 (c8 (qv .B 7) b7)) (b4 (qv .B 3) b6)))) (by decide) (by rfl) (by rfl)))) b6))) (by decide) (by rfl) (by rfl)) (by rfl) (by trivial)) (b8 (k9 (@i3 _ _ _ _ _ _ _ _ _ _ _ _ M1 M2 (qv .B 8) q5 (by first | exact h9 _ | rfl)) (b9 (i2 P3)) k7) (b8 (k9 (@i3 _ _ _ _ _ _ _ _ _ _ _ _ M1 M2 (qv .B 6) q5 (by first | exact h9 _ | rfl)) (b9 (i2 (@sI _ _ _ _ _ _ _ _ _ _ _ _ _ BX (j1 (g:=gGe) (fun _ _=>rfl) (fun _ _ _=>.bl)) (d7 (c8 (qv .B 8) (qv .B 2))) (qv .B 3) (by first | exact h9 _ | rfl)))) k7) (b9 (i2 (@sI _ _ _ _ _ _ _ _ _ _ _ _ _ (il (du hr)) (bY (neg:=false)) (d7 (c8 (qv .B 8) (qv .B 2))) (qv .B 6) (by first | exact h9 _ | rfl))))))))))))),
  j3 (n:=5) (Nl:=["_law_land", "_law_tree", "_law_place_here", "_law_height", "_law_seen", "_law_found", "_law_held", "_law_numbers_here", "_law_stand"]) (.inl rfl) h⟩
theorem BZ {f:Addr} {fd:FuncData} (D:Def K mg "law" bN ["_law_script"] f fd) (B:Blt mg) {f_law_moor:Addr} {fd_law_moor:FuncData} (D_law_moor:Def K mg "_law_moor" V1 ["_law_script"] f_law_moor fd_law_moor) (G_law_moor:FnOk P w K mg base CX0 4 f_law_moor fd_law_moor ["_law_script"] (spM K 1 .F (M3))) {fgrowth:Addr} {fdgrowth:FuncData} (Dgrowth:Def K mg "growth" az ["moor", "most"] fgrowth fdgrowth) (Ggrowth:FnOk P w K mg base CX0 5 fgrowth fdgrowth ["moor", "most"] (spM K 2 .F (B2))) {f_law_draw:Addr} {fd_law_draw:FuncData} (D_law_draw:Def K mg "_law_draw" C8 ["_law_script", "_law_k", "_law_many"] f_law_draw fd_law_draw) (G_law_draw:FnOk P w K mg base CX0 2 f_law_draw fd_law_draw ["_law_script", "_law_k", "_law_many"] (spM K 3 .F (l6))) {f_law_greatest:Addr} {fd_law_greatest:FuncData} (D_law_greatest:Def K mg "_law_greatest" v4 ["_law_begin", "_law_moves", "_law_cells"] f_law_greatest fd_law_greatest) (G_law_greatest:FnOk P w K mg base CX0 2 f_law_greatest fd_law_greatest ["_law_begin", "_law_moves", "_law_cells"] (spM K 3 .F (A9))) {f_law_place:Addr} {fd_law_place:FuncData} (D_law_place:Def K mg "_law_place" M0 ["_law_land", "_law_tree", "_law_place_here", "_law_height", "_law_seen"] f_law_place fd_law_place) (G_law_place:FnOk P w K mg base CX0 8 f_law_place fd_law_place ["_law_land", "_law_tree", "_law_place_here", "_law_height", "_law_seen"] (spM K 5 .F (x9))) {f_law_cell_at:Addr} {fd_law_cell_at:FuncData} (D_law_cell_at:Def K mg "_law_cell_at" u8 ["_law_script", "_law_k"] f_law_cell_at fd_law_cell_at) (G_law_cell_at:FnOk P w K mg base CX0 1 f_law_cell_at fd_law_cell_at ["_law_script", "_law_k"] (spM K 2 .F (j8))):FnOk P w K mg base CX0 9 f fd ["_law_script"] (spM K 1 .F (dZ)):=by
 refine D.F.ok aX (fun vs H Q E h=>h.1) (fun cdv A outer s H vs Q E hr h=>?_)
 exact ⟨tSt K (fun _ _=>False) .F gs,(b8 (@i0 _ _ _ _ _ _ _ 1 _ _ aX.nd rfl (by trivial) (@c9 _ _ _ _ _ _ _ _ _ _ _ _ _ _ _ _ G_law_moor (.inl rfl) (by exact hr.mono (by decide)) (by rfl) D_law_moor.m D_law_moor.F.kp D_law_moor.b (b4 (qv .B 0) b6) (by decide) (by rfl) (by rfl)) (by rfl) (by trivial)) (b8 (@i0 _ _ _ _ _ _ _ 2 _ _ aX.nd rfl (by trivial) (@c9 _ _ _ _ _ _ _ _ _ _ _ _ _ _ _ _ Ggrowth (.inl rfl) (by exact hr.mono (by decide)) (by rfl) Dgrowth.m Dgrowth.F.kp Dgrowth.b (b4 (qv .B 1) (b4 b7 b6)) (by decide) (by rfl) (by rfl)) (by rfl) (by trivial)) (b8 (k9 (@i3 _ _ _ _ _ _ _ _ _ _ _ _ M1 M2 (qv .B 2) q5 (by first | exact h9 _ | rfl)) (b9 (i2 P3)) k7) (b8 (@i0 _ _ _ _ _ _ _ 3 _ _ aX.nd rfl (by trivial) (@c9 _ _ _ _ _ _ _ _ _ _ _ _ _ _ _ _ G_law_draw (.inl rfl) (by exact hr.mono (by decide)) (by rfl) D_law_draw.m D_law_draw.F.kp D_law_draw.b (b4 (qv .B 0) (b4 b7 (b4 b7 b6))) (by decide) (by rfl) (by rfl)) (by rfl) (by trivial)) (b8 (k9 (@i3 _ _ _ _ _ _ _ _ _ _ _ _ Z3 T7 (m7 (j5 (@c9 _ _ _ _ _ _ _ _ _ _ _ _ _ _ _ _ G_law_draw (.inl rfl) (by exact hr.mono (by decide)) (by rfl) D_law_draw.m D_law_draw.F.kp D_law_draw.b (b4 (qv .B 0) (b4 b7 (b4 b7 b6))) (by decide) (by rfl) (by rfl)))) b7 (by first | exact h9 _ | rfl)) (b9 (@J3 _ _ _ _ _ _ _ 3 _ _ aX.nd rfl (by trivial) (i7 P5 (t8 (C:=C1) (g:=E2) (fun _ _=>rfl) (fun _ _ _=>.int)) (i7 A5 (t8 (C:=CMul) (g:=t9) (fun _ _=>rfl) (fun _ _ _=>.int)) (m7 (j5 (@c9 _ _ _ _ _ _ _ _ _ _ _ _ _ _ _ _ G_law_cell_at (.inl rfl) (by exact hr.mono (by decide)) (by rfl) D_law_cell_at.m D_law_cell_at.F.kp D_law_cell_at.b (b4 (qv .B 0) (b4 b7 b6)) (by decide) (by rfl) (by rfl)))) b7) (i7 dN (t8 (C:=S2) (g:=bv) (fun _ _=>rfl) (fun _ _ _=>.int)) b7 b7)) (by rfl) (by trivial))) k7) (b8 (@i0 _ _ _ _ _ _ _ 4 _ _ aX.nd rfl (by trivial) (@c9 _ _ _ _ _ _ _ _ _ _ _ _ _ _ _ _ G_law_greatest (.inl rfl) (by exact hr.mono (by decide)) (by rfl) D_law_greatest.m D_law_greatest.F.kp D_law_greatest.b (b4 (d7 (c8 (qv .B 1) b7)) (b4 (d7 (c8 (qv .B 1) b7)) (b4 (m7 (j5 (@kM _ _ _ _ _ _ false _ _ _ _ _ (qv .B 0) kQ (kP b7) (by rfl)))) b6))) (by decide) (by rfl) (by rfl)) (by rfl) (by trivial)) (b8 (@w8 _ _ _ _ _ _ _ _ _ _ _ _ _ PassesOwn.never rfl (@J4 _ _ _ _ _ _ _ _ _ (by rfl) B.range_ (b4 (@m8 _ _ _ _ _ _ _ _ _ _ _ _ _ _ t7 t6 (by rfl) B.len_ PySem.boot_len (b4 (d7 (c8 (qv .B 1) b7)) b6) (by decide) (by decide) (by rfl) (by rfl)) b6) (by rfl)) (@d5 _ _ 5 _ aX.nd rfl (by trivial) (by trivial)) j6 (b9 (k9 (A3 (@C9 _ _ _ _ _ (m7 (j5 (@c9 _ _ _ _ _ _ _ _ _ _ _ _ _ _ _ _ G_law_place (.inl rfl) (by exact hr.mono (by decide)) (by rfl) D_law_place.m D_law_place.F.kp D_law_place.b (b4 (qv .B 1) (b4 (qv .B 2) (b4 (qv .B 5) (b4 (qv .B 3) (b4 (d7 (c8 (qv .B 4) (qv .B 5))) b6))))) (by decide) (by rfl) (by rfl)))) (by intro _; rfl))) (b9 (i2 P3)) k7)) (by intro _; rfl)) (b9 (i2 P3))))))))),
  j3 (n:=1) (Nl:=["_law_script", "_law_land", "_law_tree", "_law_height", "_law_seen", "_law_place_here"]) (.inl rfl) h⟩
end
theorem us0 {P:List Value→Prop} (h:P []):∀ us:List Value,us.length=0→P us:=fun us e=>by
 rw [List.length_eq_zero_iff.mp e]; exact h
theorem us1 {P:List Value→Prop} (h:∀ a0,P [a0]):∀ us:List Value,us.length=1→P us:=fun us e=>by
 cases us with
 | nil=>cases e
 | cons a us=>exact us0 (P:=fun us=>P (a::us)) (h a) us (Nat.succ.inj e)
theorem us2 {P:List Value→Prop} (h:∀ a0 a1,P [a0,a1]):∀ us:List Value,us.length=2→P us:=fun us e=>by
 cases us with
 | nil=>cases e
 | cons a us=>exact us1 (P:=fun us=>P (a::us)) (fun a1=>h a a1) us (Nat.succ.inj e)
theorem us3 {P:List Value→Prop} (h:∀ a0 a1 a2,P [a0,a1,a2]):∀ us:List Value,us.length=3→P us:=fun us e=>by
 cases us with
 | nil=>cases e
 | cons a us=>exact us2 (P:=fun us=>P (a::us)) (fun a1 a2=>h a a1 a2) us (Nat.succ.inj e)
theorem us4 {P:List Value→Prop} (h:∀ a0 a1 a2 a3,P [a0,a1,a2,a3]):∀ us:List Value,us.length=4→P us:=fun us e=>by
 cases us with
 | nil=>cases e
 | cons a us=>exact us3 (P:=fun us=>P (a::us)) (fun a1 a2 a3=>h a a1 a2 a3) us (Nat.succ.inj e)
theorem us5 {P:List Value→Prop} (h:∀ a0 a1 a2 a3 a4,P [a0,a1,a2,a3,a4]):∀ us:List Value,us.length=5→P us:=fun us e=>by
 cases us with
 | nil=>cases e
 | cons a us=>exact us4 (P:=fun us=>P (a::us)) (fun a1 a2 a3 a4=>h a a1 a2 a3 a4) us (Nat.succ.inj e)
noncomputable def Pk (K:Frag) (nm:Str) (st:Stmt) (f:Addr):Prop:=∃ (oc:Value) (od an:Option Addr) (sl:Array (Option Value)) (kV dc pm cd ct:Value),PySem.W.nsIn K mainGlobals nm=some (some (.ref f))∧K.lookup f=some ⟨oc,od,.func (PySem.W.fnOf nm nm (O6 st) (L6 st) (c0 st) .none kV dc pm an cd ct),sl⟩∧PySem.W.codeIn K cd nm=true∧PySem.W.keepIn K (.ref f)=true
theorem pk_mk {K:Frag} {nm:Str} {st:Stmt} {f:Addr} {oc:Value} {od an:Option Addr} {sl:Array (Option Value)} {kV dc pm cd ct:Value} (a:PySem.W.nsIn K mainGlobals nm=some (some (.ref f))) (l:K.lookup f=some ⟨oc,od,.func (PySem.W.fnOf nm nm (O6 st) (L6 st) (c0 st) .none kV dc pm an cd ct),sl⟩) (c:PySem.W.codeIn K cd nm=true) (k:PySem.W.keepIn K (.ref f)=true):Pk K nm st f:=⟨_,_,_,_,_,_,_,_,_,a,l,c,k⟩
theorem j2 {K:Frag} {h:Heap} {mg:Str→Option Value} {nm:Str} {st:Stmt} {f:Addr} (ps:List Str) (X:K.In h) (G:h.Ns mainGlobals mg) (p:Pk K nm st f) (hb:∀ (kV doc pm:Value) (an:Option Addr) (cdv ct:Value) (us:List Value),us.length=ps.length→bindArgs (PySem.W.fnOf nm nm (O6 st) (L6 st) (c0 st) .none kV doc pm an cdv ct) ⟨us,[]⟩=pure (ps.zip us)):∃ fd,Def K mg nm st ps f fd:=by
 obtain ⟨oc,od,an,sl,kV,dc,pm,cd,ct,a,l,c,k⟩:=p
 have F:=oh (st:=st) l c k
 exact ⟨_,F,PySem.W.mg_of X G a,F.binds hb⟩
noncomputable def spLaw (K:Frag):Sp:=fun vs H Q _=>∃ (a:Addr) (ns:List Int),vs = [.ref a]∧SqL K H a (ns.map V.int)∧ns.length≤63∧∀ H',Q (.bl true) H'
theorem all_mk (hp:∀ ns:List Int,ns.length≤63→dZ [.scr (ns.map W.int)]=.ok (.bl true)) {l:PySem.W.OpenLaw} {w:World} {K:Frag} {h:Heap} {mg:Str→Option Value} {fa:Addr} (X:K.In h) (G:h.Ns mainGlobals mg) (hfa:mg "law" = some (.ref fa))
  {f0:Addr}
  {f1:Addr}
  {f2:Addr}
  {f3:Addr}
  {f4:Addr}
  {f5:Addr}
  {f6:Addr}
  {f7:Addr}
  {f8:Addr}
  {f9:Addr}
  {f10:Addr}
  {f11:Addr}
  {f12:Addr}
  {f13:Addr}
  {f14:Addr}
  {f15:Addr}
  {f16:Addr}
  {f17:Addr}
  {f18:Addr}
  {f19:Addr}
  {f20:Addr}
  {f21:Addr}
  {f22:Addr}
  {f23:Addr}
  {f24:Addr}
  {f25:Addr}
  {f26:Addr}
  {f27:Addr}
  {f28:Addr}
  {f29:Addr}
  {f30:Addr}
  {f31:Addr}
  {f32:Addr}
  {f33:Addr}
  {f34:Addr}
  {f35:Addr}
  {f36:Addr}
  {f37:Addr}
  {f38:Addr}
  (p0:Pk K "change" V9 f0)
  (p1:Pk K "source" ax f1)
  (p2:Pk K "least_over" L8 f2)
  (p3:Pk K "under" av f3)
  (p4:Pk K "under_any" O8 f4)
  (p5:Pk K "cap_able" T0 f5)
  (p6:Pk K "cap_after" K7 f6)
  (p7:Pk K "raised" V8 f7)
  (p8:Pk K "tops" gj f8)
  (p9:Pk K "sort_key" S8 f9)
  (p10:Pk K "growth" az f10)
  (p11:Pk K "grow" dE f11)
  (p12:Pk K "way_back" F9 f12)
  (p13:Pk K "crown" bO f13)
  (p14:Pk K "hurdle" cw f14)
  (p15:Pk K "sum_of" aw f15)
  (p16:Pk K "shifted" Q7 f16)
  (p17:Pk K "noughts" W6 f17)
  (p18:Pk K "way" kC f18)
  (p19:Pk K "row_between" J0 f19)
  (p20:Pk K "lifts_of" S9 f20)
  (p21:Pk K "unraised" S7 f21)
  (p22:Pk K "climb" bP f22)
  (p23:Pk K "times_for" O9 f23)
  (p24:Pk K "wanted_ahead" M5 f24)
  (p25:Pk K "peak" dC f25)
  (p26:Pk K "_law_cell_at" u8 f26)
  (p27:Pk K "_law_draw" C8 f27)
  (p28:Pk K "_law_numbers" M6 f28)
  (p29:Pk K "_law_scale" S5 f29)
  (p30:Pk K "_law_moor" V1 f30)
  (p31:Pk K "_law_whole" L9 f31)
  (p32:Pk K "_law_is_block" B9 f32)
  (p33:Pk K "_law_gone" C7 f33)
  (p34:Pk K "_law_climbed" M7 f34)
  (p35:Pk K "_law_behind" P0 f35)
  (p36:Pk K "_law_greatest" v4 f36)
  (p37:Pk K "_law_place" M0 f37)
  (p38:Pk K "law" bN f38)
  (z0:PySem.W.nsIn K mainGlobals "all" = some none)
  (z1:PySem.W.nsIn K mainGlobals "bool" = some none)
  (z2:PySem.W.nsIn K mainGlobals "int" = some none)
  (z3:PySem.W.nsIn K mainGlobals "isinstance" = some none)
  (z4:PySem.W.nsIn K mainGlobals "len" = some none)
  (z5:PySem.W.nsIn K mainGlobals "list" = some none)
  (z6:PySem.W.nsIn K mainGlobals "max" = some none)
  (z7:PySem.W.nsIn K mainGlobals "range" = some none)
  (z8:PySem.W.nsIn K mainGlobals "reversed" = some none)
  (z9:PySem.W.nsIn K mainGlobals "sorted" = some none)
  (z10:PySem.W.nsIn K mainGlobals "str" = some none)
  (z11:PySem.W.nsIn K mainGlobals "tuple" = some none)
  (z12:PySem.W.nsIn K mainGlobals "zip" = some none) :
  ∃ fd:FuncData,(∀ (s:Shared) (v:Value),BindsTo s fd ⟨[v],[]⟩ [("_law_script",v)])∧∀ base:Heap,K.In base→base.Ns mainGlobals mg→FnOk l.prog w K mg base CX0 9 fa fd ["_law_script"] (spLaw K):=by
 obtain ⟨oc,od,an,sl,kV,dc,pm,cd,ct,a,l0,c,k⟩:=p38
 have e:=hfa.symm.trans (PySem.W.mg_of X G a)
 have e2:f38=fa:=by cases e; rfl
 subst e2
 have B:Blt mg:=⟨PySem.W.mg_none_of X G z0,PySem.W.mg_none_of X G z1,PySem.W.mg_none_of X G z2,PySem.W.mg_none_of X G z3,PySem.W.mg_none_of X G z4,PySem.W.mg_none_of X G z5,PySem.W.mg_none_of X G z6,PySem.W.mg_none_of X G z7,PySem.W.mg_none_of X G z8,PySem.W.mg_none_of X G z9,PySem.W.mg_none_of X G z10,PySem.W.mg_none_of X G z11,PySem.W.mg_none_of X G z12⟩
 obtain ⟨fd0,D0⟩:=j2 ["move"] X G p0 fun _ _ _ _ _ _=>us1 (fun _=>rfl)
 obtain ⟨fd1,D1⟩:=j2 ["stand", "move"] X G p1 fun _ _ _ _ _ _=>us2 (fun _ _=>rfl)
 obtain ⟨fd2,D2⟩:=j2 ["stand", "other"] X G p2 fun _ _ _ _ _ _=>us2 (fun _ _=>rfl)
 obtain ⟨fd3,D3⟩:=j2 ["cap", "other"] X G p3 fun _ _ _ _ _ _=>us2 (fun _ _=>rfl)
 obtain ⟨fd4,D4⟩:=j2 ["cap", "caps"] X G p4 fun _ _ _ _ _ _=>us2 (fun _ _=>rfl)
 obtain ⟨fd5,D5⟩:=j2 ["cap", "move"] X G p5 fun _ _ _ _ _ _=>us2 (fun _ _=>rfl)
 obtain ⟨fd6,D6⟩:=j2 ["cap", "move"] X G p6 fun _ _ _ _ _ _=>us2 (fun _ _=>rfl)
 obtain ⟨fd7,D7⟩:=j2 ["cap", "elder"] X G p7 fun _ _ _ _ _ _=>us2 (fun _ _=>rfl)
 obtain ⟨fd8,D8⟩:=j2 ["caps"] X G p8 fun _ _ _ _ _ _=>us1 (fun _=>rfl)
 obtain ⟨fd9,D9⟩:=j2 ["cap"] X G p9 fun _ _ _ _ _ _=>us1 (fun _=>rfl)
 obtain ⟨fd10,D10⟩:=j2 ["moor", "most"] X G p10 fun _ _ _ _ _ _=>us2 (fun _ _=>rfl)
 obtain ⟨fd11,D11⟩:=j2 ["moor", "tree", "at", "number"] X G p11 fun _ _ _ _ _ _=>us4 (fun _ _ _ _=>rfl)
 obtain ⟨fd12,D12⟩:=j2 ["tree", "number"] X G p12 fun _ _ _ _ _ _=>us2 (fun _ _=>rfl)
 obtain ⟨fd13,D13⟩:=j2 ["moor", "most"] X G p13 fun _ _ _ _ _ _=>us2 (fun _ _=>rfl)
 obtain ⟨fd14,D14⟩:=j2 ["moor", "row"] X G p14 fun _ _ _ _ _ _=>us2 (fun _ _=>rfl)
 obtain ⟨fd15,D15⟩:=j2 ["moor", "row"] X G p15 fun _ _ _ _ _ _=>us2 (fun _ _=>rfl)
 obtain ⟨fd16,D16⟩:=j2 ["stand", "step", "times"] X G p16 fun _ _ _ _ _ _=>us3 (fun _ _ _=>rfl)
 obtain ⟨fd17,D17⟩:=j2 ["moor"] X G p17 fun _ _ _ _ _ _=>us1 (fun _=>rfl)
 obtain ⟨fd18,D18⟩:=j2 ["tree", "number"] X G p18 fun _ _ _ _ _ _=>us2 (fun _ _=>rfl)
 obtain ⟨fd19,D19⟩:=j2 ["tree", "elder", "number"] X G p19 fun _ _ _ _ _ _=>us3 (fun _ _ _=>rfl)
 obtain ⟨fd20,D20⟩:=j2 ["moor", "tree", "number"] X G p20 fun _ _ _ _ _ _=>us3 (fun _ _ _=>rfl)
 obtain ⟨fd21,D21⟩:=j2 ["moor", "tree", "number"] X G p21 fun _ _ _ _ _ _=>us3 (fun _ _ _=>rfl)
 obtain ⟨fd22,D22⟩:=j2 ["moor", "tree", "number", "height"] X G p22 fun _ _ _ _ _ _=>us4 (fun _ _ _ _=>rfl)
 obtain ⟨fd23,D23⟩:=j2 ["cap", "step", "places", "wanted"] X G p23 fun _ _ _ _ _ _=>us4 (fun _ _ _ _=>rfl)
 obtain ⟨fd24,D24⟩:=j2 ["moor", "row", "times", "wanted"] X G p24 fun _ _ _ _ _ _=>us4 (fun _ _ _ _=>rfl)
 obtain ⟨fd25,D25⟩:=j2 ["moor", "place", "most"] X G p25 fun _ _ _ _ _ _=>us3 (fun _ _ _=>rfl)
 obtain ⟨fd26,D26⟩:=j2 ["_law_script", "_law_k"] X G p26 fun _ _ _ _ _ _=>us2 (fun _ _=>rfl)
 obtain ⟨fd27,D27⟩:=j2 ["_law_script", "_law_k", "_law_many"] X G p27 fun _ _ _ _ _ _=>us3 (fun _ _ _=>rfl)
 obtain ⟨fd28,D28⟩:=j2 ["_law_script", "_law_at", "_law_places", "_law_menu", "_law_scale_here"] X G p28 fun _ _ _ _ _ _=>us5 (fun _ _ _ _ _=>rfl)
 obtain ⟨fd29,D29⟩:=j2 ["_law_script"] X G p29 fun _ _ _ _ _ _=>us1 (fun _=>rfl)
 obtain ⟨fd30,D30⟩:=j2 ["_law_script"] X G p30 fun _ _ _ _ _ _=>us1 (fun _=>rfl)
 obtain ⟨fd31,D31⟩:=j2 ["_law_found"] X G p31 fun _ _ _ _ _ _=>us1 (fun _=>rfl)
 obtain ⟨fd32,D32⟩:=j2 ["_law_block", "_law_count"] X G p32 fun _ _ _ _ _ _=>us2 (fun _ _=>rfl)
 obtain ⟨fd33,D33⟩:=j2 ["_law_stand", "_law_moves", "_law_row", "_law_times"] X G p33 fun _ _ _ _ _ _=>us4 (fun _ _ _ _=>rfl)
 obtain ⟨fd34,D34⟩:=j2 ["_law_begin", "_law_moves", "_law_blocks"] X G p34 fun _ _ _ _ _ _=>us3 (fun _ _ _=>rfl)
 obtain ⟨fd35,D35⟩:=j2 ["_law_stand", "_law_move"] X G p35 fun _ _ _ _ _ _=>us2 (fun _ _=>rfl)
 obtain ⟨fd36,D36⟩:=j2 ["_law_begin", "_law_moves", "_law_cells"] X G p36 fun _ _ _ _ _ _=>us3 (fun _ _ _=>rfl)
 obtain ⟨fd37,D37⟩:=j2 ["_law_land", "_law_tree", "_law_place_here", "_law_height", "_law_seen"] X G p37 fun _ _ _ _ _ _=>us5 (fun _ _ _ _ _=>rfl)
 have F38:=oh (st:=bN) l0 c k
 have D38:Def K mg "law" bN ["_law_script"] f38 _:=⟨F38,PySem.W.mg_of X G a,F38.binds (ps:=["_law_script"]) fun _ _ _ _ _ _=>us1 (fun _=>rfl)⟩
 refine ⟨PySem.W.fnOf "law" "law" (O6 bN) (L6 bN) (c0 bN) .none kV dc pm an cd ct,fun s v=>.of_eq rfl,fun base _ _=>?_⟩
 have G0:FnOk l.prog w K mg base CX0 1 f0 _ ["move"] (spM K 1 .F (N6)):=qu D0 B 
 have G1:FnOk l.prog w K mg base CX0 1 f1 _ ["stand", "move"] (spM K 2 .F (Y0)):=qp D1 B 
 have G2:FnOk l.prog w K mg base CX0 1 f2 _ ["stand", "other"] (spM K 2 .F (C0)):=im D2 B 
 have G3:FnOk l.prog w K mg base CX0 1 f3 _ ["cap", "other"] (spM K 2 .F (E8)):=uM D3 B 
 have G4:FnOk l.prog w K mg base CX0 2 f4 _ ["cap", "caps"] (spM K 2 .F (x3)):=jc D4 B D3 G3
 have G5:FnOk l.prog w K mg base CX0 2 f5 _ ["cap", "move"] (spM K 2 .F (E4)):=lj D5 B D3 G3
 have G6:FnOk l.prog w K mg base CX0 3 f6 _ ["cap", "move"] (spM K 2 .F (B3)):=je D6 B D5 G5 D0 G0
 have G7:FnOk l.prog w K mg base CX0 2 f7 _ ["cap", "elder"] (spM K 2 .F (K0)):=qq D7 B D3 G3
 have G9:FnOk l.prog w K mg base CX0 1 f9 _ ["cap"] (spM K 1 .F (A7)):=lg D9 B 
 have G8:FnOk l.prog w K mg base CX0 4 f8 _ ["caps"] (spM K 1 .F (cj)):=yP D8 B D9 G9 D4 G4
 have G12:FnOk l.prog w K mg base CX0 1 f12 _ ["tree", "number"] (spM K 2 .F (n9)):=lb D12 B 
 have G11:FnOk l.prog w K mg base CX0 4 f11 _ ["moor", "tree", "at", "number"] (cT K 4 (aK)):=yR D11 B D6 G6 D12 G12 D5 G5 D7 G7 D4 G4
 have G10:FnOk l.prog w K mg base CX0 5 f10 _ ["moor", "most"] (spM K 2 .F (B2)):=qt D10 B D11 G11
 have G13:FnOk l.prog w K mg base CX0 6 f13 _ ["moor", "most"] (spM K 2 .F (O4)):=uN D13 B D10 G10 D8 G8
 have G17:FnOk l.prog w K mg base CX0 1 f17 _ ["moor"] (spM K 1 .F (K1)):=nF D17 B 
 have G14:FnOk l.prog w K mg base CX0 2 f14 _ ["moor", "row"] (spM K 2 .F (N5)):=qr D14 B D17 G17 D1 G1
 have G16:FnOk l.prog w K mg base CX0 1 f16 _ ["stand", "step", "times"] (spM K 3 .F (A8)):=nE D16 B 
 have G15:FnOk l.prog w K mg base CX0 2 f15 _ ["moor", "row"] (spM K 2 .F (B1)):=qo D15 B D17 G17 D16 G16 D0 G0
 have G18:FnOk l.prog w K mg base CX0 2 f18 _ ["tree", "number"] (spM K 2 .F (dY)):=BY D18 B D12 G12
 have G19:FnOk l.prog w K mg base CX0 3 f19 _ ["tree", "elder", "number"] (spM K 3 .F (A0)):=gc D19 B D18 G18
 have G21:FnOk l.prog w K mg base CX0 4 f21 _ ["moor", "tree", "number"] (spM K 3 .F (A6)):=lf D21 B D6 G6
 have G20:FnOk l.prog w K mg base CX0 5 f20 _ ["moor", "tree", "number"] (spM K 3 .F (E3)):=lh D20 B D21 G21 D12 G12 D7 G7
 have G24:FnOk l.prog w K mg base CX0 3 f24 _ ["moor", "row", "times", "wanted"] (spM K 4 .F (t5)):=eT D24 B D14 G14 D15 G15 D2 G2 D16 G16
 have G23:FnOk l.prog w K mg base CX0 1 f23 _ ["cap", "step", "places", "wanted"] (spM K 4 .F (E9)):=jd D23 B 
 have G22:FnOk l.prog w K mg base CX0 6 f22 _ ["moor", "tree", "number", "height"] (spM K 4 .F (R5)):=uO D22 B D12 G12 D21 G21 D24 G24 D20 G20 D19 G19 D23 G23 D15 G15
 have G25:FnOk l.prog w K mg base CX0 7 f25 _ ["moor", "place", "most"] (spM K 3 .F (aJ)):=yQ D25 B D13 G13
 have G26:FnOk l.prog w K mg base CX0 1 f26 _ ["_law_script", "_law_k"] (spM K 2 .F (j8)):=eW D26 B 
 have G27:FnOk l.prog w K mg base CX0 2 f27 _ ["_law_script", "_law_k", "_law_many"] (spM K 3 .F (l6)):=jh D27 B D26 G26
 have G28:FnOk l.prog w K mg base CX0 3 f28 _ ["_law_script", "_law_at", "_law_places", "_law_menu", "_law_scale_here"] (spM K 5 .F (n8)):=eU D28 B D27 G27 D26 G26
 have G29:FnOk l.prog w K mg base CX0 3 f29 _ ["_law_script"] (spM K 1 .F (K2)):=ip D29 B D27 G27 D26 G26
 have G30:FnOk l.prog w K mg base CX0 4 f30 _ ["_law_script"] (spM K 1 .F (M3)):=jf D30 B D29 G29 D27 G27 D28 G28 D26 G26
 have G31:FnOk l.prog w K mg base CX0 1 f31 _ ["_law_found"] (spM K 1 .F (v9)):=io D31 B 
 have G32:FnOk l.prog w K mg base CX0 2 f32 _ ["_law_block", "_law_count"] (spM K 2 .F (r6)):=dP D32 B D31 G31
 have G33:FnOk l.prog w K mg base CX0 1 f33 _ ["_law_stand", "_law_moves", "_law_row", "_law_times"] (spM K 4 .F (x4)):=jg D33 B 
 have G34:FnOk l.prog w K mg base CX0 3 f34 _ ["_law_begin", "_law_moves", "_law_blocks"] (spM K 3 .F (o5)):=eV D34 B D33 G33 D32 G32
 have G35:FnOk l.prog w K mg base CX0 1 f35 _ ["_law_stand", "_law_move"] (spM K 2 .F (A1)):=gd D35 B 
 have G36:FnOk l.prog w K mg base CX0 2 f36 _ ["_law_begin", "_law_moves", "_law_cells"] (spM K 3 .F (A9)):=dQ D36 B D35 G35
 have G37:FnOk l.prog w K mg base CX0 8 f37 _ ["_law_land", "_law_tree", "_law_place_here", "_law_height", "_law_seen"] (spM K 5 .F (x9)):=iq D37 B D25 G25 D34 G34 D22 G22 D31 G31
 have G38:FnOk l.prog w K mg base CX0 9 f38 _ ["_law_script"] (spM K 1 .F (dZ)):=BZ D38 B D30 G30 D10 G10 D27 G27 D36 G36 D37 G37 D26 G26
 exact zd G38 hp
end K46
open PySem PySem.W PyProof.Rows
set_option maxRecDepth 100000 in
set_option maxHeartbeats 0 in
theorem PySem.Challenge.cw_tokenmoor_k46_whole_peaks_are_come_to_holds : PySem.Challenge.rw_tokenmoor_k46_whole_peaks_are_come_to.Holds := by
 w_on; o_law; k_head; (case hw=>w_witness2)
 k_fill
 refine L2.walk_ofK (l:=PySem.Challenge.rw_tokenmoor_k46_whole_peaks_are_come_to) (n:=63) (k:=9) (x := "_law_script") (CX:=L2.CX0) (sp:=K46.spLaw) rfl (by decide) rfl ⟨rfl,by decide,by decide⟩ (fun w h Y=>PySem.W.kIn_of Y) ?F ?S ?C
 case F=>
  intro w mg fa h KX G hmg
  refine' K46.all_mk K46.law_pure KX G hmg ?p0 ?p1 ?p2 ?p3 ?p4 ?p5 ?p6 ?p7 ?p8 ?p9 ?p10 ?p11 ?p12 ?p13 ?p14 ?p15 ?p16 ?p17 ?p18 ?p19 ?p20 ?p21 ?p22 ?p23 ?p24 ?p25 ?p26 ?p27 ?p28 ?p29 ?p30 ?p31 ?p32 ?p33 ?p34 ?p35 ?p36 ?p37 ?p38 ?z0 ?z1 ?z2 ?z3 ?z4 ?z5 ?z6 ?z7 ?z8 ?z9 ?z10 ?z11 ?z12
  (case p0=>refine' K46.pk_mk ?a ?l ?c ?k; (case a=>k_is); (case l=>k_is); (case c=>k_is); (case k=>k_is))
  (case p1=>refine' K46.pk_mk ?a ?l ?c ?k; (case a=>k_is); (case l=>k_is); (case c=>k_is); (case k=>k_is))
  (case p2=>refine' K46.pk_mk ?a ?l ?c ?k; (case a=>k_is); (case l=>k_is); (case c=>k_is); (case k=>k_is))
  (case p3=>refine' K46.pk_mk ?a ?l ?c ?k; (case a=>k_is); (case l=>k_is); (case c=>k_is); (case k=>k_is))
  (case p4=>refine' K46.pk_mk ?a ?l ?c ?k; (case a=>k_is); (case l=>k_is); (case c=>k_is); (case k=>k_is))
  (case p5=>refine' K46.pk_mk ?a ?l ?c ?k; (case a=>k_is); (case l=>k_is); (case c=>k_is); (case k=>k_is))
  (case p6=>refine' K46.pk_mk ?a ?l ?c ?k; (case a=>k_is); (case l=>k_is); (case c=>k_is); (case k=>k_is))
  (case p7=>refine' K46.pk_mk ?a ?l ?c ?k; (case a=>k_is); (case l=>k_is); (case c=>k_is); (case k=>k_is))
  (case p8=>refine' K46.pk_mk ?a ?l ?c ?k; (case a=>k_is); (case l=>k_is); (case c=>k_is); (case k=>k_is))
  (case p9=>refine' K46.pk_mk ?a ?l ?c ?k; (case a=>k_is); (case l=>k_is); (case c=>k_is); (case k=>k_is))
  (case p10=>refine' K46.pk_mk ?a ?l ?c ?k; (case a=>k_is); (case l=>k_is); (case c=>k_is); (case k=>k_is))
  (case p11=>refine' K46.pk_mk ?a ?l ?c ?k; (case a=>k_is); (case l=>k_is); (case c=>k_is); (case k=>k_is))
  (case p12=>refine' K46.pk_mk ?a ?l ?c ?k; (case a=>k_is); (case l=>k_is); (case c=>k_is); (case k=>k_is))
  (case p13=>refine' K46.pk_mk ?a ?l ?c ?k; (case a=>k_is); (case l=>k_is); (case c=>k_is); (case k=>k_is))
  (case p14=>refine' K46.pk_mk ?a ?l ?c ?k; (case a=>k_is); (case l=>k_is); (case c=>k_is); (case k=>k_is))
  (case p15=>refine' K46.pk_mk ?a ?l ?c ?k; (case a=>k_is); (case l=>k_is); (case c=>k_is); (case k=>k_is))
  (case p16=>refine' K46.pk_mk ?a ?l ?c ?k; (case a=>k_is); (case l=>k_is); (case c=>k_is); (case k=>k_is))
  (case p17=>refine' K46.pk_mk ?a ?l ?c ?k; (case a=>k_is); (case l=>k_is); (case c=>k_is); (case k=>k_is))
  (case p18=>refine' K46.pk_mk ?a ?l ?c ?k; (case a=>k_is); (case l=>k_is); (case c=>k_is); (case k=>k_is))
  (case p19=>refine' K46.pk_mk ?a ?l ?c ?k; (case a=>k_is); (case l=>k_is); (case c=>k_is); (case k=>k_is))
  (case p20=>refine' K46.pk_mk ?a ?l ?c ?k; (case a=>k_is); (case l=>k_is); (case c=>k_is); (case k=>k_is))
  (case p21=>refine' K46.pk_mk ?a ?l ?c ?k; (case a=>k_is); (case l=>k_is); (case c=>k_is); (case k=>k_is))
  (case p22=>refine' K46.pk_mk ?a ?l ?c ?k; (case a=>k_is); (case l=>k_is); (case c=>k_is); (case k=>k_is))
  (case p23=>refine' K46.pk_mk ?a ?l ?c ?k; (case a=>k_is); (case l=>k_is); (case c=>k_is); (case k=>k_is))
  (case p24=>refine' K46.pk_mk ?a ?l ?c ?k; (case a=>k_is); (case l=>k_is); (case c=>k_is); (case k=>k_is))
  (case p25=>refine' K46.pk_mk ?a ?l ?c ?k; (case a=>k_is); (case l=>k_is); (case c=>k_is); (case k=>k_is))
  (case p26=>refine' K46.pk_mk ?a ?l ?c ?k; (case a=>k_is); (case l=>k_is); (case c=>k_is); (case k=>k_is))
  (case p27=>refine' K46.pk_mk ?a ?l ?c ?k; (case a=>k_is); (case l=>k_is); (case c=>k_is); (case k=>k_is))
  (case p28=>refine' K46.pk_mk ?a ?l ?c ?k; (case a=>k_is); (case l=>k_is); (case c=>k_is); (case k=>k_is))
  (case p29=>refine' K46.pk_mk ?a ?l ?c ?k; (case a=>k_is); (case l=>k_is); (case c=>k_is); (case k=>k_is))
  (case p30=>refine' K46.pk_mk ?a ?l ?c ?k; (case a=>k_is); (case l=>k_is); (case c=>k_is); (case k=>k_is))
  (case p31=>refine' K46.pk_mk ?a ?l ?c ?k; (case a=>k_is); (case l=>k_is); (case c=>k_is); (case k=>k_is))
  (case p32=>refine' K46.pk_mk ?a ?l ?c ?k; (case a=>k_is); (case l=>k_is); (case c=>k_is); (case k=>k_is))
  (case p33=>refine' K46.pk_mk ?a ?l ?c ?k; (case a=>k_is); (case l=>k_is); (case c=>k_is); (case k=>k_is))
  (case p34=>refine' K46.pk_mk ?a ?l ?c ?k; (case a=>k_is); (case l=>k_is); (case c=>k_is); (case k=>k_is))
  (case p35=>refine' K46.pk_mk ?a ?l ?c ?k; (case a=>k_is); (case l=>k_is); (case c=>k_is); (case k=>k_is))
  (case p36=>refine' K46.pk_mk ?a ?l ?c ?k; (case a=>k_is); (case l=>k_is); (case c=>k_is); (case k=>k_is))
  (case p37=>refine' K46.pk_mk ?a ?l ?c ?k; (case a=>k_is); (case l=>k_is); (case c=>k_is); (case k=>k_is))
  (case p38=>refine' K46.pk_mk ?a ?l ?c ?k; (case a=>k_is); (case l=>k_is); (case c=>k_is); (case k=>k_is))
  (case z0=>k_is)
  (case z1=>k_is)
  (case z2=>k_is)
  (case z3=>k_is)
  (case z4=>k_is)
  (case z5=>k_is)
  (case z6=>k_is)
  (case z7=>k_is)
  (case z8=>k_is)
  (case z9=>k_is)
  (case z10=>k_is)
  (case z11=>k_is)
  (case z12=>k_is)
 case S=>exact fun K H a ns hl hO hS=>⟨a,ns,rfl,hS,hl,fun _=>rfl⟩
 case C=>exact fun _ _ _ _ z=>z
